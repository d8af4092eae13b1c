import PyProof.Rows.All
import Wide.All
import OpenK.AllK
import Wide.FinOn
import Lean
import PyProof.EqAt
import PyProof.EqKinds
import PyProof.TupleCall
import PySem.Challenge.RW_quoteweave_k04_bad_rows
set_option Elab.async false
set_option linter.all false
set_option genInjectivity false
set_option genSizeOf false
set_option maxRecDepth 100000
set_option maxHeartbeats 4000000
open PySem.Str renaming ofString->QA,length_append->Q1,empty->QCq
open PySem.W renaming Frag->QC,kia_one->Q6,fnOf->qI,keepIn->qU,nsIn->qZ,findIn->qh,codeIn->WA,kitOne->WC,mroIn->Wu,clsIn->Ww,WData->Wx,mg_of->Wy,hideAll_get->W5,callWith_K->QAG,mg_none_of->QAK,lookIn->QAL,methodObj->QAS,hasDictIn->QAT,kitx_list->QAU,cellsFrom_some->QAw,instObj->QA3,hideAll_none->QBG,typeIn->QBK,of_hideAll->QBe,kitx_tuple->QBg,kitx_dict->QBt,plainGet->QCI,hideAll->QCa,kitMeta->QCj
open Bool renaming false_ne_true->QD,and_eq_true->QN,false_eq_true->Qi,and_false->Qy,false_and->qg,or_eq_true->qq,or_eq_false_iff->wL,not_eq_true'->wQ,and_eq_true_iff->w4,not_false->w8,not_true->WL,eq_iff_iff->WO,false_or->QAj,true_and->QBa,or_false->QBb,or_true->QB8,true_or->QB9,not_eq_true->QCV
open PySem renaming wpAny_bind->QE,wpAny_pure->QT,sizeLine_eq->QX,wpAny_field->Q3,wpAny_loadPart_at->Q8,mem_of_lookup->qA,wpAny_mono->qQ,wpAny_truthy_bool->qR,wpAny_callSpecial?_slot->qY,wpAny_newObj_type->qe,Spec->qw,wpAny_Call_Name_kw->wD,wpAny_setField_rec->wE,wpAny_seqItems->wJ,wpAny_call_entry->wX,wpAny_execs_nil->we,call_meets->wr,codeAny_call_builtin->wz,wpAny_execs_cons->WF,wpAny_isSubtype_exc->WG,wpAny_holding->WM,wpAny_passesOwn->WN,strLen_append->WQ,wpAny_setField->Wc,codeAny_mono->Wg,wpAny_updateSeq_pair->Wq,wpAny_standAt->Wt,strKind->Wv,tupleKind_room_in1->QAH,wpAny_binaryOp_repeat_ref->QAO,typeIs_str->QAX,wpAny_pyIter_list->QAa,wpAny_onRaise->QAo,wpAny_pyNext_range_end->QAu,wpAny_pyIter_rangeiter->QAv,wpAny_Call_method_late->QAy,wpAny_isTrue_Compare1->QA4,wpAny_call->QBD,typeIs_int->QBF,refuseLoop_ref->QBL,wpAt_of_wpAny->QBP,wpAny_pyIter_range->QBf,wpAny_pyIter_tuple->QBm,wpAny_assign_Name->QBr,wpAny_Assign_Name->QBs,wpAny_sequenceKey->QBv,slot_list_getitem->QBw,wpAny_rule->QB2,concat_meets->QCE,wpAny_typeOf->QCF,seqIndex_neg->QCG,noFill_tuple_add->QCJ,wpAny_getItem_of->QCL,wpAny_madeBy_exc->QCM,wpAny_pyIter_zip->QCR,seqSlot_of->QCS,strKind_is->QCT,seqIndex_of->QCc,wpAt_bind->QCd,wpAny_letGo->QCi,wpAny_Name->QCn,wpAny_load->QCo
open PySem.Heap renaming get?_push_of_some->QF,lt_size->QO,get?_push_size->QY,get?_update_other->qD,size_push->qV,SameBut->qj,get?_update_self->qm,size_after_update->wY,get?_push_at->QAY,get?_push_cases->QBI,get?_update_ne->QBQ,ExtBut->QBU
open List renaming mem_cons_of_mem->QG,length_cons->QH,replicate->QI,length_map->QJ,mem_cons_self->QK,mem_cons->QL,size_toArray->QM,contains_iff_mem->QU,map_cons->QV,mem_append_right->Qb,length_append->Qc,lookup_cons->Qe,replicate_succ->Qf,all_eq_true->Qk,getElem?_set_ne->Qm,mem_of_getElem?->Qn,isEmpty_iff->Qp,getElem?_eq_some_iff->Qr,getElem?_map->Qv,all_cons->Qw,nil_append->Qz,mem_map->Q0,mem_append->Q2,getElem?_set_self->Q4,append_nil->Q7,getElem?_cons_succ->Q9,flatten_cons->qB,length_replicate->qF,any_cons->qG,getElem?_append_right->qH,mem_singleton->qJ,range->qK,getElem?_append_left->qL,length_set->qM,not_mem_nil->qN,lookup->qO,eq_of_mem_replicate->qT,nodup_cons->qk,of_mem_zip->ql,map_map->qp,contains_cons->qr,getElem?_eq_getElem->qt,cons_append->qu,append_assoc->qy,filterMap_cons->qz,map->wB,getD_eq_getElem?_getD->wC,getElem?_eq_none->wF,mem_range->wH,mem_append_left->wK,map_inj_left->wU,getElem?_replicate->wV,mem_filterMap->wZ,length_nil->wd,map_nil->wf,find?_cons->wg,map_append->wm,zip_cons_cons->WS,length_zip->WT,length_eq_zero_iff->WU,take_of_length_le->WY,getElem?_set->Wb,mem_iff_getElem?->Wj,length_singleton->Wk,length_take->Wl,set->Wz,foldl->W0,length->W6,forIn_cons->W7,set_cons_zero->QAE,set_cons_succ->QAF,forIn_nil->QAN,filterMap->QAQ,mem_or_eq_of_mem_set->QAR,ext_getElem?->QAd,length_filterMap_le->QAf,length_range->QAg,flatMap_cons->QAh,getElem?_cons_zero->QAi,length_drop->QAs,modify_succ_cons->QA0,modify_zero_cons->QA1,foldl_cons->QA5,all_map->QA9,map_set->QBC,getElem?_modify->QBJ,nodup_nil->QBM,getElem?_range->QBW,map_congr_left->QBY,takeWhile_cons->QBZ,map_inj_right->QBq,nodup_append->QB0,zip_nil_left->QB5,zipIdx_cons->QCQ,filter_cons->QCU,any_eq_true->QCW,mem_filter->QCb,zipIdx_nil->QCh,lookup_nil->QCl,getD->QCs
open False renaming elim->QR
open Option.some renaming inj->QW,injEq->Qj
open PySem.Challenge renaming pw_quoteweave_k04_bad_rows->QZ,rw_quoteweave_k04_bad_rows->qa
open Nat renaming le_refl->Qa,lt_of_lt_of_le->Qg,ne_of_lt->Qx,le_trans->qC,lt_irrefl->qi,le_succ->Wa,ne_of_gt->Wf,le_add_right->Wo,zero_le->QAm,zero_add->QA2,lt_or_ge->QA7,log2_lt->QBR,lt_of_le_of_lt->QBo,not_lt->QBz,blt->QB7,le_of_lt->QCA,mul_comm->QCH,le_add_left->QCm
open LawfulBEq renaming eq_of_beq->Qd
open Array renaming length_toList->Qh,toList_append->WI,toList_inj->Wm,mem_toList_iff->Wp,getElem?_eq_some_iff->QAD,getElem?_toList->QA6,mem_of_getElem?->QBB,getElem?_map->QBl,toList->QCB,all_toList->QCX
open PySem.Builtin.Int renaming intBits->Ql
open PySem.PyData renaming eqv->Qo,canLayAll0->wt,keyHash->WB,canLay0->Wd,depthAll->W9,depth->QAI
open PySem.Builtin.SmallTypes renaming nextOf->Qs,ownedTupleIsFree->qP,ownedTupleHandOut->WE
open PySem.Builtin.Str renaming strSliceIndices->Qt,occurrences->qX,strKind->QBT
open Ne renaming symm->Qu
open Option renaming map_some->Q5,map_none->wR,isSome_iff_exists->QAV,isSome_map->QBx,getD_none->QCK,getD_some->QCN
open PySem.Txt renaming slice->qS,split->wP,rstrip->wu,find->QCY
open PySem.Builtin.Range renaming rangeSize->qW,small->QBX
open PySem.F renaming slot_tuple_iterator_next->qd,slot_zip_next->wj,excBase_ValueError->wy,args_tuple_iterator_next_1->WK,entry_tuple_iterator_next->WR,plainAttrs_str->WZ,slot_tuple_mul->Wn,slot_int_rmul->W8,args_str_split_2->QAJ,slot_dict_getitem->QAM,args_tuple_add_2->QAW,attr_ValueError->QAZ,entry_str_split->QAb,entry_tuple_add->QAl,args_zip_next_1->QAp,plainAttrs_list->QAr,slot_str_split->QAt,slot_tuple_add->QAx,entry_zip_next->QAz,slot_dict_get->QA8,store_ValueError->QBk,args_tuple_mul_2->QBn,args_int_rmul_2->QB1,slot_tuple_rmul->QB3,entry_tuple_mul->QB4,slot_int_index->QCO,entry_int_rmul->QCP,entry_bexc_ga->QCe,fills_int_mul->QCf
open PySem.SeqAt renaming EqAt->qf
open PyProof.Rows renaming callWith_type1->wA,slot_tuple_getitem->wM,slot_tuple_getitem->WP,subscriptTail_builtinR->WW,callWith_builtin1->Wh,entry_tuple_getitem->QBN,args_tuple_getitem->QBi,Subscript_->QCp
open Int renaming emod_lt_of_pos->wG,emod_nonneg->wq,eq_ofNat_of_zero_le->WV,toNat->QAA,toNat_natCast->QAc,toNat_of_nonneg->QBS,natCast_mul->QCg,ediv_nonneg->QCk
open PySem.Builtin.Slice renaming slicePlaces->wI,sliceAdjust->WD,sliceApplied->QAB
open PySem.Builtin.Tuple renaming tupleExact->wN,tupleTooMany->wx,tupleItemsOf->QAC
open PySem.Builtin.List renaming listTooLong->wO
open PySem.Unicode renaming isSpace->wT
open PySem.W.WData renaming weightAll->wW,weight->Wr
open PySem.Obj renaming data_mapFields->wa,isFreed_of_fields->Wi,mapFields->QAn,mapSeq->QBE,cls_mapFields->QBy
open List.cons renaming injEq->wk,inj->QAq
open PySem.Calls renaming Name_function_global->wv,callWith_builtin->WX,loadGlobal_global->QAk,evalArgs_plain->QBH,spliced_cons->QBh,spliced_nil->QBu
open Prod.mk renaming inj->WH
open Nat.succ renaming inj->WJ
open Prod renaming fst->We,snd->QBp
open PySem.Paired renaming length->Ws
open Iff renaming rfl->QAP
open PySem.NumText renaming digitsVal->QAe,AllDigits->QB6
open PySem.W.KIN renaming signs_num->QBA
open PySem.EntryCells renaming newEntry->QBO
open PySem.Heap.SameBut renaming update->QBV
open PySem.SeqAt.EqAt renaming int_str->QBc,str_int->QBd
open PySem.Code renaming quiet_builtin->QBj,isFrame->QCD
open PySem.Around renaming under->QCC
open Sum.inr renaming inj->QCZ
open PyProof.Rows.IsTup renaming new->QCr
theorem dF{p:Prop}[Decidable p](h:¬p):decide p=false:=_root_.decide_eq_false h
theorem dT{p:Prop}[Decidable p](h:p):decide p=true:=_root_.decide_eq_true h
abbrev ZB:=List (PySem.Addr×PySem.Obj)
abbrev NB:=PySem.Value -> PySem.Shared -> Prop
abbrev ZA:=PySem.Addr -> Prop
abbrev Mo:=List (PySem.Str×PySem.Str)
set_option hygiene false in
local macro_rules | `(tactic| simp_arith [$ls,*])=>do
 let a<-("zc Gb Hc d5 Xc A4 nS sS oS Fh Vi Ui Ci Fi Di ij pj Uk Ub Fk Bk yb Ga V4 K4 Ba Aa Ha Oj Pb aS gj fj xk uk xa kA Rb Eb E4 Tb Sb Ib jc Yc Fc Kc Bc Nc Mb Lc Nb Mc Oc Ob Zl Gk Uc Hb P4 Lb Dc Kl Vc lW tS Gc pS rS Cc Zc l5 gb O4 lb Pc K5 JS YS yc uc kc Pk xc z5 fc cc gc Nk Rk bc vc j5 gp Zp Jp Yp Io bp xp ko yo zo So Po Ro Ho Oo No Yo Vp Kp aV Vj Xj Go Fo Do Co Bo Uo Xo Vo Ko Zo lc xo mo Sk Jc Lo Z5 Vl bg Fb Db Jb Vb Yb Cb Xb Kb Xk Vk Dk Bb Ck Ia Ea Da Ca Fa zk vk Na Pa Ma La Oa Ta Ra Z4 Sa X4 Nn An Dj Cj Hj Lj Fj Uj Gj Bj ka Ii Si Ei ba kj zj Ai Ti ya Fn Ig Eg jh Cn Pn Xm rj sj mj oj Hn Ln uh xh vh kh zh v9 Xi Ua tE reduceIte".splitOn " ").toArray.mapM fun x=>`(Lean.Parser.Tactic.simpLemma| ↓ $(Lean.mkIdent x.toName):ident)
 let b<-("A0 AK LF ED MM T.isD lockA MG lock kill lR Tg.ix MC GU XN nQ isMut EI.eq_1 EI.eq_2 FL.eq_1 FL.eq_2 FL.eq_3 FL.eq_4 Y1 nK.eq_1 List.modify_succ_cons List.modify_zero_cons Option.map_some List.length_cons List.length_nil List.getElem?_cons_zero List.getElem?_cons_succ List.cons_append List.nil_append List.set_cons_zero List.set_cons_succ Nat.reduceAdd Nat.reduceSub Nat.zero_add Bool.and_true Bool.true_and Bool.not_true Bool.not_false Bool.or_true Bool.true_or Bool.or_false Bool.false_or Bool.and_false Bool.false_and if_true if_false Bool.false_eq_true true_and and_true false_implies ne_eq reduceCtorEq not_false_eq_true not_true_eq_false implies_true forall_const Int.reduceLT Int.reduceLE Int.reducePow Int.reduceNeg Nat.reducePow and_self eq_self Option.some.injEq Sl.own.injEq Sl.nv.injEq and_assoc decide_true decide_false".splitOn " ").toArray.mapM fun x=>`(Lean.Parser.Tactic.simpLemma| $(Lean.mkIdent x.toName):ident)
 `(tactic| simp only [$ls,*,$a,*,$b,*])
set_option hygiene false in
local macro_rules | `(tactic| simp? [$ls,*])=>do
 let a<-("zc Gb Hc d5 Xc A4 nS sS oS Fh Vi Ui Ci Fi Di ij pj Uk Ub Fk Bk yb Ga V4 K4 Ba Aa Ha Oj Pb aS gj fj xk uk xa kA Rb Eb E4 Tb Sb Ib jc Yc Fc Kc Bc Nc Mb Lc Nb Mc Oc Ob Zl Gk Uc Hb P4 Lb Dc Kl Vc lW tS Gc pS rS Cc Zc l5 gb O4 lb Pc K5 JS YS yc uc kc Pk xc z5 fc cc gc Nk Rk bc vc j5 gp Zp Jp Yp Io bp xp ko yo zo So Po Ro Ho Oo No Yo Vp Kp aV Vj Xj Go Fo Do Co Bo Uo Xo Vo Ko Zo lc xo mo Sk Jc Lo Z5 Vl bg Fb Db Jb Vb Yb Cb Xb Kb Xk Vk Dk Bb Ck Ia Ea Da Ca Fa zk vk Na Pa Ma La Oa Ta Ra Z4 Sa X4 Nn An Dj Cj Hj Lj Fj Uj Gj Bj ka Ii Si Ei ba kj zj Ai Ti ya Fn Ig Eg jh Cn Pn Xm rj sj mj oj Hn Ln uh xh vh kh zh v9 Xi Ua tE reduceIte".splitOn " ").toArray.mapM fun x=>`(Lean.Parser.Tactic.simpLemma| ↓ $(Lean.mkIdent x.toName):ident)
 let b<-("A0 AK LF ED MM T.isD lockA MG lock kill lR Tg.ix MC GU XN nQ isMut EI.eq_1 EI.eq_2 FL.eq_1 FL.eq_2 FL.eq_3 FL.eq_4 Y1 nK.eq_1 List.modify_succ_cons List.modify_zero_cons Option.map_some List.length_cons List.length_nil List.getElem?_cons_zero List.getElem?_cons_succ List.cons_append List.nil_append List.set_cons_zero List.set_cons_succ Nat.reduceAdd Nat.reduceSub Nat.zero_add Bool.and_true Bool.true_and Bool.not_true Bool.not_false Bool.or_true Bool.true_or Bool.or_false Bool.false_or Bool.and_false Bool.false_and if_true if_false Bool.false_eq_true true_and and_true false_implies ne_eq reduceCtorEq not_false_eq_true not_true_eq_false implies_true forall_const Int.reduceLT Int.reduceLE Int.reducePow Int.reduceNeg Nat.reducePow and_self eq_self Option.some.injEq Sl.own.injEq Sl.nv.injEq and_assoc decide_true decide_false".splitOn " ").toArray.mapM fun x=>`(Lean.Parser.Tactic.simpLemma| $(Lean.mkIdent x.toName):ident)
 `(tactic| simp -implicitDefEqProofs only [$ls,*,$a,*,$b,*])
namespace L2.L3.Q
open PySem PySem.W PySem.Spec PyProof.Rows
noncomputable def El(as:List Addr)(h:Heap):QC:=as.filterMap fun a=>(h.get? a).map fun o=>(a,o)
noncomputable abbrev Ng:=(Str×Str×Arguments×FuncBody×Scope)×(Addr×List (Str×Addr)×Value×Addr)×Bool
noncomputable def e8(fd:FuncData)(b:Bool):Ng:=((fd.name,fd.qualname,fd.params,fd.body,fd.scope),(fd.globals,fd.closure,fd.defaults,fd.builtins),b)
noncomputable def bU(K:QC)(x:Str):Option Ng:=match qZ K mainGlobals x with
 |some (some (.ref f))=>(match K.lookup f with
  |some ⟨_,_,.func fd,_⟩=>some (e8 fd (WA K fd.code x&&qU K (.ref f)))
  |_=>none)
 |_=>none
noncomputable def iR(x:Str)(st:Stmt):Option Ng:=match st with
 | .FunctionDef _ a b _ _ _ sc _ _ _=>some (e8 (qI x x a b sc .none .none .none .none none .none .none) true)
 |_=>none
noncomputable def Gh:Value->Option PyData
 | .int i _=>some (.int i)
 | .str z _=>some (.str z)
 | .bool b=>some (.bool b)
 | .none=>some .none
 |_=>none
noncomputable def tupD(K:QC)(f:Addr):Option (List (Option PyData)):=match K.lookup f with
 |some ⟨.type t,_,.seq its _,_⟩=>if t="tuple" then some (its.toList.map Gh) else none
 |_=>none
noncomputable def Th:Value->Option Addr
 | .ref f=>some f
 |_=>none
noncomputable def Pd(K:QC)(u:Value):Option PyData×Option (List (Option PyData)):=match Th u with
 |some f=>(none,tupD K f)
 |none=>(Gh u,none)
noncomputable def Rj:PyData->Option PyData×Option (List (Option PyData))
 | .tuple ds=>(none,some (ds.map some))
 |d=>(some d,none)
noncomputable def Yj:Value->Option Str
 | .str z _=>some z
 |_=>none
noncomputable abbrev E8:=Int×Option Str×Option PyData×Option (List (Option PyData))
noncomputable def Sd(K:QC)(e:DictEntry):E8:=(e.hash,Yj e.key,Pd K e.val)
noncomputable def X8(w:World)(p:Str×PyData):E8:=(WB w.params p.1,some p.1,Rj p.2)
noncomputable def aM(K:QC)(x:Str):Option (List E8):=match qZ K mainGlobals x with
 |some (some (.ref a))=>if(a==sysModules)=false then(match K.lookup a with
  |some ⟨.type t,none,.dict es _,sl⟩=>if t="dict"/\sl.size=0 then some (es.toList.map (Sd K)) else none
  |_=>none) else none
 |_=>none
noncomputable def zd(K:QC)(x:Str):Option (List (Option PyData)):=match qZ K mainGlobals x with
 |some (some (.ref f))=>tupD K f
 |_=>none
noncomputable def Ic(K:QC)(x:Str):Option PyData:=match qZ K mainGlobals x with
 |some (some u)=>Gh u
 |_=>none
noncomputable def XT(K:QC)(x:Str):Bool:=match qZ K mainGlobals x with
 |some none=>true
 |_=>false
noncomputable def clsNm(x:Str)(o:Obj):Bool:=match o.data with
 | .cls cd=>cd.name==x
 |_=>false
noncomputable def clsAt(K:QC)(x:Str):Option Addr:=(K.find? fun p=>clsNm x p.2).map (·.1)
noncomputable def wOf(K:QC):Addr:=(clsAt K "WorldError").getD 0
noncomputable def iOf(K:QC):Addr:=match qh K (.ref (wOf K)) "__init__" with
 |some (some (.ref f))=>f
 |_=>0
noncomputable def C2(o:Option (Option Value))(a:Addr):Bool:=match o with
 |some (some (.ref b))=>b==a
 |_=>false
noncomputable def oR(o:Option (Option Value))(i:String):Bool:=match o with
 |some (some (.builtin j))=>j==i
 |_=>false
noncomputable def b8(o:Option (Option Value)):Bool:=match o with
 |some none=>true
 |_=>false
noncomputable def Hf(o:Option Value)(i:String):Bool:=match o with
 |some (.type j)=>j==i
 |_=>false
noncomputable def Lf(o:Option Addr)(a:Addr):Bool:=match o with
 |some b=>b==a
 |_=>false
noncomputable def Vm(sl:Array (Option Value)):Bool:=match sl.toList with
 |[_,_,_,_,some (.builtin n),_]=>n == "ValueError.__new__"
 |_=>false
noncomputable def Qzq:List Value->Bool
 |[.type a,.type b,.type c,.type d]=>a == "ValueError" && (b == "Exception" && (c == "BaseException" && d == "object"))
 |_=>false
noncomputable def Mn(W:Addr):List Value->Bool
 | .ref b::r=>b==W&&Qzq r
 |_=>false
noncomputable def gf(W C:Addr):List Value->Bool
 | .ref a::r=>a==C&&(if C=W then Qzq r else Mn W r)
 |_=>false
noncomputable def yf(W C:Addr)(x:Str)(o:Option Obj):Bool:=match o with
 |some ⟨.type t,_,.cls cd,sl⟩=>t == "type" && (gf W C cd.mro&&(cd.hasDict&&(!cd.hasDel&&(Vm sl&&cd.name==x))))
 |_=>false
noncomputable def zn(K:QC)(W f C:Addr)(x:Str):Bool:=yf W C x (K.lookup C)&&(C2 (qh K (.ref C) "__init__") f&&(Hf (QBK K (.ref f)) "function" && (oR (qh K (.ref C) "__setattr__") "object.__setattr__" && (oR (qh K (.ref C) "__getattribute__") "BaseException.__getattribute__" && (b8 (qh K (.ref C) "__getattr__")&&(b8 (qh K (.ref C) "place")&&(oR (qh K (.ref C) "__class__") "object.__class__" && (qU K (.ref C)&&Lf (clsAt K x) C))))))))
noncomputable def tH(K:QC)(x:Str):Bool:=match qZ K mainGlobals x with
 |some (some (.ref C))=>zn K (wOf K) (iOf K) C x
 |_=>false
noncomputable def PK(K:QC):Option Ng:=match K.lookup (iOf K) with
 |some ⟨_,_,.func fd,_⟩=>some (e8 fd (WA K fd.code "WorldError.__init__" && qU K (.ref (iOf K))))
 |_=>none
noncomputable def bM(st:Stmt):Option Ng:=match st with
 | .FunctionDef _ a b _ _ _ sc _ _ _=>some (e8 (qI "__init__" "WorldError.__init__" a b sc .none .none .none .none none .none .none) true)
 |_=>none
noncomputable def top(i:Nat):Stmt:=QZ.main.body.getD i (.Pass ⟨0,0,0,0⟩)
noncomputable def kT:List Nat:=[1,2,3,4,5,6,7,9,10,11,12,13,14,15,16,17,18,20,21,22,23,24,25,26,27,28,29,30,32,33,34,35,36,37,38,39,40,41,42,43,44,45,46,47,48,49,50,51,52,53,54,55]
noncomputable def qv:Program:={ QZ with main:={ QZ.main with body:=kT.map top } }
noncomputable abbrev R4:=List (Option Ng)×List (Option (List (Option PyData)))×List (Option PyData)×List Bool×List (Option (List E8))
noncomputable abbrev T4:=List Bool×Option Ng
noncomputable def Ij(st:Stmt):Stmt:=match st with
 | .ClassDef _ _ _ b _ _ _ _ _ _ _=>b.getD 0 (.Pass ⟨0,0,0,0⟩)
 |_=>.Pass ⟨0,0,0,0⟩
noncomputable def Zm:Stmt:=Ij (top 1)
noncomputable def fT:List (Str×Nat):=([("_law_mixed",33),("_law_cell_at",32),("_law_letters",36),("_law_keywords",35),("_law_name_by",40),("_law_from",41),("_law_rank",42),("_law_word_by",43),("_law_row_by",44),("_law_number",39),("_law_at_bound",49),("_law_odd_by",48),("_law_sign_by",34),("_law_spoilt",50),("_law_shape",51),("_law_is_word",37),("_law_is_name",38),("_law_part",52),("_law_judged",53),("words_in",14),("is_made_of",15),("is_word",16),("is_name",17),("number_in",18),("number_within",29),("value_of",28),("values_by",26),("form_for",27),("are_unlike",30),("row_of",25),("_law_spaced",45),("_law_same",46),("_law_is_refused",47),("_law_holds",54),("law",55)]:List (String×Nat)).map fun p=>(QA p.1,p.2)
noncomputable def tT:List (Str×List PyData):=[("KEYWORDS",[.str "person",.str "matter",.str "against",.str "see",.str "tell",.str "by",.str "at",.str "who",.str "what",.str "since",.str "tellers",.str "wordings",.str "apart",.str "leans",.str "hidden",.str "strike",.str "quote",.str "ground",.str "cut"]),("NAMED",[.str "name",.str "person",.str "matter"])]
noncomputable def sT:List (Str×PyData):=[("LETTERS",.str "abcdefghijklmnopqrstuvwxyz"),("FIGURES",.str "0123456789"),("MOST_LETTERS",.int 8),("MOST_FIGURES",.int 9),("MOST_QUOTED",.int 6)]
noncomputable def cT:List Str:=(["WorldError","BadRow","Misplaced","Twice","NoName","TooMany","Unfinished"]:List String).map QA
noncomputable def nT:List Str:=(["ValueError","all","bool","int","isinstance","len","list","max","raise","range","str","tuple","zip"]:List String).map QA
noncomputable def dT:List (Str×List (Str×PyData)):=[("FORMS",[("person",.tuple [.str "name",.str "rank",.str "floor",.str "needs"]),("matter",.tuple [.str "name"]),("against",.tuple [.str "name",.str "name"]),("see",.tuple [.str "time",.str "name",.str "name",.str "word"]),("tell",.tuple [.str "time",.str "name",.str "name",.str "name",.str "word"])]),("RANGES",[("rank",.tuple [.int 0,.int 99]),("floor",.tuple [.int 0,.int 99]),("needs",.tuple [.int 1,.int 4]),("time",.tuple [.int 0,.int 999999999]),("number",.tuple [.int 0,.int 999999999])]),("UNLIKE",[("against",.tuple [.int 1,.int 2]),("tell",.tuple [.int 2,.int 3])])]
noncomputable def seenC(K:Frag):T4:=(cT.map (tH K),PK K)
noncomputable def dueC:T4:=(cT.map fun _=>true,bM Zm)
noncomputable def seen(K:Frag):R4:=(fT.map fun p=>bU K p.1,tT.map fun p=>zd K p.1,sT.map fun p=>Ic K p.1,nT.map (XT K),dT.map fun p=>aM K p.1)
noncomputable def due(w:World):R4:=(fT.map fun p=>iR p.1 (top p.2),tT.map fun p=>some (p.2.map some),sT.map fun p=>some p.2,nT.map fun _=>true,dT.map fun p=>some (p.2.map (X8 w)))
noncomputable def fr(s:Shared):Frag:=El [3,6,4,31,30,28,27,44,43,56,55,68,67,80,79,92,91,104,103,107,112,111,117,116,124,123,131,130,138,137,139,140,141,142,143,144,145,146,147,148,149,150,151,152,153,154,161,160,166,165,173,172,180,179,187,186,194,193,201,200,208,207,215,214,222,221,229,228,236,235,243,242,250,249,257,256,264,263,271,270,278,277,283,282,290,289,297,296,302,301,309,308,314,313,319,318,326,325,333,332,340,339,347,346,352,351] s.heap
noncomputable def ls:List Str:=["FORMS","RANGES","UNLIKE"]
noncomputable def xt(s:Shared):Bool:=xlAt qv [] s&&recOk (RowW.records qa.row.toRowW) s
noncomputable def ends(w:World)(b:Bool){α:Type}(f:Shared->α):Option α:=(openEnds treeTable QZ (w.withFollow "special-get-raises" b) 5950).map f
noncomputable def os(s:Shared):=openSeen qv ls (importedModules QZ.main.body) xt true s
theorem A8:∀w:World,ends w false (fun s=>((os s).1,seen (fr s)))=some ((openGood qv ls).1,due (w.withFollow "special-get-raises" false)):=by intro w;kernel_rfl
theorem D8:∀w:World,ends w false (fun s=>seenC (fr s))=some dueC:=by intro w;kernel_rfl
theorem P8:∀w:World,ends w false (fun s=>(os s).2)=some (openGood qv ls).2:=by intro w;kernel_rfl
theorem Cg:∀w:World,ends w true (fun s=>((os s).1,seen (fr s)))=some ((openGood qv ls).1,due (w.withFollow "special-get-raises" true)):=by intro w;kernel_rfl
theorem xg:∀w:World,ends w true (fun s=>seenC (fr s))=some dueC:=by intro w;kernel_rfl
theorem Xg:∀w:World,ends w true (fun s=>(os s).2)=some (openGood qv ls).2:=by intro w;kernel_rfl
end L2.L3.Q
namespace L2
open PySem PySem.Spec PyProof.Rows
noncomputable abbrev lD:=Sum Int Str
noncomputable def zO:lD->Value->Bool
 | .inl k,v=>Value.isInt k v
 | .inr x,v=>Value.isStrOf x v
noncomputable def Pm(w:World):lD->Int
 | .inl k=>hashInt k
 | .inr x=>hashStr w x
theorem fB:∀{k:lD}{v:Value},zO k v=true->(∃i t,k=Sum.inl i/\v=Value.int i t)∨(∃x t,k=Sum.inr x/\v=Value.str x t)
 | .inl i,v,h=>by obtain⟨t,e⟩:=Value.isInt_shape (k:=i) (v:=v) h;exact .inl ⟨i,t,rfl,e⟩
 | .inr x,v,h=>by obtain⟨t,e⟩:=Value.isStrOf_shape (x:=x) (v:=v) h;exact .inr ⟨x,t,rfl,e⟩
theorem eX(i:Int)(t:Tok):zO (.inl i) (.int i t)=true:=by simp[zO,Value.isInt]
theorem aX(x:Str)(t:Tok):zO (.inr x) (.str x t)=true:=by simp[zO,Value.isStrOf]
theorem Xf(a b:Int):decide ((Sum.inl a:lD)=Sum.inl b)=(a==b):=by by_cases e:a=b;subst e;simp;have h:¬ (Sum.inl a:lD)=Sum.inl b:=fun q=>e (Sum.inl.inj q);rw[dF h];exact(beq_eq_false_iff_ne.mpr e).symm
theorem Zf(a b:Str):decide ((Sum.inr a:lD)=Sum.inr b)=decide (a=b):=by by_cases e:a=b;subst e;simp;have h:¬ (Sum.inr a:lD)=Sum.inr b:=fun q=>e (QCZ q);rw[dF h,dF e]
theorem Vf(a:Int)(b:Str):decide ((Sum.inl a:lD)=Sum.inr b)=false:=dF (fun q=>nomatch q)
theorem Kf(a:Str)(b:Int):decide ((Sum.inr a:lD)=Sum.inl b)=false:=dF (fun q=>nomatch q)
noncomputable def BB(prog:Program)(w:World):PySem.KeyKind prog w lD where
 is:=zO
 hash:=Pm w
 inj:=fun v a b ha hb=>by
  rcases fB ha with⟨i,t,rfl,rfl⟩| ⟨x,t,rfl,rfl⟩
  rcases fB hb with⟨j,u,rfl,e⟩| ⟨y,u,rfl,e⟩
  ·injection e with e1 _;rw[e1]
  exact nomatch e;rcases fB hb with⟨j,u,rfl,e⟩| ⟨y,u,rfl,e⟩
  ·exact nomatch e
  injection e with e1 _;rw[e1]
 byValue:=fun k v h=>by rcases fB h with⟨i,t,rfl,rfl⟩| ⟨x,t,rfl,rfl⟩<;>rfl
 pyHash:=fun hv h=>by
  rcases fB hv with⟨i,t,rfl,rfl⟩| ⟨x,t,rfl,rfl⟩
  exact wpAny_pyHash_int h;exact wpAny_pyHash_str h
 eqBool:=fun hu hv h=>by
  rcases fB hu with⟨i,t,rfl,rfl⟩| ⟨x,t,rfl,rfl⟩
  rcases fB hv with⟨j,u,rfl,rfl⟩| ⟨y,u,rfl,rfl⟩
  ·rw[Xf]at h;exact wpAny_eqBool_int h
  rw[Vf]at h;exact QBc i t y u _ _ _ _ h;rcases fB hv with⟨j,u,rfl,rfl⟩| ⟨y,u,rfl,rfl⟩
  ·rw[Kf]at h;exact QBd x t j u _ _ _ _ h
  rw[Zf]at h;exact wpAny_eqBool_str h
 «strs»:=fun k x t v h=>by
  rcases fB h with⟨i,u,rfl,e⟩| ⟨y,u,rfl,e⟩
  exact nomatch e;injection e with e1 _;subst e1;cases v<;>rfl
theorem xR(prog:Program)(w:World)(i:Int)(t:Tok):(BB prog w).is (.inl i) (.int i t)=true:=eX i t
theorem vR(prog:Program)(w:World)(x:Str)(t:Tok):(BB prog w).is (.inr x) (.str x t)=true:=aX x t
set_option genInjectivity true in
inductive V where
 |non|bl (b:Bool)|int (i:Int)|str (x:Str)|byt (b:Array UInt8)|flt (b:UInt64)|ref (a:Addr)|ty (n:String)
 deriving DecidableEq
noncomputable def sA:V->Value->Prop
 | .non,u=>u=Value.none
 | .bl b,u=>u=Value.bool b
 | .int i,u=>∃t,u=Value.int i t
 | .str x,u=>∃t,u=Value.str x t
 | .byt b,u=>∃t,u=Value.bytes b t
 | .flt b,u=>∃t,u=Value.float b t
 | .ref a,u=>u=Value.ref a
 | .ty n,u=>u=Value.type n
noncomputable abbrev pA:List V->List Value->Prop:=Paired sA
theorem pA.length{xs:List V}{us:List Value}(r:pA xs us):xs.length=us.length:=Ws r
theorem pA.get:∀{xs:List V}{us:List Value}{i:Nat}{x:V},pA xs us->xs[i]?=some x->∃u,us[i]?=some u/\sA x u
 |_,_,_,_,.nil,e=>by simp at e
 |_,_,0,_,.cons r _,e=>by simp at e;subst e;exact⟨_,rfl,r⟩
 |_,_,i+1,x,.cons _ t,e=>by obtain⟨u,h1,h2⟩:=pA.get (i:=i) (x:=x) t (by simpa using e);exact⟨u,by simpa using h1,h2⟩
theorem pA.set{x:V}{u:Value}(r:sA x u):∀{xs:List V}{us:List Value}(i:Nat),pA xs us->pA (xs.set i x) (us.set i u)
 |_,_,_,.nil=>.nil
 |_,_,0,.cons _ t=>.cons r t
 |_,_,i+1,.cons q t=>.cons q (pA.set r i t)
theorem pA.append:∀{xs ys:List V}{us ws:List Value},pA xs us->pA ys ws->pA (xs++ys) (us++ws)
 |_,_,_,_,.nil,s=>s
 |_,_,_,_,.cons r t,s=>.cons r (pA.append t s)
theorem pA.take:∀{xs:List V}{us:List Value}(n:Nat),pA xs us->pA (xs.take n) (us.take n)
 |_,_,0,_=>.nil
 |_,_,_+1,.nil=>.nil
 |_,_,n+1,.cons r t=>.cons r (pA.take n t)
theorem pA.drop:∀{xs:List V}{us:List Value}(n:Nat),pA xs us->pA (xs.drop n) (us.drop n)
 |_,_,0,r=>r
 |_,_,_+1,.nil=>.nil
 |_,_,n+1,.cons _ t=>pA.drop n t
noncomputable def YI:Option V->Option Value->Prop
 |some v,some u=>sA v u
 |none,none=>True
 |_,_=>False
noncomputable def KV{κ:Type}:List (κ×V)->List (κ×Value)->Prop:=Paired fun(p:κ×V) (q:κ×Value)=>p.1=q.1/\sA p.2 q.2
noncomputable def kV:lD->V
 | .inl i=>.int i
 | .inr x=>.str x
inductive HO where
 |lst (xs:List V)
 |tup (xs:List V)
 |dK (kvs:List (lD×V))|dT (kvs:List (List lD×V))
 |set (S:Int->Bool) (n:Nat)
 |ins (C dx:Addr) (fs:List (Str×V))
 |own (x:Addr)
 |xd (fs:List (Str×V))
 |met (f x:Addr)
 |rng (lo hi:Int)
 |frz (o:Obj) (u:HO)
 |tbl (ps:Array Value)
 |ext (φ:Heap->Prop)
noncomputable abbrev Hp:=Addr->Option HO
noncomputable def FA(H:Hp)(a:Addr)(o:HO):Hp:=fun b=>if b=a then some o else H b
theorem dA{H:Hp}{a:Addr}{o:HO}:FA H a o a=some o:=by unfold FA;rw[if_pos rfl]
theorem vA{H:Hp}{a b:Addr}{o:HO}(h:b≠a):FA H a o b=H b:=by unfold FA;rw[if_neg h]
theorem N5{H:Hp}{a:Addr}{o u:HO}:FA (FA H a o) a u=FA H a u:=by funext b;unfold FA;split<;>rfl
theorem KA{H:Hp}{a b:Addr}{o:HO}(h:H a=some o)(h':H b=none):a≠b:=by intro e;subst e;rw[h]at h';cases h'
section
variable(P:Program)(w:World)
noncomputable def DA(H:Hp)(h:Heap)(a:Addr):HO->Prop
 | .lst xs=>xs.length<=sizeLine/\∃(its:List Value) (n:Nat),pA xs its/\h.get? a=some { cls:=.type "list",data:=.seq its.toArray n }
 | .tup xs=>xs.length<=sizeLine/\∃its:List Value,pA xs its/\IsTup h a its.toArray
 | .dK kvs=>kvs.length<=sizeLine/\(a==sysModules)=false/\∃vs,KV kvs vs/\h.DictOf (BB P w) a vs
 | .dT kvs=>kvs.length<=sizeLine/\(a==sysModules)=false/\∃xs:List (List lD×Addr×Value),
   Paired (fun(p:List lD×V) (q:List lD×Addr×Value)=>p.1=q.1/\H q.2.1=some (.tup (p.1.map kV))/\sA p.2 q.2.2) kvs xs /\
   ∃o es ep,h.get? a=some o/\o.ExactDict/\o.data=.dict es ep/\es.toList=xs.map (entryOfKey (tupleKind (BB P w)))/\(xs.map (·.1)).Nodup
 | .set S n=>h.SetOf (intKind P w) a S n
 | .ins C dx fs=>H dx=some (.own a)/\fs.length<=1000/\dx≠a/\h.get? a=some (QA3 C dx) /\
   ∃mA,h.Ns1 dx mA/\(∀f,YI (fs.lookup f) (mA f))/\PySem.Within mA (fs.map (·.1))
 | .own _=>∃o,h.get? a=some o
 | .xd fs=>∃mA,h.Ns1 a mA/\∀f,YI (fs.lookup f) (mA f)
 | .rng lo hi=>∃t u v,h.get? a=some { cls:=.type "range",data:=.fields #[.int lo t,.int hi u,.int 1 v] }
 | .frz o u=>h.get? a=some o/\DA H h a u
 | .tbl ps=>h.get? a=some { cls:=.none,data:=.fields ps }
 | .met f x=>h.get? a=some (QAS (.ref f) (.ref x))
 | .ext φ=>φ h/\(∃o,h.get? a=some o)/\∀h1 h2:Heap,φ h1->(∀o,h1.get? a=some o->h2.get? a=some o)->φ h2
def UH(H:Hp)(h:Heap):Prop:=∀a o,H a=some o->DA P w H h a o
end
section
variable{P:Program}{w:World}{H H':Hp}{h h':Heap}{a:Addr}{o:HO}
theorem DA.lt(x:DA P w H h a o):a<h.objs.size:=by
 cases o with
 |lst xs=>obtain⟨_,_,_,_,e⟩:=x;exact QO e
 |tup xs=>obtain⟨_,_,_,p⟩:=x;exact p.lt
 |dK kvs=>obtain⟨_,_,_,_,o,_,_,e,_⟩:=x;exact QO e
 |dT kvs=>obtain⟨_,_,_,_,o,_,_,e,_⟩:=x;exact QO e
 |set S n=>obtain⟨o,_,_,_,e,_⟩:=x;exact QO e
 |ins C dx fs=>obtain⟨_,_,_,e,_⟩:=x;exact QO e
 |own y=>obtain⟨_,e⟩:=x;exact QO e
 |xd fs=>obtain⟨_,⟨_,_,_,e,_⟩,_⟩:=x;exact QO e
 |rng lo hi=>obtain⟨_,_,_,e⟩:=x;exact QO e
 |frz ob u=>obtain⟨e,_⟩:=x;exact QO e
 |tbl ps=>exact QO (show h.get? a=some _ from x)
 |met f y=>exact QO (show h.get? a=some _ from x)
 |ext φ=>obtain⟨_,⟨_,e⟩,_⟩:=x;exact QO e
theorem Paired.mapP{α β:Type}{F G:α->β->Prop}:∀{l₁:List α}{l₂:List β},Paired F l₁ l₂->(∀a b,F a b->G a b)->Paired G l₁ l₂
 |_,_,.nil,_=>.nil
 |_,_,.cons r t,f=>.cons (f _ _ r) (Paired.mapP t f)
theorem DA.stay(x:DA P w H h a o)(k:∀b u,(b=a∨H b=some (.own a))->h.get? b=some u->h'.get? b=some u)
  (ho:∀b,H b=some (.own a)->H' b=some (.own a)) (ht:∀b xs,H b=some (.tup xs)->H' b=some (.tup xs)):DA P w H' h' a o:=by
 induction o with
 |lst xs=>obtain⟨z,its,n,r,e⟩:=x;exact⟨z,its,n,r,k _ _ (.inl rfl) e⟩
 |tup xs=>obtain⟨z,its,r,ob,e,c⟩:=x;exact⟨z,its,r,ob,k _ _ (.inl rfl) e,c⟩
 |dK kvs=>obtain⟨z,y,vs,r,ob,es,ep,e,c⟩:=x;exact⟨z,y,vs,r,ob,es,ep,k _ _ (.inl rfl) e,c⟩
 |dT kvs=>obtain⟨z,y,xs,r,ob,es,ep,e,c⟩:=x;exact⟨z,y,xs,Paired.mapP r fun p q z=>⟨z.1,ht _ _ z.2.1,z.2.2⟩,ob,es,ep,k _ _ (.inl rfl) e,c⟩
 |set S n=>obtain⟨ob,es,ep,t,e,c⟩:=x;exact⟨ob,es,ep,t,k _ _ (.inl rfl) e,c⟩
 |ins C dx fs=>obtain⟨d,z,ne,e,mA,⟨od,es,ep,e2,c⟩,r⟩:=x;exact⟨ho _ d,z,ne,k _ _ (.inl rfl) e,mA,⟨od,es,ep,k _ _ (.inr d) e2,c⟩,r⟩
 |own y=>obtain⟨ob,e⟩:=x;exact⟨ob,k _ _ (.inl rfl) e⟩
 |xd fs=>obtain⟨mA,⟨od,es,ep,e,c⟩,r⟩:=x;exact⟨mA,⟨od,es,ep,k _ _ (.inl rfl) e,c⟩,r⟩
 |rng lo hi=>obtain⟨t,u,v,e⟩:=x;exact⟨t,u,v,k _ _ (.inl rfl) e⟩
 |frz ob u ih=>obtain⟨e,q⟩:=x;exact⟨k _ _ (.inl rfl) e,ih q⟩
 |tbl ps=>have e:h.get? a=some { cls:=.none,data:=.fields ps }:=x;show h'.get? a=some { cls:=.none,data:=.fields ps };exact k a _ (.inl rfl) e
 |met f y=>have e:h.get? a=some (QAS (.ref f) (.ref y)):=x;show h'.get? a=some (QAS (.ref f) (.ref y));exact k a _ (.inl rfl) e
 |ext φ=>obtain⟨p,⟨o,e⟩,st⟩:=x;exact⟨st _ _ p fun o q=>k _ _ (.inl rfl) q,⟨o,k _ _ (.inl rfl) e⟩,st⟩
theorem UH.lt(x:UH P w H h)(e:H a=some o):a<h.objs.size:=(x a o e).lt
theorem UH.fresh(x:UH P w H h)(e:h.objs.size<=a):H a=none:=by
 cases q:H a with
 |none=>rfl
 |some u=>exact absurd (Qg (x.lt q) e) (qi _)
theorem UH.kept(x:UH P w H h)(k:∀b u,h.get? b=some u->h'.get? b=some u):UH P w H h':=fun a o e =>
 (x a o e).stay (fun b u _ q=>k b u q) (fun _ q=>q) fun _ _ q=>q
theorem UH.laid(x:UH P w H h)(k:∀b u,h.get? b=some u->h'.get? b=some u)(hp:h.objs.size<=a)(new:DA P w (FA H a o) h' a o):UH P w (FA H a o) h':=fun b u e=>by have hn:=x.fresh hp;by_cases hb:b=a;subst hb;rw[dA]at e;cases e;exact new;rw[vA hb]at e;exact(x b u e).stay (fun c v _ q=>k c v q) (fun c q=>by rw[vA (KA q hn)];exact q) fun c xs q=>by rw[vA (KA q hn)];exact q
end
def Rd(H:Hp)(a:Addr)(u:HO):Prop:=H a=some u∨∃o,H a=some (.frz o u)
theorem Rd.ok{P:Program}{w:World}{H:Hp}{h:Heap}{a:Addr}{u:HO}(r:Rd H a u)(x:UH P w H h):DA P w H h a u:=by
 rcases r with r|⟨o,r⟩
 exact x a u r;obtain⟨_,q⟩:=x a _ r;exact q
noncomputable def dl:Option HO->Prop
 |some (.lst _)=>True
 |some (.dK _)=>True
 |some (.dT _)=>True
 |some (.set _ _)=>True
 |some (.ins _ _ _)=>True
 |some (.ext _)=>True
 |_=>False
section
variable{P:Program}{w:World}{H:Hp}{h h':Heap}{x e:Addr}{o':HO}
theorem UH.write(ok:UH P w H h)(mu:dl (H x))(he:e=x∨H e=some (.own x))(k:∀b u,b≠e->h.get? b=some u->h'.get? b=some u)(heo:∃u,h'.get? e=some u)
  (new:DA P w (FA H x o') h' x o'):UH P w (FA H x o') h':=fun b u q=>by
 have nown:∀c y,H c=some (.own y)->c≠x:=fun c y r z=>by subst z;rw[r]at mu;exact mu
 have ntup:∀c xs,H c=some (.tup xs)->c≠x:=fun c xs r z=>by subst z;rw[r]at mu;exact mu
 by_cases hb:b=x;subst hb;rw[dA]at q;cases q;exact new;rw[vA hb]at q;by_cases hbe:b=e;have q':H b=some (.own x):=by rcases he with z|z;exact absurd (hbe.trans z) hb;rw[hbe];exact z
 rw[q]at q';cases q';obtain⟨v,hv⟩:=heo;exact⟨v,by rw[hbe];exact hv⟩;refine(ok b u q).stay (fun c v hc r=>k c v ?_ r) (fun c r=>by rw[vA (nown c b r)];exact r) fun c xs r=>by rw[vA (ntup c xs r)];exact r
 rcases hc with rfl|hc;exact hbe;rintro rfl;rcases he with z|z;exact nown c b hc z;rw[hc]at z;cases z;exact hb rfl
end
structure Un(fs ex:List Addr)(H H':Hp)(h h':Heap):Prop where
 keep:∀b o,h.get? b=some o->H b=none->b∉fs->b∉ex->h'.get? b=some o
 slot:∀b o,h.get? b=some o->H b=none->b∈fs->b∉ex->∃sl,h'.get? b=some { o with slots:=sl }
 free:∀b o,h.get? b=some o->H b=none->b∉ex->H' b=none
 there:∀b o,h.get? b=some o->b∉ex->∃o',h'.get? b=some o'
 tups:∀b xs,H b=some (.tup xs)->H' b=some (.tup xs)
 frzs:∀b o u,H b=some (.frz o u)->H' b=some (.frz o u)
 tbls:∀b ps,H b=some (.tbl ps)->∃more,H' b=some (.tbl (ps++more))
section
variable{fs fs' ex ex':List Addr}{H H1 H2:Hp}{h h1 h2 h':Heap}{a x e:Addr}{o:HO}
theorem Un.any(u:Un fs ex H H1 h h1){b:Addr}{ob:Obj}(q:h.get? b=some ob)(n:H b=none)(hx:b∉ex):∃sl,h1.get? b=some { ob with slots:=sl }:=by by_cases hb:b∈fs;exact u.slot b ob q n hb hx;exact⟨ob.slots,u.keep b ob q n hb hx⟩
theorem Un.kept(k:∀b u,h.get? b=some u->h'.get? b=some u):Un fs ex H H h h' :=
 ⟨fun b ob q _ _ _=>k b ob q,fun b ob q _ _ _=>⟨ob.slots,k b ob q⟩,fun _ _ _ n _=>n,fun b ob q _=>⟨ob,k b ob q⟩,fun _ _ q=>q,fun _ _ _ q=>q,fun _ ps q=>⟨#[],by rw[q];simp⟩⟩
theorem Un.refl:Un fs ex H H h h:=Un.kept fun _ _ q=>q
theorem Un.laid(k:∀b u,h.get? b=some u->h'.get? b=some u)(hp:h.objs.size<=a)(hn:H a=none):Un fs ex H (FA H a o) h h' where
 keep:=fun b u q _ _ _=>k b u q
 slot:=fun b u q _ _ _=>⟨u.slots,k b u q⟩
 free:=fun b u q n _=>by rw[vA (Qx (Qg (QO q) hp))];exact n
 there:=fun b u q _=>⟨u,k b u q⟩
 tups:=fun b xs q=>by rw[vA (KA q hn)];exact q
 frzs:=fun b u xs q=>by rw[vA (KA q hn)];exact q
 tbls:=fun b ps q=>⟨#[],by rw[vA (KA q hn),q];simp⟩
theorem Un.write(mu:dl (H x))(he:e=x∨H e=some (.own x))(k:∀b u,b≠e->h.get? b=some u->h'.get? b=some u)(heo:∃u,h'.get? e=some u):Un fs ex H (FA H x o) h h':=by
 have hx:∀b,H b=none->b≠x:=fun b n z=>by subst z;rw[n]at mu;exact mu
 have hb:∀b,H b=none->b≠e:=fun b n z=>by subst z;rcases he with r|r;exact hx b n r;rw[n]at r;cases r
 have hm:∀b u,H b=some u->¬ dl (some u)->b≠x:=fun b u q nm z=>by subst z;rw[q]at mu;exact nm mu
 refine⟨fun b u q n _ _=>k b u (hb b n) q,fun b u q n _ _=>⟨u.slots,k b u (hb b n) q⟩,fun b u q n _=>by rw[vA (hx b n)];exact n,fun b u q _=>?_,
  fun b xs q=>by rw[vA (hm b _ q fun z=>z)];exact q,fun b u xs q=>by rw[vA (hm b _ q fun z=>z)];exact q,fun b ps q=>⟨#[],by rw[vA (hm b _ q fun z=>z),q];simp⟩⟩
 by_cases hbe:b=e;subst hbe;exact heo;exact⟨u,k b u hbe q⟩
end
noncomputable def Ml(h:Heap)(H:Hp):List Addr:=(qK h.objs.size).filter fun a=>(H a).isSome
noncomputable def VP(h:Heap)(H:Hp):Heap:=QCa h (Ml h H)
theorem ZX(h:Heap)(H:Hp):(VP h H).objs.size=h.objs.size:=PySem.W.hideAll_size _ _
theorem A2{h:Heap}{H:Hp}{b:Addr}{o:Obj}(e:h.get? b=some o)(n:H b=none):(VP h H).get? b=some o :=
 W5 _ e fun hm=>by have q:(H b).isSome=true:=(QCb.mp hm).2;rw[n]at q;simp at q
theorem M7{h:Heap}{H:Hp}{b:Addr}{o:Obj}(e:(VP h H).get? b=some o):h.get? b=some o/\H b=none:=by
 have e':h.get? b=some o:=QBe (Ml h H) e;refine⟨e',?_⟩;cases q:H b with
 |none=>rfl
 |some x=>have hm:b∈Ml h H:=QCb.mpr ⟨wH.mpr (QO e'),by simp[q]⟩;have z:(VP h H).get? b=none:=QBG (Ml h H) hm;rw[z]at e;cases e
structure Mod(K:QC)(mg:Str->Option Value)(base:Heap):Prop where
 kin:K.In base
 glob:base.Ns mainGlobals mg
 blt:∃mb,base.Ns builtinsNs mb/\∀x:Str,x≠"__name__"->mb x=bootBuiltins x
 nolimit:base.NoLimit
structure Cx where
 prog:Program
 w:World
 K:QC
 mg:Str->Option Value
 base:Heap
 A:Around
 N:List Str
 s₀:Shared
 H₀:Hp
 env:Env
 outer:List Env
 stack:List Env
 ex:List Addr
 fn:Str->Bool
 calm:Bool
 pn:ZB
 xe:Value->Shared->Prop
noncomputable def dO(l:List Env):List Addr:=l.filterMap (·.frame)
noncomputable abbrev Cx.fs(X:Cx):List Addr:=dO X.outer
def Kk(sc:Scope)(x:Str):Prop:=sc.names.lookup x=some .local∨sc.names.lookup x=some .cell∨sc.names.lookup x=some .free
def gl(sc:Scope)(x:Str):Prop:=sc.names.lookup x=some .local∨sc.names.lookup x=some .cell
def Yn(env:Env)(h:Heap)(m:Str->Option Value)(x:Str)(u:Value):Prop :=
 (env.kindOf x=some .local/\m x=some u)∨((env.kindOf x=some .cell∨env.kindOf x=some .free)/\∃c,env.cells.lookup x=some c/\h.IsCell c (some u))
structure Cx.Ok(X:Cx):Prop where
 mod:Mod X.K X.mg X.base
 kind:X.env.scope.kind=.function
 glob:X.env.globals=mainGlobals
 blt:X.env.builtins=builtinsNs
 above:X.s₀.heap.objs.size<=X.env.locals
 inj:∀x y c,X.env.cells.lookup x=some c->X.env.cells.lookup y=some c->x=y
 has:∀x,(X.env.kindOf x=some .cell∨X.env.kindOf x=some .free)->∃c,X.env.cells.lookup x=some c
 cab:∀x c,X.fn x=true->X.env.cells.lookup x=some c->X.s₀.heap.objs.size<=c
 hd:X.calm=true->X.A.handled=none
 frames:X.A.frames=some X.stack
 stk:X.stack=X.outer∨(X.stack=X.env::X.outer/\X.env.frame=some X.env.locals)
 exf:∀b∈X.ex,b≠X.env.locals/\∀x c,X.env.cells.lookup x=some c->c≠b
 bs:∀b o,X.base.get? b=some o->X.s₀.heap.get? b=some o/\X.H₀ b=none
 bsz:X.base.objs.size<=X.s₀.heap.objs.size
 noex:∀b o,X.base.get? b=some o->b∉X.ex
 exfs:∀b∈X.ex,b∉X.fs
 funs:X.s₀.heap.FunFrames X.base X.outer
 frf:∀b∈X.fs,X.H₀ b=none
structure Inv(X:Cx)(pins:ZB)(σ:List (Option V))(H:Hp)(s:Shared):Prop where
 ok:X.Ok
 os:s.os=X.s₀.os
 bare:AllBare s.gens
 base:Un X.fs X.ex X.H₀ H X.s₀.heap s.heap
 loc:∃m,s.heap.Ns X.env.locals m/\∀(i:Nat) (x:Str) (v:V),X.N[i]?=some x->σ[i]?=some (some v)->Kk X.env.scope x->∃u,sA v u/\Yn X.env s.heap m x u
 cell:∀x c,X.env.cells.lookup x=some c->∃v,s.heap.IsCell c v
 free:H X.env.locals=none
 freeC:∀x c,X.env.cells.lookup x=some c->H c=none
 pin:∀p∈X.pn++pins,s.heap.get? p.1=some p.2/\H p.1=none/\p.1≠X.env.locals/\p.1∉X.fs/\∀v,p.2.data≠.cell v
 hok:UH X.prog X.w H s.heap
 len:σ.length=X.N.length
section
variable{X:Cx}{pins:ZB}{σ:List (Option V)}{H H':Hp}{s:Shared}{h':Heap}
theorem Cx.Ok.nofr(ok:X.Ok){b:Addr}{o:Obj}(e:X.base.get? b=some o):b∉X.fs:=fun hb=>by have:=(ok.funs.mem hb).1;rw[e]at this;cases this
theorem Inv.bs(I:Inv X pins σ H s):∀b o,X.base.get? b=some o->s.heap.get? b=some o/\H b=none:=fun b o e =>
 ⟨I.base.keep b o (I.ok.bs b o e).1 (I.ok.bs b o e).2 (I.ok.nofr e) (I.ok.noex b o e),I.base.free b o (I.ok.bs b o e).1 (I.ok.bs b o e).2 (I.ok.noex b o e)⟩
theorem Inv.bk(I:Inv X pins σ H s):∀b o,X.base.get? b=some o->s.heap.get? b=some o:=fun b o e=>(I.bs b o e).1
theorem Inv.mod(I:Inv X pins σ H s):Mod X.K X.mg X.base:=I.ok.mod
theorem Inv.kIn(I:Inv X pins σ H s):X.K.In s.heap:=I.ok.mod.kin.keeps I.bk
theorem Inv.fr(I:Inv X pins σ H s):∃m,Fr X.base X.env.locals s.heap m :=
 let⟨m,hn,_⟩:=I.loc
 ⟨m,hn,I.bk,qC I.ok.bsz I.ok.above⟩
theorem Inv.lt(I:Inv X pins σ H s):X.env.locals<s.heap.objs.size:=let⟨_,hn,_⟩:=I.loc;hn.lt
theorem Inv.sz(I:Inv X pins σ H s):X.s₀.heap.objs.size<=s.heap.objs.size:=qC I.ok.above (QCA I.lt)
theorem Inv.nofs(I:Inv X pins σ H s){a:Addr}(h:s.heap.objs.size<=a):a∉X.fs:=fun hb=>by obtain⟨_,o,ho,_⟩:=I.ok.funs.mem hb;exact absurd (Qg (QO ho) (qC I.sz h)) (qi _)
theorem Inv.cne(I:Inv X pins σ H s):∀x c,X.env.cells.lookup x=some c->c≠X.env.locals:=fun x c e z=>by obtain⟨v,o,ho,hd⟩:=I.cell x c e;obtain⟨m,⟨o',es,ep,ho',hd',_⟩,_⟩:=I.loc;rw[z,ho']at ho;cases ho;rw[hd']at hd;cases hd
theorem Inv.funs(I:Inv X pins σ H s):s.heap.FunFrames X.base X.outer:=by
 have all:∀(l:List Env),(∀b∈dO l,b∈X.fs)->X.s₀.heap.FunFrames X.base l->s.heap.FunFrames X.base l:=by
  intro l;induction l with
  |nil=>intro _ _;trivial
  |cons env r ih=>intro hs hl;obtain⟨hk,⟨L,o,hf,hn,ho,hd⟩,hr⟩:=hl;have hL:L∈X.fs:=hs L (by unfold dO;rw[qz,hf];exact QK);obtain⟨sl,e⟩:=I.base.slot L o ho (I.ok.frf L hL) hL fun z=>I.ok.exfs L z hL;exact⟨hk,⟨L,_,hf,hn,e,hd⟩,ih (fun b hb=>hs b (by unfold dO;rw[qz,hf];exact QG _ hb)) hr⟩
 exact all X.outer (fun _ hb=>hb) I.ok.funs
theorem Inv.stack(I:Inv X pins σ H s):s.heap.FunFrames X.base X.stack:=by
 rcases I.ok.stk with e|⟨e,hf⟩
 rw[e];exact I.funs;rw[e];obtain⟨m,hn,_⟩:=I.loc;refine .cons (by rw[I.ok.kind];decide) hf hn ?_ I.funs;exact Heap.get?_none_of_le (qC I.ok.bsz I.ok.above)
theorem Inv.stkSub(I:Inv X pins σ H s):∀b∈dO X.stack,b∈X.env.locals::X.fs:=fun b hb=>by
 rcases I.ok.stk with e|⟨e,hf⟩
 rw[e]at hb;exact QG _ hb;rw[e]at hb;unfold dO at hb;rw[qz,hf]at hb;exact hb
theorem Inv.stkFree(I:Inv X pins σ H s):∀b∈dO X.stack,H b=none:=fun b hb=>by rcases QL.mp (I.stkSub b hb) with e|hb;rw[e];exact I.free;obtain⟨_,o,ho,_⟩:=I.ok.funs.mem hb;exact I.base.free b o ho (I.ok.frf b hb) fun z=>I.ok.exfs b z hb
theorem Inv.step{g':Array GenState}{t':Nat}{d':Drawn}{ch:List Addr}(I:Inv X pins σ H s)
  (hch:∀b∈ch,(b∈X.ex∨X.s₀.heap.objs.size<=b)/\b≠X.env.locals/\(∀x c,X.env.cells.lookup x=some c->c≠b)/\∀p∈X.pn++pins,p.1≠b)
  (keep:∀b o,b≠X.env.locals->b∉X.fs->b∉ch->s.heap.get? b=some o->H b=none->h'.get? b=some o)
  (slot:∀b o,b≠X.env.locals->b∈X.fs->b∉ch->s.heap.get? b=some o->H b=none->∃sl,h'.get? b=some { o with slots:=sl }) (free:∀b o,b∉ch->s.heap.get? b=some o->H b=none->H' b=none)
  (there:∀b o,b∉ch->s.heap.get? b=some o->∃o',h'.get? b=some o')
  (tups:∀b xs,H b=some (.tup xs)->H' b=some (.tup xs)) (frzs:∀b o u,H b=some (.frz o u)->H' b=some (.frz o u)) (tbls:∀b ps,H b=some (.tbl ps)->∃more,H' b=some (.tbl (ps++more)))
  (ns:∀m,s.heap.Ns X.env.locals m->h'.Ns X.env.locals m) (hok:UH X.prog X.w H' h') (hg:AllBare g') :
  Inv X pins σ H' { s with heap:=h',gens:=g',drawn:=d',toks:=t' }:=by
 have neL:∀b o,X.s₀.heap.get? b=some o->b≠X.env.locals:=fun b o e=>Qx (Qg (QO e) I.ok.above);have neC:∀b o,X.s₀.heap.get? b=some o->b∉X.ex->b∉ch:=fun b o e hx hb=>by rcases(hch b hb).1 with z|z;exact hx z;exact absurd (Qg (QO e) z) (qi _)
 have cellK:∀x c,X.env.cells.lookup x=some c->∀v,s.heap.IsCell c v->h'.IsCell c v:=fun x c e v ⟨o,ho,hd⟩=>by have nch:c∉ch:=fun z=>(hch c z).2.2.1 x c e rfl;by_cases hc:c∈X.fs;obtain⟨sl,q⟩:=slot c o (I.cne x c e) hc nch ho (I.freeC x c e);exact⟨_,q,hd⟩;exact⟨o,keep c o (I.cne x c e) hc nch ho (I.freeC x c e),hd⟩
 refine⟨I.ok,I.os,hg,⟨fun b o e n hb hx=>?_,fun b o e n hb hx=>?_,fun b o e n hx=>?_,fun b o e hx=>?_,fun b xs e=>tups b xs (I.base.tups b xs e),fun b o xs e=>frzs b o xs (I.base.frzs b o xs e),fun b ps e=>?_⟩,?_,fun x c e=>?_,?_,fun x c e=>?_,fun p hp=>?_,hok,I.len⟩;exact keep b o (neL b o e) hb (neC b o e hx) (I.base.keep b o e n hb hx) (I.base.free b o e n hx);obtain⟨sl,e1⟩:=I.base.slot b o e n hb hx;obtain⟨sl',e2⟩:=slot b _ (neL b o e) hb (neC b o e hx) e1 (I.base.free b o e n hx);exact⟨sl',e2⟩;obtain⟨o',e1⟩:=I.base.there b o e hx;exact free b o' (neC b o e hx) e1 (I.base.free b o e n hx);obtain⟨o',e1⟩:=I.base.there b o e hx;exact there b o' (neC b o e hx) e1;obtain⟨m1,e1⟩:=I.base.tbls b ps e;obtain⟨m2,e2⟩:=tbls b _ e1;exact⟨m1++m2,by rw[e2,Array.append_assoc]⟩;obtain⟨m,hn,hl⟩:=I.loc;refine⟨m,ns m hn,fun i x v e1 e2 e3=>?_⟩;obtain⟨u,r,l⟩:=hl i x v e1 e2 e3;refine⟨u,r,?_⟩;rcases l with l|⟨k,c,e,z⟩
 exact .inl l;exact .inr ⟨k,c,e,cellK x c e _ z⟩;obtain⟨v,z⟩:=I.cell x c e;exact⟨v,cellK x c e v z⟩;obtain⟨m,⟨o,_,_,ho,_⟩,_⟩:=I.loc;exact free _ o (fun z=>(hch _ z).2.1 rfl) ho I.free;obtain⟨v,o,ho,hd⟩:=I.cell x c e;exact free c o (fun z=>(hch c z).2.2.1 x c e rfl) ho (I.freeC x c e);obtain⟨e,n,ne,nf,d⟩:=I.pin p hp;have nch:p.1∉ch:=fun z=>(hch p.1 z).2.2.2 p hp rfl;exact⟨keep p.1 p.2 ne nf nch e n,free p.1 p.2 nch e n,ne,nf,d⟩
theorem Inv.un{t':Nat}(I:Inv X pins σ H s)(u:Un X.fs [] H H' s.heap h')(hok:UH X.prog X.w H' h'):Inv X pins σ H' { s with heap:=h',toks:=t' }:=by obtain⟨m,⟨o,es,ep,ho,r⟩,_⟩:=id I.loc;obtain⟨sl,hL⟩:=u.any ho I.free (by simp);exact I.step (g':=s.gens) (d':=s.drawn) (ch:=[]) (fun _ z=>nomatch z) (fun b o _ hb _ e n=>u.keep b o e n hb (by simp)) (fun b o _ hb _ e n=>u.slot b o e n hb (by simp)) (fun b o _ e n=>u.free b o e n (by simp)) (fun b o _ e=>u.there b o e (by simp)) u.tups u.frzs u.tbls (fun m' hm=>by obtain⟨o',es',ep',ho',r'⟩:=hm;rw[ho]at ho';cases ho';exact⟨_,es',ep',hL,r'⟩) hok I.bare
theorem Inv.call{g':Array GenState}{t':Nat}{d':Drawn}{ch:List Addr}(I:Inv X pins σ H s)(u:Un (dO X.stack) ch H H' s.heap h')(hok:UH X.prog X.w H' h')(hg:AllBare g')
  (hch:∀b∈ch,(b∈X.ex∨X.s₀.heap.objs.size<=b)/\b≠X.env.locals/\(∀x c,X.env.cells.lookup x=some c->c≠b)/\∀p∈X.pn++pins,p.1≠b) :
  Inv X pins σ H' { s with heap:=h',gens:=g',drawn:=d',toks:=t' }:=by
 obtain⟨m,⟨o,es,ep,ho,r⟩,_⟩:=id I.loc;obtain⟨sl,hL⟩:=u.any ho I.free fun z=>(hch _ z).2.1 rfl;exact I.step (ch:=ch) hch (fun b o hL hb hc e n=>u.keep b o e n (fun z=>(QL.mp (I.stkSub b z)).elim hL hb) hc) (fun b o _ _ hc e n=>u.any e n hc) (fun b o hc e n=>u.free b o e n hc) (fun b o hc e=>u.there b o e hc) u.tups u.frzs u.tbls (fun m' hm=>by obtain⟨o',es',ep',ho',r'⟩:=hm;rw[ho]at ho';cases ho';exact⟨_,es',ep',hL,r'⟩) hok hg
theorem Inv.turned{t':Nat}{it:Addr}(I:Inv X pins σ H s)(k:∀b o,b≠it->s.heap.get? b=some o->h'.get? b=some o)(hn:H it=none)(hL:it≠X.env.locals)
  (h1:it∈X.ex∨X.s₀.heap.objs.size<=it) (h2:∀x c,X.env.cells.lookup x=some c->c≠it) (h3:∀p∈X.pn++pins,p.1≠it):Inv X pins σ H { s with heap:=h',toks:=t' }:=by
 have nit:∀b u,H b=some u->b≠it:=fun b u e z=>by rw[z,hn]at e;cases e
 refine I.step (g':=s.gens) (d':=s.drawn) (ch:=[it]) (fun b hb=>?_) (fun b o _ _ hc e _=>k b o (fun z=>hc (by simp[z])) e) (fun b o _ _ hc e _=>⟨o.slots,k b o (fun z=>hc (by simp[z])) e⟩) (fun _ _ _ _ n=>n)
  (fun b o hc e=>⟨o,k b o (fun z=>hc (by simp[z])) e⟩) (fun _ _ e=>e) (fun _ _ _ e=>e) (fun b ps e=>⟨#[],by rw[e];simp⟩) (fun m hm=>?_) (fun b u e=>?_) I.bare
 have e:b=it:=by simpa using hb
 subst e;exact⟨h1,hL,h2,h3⟩;obtain⟨o,es,ep,ho,r⟩:=hm;exact⟨o,es,ep,k _ o (Qu hL) ho,r⟩;refine(I.hok b u e).stay (fun c v hc q=>k c v ?_ q) (fun _ q=>q) fun _ _ q=>q;rcases hc with z|z;rw[z];exact nit b u e;exact nit c _ z
theorem Inv.tok(I:Inv X pins σ H s)(t:Nat):Inv X pins σ H { s with toks:=t }:=I.un (h':=s.heap) (t':=t) Un.refl I.hok
theorem Inv.kept{t':Nat}(I:Inv X pins σ H s)(k:∀b u,s.heap.get? b=some u->h'.get? b=some u):Inv X pins σ H { s with heap:=h',toks:=t' }:=I.un (Un.kept k) (I.hok.kept k)
theorem Inv.laid{a:Addr}{o:HO}{t':Nat}(I:Inv X pins σ H s)(k:∀b u,s.heap.get? b=some u->h'.get? b=some u)(hp:s.heap.objs.size<=a)(new:DA X.prog X.w (FA H a o) h' a o) :
  Inv X pins σ (FA H a o) { s with heap:=h',toks:=t' }:=I.un (Un.laid k hp (I.hok.fresh hp)) (I.hok.laid k hp new)
theorem Inv.write{x e:Addr}{o:HO}{t':Nat}(I:Inv X pins σ H s)(mu:dl (H x))(he:e=x∨H e=some (.own x))(k:∀b u,b≠e->s.heap.get? b=some u->h'.get? b=some u)(heo:∃u,h'.get? e=some u)
  (new:DA X.prog X.w (FA H x o) h' x o):Inv X pins σ (FA H x o) { s with heap:=h',toks:=t' }:=I.un (Un.write mu he k heo) (I.hok.write mu he k heo new)
theorem Inv.pins_of{pins':ZB}(I:Inv X pins σ H s)(h:∀p∈pins',s.heap.get? p.1=some p.2/\H p.1=none/\p.1≠X.env.locals/\p.1∉X.fs/\∀v,p.2.data≠.cell v):Inv X pins' σ H s :=
 ⟨I.ok,I.os,I.bare,I.base,I.loc,I.cell,I.free,I.freeC,fun p hp=>(Q2.mp hp).elim (fun z=>I.pin p (wK _ z)) (h p),I.hok,I.len⟩
theorem RL{N:List Str}(hN:N.Nodup){i j:Nat}{x:Str}(a:N[i]?=some x)(b:N[j]?=some x):i=j:=by obtain⟨h1,e1⟩:=Qr.mp a;obtain⟨h2,e2⟩:=Qr.mp b;exact(List.getElem_inj hN).mp (e1.trans e2.symm)
theorem CN{M:Model}{A:Around}{E:NB}{i:Nat}{x:Str}{v:V}{u:Value}{Q:Unit->Shared->Prop}(I:Inv X pins σ H s)(hN:X.N.Nodup)(hi:X.N[i]?=some x)(hx:gl X.env.scope x)(r:sA v u)
  (h:∀s',Inv X pins (σ.set i (some v)) H s'->(∃a,qj a s.heap s'.heap/\(a=X.env.locals∨X.env.cells.lookup x=some a))->Q () s') (hf:X.fn x=true∨X.env.scope.names.lookup x=some .local):wpAny M A (storeName X.env x u) Q E s:=by
 obtain⟨m,hn,hl⟩:=id I.loc;have hcls:(X.env.scope.kind==.class||(X.env.scope.kind==.module&&X.env.locals != X.env.globals))=false:=by rw[I.ok.kind];rfl
 have hiσ:i<σ.length:=by rw[I.len];exact(Qr.mp hi).1
 have cne:=I.cne;have tracked:∀{a:Addr}{h':Heap},(∃o,s.heap.get? a=some o/\H a=none)->qj a s.heap h'->UH X.prog X.w H h':=fun {a h'} ha hs b ob e=>by obtain⟨_,_,hfree⟩:=ha;refine(I.hok b ob e).stay (fun c w' hc q=>(hs.2 c ?_).trans q) (fun _ q=>q) fun _ _ q=>q;rintro rfl;rcases hc with rfl|hc;rw[hfree]at e;cases e;rw[hfree]at hc;cases hc
 rcases hx with hk|hk;refine wpAny_storeName_local hk hn (fun h' hn' hs=>?_) hcls;obtain⟨oL,_,_,hoL,_⟩:=id hn;refine h _ ⟨I.ok,I.os,I.bare,⟨fun b o e n hb hx=>?_,fun b o e n hb hx=>?_,I.base.free,fun b o e hx=>?_,I.base.tups,I.base.frzs,I.base.tbls⟩,⟨_,hn',fun j y v' e1 e2 e3=>?_⟩,fun y c e=>?_,I.free,I.freeC,fun p hp=>?_,tracked ⟨oL,hoL,I.free⟩ hs,by simpa using I.len⟩ ⟨_,hs,.inl rfl⟩;exact(hs.2 b (Qx (Qg (QO e) I.ok.above))).trans (I.base.keep b o e n hb hx);obtain⟨sl,e1⟩:=I.base.slot b o e n hb hx;exact⟨sl,(hs.2 b (Qx (Qg (QO e) I.ok.above))).trans e1⟩;obtain⟨o',e1⟩:=I.base.there b o e hx;exact⟨o',(hs.2 b (Qx (Qg (QO e) I.ok.above))).trans e1⟩;by_cases hj:j=i
 ·subst hj
  rw[hi]at e1;cases e1;rw[Q4 hiσ]at e2;cases e2;exact⟨u,r,.inl ⟨hk,by simp⟩⟩
 rw[Qm (Qu hj)]at e2;obtain⟨u',r',q⟩:=hl j y v' e1 e2 e3;refine⟨u',r',?_⟩;rcases q with⟨k,e⟩| ⟨k,c,e,z⟩
 refine .inl ⟨k,?_⟩;have:y≠x:=fun e=>hj (RL hN e1 (e▸hi));simp[this,e];exact .inr ⟨k,c,e,z.sameBut hs (cne y c e)⟩;obtain⟨w',z⟩:=I.cell y c e;exact⟨w',z.sameBut hs (cne y c e)⟩;obtain⟨e,n,ne,nf,d⟩:=I.pin p hp;exact⟨(hs.2 p.1 ne).trans e,n,ne,nf,d⟩;have hfn:X.fn x=true:=by rcases hf with z|z;exact z;rw[z]at hk;cases hk
 obtain⟨c,hc⟩:=I.ok.has x (.inl hk);obtain⟨w',z⟩:=I.cell x c hc;refine wpAny_storeName_cell I.ok.kind hk hc z (fun h' hc' hs=>?_);obtain⟨oc,hoc,hocd⟩:=id z;refine h { s with heap:=h' } ⟨I.ok,I.os,I.bare,⟨fun b o e n hb hx=>?_,fun b o e n hb hx=>?_,I.base.free,fun b o e hx=>?_,I.base.tups,I.base.frzs,I.base.tbls⟩,⟨m,hn.sameBut hs (Qu (cne x c hc)),fun j y v' e1 e2 e3=>?_⟩,fun y c' e=>?_,I.free,I.freeC,fun p hp=>?_,tracked ⟨oc,hoc,I.freeC x c hc⟩ hs,by simpa using I.len⟩ ⟨c,hs,.inr hc⟩;exact(hs.2 b (Qx (Qg (QO e) (I.ok.cab x c hfn hc)))).trans (I.base.keep b o e n hb hx);obtain⟨sl,e1⟩:=I.base.slot b o e n hb hx;exact⟨sl,(hs.2 b (Qx (Qg (QO e) (I.ok.cab x c hfn hc)))).trans e1⟩;obtain⟨o',e1⟩:=I.base.there b o e hx;exact⟨o',(hs.2 b (Qx (Qg (QO e) (I.ok.cab x c hfn hc)))).trans e1⟩;by_cases hj:j=i
 ·subst hj
  rw[hi]at e1;cases e1;rw[Q4 hiσ]at e2;cases e2;exact⟨u,r,.inr ⟨.inl hk,c,hc,hc'⟩⟩
 rw[Qm (Qu hj)]at e2;obtain⟨u',r',q⟩:=hl j y v' e1 e2 e3;refine⟨u',r',?_⟩;rcases q with q|⟨k,c',e,z'⟩
 exact .inl q;refine .inr ⟨k,c',e,z'.sameBut hs ?_⟩;rintro rfl;exact hj (RL hN e1 (I.ok.inj _ _ _ e hc▸hi));by_cases hcc:c'=c
 ·subst hcc;exact⟨_,hc'⟩
 obtain⟨w2,z2⟩:=I.cell y c' e;exact⟨w2,z2.sameBut hs hcc⟩;obtain⟨e,n,ne,nf,d⟩:=I.pin p hp;refine⟨(hs.2 p.1 ?_).trans e,n,ne,nf,d⟩;intro q;rw[q,hoc]at e;have q':oc=p.2:=QW e;exact d w' (by rw[<- q'];exact hocd)
theorem GI{M:Model}{A:Around}{E:NB}{i:Nat}{x:Str}{v:V}{u:Value}{Q:Unit->Shared->Prop}(I:Inv X pins σ H s)(hN:X.N.Nodup)(hi:X.N[i]?=some x)(hx:gl X.env.scope x)(r:sA v u)
  (h:∀s',Inv X pins (σ.set i (some v)) H s'->Q () s') (hf:X.fn x=true∨X.env.scope.names.lookup x=some .local):wpAny M A (storeName X.env x u) Q E s :=
 CN I hN hi hx r (fun s' I' _=>h s' I') hf
theorem Inv.call'{s':Shared}{ch:List Addr}(I:Inv X pins σ H s)(ho:s'.os=s.os)(u:Un (dO X.stack) ch H H' s.heap s'.heap)(hok:UH X.prog X.w H' s'.heap)(hg:AllBare s'.gens)
  (hch:∀b∈ch,(b∈X.ex∨X.s₀.heap.objs.size<=b)/\b≠X.env.locals/\(∀x c,X.env.cells.lookup x=some c->c≠b)/\∀p∈X.pn++pins,p.1≠b):Inv X pins σ H' s':=by
 obtain⟨h',g',d',t',o'⟩:=s';have e:o'=s.os:=ho;subst e;exact I.call (g':=g') (t':=t') (d':=d') u hok hg hch
end
noncomputable abbrev XK:=Value->Option Addr->Hp->Prop
noncomputable abbrev St:=List (Option V)
noncomputable abbrev VK:=V->Hp->Prop
noncomputable abbrev TE:=St->Hp->VK->Prop
noncomputable abbrev TT:=St->Hp->(Bool->Hp->Prop)->Prop
noncomputable abbrev TA:=St->Hp->(List V->Hp->Prop)->Prop
structure Ends where
 nx:St->Hp->Prop
 rt:VK
 bk:St->Hp->Prop:=fun _ _=>False
 ct:St->Hp->Prop:=fun _ _=>False
noncomputable abbrev TS:=Ends->St->Hp->Prop
def EP(X:Cx)(pins:ZB)(σ:St)(Q:VK)(u:Value)(s':Shared):Prop:=∃v H',Inv X pins σ H' s'/\sA v u/\Q v H'
def TP(X:Cx)(pins:ZB)(σ:St)(Q:Bool->Hp->Prop)(b:Bool)(s':Shared):Prop:=∃H',Inv X pins σ H' s'/\Q b H'
def AP(X:Cx)(pins:ZB)(σ:St)(Q:List V->Hp->Prop)(us:List Value)(s':Shared):Prop:=∃vs H',Inv X pins σ H' s'/\pA vs us/\Q vs H'
def SP(X:Cx)(pins:ZB)(D:Ends)(f:Flow)(s':Shared):Prop :=
 match f with
 | .next=>∃σ' H',Inv X pins σ' H' s'/\D.nx σ' H'
 | .brk=>∃σ' H',Inv X pins σ' H' s'/\D.bk σ' H'
 | .cont=>∃σ' H',Inv X pins σ' H' s'/\D.ct σ' H'
 | .ret u=>∃v σ' H',Inv X pins σ' H' s'/\sA v u/\D.rt v H'
def PE(X:Cx)(e:Expr)(t:TE):Prop :=
 ∀(pins:ZB) (s:Shared) (σ:St) (H:Hp) (Q:VK),Inv X pins σ H s->t σ H Q->wpAny (model X.prog X.w) X.A (eval e X.env) (EP X pins σ Q) X.xe s
def PT(X:Cx)(e:Expr)(t:TT):Prop :=
 ∀(pins:ZB) (s:Shared) (σ:St) (H:Hp) (Q:Bool->Hp->Prop),Inv X pins σ H s->t σ H Q->wpAny (model X.prog X.w) X.A (isTrue e X.env (eval e X.env)) (TP X pins σ Q) X.xe s
def PW(X:Cx)(e:Expr)(t:TT):Prop :=
 ∀(whole:Sem Value) (pins:ZB) (s:Shared) (σ:St) (H:Hp) (Q:Bool->Hp->Prop),Inv X pins σ H s->t σ H Q->wpAny (model X.prog X.w) X.A (isTrue e X.env whole) (TP X pins σ Q) X.xe s
theorem PW.pt{X:Cx}{e:Expr}{t:TT}(h:PW X e t):PT X e t:=h _
def PA(X:Cx)(es:List Expr)(t:TA):Prop :=
 ∀(pos:Pos) (pins:ZB) (s:Shared) (σ:St) (H:Hp) (Q:List V->Hp->Prop),Inv X pins σ H s->t σ H Q->wpAny (model X.prog X.w) X.A (spliced (backTo pos (starEach es X.env))) (AP X pins σ Q) X.xe s
def PS(X:Cx)(st:Stmt)(t:TS):Prop :=
 ∀(pins:ZB) (s:Shared) (σ:St) (H:Hp) (D:Ends),Inv X pins σ H s->t D σ H->wpAny (model X.prog X.w) X.A (exec st X.env) (SP X pins D) X.xe s
def gW(X:Cx)(st:List Stmt)(t:TS):Prop :=
 ∀(pins:ZB) (s:Shared) (σ:St) (H:Hp) (D:Ends),Inv X pins σ H s->t D σ H->wpAny (model X.prog X.w) X.A (execs st X.env) (SP X pins D) X.xe s
theorem EA{α:Type}{t:Sem α}{Q Q':α->Shared->Prop}{M:Model}{A:Around}{E:NB}{s:Shared}(h:wpAny M A t Q E s)(hQ:∀a s,Q a s->Q' a s):wpAny M A t Q' E s:=qQ h hQ fun _ _ x=>x
section
variable{X:Cx}
theorem bin{a b:Expr}{ta tb:TE}(ha:PE X a ta)(hb:PE X b tb){pins:ZB}{s:Shared}{σ:St}{H:Hp}{R:V->V->Hp->Prop}(I:Inv X pins σ H s)(h:ta σ H fun x H1=>tb σ H1 fun y H2=>R x y H2)
  {α:Type}{Q:α->Shared->Prop}{f:Value->Value->Sem α}
  (hf:∀v u s2 x y H2,Inv X pins σ H2 s2->sA x v->sA y u->R x y H2->wpAny (model X.prog X.w) X.A (f v u) Q X.xe s2) :
  wpAny (model X.prog X.w) X.A (eval a X.env) (fun v s₁=>wpAny (model X.prog X.w) X.A (eval b X.env) (fun u s₂=>wpAny (model X.prog X.w) X.A (f v u) Q X.xe s₂) X.xe s₁) X.xe s:=by
 refine EA (ha pins s σ H _ I h) fun v s1 ⟨x,H1,I1,r1,q1⟩=>?_;refine EA (hb pins s1 σ H1 _ I1 q1) fun u s2 ⟨y,H2,I2,r2,q2⟩=>?_;exact hf v u s2 x y H2 I2 r1 r2 q2
noncomputable def GO(i:Nat):TE:=fun σ H Q=>∃v,σ[i]?=some (some v)/\Q v H
noncomputable def tC(v:V):TE:=fun _ H Q=>Q v H
theorem BJ{i:Nat}{x:Str}{pos:Pos}(hN:X.N[i]?=some x)(hv:Kk X.env.scope x)(hd:(x==("__debug__":Str))=false:=by decide)(hcd:(x==("__classdict__":Str))=false:=by decide):PE X (.Name x pos) (GO i):=by
 intro pins s σ H Q I h;obtain⟨v,e,h⟩:=h;obtain⟨m,hn,hl⟩:=I.loc;obtain⟨u,r,l⟩:=hl i x v hN e hv;have fin:EP X pins σ Q u s:=⟨v,H,I,r,h⟩
 rcases l with⟨hk,hm⟩| ⟨hk,c,hc,hcell⟩
 exact QCn (wpAny_loadName_local I.ok.kind hk hn hm fin) hd;rcases hk with hk|hk
 ·exact QCn (wpAny_loadName_cell I.ok.kind hk hc hcell fin) hd
 exact QCn (wpAny_loadName_free I.ok.kind hk hc hcell fin hcd) hd
theorem aZ{i j pos}:PE X (.Constant (.int i) j pos) (tC (.int i)):=fun _ _ _ H _ I h=>wpAny_Constant_int ⟨.int i,H,I.tok _,⟨_,rfl⟩,h⟩
theorem G9{b j pos}:PE X (.Constant (.bool b) j pos) (tC (.bl b)):=fun _ _ _ H _ I h=>Constant_bool ⟨.bl b,H,I,rfl,h⟩
theorem sZ{j pos}:PE X (.Constant .none j pos) (tC .non):=fun _ _ _ H _ I h=>Constant_none ⟨.non,H,I,rfl,h⟩
theorem VL{x j pos}:PE X (.Constant (.str x) j pos) (tC (.str x)):=fun _ _ _ H _ I h=>Calls.Constant_str ⟨.str x,H,I.tok _,⟨_,rfl⟩,h⟩
def Gl(X:Cx)(x:Str):Prop:=X.env.kindOf x=some .globalImplicit
theorem zJ{E:NB}{pins:ZB}{s:Shared}{σ:St}{H:Hp}{x:Str}{u:Value}{pos:Pos}{Q:NB}(I:Inv X pins σ H s)(hg:Gl X x)(hm:X.mg x=some u)(h:Q u s)
  (hd:(x==("__debug__":Str))=false:=by decide):wpAny (model X.prog X.w) X.A (eval (.Name x pos) X.env) Q E s :=
 wv I.ok.kind hg (QAk (by rw[I.ok.glob];exact I.mod.glob.keeps I.bk) hm h) hd
theorem NG{E:NB}{pins:ZB}{s:Shared}{σ:St}{H:Hp}{x:Str}{u:Value}{pos:Pos}{Q:NB}(I:Inv X pins σ H s)(hg:Gl X x)(hm:X.mg x=none)(hv:bootBuiltins x=some u)(h:Q u s)
  (hn:x≠"__name__":=by decide) (hd:(x==("__debug__":Str))=false:=by decide):wpAny (model X.prog X.w) X.A (eval (.Name x pos) X.env) Q E s:=by
 obtain⟨mb,h1,h2⟩:=I.mod.blt;exact wv I.ok.kind hg (Calls.loadGlobal_builtin (by rw[I.ok.glob];exact I.mod.glob.keeps I.bk) hm (by rw[I.ok.blt];exact h1.keeps I.bk) ((h2 x hn).trans hv) h) hd
theorem S6{x:Str}{v:V}{u:Value}{pos:Pos}(hg:Gl X x)(hm:X.mg x=some u)(r:sA v u)(hd:(x==("__debug__":Str))=false:=by decide):PE X (.Name x pos) (tC v) :=
 fun _ _ _ H _ I h=>zJ I hg hm ⟨v,H,I,r,h⟩ hd
theorem u7{x:Str}{v:V}{u:Value}{pos:Pos}(hg:Gl X x)(hm:X.mg x=none)(hv:bootBuiltins x=some u)(r:sA v u)(hn:x≠"__name__":=by decide)(hd:(x==("__debug__":Str))=false:=by decide):PE X (.Name x pos) (tC v) :=
 fun _ _ _ H _ I h=>NG I hg hm hv ⟨v,H,I,r,h⟩ hn hd
variable{a b:Expr}{ta tb:TE}{pos:Pos}
def PC(X:Cx)(op:CmpOp)(a b:Expr)(t:TE):Prop :=
 ∀(pins:ZB) (s:Shared) (σ:St) (H:Hp) (Q:VK),Inv X pins σ H s->t σ H Q ->
  wpAny (model X.prog X.w) X.A (eval a X.env) (fun v s₁=>wpAny (model X.prog X.w) X.A (eval b X.env) (fun u s₂=>wpAny (model X.prog X.w) X.A (compareOp op v u) (EP X pins σ Q) X.xe s₂) X.xe s₁) X.xe s
noncomputable def tB(t:TE):TT:=fun σ H Q=>t σ H fun x H1=>∃c,x=.bl c/\Q c H1
theorem JZ{op:CmpOp}{t:TE}(h:PC X op a b t)(h1:behindInMarks op b=false:=by first|exact nobehind _ (by decide) (by decide)|rfl):PE X (.Compare a [op] [b] pos) t:=fun pins s σ H Q I hw=>wpAny_Compare1 (h pins s σ H Q I hw) h1
theorem dZ{op:CmpOp}{t:TE}(h:PC X op a b t)(h1:behindInMarks op b=false:=by first|exact nobehind _ (by decide) (by decide)|rfl):PT X (.Compare a [op] [b] pos) (tB t):=by intro pins s σ H Q I hw;refine QA4 (EA (h pins s σ H _ I hw) fun v s1 h1=>EA h1 fun u s2 h2=>EA h2 fun c s3 ⟨x,H1,I1,r1,q1⟩=>?_) h1;obtain⟨d,rfl,q⟩:=q1;cases r1;exact qR ⟨H1,I1,q⟩
variable{tA tB':TT}{rest:List Expr}
noncomputable def Ym(t u:TT):TT:=fun σ H Q=>t σ H fun c H1=>if c=true then u σ H1 Q else Q false H1
noncomputable def Cp(t u:TT):TT:=fun σ H Q=>t σ H fun c H1=>if c=true then Q true H1 else u σ H1 Q
noncomputable def cm(t:TT):TT:=fun σ H Q=>t σ H fun c H1=>Q (!c) H1
theorem X6(ha:PT X a tA):PW X (.BoolOp .And [a] pos) tA:=by
 intro wh pins s σ H Q I h;refine isTrue_and (EA (ha pins s σ H Q I h) fun c s1 e=>?_);cases c with
 |true=>exact isTrue_and_nil e
 |false=>exact e
theorem ue(ha:PT X a tA):PW X (.BoolOp .Or [a] pos) tA:=by
 intro wh pins s σ H Q I h;refine isTrue_or (EA (ha pins s σ H Q I h) fun c s1 e=>?_);cases c with
 |false=>exact isTrue_or_nil e
 |true=>exact e
theorem bZ(ha:PT X a tA)(hb:PW X (.BoolOp .And (b::rest) pos) tB'):PW X (.BoolOp .And (a::b::rest) pos) (Ym tA tB'):=by
 intro wh pins s σ H Q I h;refine isTrue_and (EA (ha pins s σ H _ I h) fun c s1 ⟨H1,I1,q1⟩=>?_);cases c with
 |true=>exact hb wh pins s1 σ H1 Q I1 q1
 |false=>exact⟨H1,I1,q1⟩
theorem B9(ha:PT X a tA)(hb:PW X (.BoolOp .Or (b::rest) pos) tB'):PW X (.BoolOp .Or (a::b::rest) pos) (Cp tA tB'):=by
 intro wh pins s σ H Q I h;refine isTrue_or (EA (ha pins s σ H _ I h) fun c s1 ⟨H1,I1,q1⟩=>?_);cases c with
 |true=>exact⟨H1,I1,q1⟩
 |false=>exact hb wh pins s1 σ H1 Q I1 q1
theorem be(ha:PT X a tA):PT X (.UnaryOp .Not a pos) (cm tA):=by intro pins s σ H Q I h;exact isTrue_not (ha pins s σ H (fun c H1=>Q (!c) H1) I h)
noncomputable def Zh(ta tb:TE):TE:=fun σ H Q=>ta σ H fun x H1=>∃c,x=.bl c/\if c=true then tb σ H1 Q else Q (.bl false) H1
noncomputable def bm(ta tb:TE):TE:=fun σ H Q=>ta σ H fun x H1=>∃c,x=.bl c/\if c=true then Q (.bl true) H1 else tb σ H1 Q
theorem rZ{op}{t:TE}(h:PE X a t):PE X (.BoolOp op [a] pos) t:=fun pins s σ H Q I hw=>BoolOp_one (h pins s σ H Q I hw)
theorem KZ(ha:PE X a ta)(hb:PE X (.BoolOp .And (b::rest) pos) tb):PE X (.BoolOp .And (a::b::rest) pos) (Zh ta tb):=by
 intro pins s σ H Q I h;refine BoolOp_and (EA (ha pins s σ H _ I h) fun v s1 ⟨x,H1,I1,r1,q1⟩=>?_);obtain⟨c,rfl,q1⟩:=q1;cases r1;refine qR ?_;cases c with
 |true=>exact hb pins s1 σ H1 Q I1 q1
 |false=>exact⟨.bl false,H1,I1,rfl,q1⟩
theorem C9(ha:PE X a ta)(hb:PE X (.BoolOp .Or (b::rest) pos) tb):PE X (.BoolOp .Or (a::b::rest) pos) (bm ta tb):=by
 intro pins s σ H Q I h;refine BoolOp_or (EA (ha pins s σ H _ I h) fun v s1 ⟨x,H1,I1,r1,q1⟩=>?_);obtain⟨c,rfl,q1⟩:=q1;cases r1;refine qR ?_;cases c with
 |false=>exact hb pins s1 σ H1 Q I1 q1
 |true=>exact⟨.bl true,H1,I1,rfl,q1⟩
noncomputable def Dp(t:TT)(ta tb:TE):TE:=fun σ H Q=>t σ H fun c H1=>if c=true then ta σ H1 Q else tb σ H1 Q
theorem iZ{c:Expr}(hc:PT X c tA)(ha:PE X a ta)(hb:PE X b tb):PE X (.IfExp c a b pos) (Dp tA ta tb):=by
 intro pins s σ H Q I h;refine wpAny_IfExp (EA (hc pins s σ H _ I h) fun d s1 ⟨H1,I1,q1⟩=>?_);cases d with
 |true=>exact ha pins s1 σ H1 Q I1 q1
 |false=>exact hb pins s1 σ H1 Q I1 q1
end
def ID(K:QC)(H:Hp)(a:Addr)(xs:List V):Prop :=
 Rd H a (.lst xs) ∨
  ∃(o:Obj) (its:Array Value) (n:Nat),K.lookup a=some o/\o.cls=.type "list"/\o.dict=none/\o.data=.seq its n/\its.size<=sizeLine/\pA xs its.toList
def LE(K:QC)(H:Hp)(a:Addr)(xs:List V):Prop :=
 Rd H a (.tup xs) ∨
  ∃(o:Obj) (its:Array Value) (n:Nat),K.lookup a=some o/\o.cls=.type "tuple"/\o.data=.seq its n/\its.size<=sizeLine/\pA xs its.toList
noncomputable def GK:Value->Option V
 | .none=>some .non
 | .bool b=>some (.bl b)
 | .int i _=>some (.int i)
 | .str x _=>some (.str x)
 | .bytes b _=>some (.byt b)
 | .float b _=>some (.flt b)
 | .ref a=>some (.ref a)
 | .type n=>some (.ty n)
 |_=>none
theorem sA.abs{x:V}{u:Value}(r:sA x u):GK u=some x:=by
 cases x with
 |non=>cases r;rfl
 |bl _=>cases r;rfl
 |int _=>obtain⟨t,rfl⟩:=r;rfl
 |str _=>obtain⟨t,rfl⟩:=r;rfl
 |byt _=>obtain⟨t,rfl⟩:=r;rfl
 |flt _=>obtain⟨t,rfl⟩:=r;rfl
 |ref _=>cases r;rfl
 |ty _=>cases r;rfl
theorem sA.inj{x y:V}{u:Value}(r:sA x u)(q:sA y u):x=y:=QW (r.abs.symm.trans q.abs)
theorem pA.inj:∀{xs ys:List V}{us:List Value},pA xs us->pA ys us->xs=ys
 |_,_,_,.nil,.nil=>rfl
 |_,_,_,.cons r t,.cons r' t'=>by rw[r.inj r',pA.inj t t']
section
variable{X:Cx}{pins:ZB}{σ:St}{H:Hp}{s:Shared}{a:Addr}{xs ys:List V}
theorem ID.of{K:QC}(h:H a=some (.lst xs)):ID K H a xs:=.inl (.inl h)
theorem LE.of{K:QC}(h:H a=some (.tup xs)):LE K H a xs:=.inl (.inl h)
theorem Inv.list(I:Inv X pins σ H s)(h:ID X.K H a xs):∃its:List Value,pA xs its/\PlainL s.heap a its.toArray/\xs.length<=sizeLine:=by
 rcases h with h|⟨o,its,n,hk,hc,hd,hs,hz,r⟩
 obtain⟨z,its,n,r,e⟩:=h.ok I.hok;exact⟨its,r,⟨_,n,e,rfl,rfl,rfl⟩,z⟩;refine⟨its.toList,r,⟨o,n,I.kIn a o hk,hc,hd,by simpa using hs⟩,?_⟩;have e:=r.length;simp only[Qh]at e;omega
theorem Inv.tuple(I:Inv X pins σ H s)(h:LE X.K H a xs):∃its:List Value,pA xs its/\IsTup s.heap a its.toArray/\xs.length<=sizeLine:=by
 rcases h with h|⟨o,its,n,hk,hc,hs,hz,r⟩
 obtain⟨z,its,r,p⟩:=h.ok I.hok;exact⟨its,r,p,z⟩;refine⟨its.toList,r,⟨o,I.kIn a o hk,hc,n,by simpa using hs⟩,?_⟩;have e:=r.length;simp only[Qh]at e;omega
theorem Inv.list_inj(I:Inv X pins σ H s)(h:ID X.K H a xs)(h':ID X.K H a ys):xs=ys:=by
 obtain⟨its,r,⟨o,n,e,_,_,d⟩,_⟩:=I.list h;obtain⟨its',r',⟨o',n',e',_,_,d'⟩,_⟩:=I.list h';rw[e]at e';cases e';rw[d]at d';injection d' with d1 _;have:its=its':=by simpa using congrArg QCB d1
 subst this;exact r.inj r'
theorem Inv.tuple_inj(I:Inv X pins σ H s)(h:LE X.K H a xs)(h':LE X.K H a ys):xs=ys:=by
 obtain⟨its,r,⟨o,e,_,n,d⟩,_⟩:=I.tuple h;obtain⟨its',r',⟨o',e',_,n',d'⟩,_⟩:=I.tuple h';rw[e]at e';cases e';rw[d]at d';injection d' with d1 _;have:its=its':=by simpa using congrArg QCB d1
 subst this;exact r.inj r'
end
noncomputable abbrev Cx.wish(X:Cx)(E:NB):Cx:={ X with xe:=E }
noncomputable abbrev Cx.nox(X:Cx):Cx:=X.wish fun _ _=>False
theorem Cx.Ok.wish{X:Cx}(ok:X.Ok)(E:NB):(X.wish E).Ok :=
 ⟨ok.mod,ok.kind,ok.glob,ok.blt,ok.above,ok.inj,ok.has,ok.cab,ok.hd,ok.frames,ok.stk,ok.exf,ok.bs,ok.bsz,ok.noex,ok.exfs,ok.funs,ok.frf⟩
theorem Cx.Ok.unwish{X:Cx}{E:NB}(ok:(X.wish E).Ok):X.Ok :=
 ⟨ok.mod,ok.kind,ok.glob,ok.blt,ok.above,ok.inj,ok.has,ok.cab,ok.hd,ok.frames,ok.stk,ok.exf,ok.bs,ok.bsz,ok.noex,ok.exfs,ok.funs,ok.frf⟩
section
variable{X:Cx}{pins:ZB}{σ:St}{H:Hp}{s:Shared}{E:NB}
theorem Inv.wish(I:Inv X pins σ H s)(E:NB):Inv (X.wish E) pins σ H s:=⟨I.ok.wish E,I.os,I.bare,I.base,I.loc,I.cell,I.free,I.freeC,I.pin,I.hok,I.len⟩
theorem Inv.unwish(I:Inv (X.wish E) pins σ H s):Inv X pins σ H s:=⟨I.ok.unwish,I.os,I.bare,I.base,I.loc,I.cell,I.free,I.freeC,I.pin,I.hok,I.len⟩
theorem SP.unwish{D:Ends}{f:Flow}{s':Shared}(h:SP (X.wish E) pins D f s'):SP X pins D f s':=by
 cases f with
 |next=>obtain⟨σ',H',I,q⟩:=h;exact⟨σ',H',I.unwish,q⟩
 |brk=>obtain⟨σ',H',I,q⟩:=h;exact⟨σ',H',I.unwish,q⟩
 |cont=>obtain⟨σ',H',I,q⟩:=h;exact⟨σ',H',I.unwish,q⟩
 |ret u=>obtain⟨v,σ',H',I,r,q⟩:=h;exact⟨v,σ',H',I.unwish,r,q⟩
theorem gW.nox{st:List Stmt}{t:TS}(h:gW X.nox st t):gW X st t:=fun pins s σ H D I hw =>
 qQ (h pins s σ H D (I.wish _) hw) (fun _ _ q=>q.unwish) fun _ _ z=>QR z
end
section
variable{X:Cx}{st:Stmt}{rest:List Stmt}{t u:TS}{e:Expr}{te:TE}{pos:Pos}
noncomputable def ph:TS:=fun D σ H=>D.nx σ H
noncomputable def vm(t u:TS):TS:=fun D σ H=>t { D with nx:=u D } σ H
theorem hV:gW X [] ph:=fun _ _ σ H _ I h=>we ⟨σ,H,I,h⟩
theorem YL(h1:PS X st t)(h2:gW X rest u):gW X (st::rest) (vm t u):=by
 intro pins s σ H D I h;refine WF (EA (h1 pins s σ H { D with nx:=u D } I h) fun f s1 q=>?_);cases f with
 |next=>obtain⟨σ',H',I',q⟩:=q;exact h2 pins s1 σ' H' D I' q
 |ret v=>exact q
 |brk=>exact q
 |cont=>exact q
theorem B6(h1:PS X st t):gW X [st] t:=by
 intro pins s σ H D I h;refine WF (EA (h1 pins s σ H D I h) fun f s1 q=>?_);cases f with
 |next=>exact we q
 |ret v=>exact q
 |brk=>exact q
 |cont=>exact q
theorem Inv.quiet{pins:ZB}{σ:St}{H:Hp}{s:Shared}(I:Inv X pins σ H s):interactive X.env=false:=by simp[interactive,I.ok.kind]
noncomputable def rh(te:TE):TS:=fun D σ H=>te σ H fun _ H1=>D.nx σ H1
theorem lV(he:PE X e te)(hs:swapsWith e none pos.line X.env=pure false:=by rfl):PS X (.Expr e pos) (rh te):=by intro pins s σ H D I h;exact wpAny_Expr_any (EA (he pins s σ H _ I h) fun v s1 ⟨x,H1,I1,r1,q1⟩=>⟨σ,H1,I1,q1⟩) I.quiet hs
noncomputable def um(te:TE):TS:=fun D σ H=>te σ H D.rt
theorem de(he:PE X e te):PS X (.Return (some e) pos) (um te):=by intro pins s σ H D I h;exact wpAny_Return_some (EA (he pins s σ H _ I h) fun v s1 ⟨x,H1,I1,r1,q1⟩=>⟨x,σ,H1,I1,r1,q1⟩)
noncomputable def om(c:TT)(t u:TS):TS:=fun D σ H=>c σ H fun b H1=>if b=true then t D σ H1 else u D σ H1
theorem ei{c:Expr}{a b:List Stmt}{tc:TT}(hc:PT X c tc)(ha:gW X a t)(hb:gW X b u):PS X (.If c a b pos) (om tc t u):=by
 intro pins s σ H D I h;refine wpAny_If (EA (hc pins s σ H _ I h) fun d s1 ⟨H1,I1,q1⟩=>?_);cases d with
 |true=>exact ha pins s1 σ H1 D I1 q1
 |false=>exact hb pins s1 σ H1 D I1 q1
end
noncomputable abbrev TG:=V->St->Hp->(St->Hp->Prop)->Prop
noncomputable abbrev Jn:=List V->St->Hp->(St->Hp->Prop)->Prop
def PG(X:Cx)(target:Expr)(t:TG):Prop :=
 ∀(pins:ZB) (s:Shared) (σ:St) (H:Hp) (v:V) (u:Value) (Q:St->Hp->Prop),Inv X pins σ H s->sA v u->t v σ H Q ->
  wpAny (model X.prog X.w) X.A (assign target X.env u) (fun _ s'=>∃σ' H',Inv X pins σ' H' s'/\Q σ' H') X.xe s
def Jo(X:Cx)(ts:List Expr)(t:Jn):Prop :=
 ∀(pins:ZB) (s:Shared) (σ:St) (H:Hp) (vs:List V) (us:List Value) (Q:St->Hp->Prop),Inv X pins σ H s->pA vs us->t vs σ H Q ->
  wpAny (model X.prog X.w) X.A (assignInOrder ((assignEach ts X.env).map (·.2)) us) (fun _ s'=>∃σ' H',Inv X pins σ' H' s'/\Q σ' H') X.xe s
noncomputable abbrev Gg:=V->V->V->Hp->(Hp->Prop)->Prop
def Tk(X:Cx)(t:Gg):Prop :=
 ∀(pins:ZB) (s:Shared) (σ:St) (H:Hp) (o i v:V) (ov iv u:Value) (Q:Hp->Prop),Inv X pins σ H s->sA o ov->sA i iv->sA v u->t o i v H Q ->
  wpAny (model X.prog X.w) X.A (setItem ov iv u) (fun _ s'=>∃H',Inv X pins σ H' s'/\Q H') X.xe s
section
variable{X:Cx}{pos:Pos}
noncomputable def MV(i:Nat):TG:=fun v σ H Q=>Q (σ.set i (some v)) H
theorem pV{i:Nat}{x:Str}(hN:X.N.Nodup)(hi:X.N[i]?=some x)(hx:gl X.env.scope x)(hf:X.fn x=true∨X.env.scope.names.lookup x=some .local):PG X (.Name x pos) (MV i):=by intro pins s σ H v u Q I r h;exact QBr (GI I hN hi hx r (fun s' I'=>⟨_,H,I',h⟩) hf)
noncomputable def Em(K:QC)(n:Nat)(t:Jn):TG:=fun v σ H Q=>∃a xs,v=.ref a/\LE K H a xs/\xs.length=n/\t xs σ H Q
theorem Ze{es:List Expr}{k:Nat}{t:Jn}{n:Nat}(hc:X.calm=true)(h:Jo X es t)
  (hn:(assignEach es X.env).length=n:=by rfl) (hst:(assignEach es X.env).findIdx? (·.1)=none:=by rfl):PG X (.Tuple es k pos) (Em X.K n t):=by
 intro pins s σ H v u Q I r hw;obtain⟨a,xs,e1,hq,hl,hw⟩:=hw;subst e1;cases r;obtain⟨its,rv,ht,hz⟩:=I.tuple hq;refine assign_Tuple_tuple (I.ok.hd hc) ht (by simp[hn,<- hl,rv.length]) hst fun h' hx=>?_;have I1:Inv X pins σ H { s with heap:=h' }:=I.kept (t':=s.toks) fun b o e=>hx b o (Qx (QO e)) e;exact h pins _ σ H xs _ Q I1 (by simpa using rv) hw
noncomputable def Im(to ti:TE)(t:Gg):TG:=fun v σ H Q=>to σ H fun o H1=>ti σ H1 fun i H2=>t o i v H2 fun H3=>Q σ H3
theorem Ke{o i:Expr}{to ti:TE}{t:Gg}(ho:PE X o to)(hi:PE X i ti)(hs:Tk X t)
  (ha:∀v,assign (.Subscript o i pos) X.env v=(do
   let ov <- holding [v] (eval o X.env)
   let iv <- holding [v,ov] (eval i X.env)
   standAt pos
   holding [v,ov,iv] (setItem ov iv v)
   release [v,ov,iv] []):=by intro _;rfl):PG X (.Subscript o i pos) (Im to ti t):=by
 intro pins s σ H v u Q I r h;rw[ha];refine QE (WM (EA (ho pins s σ H _ I h) fun ov s1 ⟨x,H1,I1,r1,q1⟩=>?_));refine QE (WM (EA (hi pins s1 σ H1 _ I1 q1) fun iv s2 ⟨y,H2,I2,r2,q2⟩=>?_));refine QE (Wt (QE (WM (EA (hs pins s2 σ H2 x y v ov iv u _ I2 r1 r2 r q2) fun _ s3 ⟨H3,I3,q3⟩=>?_))));exact wpAny_release ⟨σ,H3,I3,q3⟩
noncomputable def Jd(te:TE)(g:TG):TS:=fun D σ H=>te σ H fun x H1=>g x σ H1 D.nx
theorem hZ{tg e:Expr}{te:TE}{g:TG}(he:PE X e te)(hg:PG X tg g)(hs:swapsWithSole [tg] e pos.line X.env=pure false:=by rfl)(hw:swappedStores [tg] e X.env=pure none:=by rfl)
  (h1:(assignEach [tg] X.env).map (·.2)=[assign tg X.env]:=by rfl):PS X (.Assign [tg] e pos) (Jd te g):=by
 intro pins s σ H D I h;refine wpAny_Assign_stores (EA (he pins s σ H _ I h) fun v s1 ⟨x,H1,I1,r1,q1⟩=>?_) hs hw;rw[h1];exact EA (hg pins s1 σ H1 x v _ I1 r1 q1) fun _ s2 q=>q
theorem gZ{i:Nat}{x:Str}{e:Expr}{te:TE}{pos':Pos}(hN:X.N.Nodup)(hi:X.N[i]?=some x)(hx:gl X.env.scope x)(he:PE X e te)(hs:swapsWith e (some (.Name x pos')) pos.line X.env=pure false:=by rfl)(hf:X.fn x=true∨X.env.scope.names.lookup x=some .local) :
  PS X (.Assign [.Name x pos'] e pos) (Jd te (MV i)):=by
 intro pins s σ H D I h;refine QBs (EA (he pins s σ H _ I h) fun v s1 ⟨y,H1,I1,r1,q1⟩=>?_) hs;exact GI I1 hN hi hx r1 (fun s2 I2=>⟨_,H1,I2,q1⟩) hf
end
section
variable{X:Cx}{pos:Pos}
end
structure It where
 go:Nat->Hp->Prop
 yld:Nat->Hp->V->Hp->Prop
 stop:Nat->Hp->Prop
def uK(X:Cx)(pins:ZB)(H:Hp)(b:Addr):Prop :=
 H b=none/\b≠X.env.locals/\b∉X.fs/\(b∈X.ex∨X.s₀.heap.objs.size<=b)/\(∀x c,X.env.cells.lookup x=some c->c≠b)/\∀p∈X.pn++pins,p.1≠b
theorem Inv.fpOk{X:Cx}{pins:ZB}{σ:St}{H H':Hp}{s:Shared}{b:Addr}(I:Inv X pins σ H s)(hb:s.heap.objs.size<=b)(hn:H' b=none):uK X pins H' b:=by refine⟨hn,Wf (Qg I.lt hb),I.nofs hb,.inr (qC I.sz hb),fun x c e z=>?_,fun p hp z=>?_⟩;obtain⟨v,q⟩:=I.cell x c e;exact absurd (Qg q.lt (by rw[z];exact hb)) (qi _);exact absurd (Qg (QO (I.pin p hp).1) (by rw[z];exact hb)) (qi _)
structure Turn(P:Program)(w:World)(K:QC)(tg:Expr)(J:It)(fp:List Addr)(it:Addr)(tn:Nat->Heap->Prop):Prop where
 mem:it∈fp
 obj:∀i h,tn i h->∀b∈fp,∃o,h.get? b=some o/\∀v,o.data≠.cell v
 keep:∀i h h',tn i h->(∀b∈fp,∀o,h.get? b=some o->h'.get? b=some o)->tn i h'
 item:∀(X:Cx),X.prog=P->X.w=w->X.K=K->X.calm=true->∀(i:Nat) (pins:ZB) (s:Shared) (σ:St) (H:Hp) (E:NB),Inv X pins σ H s->(∀b∈fp,uK X pins H b)->tn i s.heap->J.go i H ->
  wpAny (model P w) X.A (pyNext (.ref it)) (fun r s1=>∃u,r=some u /\
   wpAny (model P w) X.A (letOwnedTupleGo tg (.ref it) u) (fun _ s2=>∃x H',Inv X pins σ H' s2/\sA x u/\J.yld i H x H'/\tn (i+1) s2.heap/\∀b∈fp,H' b=none) E s1) E s
 done:∀(X:Cx),X.prog=P->X.w=w->X.K=K->X.calm=true->∀(i:Nat) (pins:ZB) (s:Shared) (σ:St) (H:Hp) (E:NB),Inv X pins σ H s->(∀b∈fp,uK X pins H b)->tn i s.heap->J.stop i H ->
  wpAny (model P w) X.A (pyNext (.ref it)) (fun r s1=>r=none/\Inv X pins σ H s1) E s
 self:∀(A:Around) (i:Nat) (s:Shared) (Q:NB) (E:NB),tn i s.heap->Q (.ref it) s->wpAny (model P w) A (pyIter (.ref it)) Q E s
noncomputable abbrev TI:=St->Hp->(It->Hp->Prop)->Prop
def ao(X:Cx)(pins:ZB)(σ:St)(tg:Expr)(R:It->Hp->Prop)(itv:Value)(s2:Shared):Prop :=
 ∃(it:Addr) (fp:List Addr) (tn:Nat->Heap->Prop) (J:It) (H':Hp),itv=.ref it/\Inv X pins σ H' s2/\Turn X.prog X.w X.K tg J fp it tn/\tn 0 s2.heap/\(∀b∈fp,uK X pins H' b)/\R J H'
def PI(X:Cx)(tg iter:Expr)(wi:TI):Prop :=
 ∀(pins:ZB) (s:Shared) (σ:St) (H:Hp) (R:It->Hp->Prop),Inv X pins σ H s->wi σ H R ->
  wpAny (model X.prog X.w) X.A (eval iter X.env) (fun v s1=>wpAny (model X.prog X.w) X.A (pyIter v) (ao X pins σ tg R) X.xe s1) X.xe s
theorem tR{M:Model}{A:Around}{E:NB}{s:Shared}{tg:Expr}{it:Addr}{u:Value}{o:Obj}{n:String}{vs:Array Value}{Q:Unit->Shared->Prop}(ho:s.heap.get? it=some o)(hc:o.cls=.type n)(hd:o.data=.fields vs)
    (hn:["enumerate","zip","dict_itemiterator","dict_reverseitemiterator","odict_iterator","itertools.zip_longest","itertools.pairwise"].contains n=false) (hQ:Q () s):wpAny M A (letOwnedTupleGo tg (.ref it) u) Q E s:=by
  unfold letOwnedTupleGo;cases tg<;>first
    |exact QT hQ
    | (cases u<;>first
        |exact QT hQ
        | (refine QE (QCo ho ?_)
           rw[hc,hd];show wpAny M A (if(["enumerate","zip","dict_itemiterator","dict_reverseitemiterator","odict_iterator","itertools.zip_longest","itertools.pairwise"].contains n&&vs[0]?==some (rawInt _))=true then _ else _) Q E s;rw[if_neg (by intro h;rw[hn,qg]at h;cases h)];exact QT hQ))
noncomputable def Eo(K:QC)(a:Addr):It :=
 ⟨fun i H=>∃xs x,ID K H a xs/\xs[i]?=some x,fun i H x H'=>H'=H/\∀xs,ID K H a xs->xs[i]?=some x,fun i H=>∃xs,ID K H a xs/\xs.length<=i⟩
noncomputable def Ao(K:QC)(a:Addr):It :=
 ⟨fun i H=>∃xs x,LE K H a xs/\xs[i]?=some x,fun i H x H'=>H'=H/\∀xs,LE K H a xs->xs[i]?=some x,fun i H=>∃xs,LE K H a xs/\xs.length<=i⟩
noncomputable def Xn(lo:Int)(n:Nat):It:=⟨fun i _=>i<n,fun i H x H'=>H'=H/\x=.int (lo+i),fun i _=>n<=i⟩
theorem YW{P:Program}{w:World}{K:QC}{tg:Expr}(a it:Addr):Turn P w K tg (Eo K a) [it] it (fun i h=>h.IsListIter it a i) where
 mem:=by simp
 obj:=fun i h st b hb=>by
  have e:b=it:=by simpa using hb
  subst e;obtain⟨o,e,c,d⟩:=st;exact⟨o,e,fun v z=>by rw[d]at z;cases z⟩
 keep:=fun i h h' st k=>st.at fun o e=>k it (by simp) o e
 item:=by intro X hP hw hK hc i pins s σ H E I hf st hg;subst hP hw hK;obtain⟨xs,x,hq,hx⟩:=hg;obtain⟨its,rv,p,hz⟩:=I.list hq;obtain⟨u,hu,ru⟩:=rv.get hx;obtain⟨f0,f1,f2,f3,f4,f5⟩:=hf it (by simp);refine wpAny_pyNext_list_item st p.isList (x:=u) (by simpa using hu) fun h' st' sb=>?_;have I1:Inv X pins σ H { s with heap:=h' }:=I.turned (t':=s.toks) (fun b o hb e=>(sb.2 b hb).trans e) f0 f1 f3 f4 f5;obtain⟨o,e,c,d⟩:=id st';exact⟨u,rfl,tR (s:={ s with heap:=h' }) e c d (by decide) ⟨x,H,I1,ru,⟨rfl,fun ys hy=>by rw[I.list_inj hy hq];exact hx⟩,st',fun b hb=>(hf b hb).1⟩⟩
 done:=by intro X hP hw hK hc i pins s σ H E I hf st hg;subst hP hw hK;obtain⟨xs,hq,hx⟩:=hg;obtain⟨its,rv,p,hz⟩:=I.list hq;obtain⟨f0,f1,f2,f3,f4,f5⟩:=hf it (by simp);have hl:=rv.length;exact wpAny_pyNext_list_end (I.ok.hd hc) st p.isList (by simp;omega) fun h' eb=>⟨rfl,I.turned (t':=s.toks) (fun b o hb e=>eb b o hb e) f0 f1 f3 f4 f5⟩
 self:=fun _ _ _ _ _ st h=>wpAny_pyIter_listiter st h
theorem BS{P:Program}{w:World}{K:QC}{tg:Expr}(a it:Addr):Turn P w K tg (Ao K a) [it] it (fun i h=>h.IsTupleIter it a i) where
 mem:=by simp
 obj:=fun i h st b hb=>by
  have e:b=it:=by simpa using hb
  subst e;obtain⟨o,e,c,d⟩:=st;exact⟨o,e,fun v z=>by rw[d]at z;cases z⟩
 keep:=fun i h h' st k=>st.at fun o e=>k it (by simp) o e
 item:=by intro X hP hw hK hc i pins s σ H E I hf st hg;subst hP hw hK;obtain⟨xs,x,hq,hx⟩:=hg;obtain⟨its,rv,p,hz⟩:=I.tuple hq;obtain⟨u,hu,ru⟩:=rv.get hx;obtain⟨f0,f1,f2,f3,f4,f5⟩:=hf it (by simp);refine wpAny_pyNext_tuple_item st (show s.heap.IsTuple a its.toArray from p) (x:=u) (by simpa using hu) fun h' st' sb=>?_;have I1:Inv X pins σ H { s with heap:=h' }:=I.turned (t':=s.toks) (fun b o hb e=>(sb.2 b hb).trans e) f0 f1 f3 f4 f5;obtain⟨o,e,c,d⟩:=id st';exact⟨u,rfl,tR (s:={ s with heap:=h' }) e c d (by decide) ⟨x,H,I1,ru,⟨rfl,fun ys hy=>by rw[I.tuple_inj hy hq];exact hx⟩,st',fun b hb=>(hf b hb).1⟩⟩
 done:=by intro X hP hw hK hc i pins s σ H E I hf st hg;subst hP hw hK;obtain⟨xs,hq,hx⟩:=hg;obtain⟨its,rv,p,hz⟩:=I.tuple hq;obtain⟨f0,f1,f2,f3,f4,f5⟩:=hf it (by simp);have hl:=rv.length;exact wpAny_pyNext_tuple_end (I.ok.hd hc) st (show s.heap.IsTuple a its.toArray from p) (by simp;omega) fun h' eb=>⟨rfl,I.turned (t':=s.toks) (fun b o hb e=>eb b o hb e) f0 f1 f3 f4 f5⟩
 self:=fun _ _ _ _ _ st h=>wpAny_pyIter_tupleiter st h
theorem CS{P:Program}{w:World}{K:QC}{tg:Expr}(it:Addr)(lo:Int)(n:Nat):Turn P w K tg (Xn lo n) [it] it (fun i h=>IsRangeIter h it (lo+(i:Nat) * 1) ((n:Int) - (i:Nat)) 1) where
 mem:=by simp
 obj:=fun i h st b hb=>by
  have e:b=it:=by simpa using hb
  subst e;exact⟨_,st,fun v z=>by have z':Data.fields _=Data.cell v:=z;cases z'⟩
 keep:=fun i h h' st k=>k it (by simp) _ st
 item:=by intro X hP hw hK hc i pins s σ H E I hf st hg;subst hP hw hK;obtain⟨f0,f1,f2,f3,f4,f5⟩:=hf it (by simp);have W:=Walks.range (prog:=X.prog) (w:=X.w) (I.ok.hd hc) it lo 1 n;refine W.item i s _ _ hg st fun v h' tk hv st' kk=>?_;obtain⟨t,rfl⟩:=hv;have I1:Inv X pins σ H { s with heap:=h',toks:=tk }:=I.turned (fun b o hb e=>kk b o (by simpa using hb) e) f0 f1 f3 f4 f5;refine⟨_,rfl,tR (s:={ s with heap:=h',toks:=tk }) (n:="range_iterator") st' rfl rfl (by decide) ⟨.int (lo+i),H,I1,⟨t,?_⟩,⟨rfl,rfl⟩,st',fun b hb=>(hf b hb).1⟩⟩;rw[Int.mul_one]
 done:=by intro X hP hw hK hc i pins s σ H E I hf st hg;subst hP hw hK;obtain⟨f0,f1,f2,f3,f4,f5⟩:=hf it (by simp);exact QAu (I.ok.hd hc) st (by have:n<=i:=hg;omega) fun h' eb=>⟨rfl,I.turned (t':=s.toks) (fun b o hb e=>eb b o hb e) f0 f1 f3 f4 f5⟩
 self:=fun _ _ _ _ _ st h=>QAv st h
section
variable{X:Cx}{tg:Expr}
theorem vZ{pins:ZB}{σ:St}{H:Hp}{s:Shared}{R:It->Hp->Prop}{E:NB}{lo hi:Int}{t u v:Tok}{tk:Nat}(I:Inv X pins σ H s)(h1:-(2 ^ 62)<=lo)(h2:lo<2 ^ 62)(h3:-(2 ^ 62)<=hi)(h4:hi<2 ^ 62)
  (q:R (Xn lo (hi - lo).toNat) H):wpAny (model X.prog X.w) X.A (pyIter (.ref s.heap.objs.size)) (ao X pins σ tg R) E { s with heap:=s.heap.push { cls:=.type "range",data:=.fields #[.int lo t,.int hi u,.int 1 v] },toks:=tk }:=by
 refine QBf (IsRange.new ..) (small_one h1 h2 h3 h4) ?_;have I1:Inv X pins σ H { s with heap:=s.heap.push { cls:=.type "range",data:=.fields #[.int lo t,.int hi u,.int 1 v] },toks:=tk }:=I.kept fun b o e=>QF _ e;refine⟨(s.heap.push { cls:=.type "range",data:=.fields #[.int lo t,.int hi u,.int 1 v] }).objs.size,[(s.heap.push { cls:=.type "range",data:=.fields #[.int lo t,.int hi u,.int 1 v] }).objs.size],_,_,H,rfl,
  I1.kept (t':=tk) fun b o e=>QF _ e,CS _ lo (hi - lo).toNat,?_,fun b hb=>?_,q⟩
 have e1:lo+((0:Nat):Int) * 1=lo:=by simp
 have e2:(((hi - lo).toNat:Nat):Int) - ((0:Nat):Int)=qW lo hi 1:=by rw[rangeSize_one];split<;>omega
 show IsRangeIter _ _ (lo+((0:Nat):Int) * 1) ((((hi - lo).toNat:Nat):Int) - ((0:Nat):Int)) 1;rw[e1,e2];exact QY _ rfl;have e:b=(s.heap.push { cls:=.type "range",data:=.fields #[.int lo t,.int hi u,.int 1 v] }).objs.size:=by simpa using hb
 subst e;exact I1.fpOk (Qa _) (I1.hok.fresh (Qa _))
noncomputable def am(wi:TI)(g:TG)(tb:TS):TS:=fun D σ H=>wi σ H fun J H1=>∃W:Nat->Nat->St->Hp->Prop,(∃m,W 0 m σ H1)/\∀i m σ H,W i m σ H ->
 (J.stop i H/\D.nx σ H)∨(J.go i H/\∃N:St->Hp->Prop,(∀σ' H',N σ' H'->∃m',m' < m/\W (i+1) m' σ' H')/\∀x H',J.yld i H x H'->g x σ H' fun σ2 H2=>tb { D with nx:=N,ct:=N,bk:=D.nx } σ2 H2)
noncomputable def KL(fp:List Addr)(h:Heap):ZB:=fp.filterMap fun b=>(h.get? b).map fun o=>(b,o)
theorem CF{fp:List Addr}{h:Heap}{b:Addr}{o:Obj}(hb:b∈fp)(e:h.get? b=some o):(b,o)∈KL fp h:=wZ.mpr ⟨b,hb,by rw[e];rfl⟩
theorem dX{fp:List Addr}{h:Heap}{p:Addr×Obj}(hp:p∈KL fp h):p.1∈fp/\h.get? p.1=some p.2:=by
 obtain⟨b,hb,e⟩:=wZ.mp hp;cases q:h.get? b with
 |none=>rw[q]at e;cases e
 |some o=>rw[q]at e;have e':(b,o)=p:=QW e;subst e';exact⟨hb,q⟩
theorem Inv.pinned{pins:ZB}{σ:St}{H:Hp}{s:Shared}{fp:List Addr}(I:Inv X pins σ H s)(hf:∀b∈fp,uK X pins H b)(ho:∀b∈fp,∃o,s.heap.get? b=some o/\∀v,o.data≠.cell v):Inv X (pins++KL fp s.heap) σ H s :=
 I.pins_of fun p hp=>(Q2.mp hp).elim (fun z=>I.pin p (Qb _ z)) fun z=>by obtain⟨hb,e⟩:=dX z;obtain⟨f0,f1,f2,_⟩:=hf p.1 hb;obtain⟨o,e',d⟩:=ho p.1 hb;rw[e]at e';cases e';exact⟨e,f0,f1,f2,d⟩
theorem Inv.unpinned{pins pl:ZB}{σ:St}{H:Hp}{s:Shared}(I:Inv X (pins++pl) σ H s):Inv X pins σ H s:=I.pins_of fun p hp=>I.pin p (Qb _ (wK _ hp))
theorem ge{iter:Expr}{body:List Stmt}{wi:TI}{g:TG}{tb:TS}{pos:Pos}(hp:PassesOwn (model X.prog X.w) X.A X.env X.xe)(hc:X.calm=true)(hi:PI X tg iter wi)(hg:PG X tg g)(hb:gW X body tb)
  (hs:∀x,foldedSetIterable iter X.env x=pure x:=by intro _;rfl):PS X (.For tg iter body [] pos) (am wi g tb):=by
 intro pins s σ H D I h;refine wpAny_For (EA (hi pins s σ H _ I h) fun v s1 h1=>EA h1 fun itv s2 h2=>?_) hs;obtain⟨it,fp,tn,J,H2,e,I2,T,st2,f2,W,⟨m0,w0⟩,turn⟩:=h2;subst e;have stat:∀{H':Hp},(∀b∈fp,H' b=none)->∀b∈fp,uK X pins H' b:=fun hn b hb=>⟨hn b hb,(f2 b hb).2⟩
 refine codeAny_forLoop_any (fun n s'=>∃i σ' H',Inv X pins σ' H' s'/\tn i s'.heap/\(∀b∈fp,H' b=none)/\W i n σ' H') ?_ m0 ⟨0,σ,H2,I2,st2,fun b hb=>(f2 b hb).1,w0⟩;rintro n s3 ⟨i,σ3,H3,I3,st3,fr3,w3⟩;rcases turn i n σ3 H3 w3 with⟨stop,qn⟩| ⟨go,N,hN,step⟩
 refine WN hp (EA (T.done X rfl rfl rfl hc i pins s3 σ3 H3 X.xe I3 (stat fr3) st3 stop) fun r s4 ⟨hr,I4⟩=>?_);subst hr;exact we ⟨σ3,H3,I4,qn⟩;refine WN hp (EA (T.item X rfl rfl rfl hc i pins s3 σ3 H3 X.xe I3 (stat fr3) st3 go) fun r s4 ⟨u,hr,h4⟩=>?_);subst hr;refine WN hp (EA h4 fun _ s5 ⟨x,H5,I5,r5,y5,st5,fr5⟩=>?_);have I5':=I5.pinned (stat fr5) (T.obj _ _ st5);refine WN hp (EA (hg _ s5 σ3 H5 x u _ I5' r5 (step x H5 y5)) fun _ s6 ⟨σ6,H6,I6,q6⟩=>?_);refine WN hp (EA (hb _ s6 σ6 H6 _ I6 q6) fun f s7 q7=>?_);have again:∀{σ7:St}{H7:Hp},Inv X (pins++KL fp s5.heap) σ7 H7 s7->N σ7 H7->∃m,m<n/\∃i σ' H',Inv X pins σ' H' s7/\tn i s7.heap/\(∀b∈fp,H' b=none)/\W i m σ' H':=fun {σ7 H7} I7 n7=>by obtain⟨m',hm,w7⟩:=hN σ7 H7 n7;refine⟨m',hm,i+1,σ7,H7,I7.unpinned,T.keep _ _ _ st5 fun b hb o e=>(I7.pin (b,o) (Qb _ (Qb _ (CF hb e)))).1,fun b hb=>?_,w7⟩;obtain⟨o,e,d⟩:=T.obj _ _ st5 b hb;exact(I7.pin (b,o) (Qb _ (Qb _ (CF hb e)))).2.1
 cases f with
 |next=>obtain⟨σ7,H7,I7,n7⟩:=q7;exact again I7 n7
 |cont=>obtain⟨σ7,H7,I7,n7⟩:=q7;exact again I7 n7
 |brk=>obtain⟨σ7,H7,I7,q7⟩:=q7;exact⟨σ7,H7,I7.unpinned,q7⟩
 |ret v=>obtain⟨x7,σ7,H7,I7,r7,q7⟩:=q7;exact⟨x7,σ7,H7,I7.unpinned,r7,q7⟩
end
noncomputable abbrev R2:=V->V->Hp->VK->Prop
def cE(X:Cx)(f:Value->Value->Sem Value)(r:R2):Prop :=
 ∀(pins:ZB) (s:Shared) (σ:St) (H:Hp) (x y:V) (v u:Value) (Q:VK),Inv X pins σ H s->sA x v->sA y u->r x y H Q ->
  wpAny (model X.prog X.w) X.A (f v u) (EP X pins σ Q) X.xe s
def gn(X:Cx)(f:Value->Sem Value)(r:V->Hp->VK->Prop):Prop :=
 ∀(pins:ZB) (s:Shared) (σ:St) (H:Hp) (x:V) (v:Value) (Q:VK),Inv X pins σ H s->sA x v->r x H Q ->
  wpAny (model X.prog X.w) X.A (f v) (EP X pins σ Q) X.xe s
def gD(X:Cx)(f:Value)(r:List V->Hp->VK->Prop):Prop :=
 ∀(pins:ZB) (s:Shared) (σ:St) (H:Hp) (xs:List V) (us:List Value) (Q:VK),Inv X pins σ H s->pA xs us->r xs H Q ->
  wpAny (model X.prog X.w) X.A (call f us) (EP X pins σ Q) X.xe s
def on(X:Cx)(r:V->Hp->(Bool->Hp->Prop)->Prop):Prop :=
 ∀(pins:ZB) (s:Shared) (σ:St) (H:Hp) (x:V) (v:Value) (Q:Bool->Hp->Prop),Inv X pins σ H s->sA x v->r x H Q ->
  wpAny (model X.prog X.w) X.A (truthy v) (TP X pins σ Q) X.xe s
noncomputable def nh(r:R2)(ta tb:TE):TE:=fun σ H Q=>ta σ H fun x H1=>tb σ H1 fun y H2=>r x y H2 Q
noncomputable def Up(r:V->Hp->VK->Prop)(ta:TE):TE:=fun σ H Q=>ta σ H fun x H1=>r x H1 Q
noncomputable def rI(C:Int->Int->Prop)(g:Int->Int->V):R2:=fun x y H Q=>∃i j,x=.int i/\y=.int j/\C i j/\Q (g i j) H
noncomputable def Z6(g:Int->Int->V):R2:=fun x y H Q=>∃i j,x=.int i/\y=.int j/\Q (g i j) H
noncomputable def rU(g:Int->V):V->Hp->VK->Prop:=fun x H Q=>∃i,x=.int i/\Q (g i) H
section
variable{X:Cx}{a b c:Expr}{ta tb tc:TE}{pos:Pos}
theorem binT(ha:PE X a ta)(hb:PE X b tb){pins:ZB}{s:Shared}{σ:St}{H:Hp}{R:V->V->Hp->Prop}(I:Inv X pins σ H s)
  (h:ta σ H fun x H1=>tb σ H1 fun y H2=>R x y H2) {Q:NB}{f:Value->Value->Sem Value}
  (hf:∀v u s2 x y H2,Inv X pins σ H2 s2->sA x v->sA y u->R x y H2->wpAny (model X.prog X.w) X.A (f v u) Q X.xe s2) :
  wpAny (model X.prog X.w) X.A (eval a X.env) (fun v s₁=>wpAny (model X.prog X.w) X.A (eval b X.env) (fun u s₂=>wpAny (model X.prog X.w) X.A (f v u) Q X.xe s₂) X.xe s₁) X.xe s:=by
 refine EA (ha pins s σ H _ I h) fun v s1 ⟨x,H1,I1,r1,q1⟩=>?_;refine EA (hb pins s1 σ H1 _ I1 q1) fun u s2 ⟨y,H2,I2,r2,q2⟩=>?_;exact hf v u s2 x y H2 I2 r1 r2 q2
theorem D9{op:Operator}{r:R2}(ho:cE X (binaryOp op) r)(ha:PE X a ta)(hb:PE X b tb):PE X (.BinOp a op b pos) (nh r ta tb):=by intro pins s σ H Q I h;exact wpAny_BinOp (binT ha hb I h fun v u s2 x y H2 I2 rx ry q=>ho pins s2 σ H2 x y v u Q I2 rx ry q)
theorem Zi{op:UnaryOp}{r:V->Hp->VK->Prop}(ho:gn X (unaryOp op) r)(ha:PE X a ta):PE X (.UnaryOp op a pos) (Up r ta):=by intro pins s σ H Q I h;exact UnaryOp_ (EA (ha pins s σ H _ I h) fun v s1 ⟨x,H1,I1,r1,q1⟩=>ho pins s1 σ H1 x v Q I1 r1 q1)
theorem Rn{f:Value->Value->Sem Value}{C:Int->Int->Prop}{g:Int->Int->Int}
  (rule:∀(i j:Int) (t u:Tok) (s:Shared) (Q:NB) (E:NB),C i j->Q (.int (g i j) s.toks) { s with toks:=s.toks+1 }->wpAny (model X.prog X.w) X.A (f (.int i t) (.int j u)) Q E s) :
  cE X f (rI C fun i j=>.int (g i j)):=by
 intro pins s σ H x y v u Q I rx ry h;obtain⟨i,j,rfl,rfl,hc,q⟩:=h;obtain⟨t,rfl⟩:=rx;obtain⟨t',rfl⟩:=ry;exact rule i j t t' s _ _ hc ⟨.int (g i j),H,I.tok _,⟨_,rfl⟩,q⟩
theorem Ni{f:Value->Value->Sem Value}{g:Int->Int->Int}
  (rule:∀(i j:Int) (t u:Tok) (s:Shared) (Q:NB) (E:NB),Q (.int (g i j) s.toks) { s with toks:=s.toks+1 }->wpAny (model X.prog X.w) X.A (f (.int i t) (.int j u)) Q E s) :
  cE X f (Z6 fun i j=>.int (g i j)):=by
 intro pins s σ H x y v u Q I rx ry h;obtain⟨i,j,rfl,rfl,q⟩:=h;obtain⟨t,rfl⟩:=rx;obtain⟨t',rfl⟩:=ry;exact rule i j t t' s _ _ ⟨.int (g i j),H,I.tok _,⟨_,rfl⟩,q⟩
theorem i7{f:Value->Value->Sem Value}{g:Int->Int->Bool}
  (rule:∀(i j:Int) (t u:Tok) (s:Shared) (Q:NB) (E:NB),Q (.bool (g i j)) s->wpAny (model X.prog X.w) X.A (f (.int i t) (.int j u)) Q E s) :
  cE X f (Z6 fun i j=>.bl (g i j)):=by
 intro pins s σ H x y v u Q I rx ry h;obtain⟨i,j,rfl,rfl,q⟩:=h;obtain⟨t,rfl⟩:=rx;obtain⟨t',rfl⟩:=ry;exact rule i j t t' s _ _ ⟨.bl (g i j),H,I,rfl,q⟩
def J5(i j:Int):Prop:=0<=j/\j<=1000000/\i.natAbs<2 ^ 64
def Y5(i j:Int):Prop:=(-(2 ^ 64)<i/\i<2 ^ 64)∨(-(2 ^ 64)<j/\j<2 ^ 64)
theorem Y5.ok{i j:Int}(h:Y5 i j):IntMulOk i j:=by
 rcases h with⟨h1,h2⟩| ⟨h1,h2⟩
 exact .of_left (intBits_le_64 h1 h2);exact .of_right (intBits_le_64 h1 h2)
theorem op_add:cE X (binaryOp .Add) (Z6 fun i j=>.int (i+j)):=Ni fun _ _ _ _ _ _ _ q=>add_int q
theorem op_sub:cE X (binaryOp .Sub) (Z6 fun i j=>.int (i - j)):=Ni fun _ _ _ _ _ _ _ q=>sub_int q
theorem op_mod:cE X (binaryOp .Mod) (rI (fun _ j=>0<j) fun i j=>.int (i % j)):=Rn fun i j _ _ _ _ _ hc q=>by have h1:(0:Int)<j:=hc;exact mod_int' (by omega) (by rw[Int.fmod_eq_emod_of_nonneg i (by omega)];exact q)
theorem op_pow:cE X (binaryOp .Pow) (rI J5 fun i j=>.int (i ^ j.toNat)):=Rn fun _ _ _ _ _ _ _ hc q=>pow_int_small hc.1 hc.2.1 hc.2.2 q
theorem Xp{f:Value->Sem Value}{g:Int->Int}
  (rule:∀(i:Int) (t:Tok) (s:Shared) (Q:NB) (E:NB),Q (.int (g i) s.toks) { s with toks:=s.toks+1 }->wpAny (model X.prog X.w) X.A (f (.int i t)) Q E s) :
  gn X f (rU fun i=>.int (g i)):=by
 intro pins s σ H x v Q I rx h;obtain⟨i,rfl,q⟩:=h;obtain⟨t,rfl⟩:=rx;exact rule i t s _ _ ⟨.int (g i),H,I.tok _,⟨_,rfl⟩,q⟩
theorem yd:gn X (unaryOp .USub) (rU fun i=>.int (-i)):=Xp fun _ _ _ _ _ q=>neg_int q
end
noncomputable def f6:V->V->Bool
 | .non,.non=>true | .non,.int _=>true | .int _,.non=>true | .non,.bl _=>true | .bl _,.non=>true | .non,.str _=>true | .str _,.non=>true
 | .int _,.int _=>true | .bl _,.bl _=>true | .str _,.str _=>true | .byt _,.byt _=>true
 | .int _,.str _=>true | .str _,.int _=>true | .bl _,.str _=>true | .str _,.bl _=>true
 |_,_=>false
noncomputable def rEq:R2:=fun x y H Q=>f6 x y=true/\Q (.bl (decide (x=y))) H
noncomputable def Gp:R2:=fun x y H Q=>f6 x y=true/\Q (.bl (!decide (x=y))) H
theorem zW{i j:Int}:decide (V.int i=V.int j)=(i==j):=by rw[WO];simp
theorem T3{i j:Bool}:decide (V.bl i=V.bl j)=(i==j):=by rw[WO];simp
theorem yW{i j:Str}:decide (V.str i=V.str j)=(i==j):=by rw[WO];simp
theorem kW{i j:Array UInt8}:decide (V.byt i=V.byt j)=(i.toList==j.toList):=by rw[WO];cases i;cases j;simp
section
variable{X:Cx}{a b c:Expr}{ta tb tc:TE}{pos:Pos}
theorem JA{pins:ZB}{σ:St}{H:Hp}{s:Shared}{Q:VK}{k k':Bool}(I:Inv X pins σ H s)(q:Q (.bl k) H)(e:k=k'):EP X pins σ Q (.bool k') s:=by subst e;exact⟨.bl k,H,I,rfl,q⟩
theorem op_eq:cE X (compareOp .Eq) rEq:=by
 intro pins s σ H x y v u Q I rx ry h;obtain⟨hs,q⟩:=h;cases x with
 |non =>
  cases rx;cases y with
  |non=>cases ry;exact PySem.EqNone.eq_none_none (JA I q (by simp))
  |bl j=>cases ry;exact PySem.EqNone.eq_none_bool (JA I q (by simp))
  |int j=>obtain⟨t',rfl⟩:=ry;exact PySem.EqNone.eq_none_int (JA I q (by simp))
  |str j=>obtain⟨t',rfl⟩:=ry;exact PySem.EqNone.eq_none_str (JA I q (by simp))
  |_=>exact absurd (show false=true from hs) QD
 |bl i =>
  cases rx;cases y with
  |non=>cases ry;exact PySem.EqNone.eq_bool_none (JA I q (by simp))
  |bl j=>cases ry;exact eq_bool (JA I q T3)
  |str j=>obtain⟨t',rfl⟩:=ry;exact PySem.EqMixed.eq_bool_str (JA I q (by simp))
  |_=>exact absurd (show false=true from hs) QD
 |int i =>
  obtain⟨t,rfl⟩:=rx;cases y with
  |non=>cases ry;exact PySem.EqNone.eq_int_none (JA I q (by simp))
  |int j=>obtain⟨t',rfl⟩:=ry;exact eq_int (JA I q zW)
  |str j=>obtain⟨t',rfl⟩:=ry;exact PySem.EqMixed.eq_int_str (JA I q (by simp))
  |_=>exact absurd (show false=true from hs) QD
 |str i =>
  obtain⟨t,rfl⟩:=rx;cases y with
  |non=>cases ry;exact PySem.EqNone.eq_str_none (JA I q (by simp))
  |bl j=>cases ry;exact PySem.EqMixed.eq_str_bool (JA I q (by simp))
  |int j=>obtain⟨t',rfl⟩:=ry;exact PySem.EqMixed.eq_str_int (JA I q (by simp))
  |str j=>obtain⟨t',rfl⟩:=ry;exact eq_str (JA I q yW)
  |_=>exact absurd (show false=true from hs) QD
 |byt i =>
  obtain⟨t,rfl⟩:=rx;cases y with
  |byt j=>obtain⟨t',rfl⟩:=ry;exact PySem.W.eq_bytes (JA I q kW)
  |_=>exact absurd (show false=true from hs) QD
 |_=>cases y<;>exact absurd (show false=true from hs) QD
theorem op_ne:cE X (compareOp .NotEq) Gp:=by
 intro pins s σ H x y v u Q I rx ry h;obtain⟨hs,q⟩:=h;cases x with
 |non =>
  cases rx;cases y with
  |non=>cases ry;exact PySem.EqNone.ne_none_none (JA I q (by simp))
  |bl j=>cases ry;exact PySem.EqNone.ne_none_bool (JA I q (by simp))
  |int j=>obtain⟨t',rfl⟩:=ry;exact PySem.EqNone.ne_none_int (JA I q (by simp))
  |str j=>obtain⟨t',rfl⟩:=ry;exact PySem.EqNone.ne_none_str (JA I q (by simp))
  |_=>exact absurd (show false=true from hs) QD
 |bl i =>
  cases rx;cases y with
  |non=>cases ry;exact PySem.EqNone.ne_bool_none (JA I q (by simp))
  |bl j=>cases ry;exact ne_bool (JA I q (congrArg not T3))
  |str j=>obtain⟨t',rfl⟩:=ry;exact PySem.EqMixed.ne_bool_str (JA I q (by simp))
  |_=>exact absurd (show false=true from hs) QD
 |int i =>
  obtain⟨t,rfl⟩:=rx;cases y with
  |non=>cases ry;exact PySem.EqNone.ne_int_none (JA I q (by simp))
  |int j=>obtain⟨t',rfl⟩:=ry;exact ne_int (JA I q (congrArg not zW))
  |str j=>obtain⟨t',rfl⟩:=ry;exact PySem.EqMixed.ne_int_str (JA I q (by simp))
  |_=>exact absurd (show false=true from hs) QD
 |str i =>
  obtain⟨t,rfl⟩:=rx;cases y with
  |non=>cases ry;exact PySem.EqNone.ne_str_none (JA I q (by simp))
  |bl j=>cases ry;exact PySem.EqMixed.ne_str_bool (JA I q (by simp))
  |int j=>obtain⟨t',rfl⟩:=ry;exact PySem.EqMixed.ne_str_int (JA I q (by simp))
  |str j=>obtain⟨t',rfl⟩:=ry;exact ne_str (JA I q (congrArg not yW))
  |_=>exact absurd (show false=true from hs) QD
 |byt i =>
  obtain⟨t,rfl⟩:=rx;cases y with
  |byt j=>obtain⟨t',rfl⟩:=ry;exact PySem.W.ne_bytes (JA I q (congrArg not kW))
  |_=>exact absurd (show false=true from hs) QD
 |_=>cases y<;>exact absurd (show false=true from hs) QD
theorem op_lt:cE X (compareOp .Lt) (Z6 fun i j=>.bl (decide (i<j))):=i7 fun _ _ _ _ _ _ _ q=>lt_int q
theorem op_le:cE X (compareOp .LtE) (Z6 fun i j=>.bl (decide (i<=j))):=i7 fun _ _ _ _ _ _ _ q=>le_int q
theorem op_gt:cE X (compareOp .Gt) (Z6 fun i j=>.bl (decide (j<i))):=i7 fun _ _ _ _ _ _ _ q=>gt_int q
theorem op_ge:cE X (compareOp .GtE) (Z6 fun i j=>.bl (decide (j<=i))):=i7 fun _ _ _ _ _ _ _ q=>ge_int q
theorem jX:cE X (compareOp .In) (fun x y H Q=>∃i j,x=.str i/\y=.str j/\Q (.bl (!(qX j i 0 j.length 1).isEmpty)) H):=by intro pins s σ H x y v u Q I rx ry h;obtain⟨i,j,rfl,rfl,q⟩:=h;obtain⟨t,rfl⟩:=rx;obtain⟨t',rfl⟩:=ry;exact in_str (JA I q rfl)
theorem Oe:cE X (compareOp .Is) (fun x y H Q=>y=.non/\Q (.bl (decide (x=.non))) H):=by
 intro pins s σ H x y v u Q I rx ry h;obtain⟨rfl,q⟩:=h;cases ry;refine is_none_gen (JA I q ?_);cases x<;>first
  | (cases rx;rfl)
  | (obtain⟨t,rfl⟩:=rx;rfl)
theorem g7:cE X (compareOp .IsNot) (fun x y H Q=>y=.non/\Q (.bl (!decide (x=.non))) H):=by
 intro pins s σ H x y v u Q I rx ry h;obtain⟨rfl,q⟩:=h;cases ry;refine isnot_none_gen (JA I q ?_);cases x<;>first
  | (cases rx;rfl)
  | (obtain⟨t,rfl⟩:=rx;rfl)
theorem uP:cE X (compareOp .NotIn) (fun x y H Q=>∃i j,x=.str i/\y=.str j/\Q (.bl (!(!(qX j i 0 j.length 1).isEmpty))) H):=by intro pins s σ H x y v u Q I rx ry h;obtain⟨i,j,rfl,rfl,q⟩:=h;obtain⟨t,rfl⟩:=rx;obtain⟨t',rfl⟩:=ry;exact notIn_str (JA I q rfl)
theorem j7{op:CmpOp}{r:R2}(ho:cE X (compareOp op) r)(ha:PE X a ta)(hb:PE X b tb)(hm:behindInMarks op b=false):PE X (.Compare a [op] [b] pos) (nh r ta tb):=by intro pins s σ H Q I h;exact wpAny_Compare1 (binT ha hb I h fun v u s2 x y H2 I2 rx ry q=>ho pins s2 σ H2 x y v u Q I2 rx ry q) hm
noncomputable def c9(t:TE):TT:=fun σ H Q=>t σ H fun x H'=>∃k,x=.bl k/\Q k H'
theorem U6{op:CmpOp}{r:R2}(ho:cE X (compareOp op) r)(ha:PE X a ta)(hb:PE X b tb)(hm:behindInMarks op b=false):PT X (.Compare a [op] [b] pos) (c9 (nh r ta tb)):=by
 intro pins s σ H Q I h;refine QA4 (EA (ha pins s σ H _ I h) fun v s1 ⟨x,H1,I1,r1,q1⟩=>EA (hb pins s1 σ H1 _ I1 q1) fun u s2 ⟨y,H2,I2,r2,q2⟩ =>
  EA (ho pins s2 σ H2 x y v u _ I2 r1 r2 q2) fun c s3 ⟨z,H3,I3,r3,k,e,q3⟩=>?_) hm
 subst e;cases r3;exact qR ⟨H3,I3,q3⟩
noncomputable def FS(r r':R2)(ta tb tc:TE):TE:=fun σ H Q=>ta σ H fun x H1=>tb σ H1 fun y H2=>r x y H2 fun z H3=>∃k,z=.bl k /\
 (if k=true then tc σ H3 fun w' H4=>r' y w' H4 Q else Q (.bl false) H3)
theorem YZ{op op':CmpOp}{r r':R2}(ho:cE X (compareOp op) r)(ho':cE X (compareOp op') r')(ha:PE X a ta)(hb:PE X b tb)(hc:PE X c tc)
  (hm:lastMarks [op,op'] [b,c]=false:=by with_unfolding_all rfl):PE X (.Compare a [op,op'] [b,c] pos) (FS r r' ta tb tc):=by
 intro pins s σ H Q I h;refine Compare_chain (EA (ha pins s σ H _ I h) fun v s1 ⟨x,H1,I1,r1,q1⟩=>chain_link (EA (hb pins s1 σ H1 _ I1 q1) fun u s2 ⟨y,H2,I2,r2,q2⟩ =>
  EA (ho pins s2 σ H2 x y v u _ I2 r1 r2 q2) fun d s3 ⟨z,H3,I3,r3,k,e,q3⟩=>?_)) hm
 subst e;cases r3;refine qR ?_;cases k with
 |false=>exact ite_ff ⟨.bl false,H3,I3,rfl,q3⟩
 |true=>exact ite_tt (chain_last (EA (hc pins s3 σ H3 _ I3 q3) fun w' s4 ⟨z',H4,I4,r4,q4⟩=>ho' pins s4 σ H4 y z' u w' Q I4 r2 r4 q4))
theorem fZ{op op':CmpOp}{r r':R2}(ho:cE X (compareOp op) r)(ho':cE X (compareOp op') r')(ha:PE X a ta)(hb:PE X b tb)(hc:PE X c tc)
  (hm:lastMarks [op,op'] [b,c]=false:=by with_unfolding_all rfl):PT X (.Compare a [op,op'] [b,c] pos) (c9 (FS r r' ta tb tc)):=by
 intro pins s σ H Q I h;refine isTrue_chain (EA (ha pins s σ H _ I h) fun v s1 ⟨x,H1,I1,r1,q1⟩=>test_link (EA (hb pins s1 σ H1 _ I1 q1) fun u s2 ⟨y,H2,I2,r2,q2⟩ =>
  EA (ho pins s2 σ H2 x y v u _ I2 r1 r2 q2) fun d s3 ⟨z,H3,I3,r3,k,e,q3⟩=>?_)) hm
 subst e;cases r3;refine qR ?_;cases k with
 |false=>obtain⟨k',e',q'⟩:=q3;cases e';exact ite_ff ⟨H3,I3,q'⟩
 |true=>refine ite_tt (test_last (EA (hc pins s3 σ H3 _ I3 q3) fun w' s4 ⟨z',H4,I4,r4,q4⟩=>EA (ho' pins s4 σ H4 y z' u w' _ I4 r2 r4 q4) fun d' s5 ⟨z2,H5,I5,r5,k2,e2,q5⟩=>?_));subst e2;cases r5;exact qR ⟨H5,I5,q5⟩
def Fg(K:QC)(x:V)(H:Hp)(k:Bool):Prop :=
 match x with
 | .non=>k=false
 | .bl b=>k=b
 | .int i=>k=(i != 0)
 | .str y=>y.length<=sizeLine/\k=((y.length:Int) != 0)
 | .byt y=>y.size<=sizeLine/\k=((y.size:Int) != 0)
 | .ref p=>(∃xs,ID K H p xs/\k=!xs.isEmpty)∨(∃xs,LE K H p xs/\k=!xs.isEmpty)∨∃kvs,H p=some (.dK kvs)/\k=!kvs.isEmpty
 |_=>False
theorem xU{κ:Type}{kvs:List (κ×V)}{vs:List (κ×Value)}(r:KV kvs vs):(!vs.isEmpty)=!kvs.isEmpty:=by cases r<;>rfl
theorem xM{xs:List V}{its:List Value}(r:pA xs its):(!its.toArray.isEmpty)=!xs.isEmpty:=by cases r<;>simp
theorem dI:(sizeLine:Nat)<2 ^ 63:=by rw[QX];decide
theorem KY:on X (fun x H Q=>∃k,Fg X.K x H k/\Q k H):=by
 intro pins s σ H x v Q I rx h;obtain⟨k,e,q⟩:=h;have hl:=dI;have hs:sizeLine=16777216:=QX;cases x with
 |non=>cases rx;have e':k=false:=e;subst e';exact truthy_none ⟨H,I,q⟩
 |bl b=>cases rx;have e':k=b:=e;subst e';exact qR ⟨H,I,q⟩
 |int i=>obtain⟨t,rfl⟩:=rx;have e':k=(i != 0):=e;subst e';exact PySem.P.truthy_int ⟨H,I,q⟩
 |str y=>obtain⟨t,rfl⟩:=rx;obtain⟨hy,e'⟩:y.length<=sizeLine/\k=((y.length:Int) != 0):=e;subst e';exact PySem.P.truthy_str (by omega) ⟨H,I.tok _,q⟩
 |byt y=>obtain⟨t,rfl⟩:=rx;obtain⟨hy,e'⟩:y.size<=sizeLine/\k=((y.size:Int) != 0):=e;subst e';exact PySem.W.truthy_bytes (by omega) ⟨H,I.tok _,q⟩
 |ref p =>
  cases rx;have e':(∃xs,ID X.K H p xs/\k=!xs.isEmpty)∨(∃xs,LE X.K H p xs/\k=!xs.isEmpty)∨∃kvs,H p=some (.dK kvs)/\k=!kvs.isEmpty:=e;rcases e' with⟨xs,hx,e'⟩| ⟨xs,hx,e'⟩| ⟨kvs,hx,e'⟩
  subst e';obtain⟨its,r,pl,hz⟩:=I.list hx;have hlen:=r.length;exact wpAny_truthy_list pl.isList (by simp only[QM];omega) ⟨H,I.tok _,by rw[xM r];exact q⟩;subst e';obtain⟨its,r,pl,hz⟩:=I.tuple hx;have hlen:=r.length;exact truthy_tuple pl (by simp only[QM];omega) ⟨H,I.tok _,by rw[xM r];exact q⟩;subst e';obtain⟨hz,hS,vs,r,m⟩:kvs.length<=sizeLine/\(p==sysModules)=false/\∃vs,KV kvs vs/\s.heap.DictOf (BB X.prog X.w) p vs:=I.hok p _ hx;have hlen:kvs.length=vs.length:=Ws r;exact wpAny_truthy_dict hS m (by omega) ⟨H,I.tok _,by rw[xU r];exact q⟩
 |_=>exact(show False from e).elim
theorem xT:cE X (binaryOp .Add) (fun x y H Q=>∃i j,x=.str i/\y=.str j/\i.length+j.length<=sizeLine/\Q (.str (i++j)) H):=by intro pins s σ H x y v u Q I rx ry h;obtain⟨i,j,rfl,rfl,hz,q⟩:=h;obtain⟨t,rfl⟩:=rx;obtain⟨t',rfl⟩:=ry;exact add_str (fun t' tk=>⟨.str (i++j),H,I.tok _,⟨_,rfl⟩,q⟩) hz
theorem oG{x:V}{us:List Value}(r:pA [x] us):∃u,us=[u]/\sA x u:=by
 cases r with
 |cons r1 r2=>cases r2;exact⟨_,rfl,r1⟩
theorem MU{x y:V}{us:List Value}(r:pA [x,y] us):∃u w',us=[u,w']/\sA x u/\sA y w':=by
 cases r with
 |cons r1 r2 =>
  cases r2 with
  |cons r3 r4=>cases r4;exact⟨_,_,rfl,r1,r3⟩
theorem uY(hc:X.calm=true):gD X (.builtin "max") (fun xs H Q=>∃i j,xs=[.int i,.int j]/\Q (.int (if j > i then j else i)) H):=by
 intro pins s σ H xs us Q I r h;obtain⟨i,j,rfl,q⟩:=h;obtain⟨u,w',rfl,⟨t,rfl⟩,⟨t',rfl⟩⟩:=MU r;refine max_two_ints (I.ok.hd hc) fun h' tk k=>⟨_,H,I.kept k,?_,q⟩
 by_cases hj:j > i;rw[if_pos hj,if_pos hj];exact⟨_,rfl⟩;rw[if_neg hj,if_neg hj];exact⟨_,rfl⟩
theorem tO:gD X (.type "int") (fun xs H Q=>(∃i,xs=[.int i]/\Q (.int i) H)∨∃k,xs=[.bl k]/\Q (.int (if k then 1 else 0)) H):=by
 intro pins s σ H xs us Q I r h;rcases h with⟨i,rfl,q⟩| ⟨k,rfl,q⟩
 obtain⟨u,rfl,t,rfl⟩:=oG r;exact call_int_int ⟨.int i,H,I,⟨_,rfl⟩,q⟩;obtain⟨u,rfl,r1⟩:=oG r;cases r1;exact call_int_bool ⟨.int (if k then 1 else 0),H,I.tok _,⟨_,rfl⟩,q⟩
theorem zQ:gD X (.type "str") (fun xs H Q=>∃i,xs=[.int i]/\i.natAbs.log2<1920/\Q (.str (toString i)) H):=by intro pins s σ H xs us Q I r h;obtain⟨i,rfl,hz,q⟩:=h;obtain⟨u,rfl,t,rfl⟩:=oG r;exact PySem.P.str_of_int hz ⟨.str _,H,I.tok _,⟨_,rfl⟩,q⟩
end
structure ObjM(h:Heap)(x dx C:Addr)(mA:Str->Option Value):Prop where
 obj:h.get? x=some (QA3 C dx)
 ns:h.Ns1 dx mA
 ne:dx≠x
theorem jO{h:Heap}{dx:Addr}{mA:Str->Option Value}(n:h.Ns1 dx mA):∃od,h.get? dx=some od/\∀name,QAL name od=some (mA name):=by
 obtain⟨o,es,ep,ho,hd,hk,_,hm⟩:=n;refine⟨o,ho,fun name=>?_⟩;have e:=hm name;unfold nsFind findBy at e;rw[<- Array.find?_toList]at e;unfold QAL;rw[hd];dsimp only;split;rename_i y q;rw[q]at e;exact congrArg some e;rename_i q;rw[q]at e;have a:es.toList.any (·.refKey)=false:=by rw[List.any_eq_false];intro y hy;obtain⟨z,t,hkey⟩:=hk y (Wp.mp hy);simp[DictEntry.refKey,hkey]
 have a':¬ es.toList.any (·.refKey)=true:=by rw[a];exact QD
 rw[if_neg a'];exact congrArg some e
theorem ObjM.look{h:Heap}{x dx C:Addr}{mA:Str->Option Value}(I:ObjM h x dx C mA):∃od,PySem.W.InstAt h x (QA3 C dx) C (some od)/\∀name,QAL name od=some (mA name) :=
 let⟨od,ho,hl⟩:=jO I.ns
 ⟨od,⟨I.obj,rfl,rfl,ho⟩,hl⟩
section
variable{prog:Program}{w:World}{A:Around}{E:NB}{s:Shared}{K:QC}{x dx C f:Addr}{mA:Str->Option Value}{name:Str}{v:Value}
end
theorem YI.some_of{v:V}{o:Option Value}(r:YI (some v) o):∃u,o=some u/\sA v u:=by
 cases o with
 |none=>exact(show False from r).elim
 |some u=>exact⟨u,rfl,r⟩
theorem UX{v:V}{u:Value}(r:sA v u):PySem.W.handedIn u=true:=by
 cases v with
 |non=>cases(show u=Value.none from r);rfl
 |bl b=>cases(show u=Value.bool b from r);rfl
 |int i=>obtain⟨t,e⟩:=(show ∃t,u=Value.int i t from r);cases e;rfl
 |str x=>obtain⟨t,e⟩:=(show ∃t,u=Value.str x t from r);cases e;rfl
 |byt b=>obtain⟨t,e⟩:=(show ∃t,u=Value.bytes b t from r);cases e;rfl
 |flt b=>obtain⟨t,e⟩:=(show ∃t,u=Value.float b t from r);cases e;rfl
 |ref a=>cases(show u=Value.ref a from r);rfl
 |ty n=>cases(show u=Value.type n from r);rfl
section
variable{P:Program}{w:World}{H H':Hp}{h h':Heap}{a C dx:Addr}{fs fs':List (Str×V)}
theorem g8(hok:UH P w H h)(e:H a=some (.ins C dx fs)):∃mA,ObjM h a dx C mA/\(∀f,YI (fs.lookup f) (mA f))/\PySem.Within mA (fs.map (·.1))/\fs.length<=1000/\H dx=some (.own a):=by
 obtain⟨d,z,ne,ob,mA,n,r,q⟩:=(show DA P w H h a (.ins C dx fs) from hok a _ e)
 exact⟨mA,⟨ob,n,ne⟩,r,q,z,d⟩
end
structure Cls(K:QC)(C:Addr):Prop where
 pg:QCI K C QCq=true
 hd:QAT K C=true
 po:PySem.W.plainOver K C=true
 sa:qh K (.ref C) "__setattr__"=some (some (.builtin "object.__setattr__"))
theorem Cls.get{K:QC}{C:Addr}(c:Cls K C)(f:Str):QCI K C f=true:=c.pg
section
variable{X:Cx}{pins:ZB}{σ:St}{H:Hp}{s:Shared}{a C dx:Addr}{fs:List (Str×V)}{f:Str}{v:V}{A:Around}{E:NB}
theorem R8{prog:Program}{w:World}{env:Env}{e:Expr}{f:Str}{pos:Pos}{s:Shared}{Q:NB}(hb:attributeBase e f env (eval e env)=eval e env)
  (h:wpAny (model prog w) A (eval e env) (fun o s₁=>wpAny (model prog w) A (getAttr o f true) Q E s₁) E s):wpAny (model prog w) A (eval (.Attribute e f pos) env) Q E s :=
 Attribute_any_ h (by rw[arm_eval_Attribute,hb])
end
section
variable{X:Cx}{o e value:Expr}{f:Str}{pos pos' tpos:Pos}{ta tv:TE}
end
section
variable{X:Cx}{pins:ZB}{σ:St}{H:Hp}{s:Shared}{A:Around}{E:NB}{Q:NB}{c:Value}{b:Bool}
inductive TyOf(K:QC)(H:Hp):V->Value->Prop where
 |non:TyOf K H .non (.type "NoneType")
 |bl (x:Bool):TyOf K H (.bl x) (.type "bool")
 |int (i:Int):TyOf K H (.int i) (.type "int")
 |str (x:Str):TyOf K H (.str x) (.type "str")
 |flt (x:UInt64):TyOf K H (.flt x) (.type "float")
 |lst {a:Addr}{xs:List V}(e:H a=some (.lst xs)):TyOf K H (.ref a) (.type "list")
 |frz {a:Addr}{o:Obj}{xs:List V}(e:H a=some (.frz o (.lst xs))):TyOf K H (.ref a) (.type "list")
 |tup {a:Addr}{xs:List V}(e:H a=some (.tup xs)):TyOf K H (.ref a) (.type "tuple")
 |dK {a:Addr}{kvs:List (lD×V)}(e:H a=some (.dK kvs)):TyOf K H (.ref a) (.type "dict")
 |dT {a:Addr}{kvs:List (List lD×V)}(e:H a=some (.dT kvs)):TyOf K H (.ref a) (.type "dict")
 |ins {a C dx:Addr}{fs:List (Str×V)}(e:H a=some (.ins C dx fs)) (cl:Cls K C) (ha:qh K (.ref C) "__class__"=some (some (.builtin "object.__class__")))
   (hn:PySem.W.specialIn K (.builtin "object.__class__") "__get__"=some (some (.builtin "getset_descriptor.__get__"))) (htk:PySem.W.takesIn K (.builtin "object.__class__")=some true)
   (hm:Wu K C (.type "object")=some true):TyOf K H (.ref a) (.ref C)
theorem iX{x:V}{u t:Value}(I:Inv X pins σ H s)(rx:sA x u)(ty:TyOf X.K H x t)(e:WC X.K t c=some b)(h:∀tk,Q (.bool b) { s with toks:=tk }) :
  wpAny (model X.prog X.w) A (call (.builtin "isinstance") [u,c]) Q E s:=by
 cases ty with
 |non=>cases(show u=Value.none from rx);exact Q6 PySem.W.kitx_none I.kIn True.intro e (fun z=>nomatch z) h
 |bl y=>cases(show u=Value.bool y from rx);exact Q6 PySem.W.kitx_bool I.kIn True.intro e (fun z=>nomatch z) h
 |int i=>obtain⟨t,q⟩:=(show ∃t,u=Value.int i t from rx);cases q;exact Q6 PySem.W.kitx_int I.kIn True.intro e (fun z=>nomatch z) h
 |str y=>obtain⟨t,q⟩:=(show ∃t,u=Value.str y t from rx);cases q;exact Q6 PySem.W.kitx_str I.kIn True.intro e (fun z=>nomatch z) h
 |flt y=>obtain⟨t,q⟩:=(show ∃t,u=Value.float y t from rx);cases q;exact Q6 PySem.W.kitx_float I.kIn True.intro e (fun z=>nomatch z) h
 |@lst a xs ea =>
  cases(show u=Value.ref a from rx);obtain⟨_,_,n,_,h1⟩:=(show DA X.prog X.w H s.heap a (.lst xs) from I.hok a _ ea)
  exact Q6 QAU I.kIn ⟨_,h1,rfl⟩ e (fun z=>nomatch z) h
 |@frz a ob xs ea =>
  cases(show u=Value.ref a from rx);obtain⟨_,_,_,n,_,h1⟩:=(show DA X.prog X.w H s.heap a (.frz ob (.lst xs)) from I.hok a _ ea)
  exact Q6 QAU I.kIn ⟨_,h1,rfl⟩ e (fun z=>nomatch z) h
 |@tup a xs ea =>
  cases(show u=Value.ref a from rx);obtain⟨_,_,_,p⟩:=(show DA X.prog X.w H s.heap a (.tup xs) from I.hok a _ ea)
  obtain⟨o,h1,h2,_⟩:=p;exact Q6 QBg I.kIn ⟨o,h1,h2⟩ e (fun z=>nomatch z) h
 |@dK a kvs ea =>
  cases(show u=Value.ref a from rx);obtain⟨_,_,vs,_,p⟩:=(show DA X.prog X.w H s.heap a (.dK kvs) from I.hok a _ ea)
  obtain⟨o,es,ep,h1,h2,_⟩:=p;exact Q6 QBt I.kIn ⟨o,h1,h2.1⟩ e (fun z=>nomatch z) h
 |@dT a kvs ea =>
  cases(show u=Value.ref a from rx);obtain⟨_,_,xs,_,o,es,ep,h1,h2,_⟩:=(show DA X.prog X.w H s.heap a (.dT kvs) from I.hok a _ ea)
  exact Q6 QBt I.kIn ⟨o,h1,h2.1⟩ e (fun z=>nomatch z) h
 |@ins a C dx fs ea cl ha hn htk hm=>cases(show u=Value.ref a from rx);obtain⟨mA,O,_⟩:=g8 I.hok ea;obtain⟨od,J,_⟩:=O.look;exact Q6 (PySem.W.kitx_own (cl.get _) cl.hd ha hn htk hm) I.kIn J e (fun z=>nomatch z) h
end
structure Room(k:Nat)(A:Around):Prop where
 hd:A.handled=none
 dp:A.depth+3 * k+5<recursionLimit
 un:A.units+16 * k+200<cLine
theorem Room.mono{j k:Nat}{A:Around}(r:Room k A)(h:j<=k):Room j A:=⟨r.hd,by have:=r.dp;omega,by have:=r.un;omega⟩
theorem Room.deeper{k:Nat}{A:Around}(r:Room (k+1) A)(env:Env):Room k (A.deeper env) :=
 ⟨r.hd,by have:=r.dp;show A.depth+1+3 * k+5<_;omega,by have:=r.un;show A.units+3+16 * k+200<_;omega⟩
theorem yU{A:Around}{C:Addr}{us:List Value}{kw:List (Str×Value)}:(A.under (.builtin "type.__call__" ⟨.ref C::us,kw⟩)).depth=A.depth+1:=by first|rfl|simp[QCC,Code.weight,Code.isCreation,Code.isGuard,Code.isCaller,Code.frames,QCD,guardIds]
theorem jU{A:Around}{C:Addr}{us:List Value}{kw:List (Str×Value)}:(A.under (.builtin "type.__call__" ⟨.ref C::us,kw⟩)).units=A.units+1:=by first|rfl|simp[QCC,Code.cUnits,Code.frames,QCD]
theorem Room.make{k:Nat}{A:Around}(r:Room (k+1) A)(C:Addr)(us:List Value)(kw:List (Str×Value)):Room k (A.under (.builtin "type.__call__" ⟨.ref C::us,kw⟩)) :=
 ⟨r.hd,by have:=r.dp;rw[yU];omega,by have:=r.un;rw[jU];omega⟩
theorem Room.depth{k:Nat}{A:Around}(r:Room k A):A.depth<recursionLimit:=by have:=r.dp;omega
noncomputable def oh:TA:=fun _ H Q=>Q [] H
noncomputable def Yh(ta:TE)(tr:TA):TA:=fun σ H Q=>ta σ H fun x H1=>tr σ H1 fun xs H2=>Q (x::xs) H2
section
variable{X:Cx}{e:Expr}{es:List Expr}{te:TE}{t:TA}{pos:Pos}
theorem BL:PA X [] oh:=fun _ _ _ _ H Q I h=>QBu ⟨[],H,I,.nil,h⟩
theorem JD(ha:PE X e te)(hr:PA X es t)(hs:starEach (e::es) X.env=(false,eval e X.env)::starEach es X.env:=by rfl):PA X (e::es) (Yh te t):=by intro pos pins s σ H Q I h;rw[hs];show wpAny _ _ (spliced ((false,eval e X.env)::backTo pos (starEach es X.env))) _ _ s;refine QBh (EA (ha pins s σ H _ I h) fun u s1 ⟨x,H1,I1,r1,q1⟩=>?_);exact EA (hr pos pins s1 σ H1 _ I1 q1) fun us s2 ⟨xs,H2,I2,r2,q2⟩=>⟨x::xs,H2,I2,.cons r1 r2,q2⟩
noncomputable def km(t:TA):TE:=fun σ H Q=>t σ H fun xs H1=>xs.length<=sizeLine/\∀p,H1 p=none->Q (.ref p) (FA H1 p (.tup xs))
noncomputable def gm(t:TA):TE:=fun σ H Q=>t σ H fun xs H1=>xs.length<=sizeLine/\∀p,H1 p=none->Q (.ref p) (FA H1 p (.lst xs))
theorem Ve{x1}(h:PA X es t):PE X (.Tuple es x1 pos) (km t):=by intro pins s σ H Q I hq;refine wpAny_Tuple_spliced (EA (h pos pins s σ H _ I hq) fun us s1 ⟨xs,H1,I1,r,z,q⟩=>⟨by rw[<- r.length];exact z,?_⟩);have hf:H1 s1.heap.objs.size=none:=I1.hok.fresh (Qa _);refine⟨.ref s1.heap.objs.size,FA H1 s1.heap.objs.size (.tup xs),I1.laid (t':=s1.toks) (fun b u e=>QF _ e) (Qa _) ?_,rfl,q _ hf⟩;exact⟨z,us,r,⟨_,QY _ rfl,rfl,_,rfl⟩⟩
theorem Ue(h:PA X es t):PE X (.List es pos) (gm t):=by intro pins s σ H Q I hq;refine wpAny_List_spliced (EA (h pos pins s σ H _ I hq) fun us s1 ⟨xs,H1,I1,r,z,q⟩=>⟨by rw[<- r.length];exact z,?_⟩);have hf:H1 s1.heap.objs.size=none:=I1.hok.fresh (Qa _);refine⟨.ref s1.heap.objs.size,FA H1 s1.heap.objs.size (.lst xs),I1.laid (t':=s1.toks) (fun b u e=>QF _ e) (Qa _) ?_,rfl,q _ hf⟩;exact⟨z,us,0,r,QY _ rfl⟩
end
noncomputable abbrev Sp:=List V->Hp->VK->XK->Prop
noncomputable abbrev DU:=List Env->Hp->Shared->XK->Value->Shared->Prop
structure Env0(P:Program)(w:World)(K:QC)(mg:Str->Option Value)(base:Heap)(A:Around)(outer:List Env)(s:Shared)(H:Hp):Prop where
 frames:A.frames=some outer
 mod:Mod K mg base
 bs:∀b o,base.get? b=some o->s.heap.get? b=some o/\H b=none
 bsz:base.objs.size<=s.heap.objs.size
 funs:s.heap.FunFrames base outer
 frf:∀b∈dO outer,H b=none
 hok:UH P w H s.heap
 bare:AllBare s.gens
def CE(outer:List Env)(P:Program)(w:World)(H:Hp)(s:Shared)(Q:VK)(u:Value)(s':Shared):Prop :=
 ∃v H',s'.os=s.os/\AllBare s'.gens/\Un (dO outer) [] H H' s.heap s'.heap/\UH P w H' s'.heap/\sA v u/\Q v H'
def CR(CX:DU)(outer:List Env)(P:Program)(w:World)(H:Hp)(s:Shared)(Q:VK)(E:XK)(r:Result)(s':Shared):Prop :=
 match r with
 | .ok (.ret u)=>CE outer P w H s Q u s'
 | .ok _=>False
 | .error e=>CX outer H s E e s'
structure FnOk(P:Program)(w:World)(K:QC)(mg:Str->Option Value)(base:Heap)(CX:DU)(k:Nat)(f:Addr)(fd:FuncData)(ps:List Str)(sp:Sp):Prop where
 len:∀vs H Q E,sp vs H Q E->vs.length=ps.length
 run:∀(A:Around) (outer:List Env) (s:Shared) (H:Hp) (args:Args) (us:List Value) (vs:List V) (Q:VK) (E:XK),Room k A->Env0 P w K mg base A outer s H->BindsTo s fd args (ps.zip us)->pA vs us->sp vs H Q E ->
  codeAny (model P w) A (.call (.ref f) args) (CR CX outer P w H s Q E) s
theorem FnOk.mono{P:Program}{w:World}{K:QC}{mg:Str->Option Value}{base:Heap}{CX:DU}{j k:Nat}{f:Addr}{fd:FuncData}{ps:List Str}{sp:Sp}(F:FnOk P w K mg base CX j f fd ps sp)(h:j<=k) :
  FnOk P w K mg base CX k f fd ps sp:=⟨F.len,fun A outer s H args us vs Q E hr=>F.run A outer s H args us vs Q E (hr.mono h)⟩
theorem Env0.make{P:Program}{w:World}{K:QC}{mg:Str->Option Value}{base:Heap}{A:Around}{outer:List Env}{s:Shared}{H:Hp}(e:Env0 P w K mg base A outer s H)(C:Addr)(us:List Value)(kw:List (Str×Value)) :
  Env0 P w K mg base (A.under (.builtin "type.__call__" ⟨.ref C::us,kw⟩)) outer s H:=⟨by first|exact e.frames | (simpa[QCC,Code.envs,QCD,pushEnvs]using e.frames),e.mod,e.bs,e.bsz,e.funs,e.frf,e.hok,e.bare⟩
section
variable{X:Cx}{pins:ZB}{σ:St}{H:Hp}{s s':Shared}
theorem Inv.env0(I:Inv X pins σ H s):Env0 X.prog X.w X.K X.mg X.base X.A X.stack s H :=
 ⟨I.ok.frames,I.ok.mod,I.bs,qC I.ok.bsz I.sz,I.stack,I.stkFree,I.hok,I.bare⟩
theorem Inv.after{Q:VK}{u:Value}(I:Inv X pins σ H s)(h:CE X.stack X.prog X.w H s Q u s'):EP X pins σ Q u s':=by obtain⟨v,H',os,bare,un,hok,r,q⟩:=h;obtain⟨hh,g,d,t,os'⟩:=s';obtain rfl:os'=s.os:=os;exact⟨v,H',I.call (h':=hh) (g':=g) (d':=d) (t':=t) (ch:=[]) un hok bare (fun b z=>absurd z (by simp)),r,q⟩
end
noncomputable def d9(sp:Sp)(dvs:List V)(E:XK)(t:TA):TE:=fun σ H Q=>t σ H fun vs H1=>sp (vs++dvs) H1 Q E
def AD(K:QC)(fd:FuncData)(ps:List Str)(ds:List Value):Prop :=
 ∀(s:Shared) (us:List Value),K.In s.heap->(us++ds).length=ps.length->BindsTo s fd ⟨us,[]⟩ (ps.zip (us++ds))
theorem AD.all{K:QC}{fd:FuncData}{ps:List Str}(h:∀us:List Value,us.length=ps.length->bindArgs fd ⟨us,[]⟩=pure (ps.zip us)):AD K fd ps []:=fun s us _ hl=>by rw[Q7]at hl ⊢;exact .of_eq (h us hl)
def OM(CX:DU)(X:Cx)(E:XK):Prop:=∀(pins:ZB) (σ:St) (H:Hp) (s:Shared) (e:Value) (s':Shared),Inv X pins σ H s->CX X.stack H s E e s'->X.xe e s'
section
variable{X:Cx}{CX:DU}{k:Nat}{f C:Addr}{fd:FuncData}{ps:List Str}{sp:Sp}{dvs:List V}{ds:List Value}{E:XK}{x m:Str}{p pos apos:Pos}{e o:Expr}{es:List Expr}{ta:TE}{t:TA}
theorem SY{pins:ZB}{σ:St}{H:Hp}{s:Shared}{Q:VK}{us:List Value}{vs:List V}(F:FnOk X.prog X.w X.K X.mg X.base CX k f fd ps sp)(hr:Room k X.A)(hb:AD X.K fd ps ds)(hd:pA dvs ds)(hx:OM CX X E)
  (I:Inv X pins σ H s) (r:pA vs us) (h:sp (vs++dvs) H Q E):wpAny (model X.prog X.w) X.A (call (.ref f) us) (EP X pins σ Q) X.xe s:=by
 have r2:pA (vs++dvs) (us++ds):=r.append hd;have hl:(us++ds).length=ps.length:=by rw[<- r2.length];exact F.len _ _ _ _ h
 refine QBD (Wg (F.run X.A X.stack s H ⟨us,[]⟩ (us++ds) (vs++dvs) Q E hr I.env0 (hb s us I.kIn hl) r2 h) fun r s' hq=>?_);cases r with
 |error e=>exact hx pins σ H s e s' I hq
 |ok fl =>
  cases fl with
  |ret u=>exact I.after hq
  |next=>exact QR hq
  |brk=>exact QR hq
  |cont=>exact QR hq
theorem v7(F:FnOk X.prog X.w X.K X.mg X.base CX k f fd ps sp)(hr:Room k X.A)(hg:Gl X x)(hm:X.mg x=some (.ref f))(hk:qU X.K (.ref f)=true)(hb:AD X.K fd ps ds)(hd:pA dvs ds)(hx:OM CX X E)
  (ha:PA X (e::es) t) (hdb:(x==("__debug__":Str))=false:=by decide) (he:starEach (e::es) X.env=(false,eval e X.env)::starEach es X.env:=by rfl) (hpl:(backTo pos (starEach es X.env)).any (·.1)=false:=by rfl) :
  PE X (.Call (.Name x p) (e::es) [] pos) (d9 sp dvs E t):=by
 intro pins s σ H Q I h;refine wD (zJ I hg hm ?_ hdb);refine QAG (h₀:=X.base) I.ok.mod.kin hk (EA (ha pos pins s σ H _ I h) fun us s1 ⟨vs,H1,I1,r,q⟩=>⟨I1.kIn,?_⟩) he hpl;exact SY F hr hb hd hx I1 r q
theorem ZZ(F:FnOk X.prog X.w X.K X.mg X.base CX k f fd ps sp)(hr:Room k X.A)(hg:Gl X x)(hm:X.mg x=some (.ref f))(hk:qU X.K (.ref f)=true)(hb:AD X.K fd ps ds)(hd:pA dvs ds)(hx:OM CX X E)
  (hdb:(x==("__debug__":Str))=false:=by decide):PE X (.Call (.Name x p) [] [] pos) (d9 sp dvs E oh):=by
 intro pins s σ H Q I h;refine wD (zJ I hg hm ?_ hdb);exact PySem.W.callWith_K0 I.kIn hk (SY (us:=[]) F hr hb hd hx I .nil h)
end
section
variable{X:Cx}{CX:DU}{k:Nat}{f C:Addr}{fd:FuncData}{ps ks:List Str}{sp:Sp}{E:XK}{x m:Str}{p pos apos kpos:Pos}{e o:Expr}{es:List Expr}{kws:List Keyword}{te ta:TE}{t tk:TA}{nm:Option Str}
variable{g:List Value->List Value->List Value}{gV:List V->List V->List V}
end
structure FnScope(N P:List Str)(sc:Scope):Prop where
 kind:sc.kind=.function
 co:sc.isCoroutine=false
 gen:sc.isGenerator=false
 nd:N.Nodup
 pre:N.take P.length=P
 par:∀x∈P,sc.names.lookup x=some .local∨sc.names.lookup x=some .cell
 nofree:∀y∈sc.names,y.2≠.free
theorem aO{kindOf:Str->Option NameKind}{x:Str}:∀{binds:List (Str×Value)}{m:Str->Option Value},(∀v,(x,v)∉binds)->bindL kindOf binds m x=m x
 |[],_,_=>rfl
 | (n,v)::r,m,h=>by
  unfold bindL;rw[aO fun w hw=>h w (QG _ hw)];split;have:x≠n:=by rintro rfl;exact h v QK
  simp[this];rfl
theorem iO{kindOf:Str->Option NameKind}{x:Str}:∀{binds:List (Str×Value)}{m:Str->Option Value},(∀v,(x,v)∉binds)->bindC kindOf binds m x=m x
 |[],_,_=>rfl
 | (n,v)::r,m,h=>by
  unfold bindC;rw[iO fun w hw=>h w (QG _ hw)];split;rfl;have:x≠n:=by rintro rfl;exact h v QK
  simp[this]
theorem eO{kindOf:Str->Option NameKind}{x:Str}{v:Value}:∀{P:List Str}{vs:List Value}{i:Nat}{m:Str->Option Value},P.Nodup->P[i]?=some x->vs[i]?=some v->kindOf x=some .local ->
  bindL kindOf (P.zip vs) m x=some v
 |[],_,_,_,_,h,_,_=>by simp at h
 |_::_,[],_,_,_,_,h,_=>by simp at h
 |p::P,w::vs,0,m,nd,h1,h2,hk=>by simp at h1 h2;subst h1;subst h2;show bindL kindOf ((p,w)::P.zip vs) m p=_;unfold bindL;rw[aO fun v hv=>(qk.mp nd).1 (ql hv).1,if_pos hk];simp
 |p::P,w::vs,i+1,m,nd,h1,h2,hk=>by show bindL kindOf ((p,w)::P.zip vs) m x=_;unfold bindL;exact eO (i:=i) (qk.mp nd).2 (by simpa using h1) (by simpa using h2) hk
theorem JO{kindOf:Str->Option NameKind}{x:Str}{v:Value}:∀{P:List Str}{vs:List Value}{i:Nat}{m:Str->Option Value},P.Nodup->P[i]?=some x->vs[i]?=some v->kindOf x≠some .local ->
  bindC kindOf (P.zip vs) m x=some v
 |[],_,_,_,_,h,_,_=>by simp at h
 |_::_,[],_,_,_,_,h,_=>by simp at h
 |p::P,w::vs,0,m,nd,h1,h2,hk=>by simp at h1 h2;subst h1;subst h2;show bindC kindOf ((p,w)::P.zip vs) m p=_;unfold bindC;rw[iO fun v hv=>(qk.mp nd).1 (ql hv).1,if_neg hk];simp
 |p::P,w::vs,i+1,m,nd,h1,h2,hk=>by show bindC kindOf ((p,w)::P.zip vs) m x=_;unfold bindC;exact JO (i:=i) (qk.mp nd).2 (by simpa using h1) (by simpa using h2) hk
noncomputable def jE(N:List Str)(vs:List V):St:=vs.map some++QI (N.length - vs.length) none
noncomputable def EJ(CX:DU)(P:Program)(w:World)(K:QC)(mg:Str->Option Value)(base:Heap)(N:List Str)(qual:Str)(scope:Scope)(f:Addr)(cd:Value)(A:Around)(outer:List Env)(s:Shared)(H:Hp)(E:XK):Cx where
 prog:=P
 w:=w
 K:=K
 mg:=mg
 base:=base
 A:=A.deeper (envOfC qual scope s.heap.objs.size f cd)
 N:=N
 s₀:=s
 H₀:=H
 env:=envOfC qual scope s.heap.objs.size f cd
 outer:=outer
 stack:=envOfC qual scope s.heap.objs.size f cd::outer
 ex:=[]
 calm:=true
 fn:=fun _=>true
 pn:=[]
 xe:=fun e s'=>wpAny (model P w) (A.deeper (envOfC qual scope s.heap.objs.size f cd)) (leaving (envOfC qual scope s.heap.objs.size f cd) e) (fun _ s''=>CX outer H s E e s'') (fun e' s''=>CX outer H s E e' s'') s'
theorem MR{sc:Scope}{n:Nat}{x:Str}(h:sc.names.lookup x=some .cell):∃c,(cellsFrom n sc.names []).lookup x=some c:=by have q:=QAw sc.names n [] (.inl h);exact QAV.mp q
theorem YX{CX:DU}{P:Program}{w:World}{K:QC}{mg:Str->Option Value}{base:Heap}{N ps:List Str}{qual:Str}{scope:Scope}{f:Addr}{cd:Value}{A:Around}{outer:List Env}{s s1:Shared}{H:Hp}{E:XK}{us:List Value}{vs:List V}
  (S:FnScope N ps scope) (hd:A.handled=none) (e0:Env0 P w K mg base A outer s H) (hl:vs.length=ps.length) (r:pA vs us)
  (x:InCallC s s.heap.objs.size (bindL (envOfC qual scope s.heap.objs.size f cd).kindOf (ps.zip us) fun _=>none) (cellsFrom (s.heap.objs.size+1) scope.names []) (bindC (envOfC qual scope s.heap.objs.size f cd).kindOf (ps.zip us) fun _=>none) s1) :
  Inv (EJ CX P w K mg base N qual scope f cd A outer s H E) [] (jE N vs) H s1:=by
 have hpl:ps.length<=N.length:=by have:=congrArg W6 S.pre;rw[Wl]at this;omega
 obtain⟨h1,tk,rfl,hk⟩:=x.done;have noA:∀b:Addr,b∉(EJ CX P w K mg base N qual scope f cd A outer s H E).ex:=fun b z=>absurd (show b∈([]:List Addr) from z) (by simp);refine⟨⟨e0.mod,S.kind,rfl,rfl,Qa _,fun y z c h1 h2=>?_,fun y hy=>?_,fun y c _ h=>?_,fun _=>hd,Around.frames_deeper e0.frames,.inr ⟨rfl,rfl⟩,fun b z=>absurd z (noA b),e0.bs,e0.bsz,fun b _ _=>noA b,fun b z=>absurd z (noA b),e0.funs,e0.frf⟩,
  rfl,e0.bare,Un.kept hk,⟨_,x.toInCall.ns,fun i y v h1 h2 h3=>?_⟩,fun y c h=>⟨_,x.cell y c h⟩,e0.hok.fresh (Qa _),fun y c h=>?_,fun p hp=>absurd (show p∈([]:ZB) from hp) (by simp),e0.hok.kept hk,?_⟩
 exact name_of_addr x.apart (qA h1) (qA h2);have hy:scope.names.lookup y=some .cell∨scope.names.lookup y=some .free:=hy;rcases hy with hy|hy;exact MR hy;exact absurd rfl (S.nofree _ (qA hy));exact QCA (x.above y c (qA h));have hi:i<vs.length:=by unfold jE at h2;by_cases hi:i<vs.length;exact hi;rw[qH (by simpa using hi)]at h2;rw[wV]at h2;split at h2<;>cases h2
 have ha:vs[i]?=some v:=by
  unfold jE at h2;rw[qL (by simpa using hi),Qv]at h2;cases e:vs[i]? with
  |none=>rw[e]at h2;cases h2
  |some a=>rw[e]at h2;cases h2;rfl
 obtain⟨u,hu,rv⟩:=r.get ha;have hp:ps[i]?=some y:=by rw[<- S.pre,List.getElem?_take_of_lt (by omega)];exact h1
 have ndP:ps.Nodup:=by rw[<- S.pre];exact S.nd.sublist (List.take_sublist _ _)
 refine⟨u,rv,?_⟩;rcases S.par y (Qn hp) with k|k;exact .inl ⟨k,eO ndP hp hu k⟩;obtain⟨c,e⟩:=MR (n:=s.heap.objs.size+1) k;refine .inr ⟨.inl k,c,e,?_⟩;have q:=x.cell y c e;rw[JO ndP hp hu (by show scope.names.lookup y≠_;rw[k];decide)]at q;exact q;exact e0.hok.fresh (QCA (x.above y c (qA h)));unfold jE;show _=N.length;rw[Qc,QJ,qF];omega
theorem Ka{CX:DU}{P:Program}{w:World}{K:QC}{mg:Str->Option Value}{base:Heap}{k:Nat}{f:Addr}{name qual:Str}{params:Arguments}{body:List Stmt}{scope:Scope}{dV kV doc pm cdv ct oc:Value}{an od:Option Addr}
  {osl:Array (Option Value)}{N ps:List Str}{sp:Sp}(lk:K.lookup f=some ⟨oc,od,.func (qI name qual params body scope dV kV doc pm an cdv ct),osl⟩) (hcd:WA K cdv qual=true) (S:FnScope N ps scope)
  (len:∀vs H Q E,sp vs H Q E->vs.length=ps.length)
  (hbody:∀(A:Around) (outer:List Env) (s:Shared) (H:Hp) (vs:List V) (Q:VK) (E:XK),Room k (A.deeper (envOfC qual scope s.heap.objs.size f cdv))->sp vs H Q E ->
   ∃t,gW (EJ CX P w K mg base N qual scope f cdv A outer s H E) body t/\t { nx:=fun _ H'=>Q .non H',rt:=Q } (jE N vs) H) :
  FnOk P w K mg base CX (k+1) f (qI name qual params body scope dV kV doc pm an cdv ct) ps sp:=by
 refine⟨len,fun A outer s H args us vs Q E hr e0 hb r hsp=>?_⟩;have hl:=len _ _ _ _ hsp;have KX:K.In s.heap:=e0.mod.kin.keeps fun b o e=>(e0.bs b o e).1;have lim:s.heap.NoLimit:=e0.mod.nolimit.keeps fun b o e=>(e0.bs b o e).1;have hkind:∀y∈ps.zip us,scope.names.lookup y.1=some .local∨(scope.names.lookup y.1=some .cell/\((cellsFrom (s.heap.objs.size+1) scope.names []).lookup y.1).isSome=true):=fun⟨n,v⟩ hy=>by rcases S.par n (ql hy).1 with q|q;exact .inl q;exact .inr ⟨q,QAw _ _ _ (.inl q)⟩
 refine codeAny_call_function hr.depth (KX _ _ lk) rfl S.co S.gen rfl (PySem.W.codeRec_of KX hcd) (hb _ _ _ _ ?_);refine wpAny_newFunctionEnv_cells S.kind hkind fun env he s1 x=>?_;subst he;refine⟨lim.keeps x.toInCall.keep,codeAny_func ?_⟩;obtain⟨t,ht,hq⟩:=hbody A outer s H vs Q E (hr.deeper _) hsp;have I:Inv (EJ CX P w K mg base N qual scope f cdv A outer s H E) [] (jE N vs) H s1:=YX S hr.hd e0 hl r x;refine qQ (ht [] s1 (jE N vs) H _ I hq) (fun fl s' hs=>?_) fun e s' hs=>hs;have fin:∀{σ':St}{H':Hp}{v:V}{u:Value},Inv (EJ CX P w K mg base N qual scope f cdv A outer s H E) [] σ' H' s'->sA v u->Q v H'->CE outer P w H s Q u s' :=
  fun {σ' H' v u} J rv q=>⟨v,H',J.os,J.bare,J.base,J.hok,rv,q⟩
 cases fl with
 |ret u=>obtain⟨v,σ',H',J,rv,q⟩:=hs;exact fin J rv q
 |next=>obtain⟨σ',H',J,q⟩:=hs;exact fin (v:=V.non) (u:=Value.none) J rfl q
 |brk=>obtain⟨_,_,_,q⟩:=hs;exact QR q
 |cont=>obtain⟨_,_,_,q⟩:=hs;exact QR q
section
variable{X:Cx}{x:Str}{p pos:Pos}{e:Expr}{es:List Expr}{t:TA}{id T:String}{r:List V->Hp->VK->Prop}
noncomputable def On(r:List V->Hp->VK->Prop)(t:TA):TE:=fun σ H Q=>t σ H fun vs H1=>r vs H1 Q
theorem RI(hc:gD X (.builtin id) r)(hg:Gl X x)(hm:X.mg x=none)(hv:bootBuiltins x=some (.builtin id))(ha:PA X (e::es) t)(hn:x≠"__name__":=by decide)(hdb:(x==("__debug__":Str))=false:=by decide)
  (he:starEach (e::es) X.env=(false,eval e X.env)::starEach es X.env:=by rfl) (hpl:(backTo pos (starEach es X.env)).any (·.1)=false:=by rfl):PE X (.Call (.Name x p) (e::es) [] pos) (On r t):=by
 intro pins s σ H Q I h;refine wD (NG I hg hm hv ?_ hn hdb);exact Wh (EA (ha pos pins s σ H _ I h) fun us s1 ⟨vs,H1,I1,r1,q1⟩=>hc pins s1 σ H1 vs us Q I1 r1 q1) he hpl
theorem EW(hc:gD X (.type T) r)(hg:Gl X x)(hm:X.mg x=none)(hv:bootBuiltins x=some (.type T))(ha:PA X (e::es) t)(hn:x≠"__name__":=by decide)(hdb:(x==("__debug__":Str))=false:=by decide)
  (he:starEach (e::es) X.env=(false,eval e X.env)::starEach es X.env:=by rfl) (hpl:(backTo pos (starEach es X.env)).any (·.1)=false:=by rfl):PE X (.Call (.Name x p) (e::es) [] pos) (On r t):=by
 intro pins s σ H Q I h;refine wD (NG I hg hm hv ?_ hn hdb);exact wA (EA (ha pos pins s σ H _ I h) fun us s1 ⟨vs,H1,I1,r1,q1⟩=>hc pins s1 σ H1 vs us Q I1 r1 q1) he hpl
end
end L2
namespace HT
open PySem PyProof.Rows
section
open PySem.SeqAt
open PySem.AutoSeq1 (wpAny_loadPart')
open PySem.MeetsSeq PySem.MeetsSeq2 PySem.MeetsSeq3
end
section
variable{prog:Program}{w:World}{A:Around}{E:NB}{s:Shared}
theorem cat_tup{t b:Addr}{vs ws:List Value}{Q:NB}(ht:IsTup s.heap t vs.toArray)(hb:IsTup s.heap b ws.toArray)(hv:vs≠[])
  (h1:ws=[]->Q (.ref t) s) (h2:ws≠[]->Q (.ref s.heap.objs.size) { s with heap:=s.heap.push { cls:=.type "tuple",data:=.seq (vs++ws).toArray } })
  (hsz:vs.length+ws.length<=sizeLine):wpAny (model prog w) A (binaryOp .Add (.ref t) (.ref b)) Q E s:=by
 obtain⟨⟨cls,dd,data,sl⟩,ho,hc,n,hd⟩:=id ht;obtain⟨⟨cls2,dd2,data2,sl2⟩,ho2,hc2,n2,hd2⟩:=id hb;simp only at hc hd hc2 hd2;subst hc hd hc2 hd2;have e:vs.toArray++ws.toArray=(vs++ws).toArray:=by simp
 by_cases hw:ws=[];exact QCE ⟨_,ho,rfl⟩ ⟨_,ho2,rfl⟩ QCJ seq_tuple_add QAx QAl (QAW _ _)
  (tuple_addW1 t b vs.toArray ws.toArray n n2 dd dd2 sl sl2 (by simpa using hv) (by simp[hw])) ⟨ho,ho2,h1 hw⟩
 refine QCE ⟨_,ho,rfl⟩ ⟨_,ho2,rfl⟩ QCJ seq_tuple_add QAx QAl (QAW _ _)
  (tuple_addW2 t b vs.toArray ws.toArray n n2 dd dd2 sl sl2 (by simpa using hv) (by simpa using hw) (by rw[QM,QM];exact hsz)) ⟨ho,ho2,?_⟩
 rw[e];exact h2 hw
noncomputable def sIx(n d:Nat):Option Int->Nat
 |none=>d
 |some v=>if v<0 then(v+(n:Int)).toNat else min v.toNat n
theorem Ad(n d:Nat)(hd:d<=n)(o:Option Int):sIx n d o<=n:=by
 cases o with
 |none=>exact hd
 |some v=>show(if v<0 then(v+(n:Int)).toNat else min v.toNat n)<=n;by_cases hv:v<0;rw[if_pos hv];omega;rw[if_neg hv];exact Nat.min_le_right _ _
theorem uW(v:Int)(n d:Nat):(if v<0 then max (v+(n:Int)) 0 else min v (n:Int))=((sIx n d (some v):Nat):Int):=by show(if v<0 then max (v+(n:Int)) 0 else min v (n:Int))=(((if v<0 then(v+(n:Int)).toNat else min v.toNat n):Nat):Int);by_cases hv:v<0;simp only[if_pos hv];omega;simp only[if_neg hv];omega
theorem XU(lo hi:Option Int)(n:Nat):WD lo hi 1 (n:Int)=(((sIx n 0 lo:Nat):Int),((sIx n n hi:Nat):Int)):=by
 have h1:¬ ((1:Int)<0):=by omega
 unfold WD;simp only[h1,if_false];refine Prod.ext ?_ ?_;cases lo with
 |none=>rfl
 |some v=>exact uW v n 0
 cases hi with
 |none=>rfl
 |some v=>exact uW v n n
theorem jT(i j:Nat):wI (i:Int) (j:Int) 1=j - i:=by
 unfold wI;have h1:(1:Int) > 0:=by omega
 simp only[h1,if_true,Int.ediv_one];split<;>omega
theorem fL{v:Value}{o:Option Int}{Q:Option Int->Shared->Prop}(p:IsPart v o)(h:Q o s):wpAny (model prog w) A (Builtin.Slice.slicePartIndex v) Q E s:=by
 cases p with
 |none=>exact slicePart_none h
 |int i t=>exact slicePart_int h
theorem sliceApplied_gen{sl:Addr}{vl vu:Value}{lo hi:Option Int}{n:Nat}{Q:Int×Int×Nat->Shared->Prop}(hs:s.heap.IsSliceOf sl vl vu .none)(pl:IsPart vl lo)(pu:IsPart vu hi)
  (h:Q (((sIx n 0 lo:Nat):Int),1,sIx n n hi - sIx n 0 lo) s):wpAny (model prog w) A (QAB (.ref sl) (pure (n:Int))) Q E s:=by
 obtain⟨os,hos,hcs,hds⟩:=id hs;unfold QAB Builtin.Slice.sliceFields;refine QE (QE (Q3 hos hds (x:=vl) rfl (QE (Q3 hos hds (x:=vu) rfl (QE (Q3 hos hds (x:=.none) rfl (QT ?_)))))));refine QE (slicePart_none ?_);show wpAny _ _ (if((1:Int)==0)=true then _ else _) _ _ s;rw[if_neg (by decide)];refine QE (fL pl (QE (fL pu (QE (QT ?_)))));show wpAny _ _ (match WD lo hi 1 (n:Int) with | (lo,hi)=>pure (lo,(1:Int),wI lo hi 1)) _ _ s;rw[XU lo hi n];show wpAny _ _ (pure (((sIx n 0 lo:Nat):Int),(1:Int),wI ((sIx n 0 lo:Nat):Int) ((sIx n n hi:Nat):Int) 1)) _ _ s;rw[jT];exact QT h
theorem oZ(xs:Array Value)(i k:Nat):((qK k).filterMap fun(m:Nat)=>xs[((i:Int)+(m:Int) * 1).toNat]?).toArray=((xs.toList.drop i).take k).toArray:=by
 have e:(fun(m:Nat)=>xs[((i:Int)+(m:Int) * 1).toNat]?)=fun m=>xs[i+m]?:=by
  funext m;have:((i:Int)+(m:Int) * 1).toNat=i+m:=by omega
  rw[this]
 rw[e];have:=pick_run xs i k;rw[List.filterMap_map]at this;have e2:((fun x=>xs[x]?)∘fun x=>i+x)=fun m=>xs[i+m]?:=rfl;rw[e2]at this;rw[this]
theorem getItem_tuple_cut{t sl:Addr}{items:Array Value}{vl vu:Value}{lo hi:Option Int}{Q:NB}(ht:IsTup s.heap t items)(hs:s.heap.IsSliceOf sl vl vu .none)(pl:IsPart vl lo)(pu:IsPart vu hi)
  (hw:¬ (sIx items.size 0 lo=0/\sIx items.size items.size hi=items.size))
  (h:Q (.ref s.heap.objs.size) { s with heap:=s.heap.push { cls:=.type "tuple",data:=.seq ((items.toList.drop (sIx items.size 0 lo)).take (sIx items.size items.size hi - sIx items.size 0 lo)).toArray } })
  (hsz:items.size<=sizeLine):wpAny (model prog w) A (getItem (.ref t) (.ref sl)) Q E s:=by
 have htake:sizeOk (.seq ((items.toList.drop (sIx items.size 0 lo)).take (sIx items.size items.size hi - sIx items.size 0 lo)).toArray):=by show((items.toList.drop (sIx items.size 0 lo)).take (sIx items.size items.size hi - sIx items.size 0 lo)).toArray.size<=sizeLine;rw[QM,Wl,QAs,Qh];omega
 have hj:sIx items.size items.size hi<=items.size:=Ad _ _ (Qa _) hi;obtain⟨os,hos,hcs,hds⟩:=id hs;have hTs:s.TypeIs (.ref sl) "slice":=⟨os,hos,hcs⟩
 unfold getItem
 try with_reducible refine WM ?_
 first|refine QE (QT ?_)|skip
 refine QE (QBv ht.typeIs (by decide) ?_);refine QE (qY (name:=QA "__getitem__") ht.typeIs wM
  (wX wM ht.typeIs QBN ?_ (QBi _ _)))
 show wpAny _ _ (QAC (.ref t) >>= _) _ _ s;refine QE (tupleItemsOf_ ht ?_);refine QE (QCF hTs ?_);rw[if_pos (by decide)];refine QE (sliceApplied_gen hs pl pu ?_);have hno:¬ ((((sIx items.size 0 lo:Nat):Int)==0&&(1:Int)==1&&(sIx items.size items.size hi - sIx items.size 0 lo)==items.size)=true):=by intro q;rw[QN,QN]at q;have q1:((sIx items.size 0 lo:Nat):Int)=0:=Qd q.1.1;have q2:sIx items.size items.size hi - sIx items.size 0 lo=items.size:=Qd q.2;exact hw ⟨by omega,by omega⟩
 show wpAny _ _ (if(((sIx items.size 0 lo:Nat):Int)==0&&(1:Int)==1&&(sIx items.size items.size hi - sIx items.size 0 lo)==items.size)=true then _ else _) _ _ s;rw[if_neg hno,oZ];first
  |exact QE (m:=wN _) (qe (QT ⟨_,rfl,QT h⟩) htake)
  |exact QE (m:=wN _) (qe (QE (QT (QT ⟨_,rfl,QT h⟩))) htake)
  |exact QE (QE (m:=wN _) (qe (QT (QT ⟨_,rfl,QT h⟩)) htake))
  |exact QE (QE (m:=wN _) (qe (QT ⟨_,rfl,QT h⟩) htake))
end
end HT
namespace L2
open PySem PySem.Spec PyProof.Rows
noncomputable abbrev TO:=St->Hp->(Option Int->Hp->Prop)->Prop
def PO(X:Cx)(e:Option Expr)(t:TO):Prop :=
 ∀(pins:ZB) (s:Shared) (σ:St) (H:Hp) (Q:Option Int->Hp->Prop),Inv X pins σ H s->t σ H Q ->
  wpAny (model X.prog X.w) X.A (evalPart e X.env) (fun u s'=>∃o H',Inv X pins σ H' s'/\IsPart u o/\Q o H') X.xe s
noncomputable def R5:TO:=fun _ H Q=>Q none H
noncomputable def mh(t:TE):TO:=fun σ H Q=>t σ H fun x H1=>∃i,x=.int i/\Q (some i) H1
section
variable{X:Cx}{e:Expr}{te:TE}{lo hi:Option Expr}{tl th:TO}{pos p2:Pos}
theorem N6:PO X none R5:=by intro pins s σ H Q I h;rw[evalPart_none];exact QT ⟨none,H,I,.none,h⟩
theorem M6(h:PE X e te):PO X (some e) (mh te):=by intro pins s σ H Q I hw;rw[evalPart_some];refine EA (h pins s σ H _ I hw) fun u s1 ⟨x,H1,I1,r1,q1⟩=>?_;obtain⟨i,rfl,q⟩:=q1;obtain⟨t,rfl⟩:=r1;exact⟨some i,H1,I1,.int i t,q⟩
def Hk(X:Cx)(r:V->Option Int->Option Int->Hp->VK->Prop):Prop :=
 ∀(pins:ZB) (s:Shared) (σ:St) (H:Hp) (x:V) (v vl vu:Value) (lo hi:Option Int) (sl:Addr) (Q:VK),Inv X pins σ H s->sA x v->s.heap.IsSliceOf sl vl vu .none->IsPart vl lo->IsPart vu hi->r x lo hi H Q ->
  ∃T id,typeLookup (.type T) "__getitem__"=pure (some (.builtin id))/\s.TypeIs v T/\wpAny (model X.prog X.w) X.A (getItem v (.ref sl)) (EP X pins σ Q) X.xe s
noncomputable def Bp(r:V->Option Int->Option Int->Hp->VK->Prop)(te:TE)(tl th:TO):TE:=fun σ H Q=>te σ H fun x H1=>tl σ H1 fun l H2=>th σ H2 fun u H3=>r x l u H3 Q
theorem pZ{r:V->Option Int->Option Int->Hp->VK->Prop}(hr:Hk X r)(he:PE X e te)(hl:PO X lo tl)(hu:PO X hi th):PE X (.Subscript e (.Slice lo hi none p2) pos) (Bp r te tl th):=by intro pins s σ H Q I h;refine QCp (EA (he pins s σ H _ I h) fun v s1 ⟨x,H1,I1,r1,q1⟩=>?_);refine wpAny_Slice (EA (hl pins s1 σ H1 _ I1 q1) fun vl s2 ⟨l,H2,I2,pl,q2⟩=>EA (hu pins s2 σ H2 _ I2 q2) fun vu s3 ⟨u,H3,I3,pu,q3⟩=>?_);rw[evalPart_none];refine QT ?_;have I4:Inv X pins σ H3 { s3 with heap:=s3.heap.push { cls:=.type "slice",data:=.fields #[vl,vu,.none] } }:=I3.kept (t':=s3.toks) fun b ob q=>QF _ q;obtain⟨T,id,hT,ht,hg⟩:=hr pins { s3 with heap:=s3.heap.push { cls:=.type "slice",data:=.fields #[vl,vu,.none] } } σ H3 x v vl vu l u s3.heap.objs.size Q I4 r1 (Heap.IsSliceOf.new ..) pl pu q3;show wpAny (model X.prog X.w) X.A (subscriptTail e (.Slice lo hi none p2) v (.ref s3.heap.objs.size)) (EP X pins σ Q) X.xe { s3 with heap:=s3.heap.push { cls:=.type "slice",data:=.fields #[vl,vu,.none] } };exact tail_any (ops:=[.ref s3.heap.objs.size,v]) ht hT hg (by with_unfolding_all rfl)
noncomputable def DR(xs:List V)(lo hi:Option Int):List V:=(xs.drop (HT.sIx xs.length 0 lo)).take (HT.sIx xs.length xs.length hi - HT.sIx xs.length 0 lo)
theorem rK(xs:List V)(lo hi:Option Int):(DR xs lo hi).length<=xs.length:=by unfold DR;rw[Wl,QAs];omega
noncomputable def ji(K:QC):V->Option Int->Option Int->Hp->VK->Prop:=fun x lo hi H Q=>∃a xs,x=.ref a/\LE K H a xs /\
 ¬ (HT.sIx xs.length 0 lo=0/\HT.sIx xs.length xs.length hi=xs.length)/\∀p,H p=none->Q (.ref p) (FA H p (.tup (DR xs lo hi)))
theorem Fd:Hk X (ji X.K):=by
 intro pins s σ H x v vl vu lo hi sl Q I rx hs pl pu h;obtain⟨a,xs,rfl,hx,hw,q⟩:=h;cases rx;obtain⟨its,r,ht,hz⟩:=I.tuple hx;have hlen:its.toArray.size=xs.length:=by rw[QM];exact r.length.symm
 refine⟨"tuple",_,wM.lookup,ht.typeIs,?_⟩;refine HT.getItem_tuple_cut ht hs pl pu (by rw[hlen];exact hw) ?_ (by rw[hlen];exact hz);rw[hlen];refine⟨.ref s.heap.objs.size,_,I.laid (t':=s.toks) (o:=.tup (DR xs lo hi)) (fun b ob q=>QF _ q) (Qa _) ?_,rfl,q _ (I.hok.fresh (Qa _))⟩;exact⟨qC (rK xs lo hi) hz,_,(r.drop (HT.sIx xs.length 0 lo)).take (HT.sIx xs.length xs.length hi - HT.sIx xs.length 0 lo),QCr _ _⟩
noncomputable def U9(K:QC):R2:=fun x y H Q=>∃a b xs ys,x=.ref a/\y=.ref b/\LE K H a xs/\LE K H b ys/\xs≠[]/\xs.length+ys.length<=sizeLine /\
 (ys=[]->Q (.ref a) H)/\(ys≠[]->∀p,H p=none->Q (.ref p) (FA H p (.tup (xs++ys))))
theorem pA.nil_iff{xs:List V}{us:List Value}(r:pA xs us):us=[]↔xs=[]:=by
 cases r with
 |nil=>simp
 |cons _ _=>simp
theorem e7:cE X (binaryOp .Add) (U9 X.K):=by intro pins s σ H x y v u Q I rx ry h;obtain⟨a,b,xs,ys,rfl,rfl,ha,hb,hx,hz,q1,q2⟩:=h;cases rx;cases ry;obtain⟨its,r1,p1,_⟩:=I.tuple ha;obtain⟨its2,r2,p2,_⟩:=I.tuple hb;refine HT.cat_tup p1 p2 (fun z=>hx (r1.nil_iff.mp z)) (fun z=>⟨.ref a,H,I,rfl,q1 (r2.nil_iff.mp z)⟩) (fun z=>?_) (by rw[<- r1.length,<- r2.length];exact hz);refine⟨.ref s.heap.objs.size,_,I.laid (t':=s.toks) (o:=.tup (xs++ys)) (fun b ob q=>QF _ q) (Qa _) ?_,rfl,q2 (fun w=>z (r2.nil_iff.mpr w)) _ (I.hok.fresh (Qa _))⟩;exact⟨by rw[Qc];exact hz,_,r1.append r2,QCr _ _⟩
end
noncomputable def vO(n:Nat)(i:Int):Option Nat:=if 0<=i then(if i<n then some i.toNat else none) else if -(n:Int)<=i then some (i+n).toNat else none
noncomputable def mC{α:Type}(xs:List α)(i:Int):Option α:=(vO xs.length i).bind fun j=>xs[j]?
theorem JP{n:Nat}{i:Int}{j:Nat}(h:vO n i=some j):seqIndex? i n=some j/\j<n/\-(n:Int)<=i/\i<n:=by unfold vO at h;by_cases h0:0<=i;rw[if_pos h0]at h;by_cases h1:i<n;rw[if_pos h1]at h;have e:i.toNat=j:=QW h;exact⟨by rw[QCc h0 h1,e],by omega,by omega,h1⟩;rw[if_neg h1]at h;cases h;rw[if_neg h0]at h;by_cases h1:-(n:Int)<=i;rw[if_pos h1]at h;have e:(i+n).toNat=j:=QW h;exact⟨by rw[QCG (by omega) h1,e],by omega,h1,by omega⟩;rw[if_neg h1]at h;cases h
theorem IK{α:Type}{xs:List α}{i:Int}{v:α}(h:mC xs i=some v):∃j,seqIndex? i xs.length=some j/\xs[j]?=some v/\j<xs.length/\-(xs.length:Int)<=i/\i<xs.length:=by
 unfold mC at h;cases e:vO xs.length i with
 |none=>rw[e]at h;cases h
 |some j=>rw[e]at h;obtain⟨h1,h2,h3,h4⟩:=JP e;exact⟨j,h1,h,h2,h3,h4⟩
theorem gB{α:Type}{xs:List α}{j:Nat}{v:α}(h:xs[j]?=some v):mC xs (j:Int)=some v:=by
 have hj:j<xs.length:=(Qr.mp h).1;have e:vO xs.length (j:Int)=some j:=by unfold vO;rw[if_pos (by omega),if_pos (by omega)];simp
 unfold mC;rw[e];exact h
def fW(b:Expr):Prop:=∀o i,subscripted b false o i=operate [o,i] (getItem o i)
def x5(X:Cx)(r:R2):Prop :=
 ∀(value slice:Expr) (pins:ZB) (s:Shared) (σ:St) (H:Hp) (x y:V) (v u:Value) (Q:VK),Inv X pins σ H s->sA x v->sA y u->r x y H Q ->
  subscripted slice false v u=operate [v,u] (getItem v u)->wpAny (model X.prog X.w) X.A (subscriptTail value slice v u) (EP X pins σ Q) X.xe s
def ac(X:Cx)(id:String)(r:V->List V->Hp->VK->Prop):Prop :=
 ∀(pins:ZB) (s:Shared) (σ:St) (H:Hp) (x:V) (xs:List V) (v:Value) (us:List Value) (Q:VK),Inv X pins σ H s->sA x v->pA xs us->r x xs H Q ->
  wpAny (model X.prog X.w) X.A (call (.builtin id) (v::us)) (EP X pins σ Q) X.xe s
section
variable{X:Cx}{a b:Expr}{ta tb:TE}{pos:Pos}
theorem x5.or{r r':R2}(h:x5 X r)(h':x5 X r'):x5 X (fun x y H Q=>r x y H Q∨r' x y H Q):=by intro value slice pins s σ H x y v u Q I rx ry q hs;rcases q with q|q;exact h value slice pins s σ H x y v u Q I rx ry q hs;exact h' value slice pins s σ H x y v u Q I rx ry q hs
theorem F9{r:R2}(hr:x5 X r)(ha:PE X a ta)(hb:PE X b tb)(hs:fW b):PE X (.Subscript a b pos) (nh r ta tb):=by intro pins s σ H Q I h;exact QCp (binT ha hb I h fun v u s2 x y H2 I2 rx ry q=>hr a b pins s2 σ H2 x y v u Q I2 rx ry q (hs _ _))
noncomputable def li(K:QC):R2:=fun x y H Q=>∃p xs i v,x=.ref p/\y=.int i/\ID K H p xs/\mC xs i=some v/\Q v H
noncomputable def di(K:QC):R2:=fun x y H Q=>∃p xs i v,x=.ref p/\y=.int i/\LE K H p xs/\mC xs i=some v/\Q v H
noncomputable def gi:R2:=fun x y H Q=>∃z i c,x=.str z/\y=.int i/\z.length<=sizeLine/\mC z.cps.toList i=some c/\Q (.str ⟨#[c]⟩) H
theorem x8:x5 X (li X.K):=by
 intro value slice pins s σ H x y v u Q I rx ry h hs;obtain⟨p,xs,i,z,rfl,rfl,hq,he,q⟩:=h;cases rx;obtain⟨t,rfl⟩:=ry;obtain⟨its,r,pl,hz⟩:=I.list hq;obtain⟨j,h1,h2,h3,h4,h5⟩:=IK he;obtain⟨w,ew,rw'⟩:=r.get h2;have hl:=r.length;have hn:=dI;have fin:EP X pins σ Q w s:=⟨z,H,I,rw',q⟩
 by_cases h0:0<=i;have hj:i.toNat=j:=by rw[QCc h0 h5]at h1;exact QW h1
 exact item_listR pl.isList h0 (by omega) (by rw[hj];simpa using ew) fin hs;have hj:(i+(its.toArray.size:Int)).toNat=j:=by rw[QCG (by omega) h4]at h1;rw[QM,<- hl];exact QW h1
 exact WW (x:=w) pl.isList.typeIs QBw.lookup
  (wpAny_getItem_list_neg (Q:=fun r s'=>r=w/\EP X pins σ Q r s') pl.isList (by omega) (by rw[QM]<;>omega) (by omega) (by rw[hj];simpa using ew) ⟨rfl,fin⟩) hs
theorem Uf:x5 X (di X.K):=by
 intro value slice pins s σ H x y v u Q I rx ry h hs;obtain⟨p,xs,i,z,rfl,rfl,hq,he,q⟩:=h;cases rx;obtain⟨t,rfl⟩:=ry;obtain⟨its,r,pl,hz⟩:=I.tuple hq;obtain⟨j,h1,h2,h3,h4,h5⟩:=IK he;obtain⟨w,ew,rw'⟩:=r.get h2;have hl:=r.length;have hn:=dI;have fin:EP X pins σ Q w s:=⟨z,H,I,rw',q⟩
 exact WW (x:=w) pl.typeIs WP.lookup
  (getItem_tuple (j:=j) (Q:=fun r s'=>r=w/\EP X pins σ Q r s') pl (by omega) (by omega) (by rw[QM,<- hl];exact h1) (by simpa using ew) ⟨rfl,fin⟩) hs
theorem Bf:x5 X gi:=by
 intro value slice pins s σ H x y v u Q I rx ry h hs;obtain⟨z,i,c,rfl,rfl,hz,he,q⟩:=h;obtain⟨t,rfl⟩:=rx;obtain⟨t',rfl⟩:=ry;obtain⟨j,h1,h2,h3,h4,h5⟩:=IK he;have hl:z.cps.toList.length=z.length:=by simp[Str.length]
 rw[hl]at h1 h4 h5;have hn:=dI;exact tail_any (QAX s z t) slot_str_getitem.lookup (getItem_str (c:=c) (by have e1:decide (i < -(2 ^ 63:Int))=false:=dF (by omega);have e2:decide (i ≥ 2 ^ 63)=false:=dF (by omega);rw[e1,e2,QBb]) (by rw[h1];simpa using h2) ⟨.str ⟨#[c]⟩,H,I.tok _,⟨_,rfl⟩,q⟩) hs
noncomputable def Lp(K:QC):R2:=fun x y H Q=>li K x y H Q∨di K x y H Q∨gi x y H Q
theorem Cf:x5 X (Lp X.K):=x8.or (Uf.or Bf)
theorem IT(its:List Value)(n j:Nat)(u:Value):QBE (·.setIfInBounds j u) { cls:=.type "list",data:=.seq its.toArray n }={ cls:=.type "list",data:=.seq (its.set j u).toArray n }:=by simp[QBE]
theorem Inv.lst{pins:ZB}{σ:St}{H:Hp}{s:Shared}{p:Addr}{xs:List V}(I:Inv X pins σ H s)(h:H p=some (.lst xs)) :
  ∃(its:List Value) (n:Nat),pA xs its/\s.heap.get? p=some { cls:=.type "list",data:=.seq its.toArray n }/\xs.length<=sizeLine:=by
 obtain⟨z,its,n,r,e⟩:=I.hok p _ h;exact⟨its,n,r,e,z⟩
theorem Inv.lstUpd{pins:ZB}{σ:St}{H:Hp}{s:Shared}{p:Addr}{xs ys:List V}{its its':List Value}{n n':Nat}{f:Obj->Obj}(I:Inv X pins σ H s)(h:H p=some (.lst xs))
  (ho:s.heap.get? p=some { cls:=.type "list",data:=.seq its.toArray n }) (hf:f { cls:=.type "list",data:=.seq its.toArray n }={ cls:=.type "list",data:=.seq its'.toArray n' }) (r:pA ys its') (hz:ys.length<=sizeLine) (t:Nat) :
  Inv X pins σ (FA H p (.lst ys)) { s with heap:=s.heap.update p f,toks:=t }:=by
 have e:(s.heap.update p f).get? p=some { cls:=.type "list",data:=.seq its'.toArray n' }:=by rw[qm f ho (by rw[hf]<;>rfl),hf]
 refine I.write (x:=p) (e:=p) (by rw[h];trivial) (.inl rfl) (fun b u hb q=>(qD _ _ (Qu hb)).trans q) ⟨_,e⟩ ?_;exact⟨hz,its',n',r,e⟩
noncomputable def bV:V->V->V->Hp->(Hp->Prop)->Prop:=fun o i v H Q=>∃p xs k j,o=.ref p/\i=.int k/\H p=some (.lst xs)/\vO xs.length k=some j/\Q (FA H p (.lst (xs.set j v)))
theorem FY:Tk X bV:=by
 intro pins s σ H o i v ov iv u Q I ro ri rv h;obtain⟨p,xs,k,j,rfl,rfl,hp,hj,q⟩:=h;cases ro;obtain⟨t,rfl⟩:=ri;obtain⟨its,n,r,ho,hz⟩:=I.lst hp;obtain⟨h1,h2,h3,h4⟩:=JP hj;have hl:=r.length;have hn:=dI;have I':Inv X pins σ (FA H p (.lst (xs.set j v))) { s with heap:=s.heap.update p (QBE (·.setIfInBounds j u)) } :=
  I.lstUpd hp ho (IT its n j u) (r.set rv j) (by rw[qM];exact hz) s.toks
 by_cases h0:0<=k;have hk:k.toNat=j:=by rw[QCc h0 h4]at h1;exact QW h1
 exact PySem.W.ki_setAt ho h0 (by omega) (by rw[QM,<- hl];exact h4) (by rw[hk];exact⟨_,I',q⟩);have hk:(k+(its.toArray.size:Int)).toNat=j:=by rw[QCG (by omega) h3]at h1;rw[QM,<- hl];exact QW h1
 exact PySem.W.ki_setBack ho (by omega) (by rw[QM,<- hl];exact h3) (by omega) (by rw[hk];exact⟨_,I',q⟩)
theorem NO(lo hi:Option Int)(n:Nat):(sliceBounds lo hi none n).1=((HT.sIx n 0 lo:Nat):Int)/\(sliceBounds lo hi none n).2.1=((HT.sIx n n hi:Nat):Int)/\(sliceBounds lo hi none n).2.2=1:=by
 refine⟨?_,?_,rfl⟩;cases lo with
 |none=>simp[sliceBounds,HT.sIx]
 |some i=>simp only[sliceBounds,HT.sIx,QCK,show(1:Int) > 0 by decide,if_true];by_cases h:i<0;simp only[h,if_true]<;>omega;simp only[h,if_false]<;>omega
 cases hi with
 |none=>simp[sliceBounds,HT.sIx]
 |some i=>simp only[sliceBounds,HT.sIx,QCK,show(1:Int) > 0 by decide,if_true];by_cases h:i<0;simp only[h,if_true]<;>omega;simp only[h,if_false]<;>omega
theorem dN(its:List Value)(lo hi:Option Int):slicePick its.toArray lo hi none=((its.drop (HT.sIx its.length 0 lo)).take (HT.sIx its.length its.length hi - HT.sIx its.length 0 lo)).toArray:=by obtain⟨h1,h2,h3⟩:=NO lo hi its.toArray.size;unfold slicePick;rw[h1,h2,h3];simp only[sliceRange_one,pick_run,QM]<;>rfl
noncomputable def yi(K:QC):V->Option Int->Option Int->Hp->VK->Prop:=fun x lo hi H Q=>∃a xs,x=.ref a/\ID K H a xs/\∀p,H p=none->Q (.ref p) (FA H p (.lst (DR xs lo hi)))
theorem z6:Hk X (yi X.K):=by intro pins s σ H x v vl vu lo hi sl Q I rx hs pl pu h;obtain⟨a,xs,rfl,hx,q⟩:=h;cases rx;obtain⟨its,r,ht,hz⟩:=I.list hx;have hlen:=r.length;refine⟨"list",_,QBw.lookup,ht.isList.typeIs,?_⟩;refine wpAny_getItem_list_slice ht.isList hs pl pu .none (by simp) ?_ (by rw[QM]<;>omega);rw[dN,<- hlen];refine⟨.ref s.heap.objs.size,_,I.laid (t':=s.toks) (o:=.lst (DR xs lo hi)) (fun b ob q=>QF _ q) (Qa _) ?_,rfl,q _ (I.hok.fresh (Qa _))⟩;exact⟨qC (rK xs lo hi) hz,_,0,(r.drop (HT.sIx xs.length 0 lo)).take (HT.sIx xs.length xs.length hi - HT.sIx xs.length 0 lo),QY _ rfl⟩
noncomputable def LH:V->Bool
 | .non=>true
 | .bl _=>true
 | .int _=>true
 | .str _=>true
 |_=>false
noncomputable def B5:V->V->Bool
 | .non,.non=>true
 | .bl a,.bl b=>a==b
 | .bl a,.int b=>(if a then 1 else 0)==b
 | .int a,.bl b=>a==(if b then 1 else 0)
 | .int a,.int b=>a==b
 | .str a,.str b=>a==b
 |_,_=>false
theorem jg{A:Around}{s:Shared}{y x:V}{u v:Value}(ry:sA y u)(rx:sA x v)(fy:LH y=true)(fx:LH x=true):qf A s u v (B5 y x):=by
 cases y with
 |non =>
  cases ry;cases x with
  |non=>cases rx;exact qf.same _
  |bl b=>cases rx;exact qf.none_bool b
  |int b=>obtain⟨t,rfl⟩:=rx;exact qf.none_int b t
  |str b=>obtain⟨t,rfl⟩:=rx;exact qf.none_str b t
  |_=>exact absurd (show false=true from fx) QD
 |bl a =>
  cases ry;cases x with
  |non=>cases rx;exact qf.bool_none a
  |bl b=>cases rx;exact qf.bool_bool a b
  |int b=>obtain⟨t,rfl⟩:=rx;exact qf.bool_int a b t
  |str b=>obtain⟨t,rfl⟩:=rx;exact qf.bool_str a b t
  |_=>exact absurd (show false=true from fx) QD
 |int a =>
  obtain⟨t',rfl⟩:=ry;cases x with
  |non=>cases rx;exact qf.int_none a t'
  |bl b=>cases rx;exact qf.int_bool a t' b
  |int b=>obtain⟨t,rfl⟩:=rx;exact qf.int_int a t' b t
  |str b=>obtain⟨t,rfl⟩:=rx;exact QBc a t' b t
  |_=>exact absurd (show false=true from fx) QD
 |str a =>
  obtain⟨t',rfl⟩:=ry;cases x with
  |non=>cases rx;exact qf.str_none a t'
  |bl b=>cases rx;exact qf.str_bool a t' b
  |int b=>obtain⟨t,rfl⟩:=rx;exact QBd a t' b t
  |str b=>obtain⟨t,rfl⟩:=rx;exact qf.str_str a t' b t
  |_=>exact absurd (show false=true from fx) QD
 |_=>exact absurd (show false=true from fy) QD
noncomputable def lU(x:V)(u:Value):Bool:=match u with
 | .none=>B5 .non x
 | .bool b=>B5 (.bl b) x
 | .int i _=>B5 (.int i) x
 | .str z _=>B5 (.str z) x
 |_=>false
theorem G3{x y:V}{u:Value}(r:sA y u)(f:LH y=true):lU x u=B5 y x:=by
 cases y with
 |non=>cases r;rfl
 |bl b=>cases r;rfl
 |int i=>obtain⟨t,rfl⟩:=r;rfl
 |str z=>obtain⟨t,rfl⟩:=r;rfl
 |_=>exact absurd (show false=true from f) QD
theorem sJ{x:V}:∀{xs:List V}{us:List Value},pA xs us->xs.all LH=true->us.any (lU x)=xs.any fun y=>B5 y x
 |_,_,.nil,_=>rfl
 |y::xs,u::us,.cons r t,f=>by rw[Qw,QN]at f;rw[qG,qG,G3 r f.1,sJ t f.2]
theorem HG{A:Around}{s:Shared}{x:V}{v:Value}(rx:sA x v)(fx:LH x=true):∀{xs:List V}{us:List Value},pA xs us->xs.all LH=true->∀u∈us,qf A s u v (lU x u)
 |_,_,.nil,_=>fun u hu=>by cases hu
 |y::xs,u::us,.cons r t,f=>fun u' hu=>by rw[Qw,QN]at f;rcases QL.mp hu with rfl|hu;rw[G3 r f.1];exact jg r rx f.1 fx;exact HG rx fx t f.2 u' hu
noncomputable def inV(x:V)(xs:List V):Bool:=xs.any fun y=>B5 y x
noncomputable def Dm(K:QC)(neg:Bool):R2:=fun x y H Q=>∃p xs,y=.ref p/\(ID K H p xs∨LE K H p xs)/\LH x=true/\xs.all LH=true/\Q (.bl (if neg then !inV x xs else inV x xs)) H
theorem yX:cE X (compareOp .In) (Dm X.K false):=by intro pins s σ H x y v u Q I rx ry h;obtain⟨p,xs,rfl,hq,fx,fs,q⟩:=h;cases ry;rcases hq with hq|hq;obtain⟨its,r,pl,hz⟩:=I.list hq;refine SeqAt.in_listAt (lU x) pl.isList (fun w hw=>HG rx fx r fs w (by simpa using hw)) ⟨.bl _,H,I,rfl,?_⟩;rw[show its.toArray.any (lU x)=its.any (lU x) by simp,sJ r fs];exact q;obtain⟨its,r,pl,hz⟩:=I.tuple hq;refine SeqAt.in_tupleAt (lU x) pl (fun w hw=>HG rx fx r fs w (by simpa using hw)) ⟨.bl _,H,I,rfl,?_⟩;rw[show its.toArray.any (lU x)=its.any (lU x) by simp,sJ r fs];exact q
theorem bP:cE X (compareOp .NotIn) (Dm X.K true):=by intro pins s σ H x y v u Q I rx ry h;obtain⟨p,xs,rfl,hq,fx,fs,q⟩:=h;cases ry;rcases hq with hq|hq;obtain⟨its,r,pl,hz⟩:=I.list hq;refine SeqAt.notIn_listAt (lU x) pl.isList (fun w hw=>HG rx fx r fs w (by simpa using hw)) ⟨.bl _,H,I,rfl,?_⟩;rw[show its.toArray.any (lU x)=its.any (lU x) by simp,sJ r fs];exact q;obtain⟨its,r,pl,hz⟩:=I.tuple hq;refine SeqAt.notIn_tupleAt (lU x) pl (fun w hw=>HG rx fx r fs w (by simpa using hw)) ⟨.bl _,H,I,rfl,?_⟩;rw[show its.toArray.any (lU x)=its.any (lU x) by simp,sJ r fs];exact q
theorem dJ:gD X (.builtin "len") (fun xs H Q=>∃p ys,xs=[.ref p]/\(ID X.K H p ys∨LE X.K H p ys)/\Q (.int ys.length) H):=by intro pins s σ H xs us Q I r h;obtain⟨p,ys,rfl,hq,q⟩:=h;obtain⟨u,rfl,rx⟩:=oG r;cases rx;have hn:=dI;rcases hq with hq|hq;obtain⟨its,r',pl,hz⟩:=I.list hq;have hlen:=r'.length;exact Calls.call_len_list pl.isList (by simp only[QM]<;>omega) ⟨.int ys.length,H,I.tok _,⟨s.toks+1,by rw[QM,hlen]⟩,q⟩;obtain⟨its,r',pl,hz⟩:=I.tuple hq;have hlen:=r'.length;exact len_tuple pl (by simp only[QM]<;>omega) ⟨.int ys.length,H,I.tok _,⟨s.toks+1,by rw[QM,hlen]⟩,q⟩
theorem vQ:gD X (.builtin "len") (fun xs H Q=>∃z,xs=[.str z]/\z.length<=sizeLine/\Q (.int z.length) H):=by intro pins s σ H xs us Q I r h;obtain⟨z,rfl,hz,q⟩:=h;obtain⟨u,rfl,t,rfl⟩:=oG r;have hn:=dI;exact len_str (by omega) ⟨.int z.length,H,I.tok _,⟨_,rfl⟩,q⟩
theorem kQ:gD X (.type "list") (fun xs H Q=>∃p ys,xs=[.ref p]/\(ID X.K H p ys∨LE X.K H p ys)/\∀l,H l=none->Q (.ref l) (FA H l (.lst ys))):=by
 intro pins s σ H xs us Q I r h;obtain⟨p,ys,rfl,hq,q⟩:=h;obtain⟨u,rfl,rx⟩:=oG r;cases rx;have fin:∀(its:List Value),pA ys its->ys.length<=sizeLine->∀(h':Heap) (c':Nat),(∀b o',s.heap.get? b=some o'->h'.get? b=some o') ->
   h'.get? s.heap.objs.size=some { cls:=.type "list",dict:=none,data:=.seq its.toArray c',slots:=#[] }->EP X pins σ Q (.ref s.heap.objs.size) { s with heap:=h' }:=fun its r' hz h' c' kp e =>
  ⟨.ref s.heap.objs.size,_,I.laid (t':=s.toks) kp (Qa _) (show DA X.prog X.w _ h' _ (.lst ys) from⟨hz,its,c',r',e⟩),rfl,q _ (I.hok.fresh (Qa _))⟩
 rcases hq with hq|hq;obtain⟨its,r',pl,hz⟩:=I.list hq;have hlen:=r'.length;obtain⟨o,ho,hc,n,hd⟩:=pl.isList;exact call_list_seq p (.inl rfl) ho hc hd (fun h' c' kp e=>fin its r' hz h' c' kp e) (by simp only[QM]<;>omega);obtain⟨its,r',pl,hz⟩:=I.tuple hq;have hlen:=r'.length;obtain⟨o,ho,hc,n,hd⟩:=pl;exact call_list_seq p (.inr rfl) ho hc hd (fun h' c' kp e=>fin its r' hz h' c' kp e) (by simp only[QM]<;>omega)
def iY(K:QC)(T:String)(x:V)(H:Hp):Prop:=match x with
 | .str _=>T="str"
 | .int _=>T="int"
 | .ref p=>(T="list"/\∃xs,ID K H p xs)∨(T="tuple"/\∃o,K.lookup p=some o/\o.cls=.type "tuple"/\o.dict=none) ∨
   (T="dict"/\((∃kvs,H p=some (.dK kvs))∨∃kvs,H p=some (.dT kvs)))∨(T="set"/\∃S n,H p=some (.set S n))
 |_=>False
theorem eY{pins:ZB}{σ:St}{H:Hp}{s:Shared}{T:String}{x:V}{v:Value}(I:Inv X pins σ H s)(r:sA x v)(ty:iY X.K T x H) :
  s.TypeIs v T/\∀a,v=.ref a->∃ob,s.heap.get? a=some ob/\ob.dict=none:=by
 cases x with
 |str z=>obtain⟨t,rfl⟩:=r;cases(show T="str" from ty);exact⟨QAX s z t,fun _ e=>nomatch e⟩
 |int i=>obtain⟨t,rfl⟩:=r;cases(show T="int" from ty);exact⟨QBF s i t,fun _ e=>nomatch e⟩
 |ref p =>
  cases r;rcases ty with⟨rfl,xs,hq⟩| ⟨rfl,o,hk,hc,hd⟩| ⟨rfl,hk⟩| ⟨rfl,S,n,hk⟩
  obtain⟨its,_,pl,_⟩:=I.list hq;refine⟨pl.isList.typeIs,fun a e=>?_⟩;cases e;obtain⟨o,n,e,c,hd,_⟩:=pl;exact⟨o,e,hd⟩;refine⟨⟨o,I.kIn p o hk,hc⟩,fun a e=>?_⟩;cases e;exact⟨o,I.kIn _ o hk,hd⟩;have z:∃o,s.heap.get? p=some o/\o.ExactDict:=by
   rcases hk with⟨kvs,hk⟩| ⟨kvs,hk⟩
   obtain⟨_,_,_,_,o,_,_,e,ex,_⟩:=I.hok p _ hk;exact⟨o,e,ex⟩;obtain⟨_,_,_,_,o,_,_,e,ex,_⟩:=I.hok p _ hk;exact⟨o,e,ex⟩
  obtain⟨o,e,ex⟩:=z;refine⟨⟨o,e,ex.1⟩,fun a e2=>?_⟩;cases e2;exact⟨o,e,ex.2.1⟩;obtain⟨o,_,_,_,e,ex,_⟩:=I.hok p _ hk;refine⟨⟨o,e,ex.1⟩,fun a e2=>?_⟩;cases e2;exact⟨o,e,ex.2.1⟩
 |_=>exact QR ty
noncomputable def Jm(K:QC)(T:String)(r:V->List V->Hp->VK->Prop)(to:TE):TE:=fun σ H Q=>to σ H fun x H1=>iY K T x H1/\r x [] H1 Q
noncomputable def Fp(K:QC)(T:String)(r:V->List V->Hp->VK->Prop)(to:TE)(t:TA):TE:=fun σ H Q=>to σ H fun x H1=>iY K T x H1/\t σ H1 fun xs H2=>r x xs H2 Q
variable{o e:Expr}{es:List Expr}{to:TE}{t:TA}{name:Str}{apos cpos:Pos}{T id:String}{r:V->List V->Hp->VK->Prop}
theorem Fe(pa:PlainAttrs T)(slot:Slot T name id)(hty:typeOf (.builtin id)=pure (.type "method_descriptor"))(hm:ac X id r)(ho:PE X o to)
  (hbase:attributeBase o name X.env (eval o X.env)=eval o X.env:=by rfl) (hline:(apos.endLine==cpos.line)=true:=by rfl):PE X (.Call (.Attribute o name apos) [] [] cpos) (Jm X.K T r to):=by
 intro pins s σ H Q I h;refine wpAny_Call_method0_late hbase hline (EA (ho pins s σ H _ I h) fun v s1 ⟨x,H1,I1,r1,ty,q1⟩=>?_);obtain⟨h1,h2⟩:=eY I1 r1 ty;exact⟨T,id,pa,slot,hty,h1,h2,WX rfl (PySem.evalArgs_none (hm pins s1 σ H1 x [] v [] Q I1 r1 .nil q1))⟩
theorem Ki(pa:PlainAttrs T)(slot:Slot T name id)(hty:typeOf (.builtin id)=pure (.type "method_descriptor"))(hm:ac X id r)(ho:PE X o to)(ha:PA X (e::es) t)
  (hbase:attributeBase o name X.env (eval o X.env)=eval o X.env:=by rfl)
  (hfew:((backTo cpos (starEach (e::es) X.env)).all (fun x=>!x.1)&&(backToKw cpos (keywordEach [] X.env)).all (fun x=>x.1.isSome)
   && decide ((e::es).length+([]:List Keyword).length+(if([]:List Keyword).isEmpty then 0 else 1)<30))=true:=by rfl)
  (hline:(apos.endLine==cpos.line)=true:=by rfl) (hs:starEach (e::es) X.env=(false,eval e X.env)::starEach es X.env:=by rfl) (hplain:(backTo cpos (starEach es X.env)).any (·.1)=false:=by rfl) :
  PE X (.Call (.Attribute o name apos) (e::es) [] cpos) (Fp X.K T r to t):=by
 intro pins s σ H Q I h;refine QAy hbase hfew hline rfl (EA (ho pins s σ H _ I h) fun v s1 ⟨x,H1,I1,r1,ty,q1⟩=>?_);obtain⟨h1,h2⟩:=eY I1 r1 ty;refine⟨T,id,pa,slot,hty,h1,h2,?_⟩;have hA:=ha cpos pins s1 σ H1 _ I1 q1;rw[hs]at hA ⊢;refine WX (by show(false||(backTo cpos (starEach es X.env)).any (·.1))=false;rw[hplain]<;>rfl) (QBH ?_);exact EA hA fun us s2 ⟨vs,H2,I2,r2,q2⟩=>hm pins s2 σ H2 x vs v us Q I2 r1 r2 q2
end
def Pp(X:Cx)(id:String)(r:V->List V->Hp->VK->Prop):Prop :=
 ∀(pins:ZB) (s:Shared) (σ:St) (H:Hp) (x:V) (xs:List V) (v:Value) (us:List Value) (Q:VK),Inv X pins σ H s->sA x v->pA xs us->r x xs H Q ->
  wpAny (model X.prog X.w) X.A (call (.builtin id) (v::us)) (EP X pins σ Q) X.xe s
theorem pA.one:∀{x:V}{us:List Value},pA [x] us->∃u,us=[u]/\sA x u
 |_,_,.cons r .nil=>⟨_,rfl,r⟩
theorem pA.eraseIdx:∀{xs:List V}{us:List Value}(i:Nat),pA xs us->pA (xs.eraseIdx i) (us.eraseIdx i)
 |_,_,_,.nil=>.nil
 |_,_,0,.cons _ t=>t
 |_,_,i+1,.cons r t=>.cons r (pA.eraseIdx i t)
theorem pA.rep{xs:List V}{us:List Value}(h:pA xs us):∀k:Nat,pA (QI k xs).flatten (QI k us).flatten
 |0=>.nil
 |k+1=>by rw[Qf,Qf,qB,qB];exact pA.append h (pA.rep h k)
theorem yO{α:Type}:∀(l:List α) (i:Nat),(l.eraseIdx i).length<=l.length
 |[],_=>Qa _
 |_::_,0=>Wa _
 |_::r,i+1=>Nat.succ_le_succ (yO r i)
theorem AJ(its:List Value):∀(k:Nat) (acc:List Value),
  W0 (fun x1 x2=>x1++x2) acc.toArray (QI k its.toArray)=(acc++(QI k its).flatten).toArray
 |0,acc=>by simp
 |k+1,acc=>by
  have e:acc.toArray++its.toArray=(acc++its).toArray:=by simp
  have e2:(acc++its)++(QI k its).flatten=acc++(QI (k+1) its).flatten:=by rw[Qf,qB,qy]
  rw[<- e2,<- AJ its k (acc++its),<- e,Qf,QA5]
section
variable{X:Cx}{pins:ZB}{σ:St}{H:Hp}{s:Shared}{l b:Addr}{xs ys zs:List V}
theorem Inv.lset{its its':List Value}{n:Nat}{f:Array Value->Array Value}{t':Nat}(I:Inv X pins σ H s)(hH:H l=some (.lst xs))
  (e:s.heap.get? l=some { cls:=.type "list",data:=.seq its.toArray n }) (hf:f its.toArray=its'.toArray) (hv:pA ys its') (hz:ys.length<=sizeLine) :
  Inv X pins σ (FA H l (.lst ys)) { s with heap:=s.heap.update l (QBE f),toks:=t' }:=by
 have q:=PySem.IsL.update e f;rw[hf]at q;refine I.write (x:=l) (e:=l) (by rw[hH];exact trivial) (.inl rfl) (fun b' u hb hu=>(qD s.heap (QBE f) (Qu hb)).trans hu) ⟨_,q⟩ ?_;exact⟨hz,its',_,hv,q⟩
theorem Inv.lnew{its:List Value}{t':Nat}(I:Inv X pins σ H s)(hv:pA ys its)(hz:ys.length<=sizeLine) :
  Inv X pins σ (FA H s.heap.objs.size (.lst ys)) { s with heap:=s.heap.push { cls:=.type "list",data:=.seq its.toArray },toks:=t' } :=
 I.laid (fun _ _ q=>QF _ q) (Qa _) ⟨hz,its,0,hv,QY _ rfl⟩
theorem Inv.fresh(I:Inv X pins σ H s):H s.heap.objs.size=none:=I.hok.fresh (Qa _)
theorem Inv.lstM(I:Inv X pins σ H s)(hH:H l=some (.lst xs)):xs.length<=sizeLine/\∃(its:List Value) (n:Nat),pA xs its/\xs.length=its.length/\s.heap.get? l=some { cls:=.type "list",data:=.seq its.toArray n }:=by obtain⟨z,its,n,r,e⟩:=I.hok l _ hH;exact⟨z,its,n,r,r.length,e⟩
theorem K0{n:Nat}(h:n<=sizeLine):wO n=false:=by unfold wO;exact dF (by omega)
end
section
variable{X:Cx}
noncomputable def ze:V->List V->Hp->VK->Prop:=fun x vs H Q=>∃l xs i k y,x=.ref l/\vs=[.int i]/\H l=some (.lst xs)/\-(2 ^ 63)<=i/\i<2 ^ 63/\seqIndex? i xs.length=some k/\xs[k]?=some y/\Q y (FA H l (.lst (xs.eraseIdx k)))
theorem V1:Pp X "list.pop" ze:=by
 intro pins s σ H x vs v us Q I rx rv h;obtain⟨l,xs,i,k,y,rfl,rfl,hH,h1,h2,hk,hy,q⟩:=h;cases rx;obtain⟨u,rfl,ru⟩:=rv.one;obtain⟨t,rfl⟩:=ru;obtain⟨z,its,n,r,hl,e⟩:=I.lstM hH;obtain⟨w,hw,rw'⟩:=r.get hy;refine wr F.slot_list_pop ⟨_,e,rfl⟩ F.entry_list_pop (F.args_list_pop_2 _ _)
  (MeetsSeq.list_pop_at l its.toArray n i t k w (fitsIndex_both h1 h2) (by rw[QM,<- hl];exact hk) (by rw[<- QA6];exact hw) (by rw[QM];omega)) ⟨e,?_⟩
 refine⟨y,_,I.lset (its':=its.eraseIdx k) hH e ?_ (r.eraseIdx k) ?_,rw',q⟩;show its.toArray.eraseIdxIfInBounds k=(its.eraseIdx k).toArray;rw[List.eraseIdxIfInBounds_toArray];have:=yO xs k;omega
theorem MK{α:Type}(xs:List α)(k:Nat):(QI k xs).flatten.length=k * xs.length:=by
 induction k with
 |zero=>simp
 |succ k ih=>rw[Qf,qB,Qc,ih,Nat.succ_mul,Nat.add_comm]
end
section
variable{prog:Program}{w:World}{A:Around}{E:NB}{s:Shared}
end
section
variable{X:Cx}
end
end L2
namespace Att
open PySem PySem.W PySem.Calls PyProof.Rows
theorem CK{P:Params}{h:Heap}:∀(ns:List Int) (vs:List Value),WellAll P h vs (ns.map WData.int)->IntsAre vs ns:=by
 intro ns;induction ns with
 |nil=>intro vs w;rw[wf]at w;cases w;exact .nil
 |cons n ns ih =>
  intro vs w;rw[QV]at w;cases w with
  |cons a b=>cases a;exact .cons _ _ (ih _ b)
theorem script_of{l:OpenLaw}{n:Nat}(hn:l.most=some n){P:Params}{h:Heap}{args:List WData}{vals:List Value}
  (hpre:l.row.toRowW.claim.pre args=true) (hwl:WellAll P h vals args) :
  ∃a vs ns,vals=[Value.ref a]/\args=[WData.list (ns.map WData.int)]/\h.get? a=some { cls:=.type "list",data:=.seq vs.toArray }/\IntsAre vs ns/\ns.length<=n:=by
 have hsh:WShape.hasAll [] args [.list .int]=true:=(pre_splitW hpre).1;have hc:l.pre.holds [] { args:=args }=true:=(pre_splitW hpre).2;obtain⟨d,r,rfl,h1,h2⟩:=hasAllW_cons hsh;obtain rfl:=hasAllW_nil h2;obtain⟨xs,rfl,h3⟩:=hasW_list h1;obtain⟨ns,rfl⟩:=items_int h3;have hlen:ns.length<=n:=by
  unfold OpenLaw.pre at hc;have h4:(WTm.not (.lt (.lit (.int (n:Int))) (.len (.arg 0)))).holds [] { args:=[.list (ns.map .int)] }=true:=by have h4:=(holds_andW hc).1;rw[hn]at h4;exact h4
  have h5:=condW_of h4 (w_not (w_lt w_lit (w_len_list (w_arg rfl))));rw[QJ]at h5;refine Nat.le_of_not_lt fun q=>?_;have q':(n:Int)<((ns.length:Nat):Int):=by omega
  first
   | (rw[dT q']at h5;exact absurd h5 (by decide))
   | (simp at h5;omega)
 cases hwl with
 |cons w1 w2 =>
  cases w2;cases w1 with
  |list ho hall=>exact⟨_,_,ns,rfl,rfl,ho,CK ns _ hall,hlen⟩
theorem post_true(l:OpenLaw)(args:List WData):l.row.toRowW.claim.post args (.bool true) args=true :=
 postW_of (r:=l.row.toRowW) (X:=(true==true))
  (show WShape.has [] (.bool true) .bool=true by first|rfl|decide|simp[WShape.has,WShape.arms,WShape.armsAll])
  (show(WTm.eq .res (.lit (.bool true))).value [] { args:=args,res:=some (.bool true),after:=args }=some (.bool (true==true)) from w_eq_bool (w_res rfl) w_lit) rfl
section
variable{prog:Program}{w:World}{A:Around}{E:NB}{s:Shared}{K:Frag}
end
end Att
namespace L2
open PySem PySem.Spec PyProof.Rows
theorem BN:∀{vs:List Value}{ns:List Int},IntsAre vs ns->pA (ns.map V.int) vs
 |_,_,.nil=>.nil
 |_,_,.cons n t h=>.cons ⟨t,rfl⟩ (BN h)
def yl(H:Hp):Prop:=∀b,H b=none∨∃o xs,H b=some (.frz o (.lst xs))
theorem G1{P:Program}{w:World}{K:QC}{mg mb:Str->Option Value}{CX:DU}{k:Nat}{fa a:Addr}{fd:FuncData}{x:Str}{sp:Sp}{s₁:Shared}{vs:List Value}{ns:List Int}
  (KX:K.In s₁.heap) (hns:s₁.heap.Ns mainGlobals mg) (hb:s₁.heap.Ns builtinsNs mb) (hbb:∀x:Str,x≠"__name__"->mb x=bootBuiltins x) (hlim:s₁.heap.NoLimit) (hg:s₁.gens=#[])
  (ha:s₁.heap.get? a=some { cls:=.type "list",data:=.seq vs.toArray }) (hi:IntsAre vs ns) (hl:ns.length<=sizeLine) (hr:Room k callerA)
  (F:∀base:Heap,K.In base->base.Ns mainGlobals mg->FnOk P w K mg base CX k fa fd [x] sp) (hbind:∀(s:Shared) (u:Value),BindsTo s fd ⟨[u],[]⟩ [(x,u)])
  (hsp:∀H:Hp,yl H->ID K H a (ns.map V.int)->sp [.ref a] H (fun v _=>v=.bl true) fun _ _ _=>False)
  (hCX:∀H e s',CX [] H s₁ (fun _ _ _=>False) e s'->False) :
  codeAny (model P w) callerA (.call (.ref fa) ⟨[.ref a],[]⟩) (fun r s'=>r=.ok (.ret (.bool true))/\OldK s₁.heap s'.heap/\s'.os=s₁.os/\AllBare s'.gens) s₁:=by
 have rv:=BN hi;have lenV:=hi.length;have core:∀H:Hp,yl H->ID K H a (ns.map V.int)->UH P w H s₁.heap->(∀b,H b≠none->b=a)->(H a≠none->K.lookup a=none) ->
   codeAny (model P w) callerA (.call (.ref fa) ⟨[.ref a],[]⟩) (fun r s'=>r=.ok (.ret (.bool true))/\OldK s₁.heap s'.heap/\s'.os=s₁.os/\AllBare s'.gens) s₁:=by
  intro H hO hS hok hA hK;have base_of:∀{b:Addr}{o:Obj},s₁.heap.get? b=some o->H b=none->(VP s₁.heap H).get? b=some o:=fun e n=>A2 e n;have noA:∀{b:Addr}{o:Obj}{es:Array DictEntry}{ep:Nat},s₁.heap.get? b=some o->o.data=.dict es ep->H b=none:=fun {b o es ep} e d=>by
   cases q:H b with
   |none=>rfl
   |some u=>have e':b=a:=hA b (by rw[q];simp);subst e';rw[ha]at e;cases e;have d':Data.seq vs.toArray _=Data.dict es ep:=d;cases d'
  have nsK:∀{b:Addr}{m:Str->Option Value},s₁.heap.Ns b m->(VP s₁.heap H).Ns b m:=fun {b m} ⟨o,es,ep,e,d,r⟩=>⟨o,es,ep,base_of e (noA e d),d,r⟩
  have hKb:K.In (VP s₁.heap H):=fun b o e=>base_of (KX b o e) (by
   cases q:H b with
   |none=>rfl
   |some u=>have e':b=a:=hA b (by rw[q];simp);subst e';rw[hK (by rw[q];simp)]at e;cases e)
  have hM:Mod K mg (VP s₁.heap H):=⟨hKb,nsK hns,⟨mb,nsK hb,hbb⟩,let⟨mc,h1,h2⟩:=hlim;⟨mc,nsK h1,h2⟩⟩
  have e0:Env0 P w K mg (VP s₁.heap H) callerA [] s₁ H:=⟨rfl,hM,fun b o e=>M7 e,Nat.le_of_eq (ZX _ _),trivial,fun b hb=>absurd (show b∈([]:List Addr) from hb) (by simp),hok,.of_eq hg⟩
  refine Wg ((F _ hKb (nsK hns)).run callerA [] s₁ H ⟨[.ref a],[]⟩ [.ref a] [.ref a] _ _ hr e0 (hbind s₁ (.ref a)) (.cons rfl .nil) (hsp H hO hS)) fun r s' h=>?_;cases r with
  |error e=>exact(hCX H e s' h).elim
  |ok fl =>
   cases fl with
   |next=>exact QR h
   |brk=>exact QR h
   |cont=>exact QR h
   |ret u =>
    obtain⟨v,H',os,bare,un,hok',r',q⟩:=h;have q':v=.bl true:=q;subst q';obtain rfl:u=Value.bool true:=r';refine⟨rfl,OldK.of_keep fun b o e=>?_,os,bare⟩;cases q:H b with
    |none=>exact un.keep b o e q (by intro z;exact absurd (show b∈([]:List Addr) from z) (by simp)) (by simp)
    |some u =>
     rcases hO b with z|⟨ob,xs,z⟩
     rw[q]at z;cases z;have z2:=un.frzs b ob _ z;obtain⟨e1,_⟩:=hok b _ z;obtain⟨e2,_⟩:=hok' b _ z2;rw[e]at e1;cases e1;exact e2
 cases hk:K.lookup a with
 |some o=>have e:=KX a o hk;rw[ha]at e;cases e;refine core (fun _=>none) (fun _=>.inl rfl) (.inr ⟨_,vs.toArray,_,hk,rfl,rfl,rfl,by rw[QM,lenV];exact hl,by simpa using rv⟩) (fun b u z=>by have z':(none:Option HO)=some u:=z;cases z') (fun b z=>absurd rfl z) fun z=>absurd rfl z
 |none =>
  refine core (fun b=>if b=a then some (.frz { cls:=.type "list",data:=.seq vs.toArray } (.lst (ns.map V.int))) else none) (fun b=>?_) (.inl (.inr ⟨{ cls:=.type "list",data:=.seq vs.toArray },if_pos rfl⟩)) (fun b u z=>?_) (fun b z=>?_) fun _=>hk;by_cases hb:b=a
  ·exact .inr ⟨_,_,if_pos hb⟩
  exact .inl (if_neg hb);by_cases hb:b=a
  ·have z':=(if_pos hb).symm.trans z
   cases z';subst hb;exact⟨ha,by rw[QJ];exact hl,vs,_,rv,ha⟩
  have z':=(if_neg hb).symm.trans z;cases z';by_cases hb:b=a
  ·exact hb
  exact absurd (if_neg hb) z
noncomputable def RC(s:Stmt):Arguments:=match s with
 | .FunctionDef _ a _ _ _ _ _ _ _ _=>a
 |_=>{ posonlyargs:=[],args:=[],vararg:=none,kwonlyargs:=[],kw_defaults:=[],kwarg:=none,defaults:=[] }
noncomputable def EB(s:Stmt):List Stmt:=match s with
 | .FunctionDef _ _ b _ _ _ _ _ _ _=>b
 |_=>[]
noncomputable def oA(s:Stmt):Scope:=match s with
 | .FunctionDef _ _ _ _ _ _ sc _ _ _=>sc
 |_=>{ kind:=.function,names:=[],isGenerator:=false,isCoroutine:=false }
noncomputable abbrev i5:DU:=fun _ _ _ _ _ _=>False
noncomputable abbrev E0:XK:=fun _ _ _=>False
structure Fun(K:QC)(x qual:Str)(st:Stmt)(f:Addr)(fd:FuncData):Prop where
 ex:∃(oc:Value) (od:Option Addr) (kV doc pm:Value) (an:Option Addr) (cdv ct:Value) (osl:Array (Option Value)),
  fd=qI x qual (RC st) (EB st) (oA st) .none kV doc pm an cdv ct/\K.lookup f=some ⟨oc,od,.func fd,osl⟩/\WA K cdv qual=true
 kp:qU K (.ref f)=true
section
variable{P:Program}{w:World}{K:QC}{mg:Str->Option Value}{base:Heap}
theorem Fun.ok{x qual:Str}{st:Stmt}{f:Addr}{fd:FuncData}{N ps:List Str}{k:Nat}{sp:Sp}(F:Fun K x qual st f fd)(S:FnScope N ps (oA st))(len:∀vs H Q E,sp vs H Q E->vs.length=ps.length)
  (hbody:∀(cdv:Value) (A:Around) (outer:List Env) (s:Shared) (H:Hp) (vs:List V) (Q:VK) (E:XK),Room k (A.deeper (envOfC qual (oA st) s.heap.objs.size f cdv))->sp vs H Q E ->
   ∃t,gW (EJ i5 P w K mg base N qual (oA st) f cdv A outer s H E).nox (EB st) t/\t { nx:=fun _ H'=>Q .non H',rt:=Q } (jE N vs) H):FnOk P w K mg base i5 (k+1) f fd ps sp:=by
 obtain⟨oc,od,kV,doc,pm,an,cdv,ct,osl,rfl,lk,hcd⟩:=F.ex;refine Ka lk hcd S len fun A outer s H vs Q E hr hsp=>?_;obtain⟨t,h,q⟩:=hbody cdv A outer s H vs Q E hr hsp;exact⟨t,h.nox,q⟩
theorem Fun.binds{x qual:Str}{st:Stmt}{f:Addr}{fd:FuncData}{ps:List Str}(F:Fun K x qual st f fd)
  (h:∀(kV doc pm:Value) (an:Option Addr) (cdv ct:Value) (us:List Value),us.length=ps.length->bindArgs (qI x qual (RC st) (EB st) (oA st) .none kV doc pm an cdv ct) ⟨us,[]⟩=pure (ps.zip us)):AD K fd ps []:=by
 obtain⟨oc,od,kV,doc,pm,an,cdv,ct,osl,rfl,lk,hcd⟩:=F.ex;exact .all (h kV doc pm an cdv ct)
theorem Pf{x qual:Str}{st:Stmt}{f:Addr}{oc:Value}{od an:Option Addr}{osl:Array (Option Value)}{kV doc pm cdv ct:Value}(l:K.lookup f=some ⟨oc,od,.func (qI x qual (RC st) (EB st) (oA st) .none kV doc pm an cdv ct),osl⟩)
  (c:WA K cdv qual=true) (k:qU K (.ref f)=true):Fun K x qual st f (qI x qual (RC st) (EB st) (oA st) .none kV doc pm an cdv ct):=⟨⟨oc,od,kV,doc,pm,an,cdv,ct,osl,rfl,l,c⟩,k⟩
end
section
variable{X:Cx}
end
theorem AA{c A B:Prop}[Decidable c](h1:c->A)(h2:¬ c->B):if c then A else B:=by by_cases h:c;rw[if_pos h];exact h1 h;rw[if_neg h];exact h2 h
def Same(H H':Hp):Prop:=∀b o,H b=some o->H' b=some o
theorem Same.refl(H:Hp):Same H H:=fun _ _ h=>h
theorem Same.trans{H H1 H2:Hp}(a:Same H H1)(b:Same H1 H2):Same H H2:=fun c o h=>b c o (a c o h)
theorem Same.free{H H':Hp}(e:Same H H'){l:Addr}(h:H' l=Option.none):H l=Option.none:=by
 cases q:H l with
 |none=>rfl
 |some o=>rw[e l o q]at h;cases h
theorem Same.seq{K:QC}{H H':Hp}{a:Addr}{xs:List V}(e:Same H H')(h:ID K H a xs):ID K H' a xs:=by rcases h with(h|⟨o,h⟩)|h;exact .inl (.inl (e _ _ h));exact .inl (.inr ⟨o,e _ _ h⟩);exact .inr h
section
variable{κ:Type}[DecidableEq κ]
noncomputable def DD(kvs:List (κ×V))(k:κ):Option V:=(kvs.find? fun kv=>decide (kv.1=k)).map (·.2)
noncomputable def iL(kvs:List (κ×V))(k:κ)(v:V):List (κ×V) :=
 if(kvs.any fun kv=>decide (kv.1=k))=true then kvs.map (fun kv=>if kv.1=k then(kv.1,v) else kv) else kvs++[(k,v)]
theorem UI{p:κ×V}{r:List (κ×V)}{k:κ}(e:p.1=k):DD (p::r) k=some p.2:=by simp[DD,wg,e]
theorem CI{p:κ×V}{r:List (κ×V)}{k:κ}(e:¬ p.1=k):DD (p::r) k=DD r k:=by simp[DD,wg,e]
theorem oQ(k:κ):∀kvs:List (κ×V),(kvs.any fun kv=>decide (kv.1=k))=(DD kvs k).isSome
 |[]=>rfl
 |p::r=>by rw[qG];by_cases e:p.1=k;simp only[UI e,dT e,QB9,Option.isSome_some];rw[CI e,dF e,QAj];exact oQ k r
theorem fR(kvs:List (κ×V))(k:κ)(v:V):(iL kvs k v).length<=kvs.length+1:=by unfold iL;split;rw[QJ];omega;rw[Qc,QH,wd];omega
theorem cZ{kvs:List (κ×V)}{k:κ}(v:V)(h:DD kvs k=none):iL kvs k v=kvs++[(k,v)]:=by unfold iL;rw[oQ,h];exact if_neg (by decide)
theorem YI.isSome_eq{o:Option V}{u:Option Value}(r:YI o u):o.isSome=u.isSome:=by
 cases o with
 |none=>cases u with
  |none=>rfl
  |some _=>exact(show False from r).elim
 |some _=>cases u with
  |none=>exact(show False from r).elim
  |some _=>rfl
theorem KV.val{kvs:List (κ×V)}{vs:List (κ×Value)}(r:KV kvs vs)(k:κ):YI (DD kvs k) (valueAt vs k):=by
 unfold KV at r;induction r with
 |nil=>exact True.intro
 |@cons p q ps qs h t ih =>
  obtain⟨h1,h2⟩:=h;by_cases e:p.1=k;have e':q.1=k:=h1.symm.trans e;have b:valueAt (q::qs) k=some q.2:=by simp[valueAt,wg,e']
  rw[UI e,b];exact h2;have e':¬ q.1=k:=fun z=>e (h1.trans z);have b:valueAt (q::qs) k=valueAt qs k:=by simp[valueAt,wg,e']
  rw[CI e,b];exact ih
theorem KV.any{kvs:List (κ×V)}{vs:List (κ×Value)}(r:KV kvs vs)(k:κ):(kvs.any fun kv=>decide (kv.1=k))=vs.any fun kv=>decide (kv.1=k):=by
 unfold KV at r;induction r with
 |nil=>rfl
 |cons h t ih=>rw[qG,qG,ih,h.1]
theorem KV.repl{kvs:List (κ×V)}{vs:List (κ×Value)}(r:KV kvs vs)(k:κ){y:V}{u:Value}(ry:sA y u) :
  KV (kvs.map fun kv=>if kv.1=k then(kv.1,y) else kv) (vs.map fun kv=>if kv.1=k then(kv.1,u) else kv):=by
 unfold KV at r ⊢;induction r with
 |nil=>exact .nil
 |@cons p q ps qs h t ih=>rw[QV,QV];refine .cons ?_ ih;obtain⟨h1,h2⟩:=h;by_cases e:p.1=k;rw[if_pos e,if_pos (h1.symm.trans e)];exact⟨h1,ry⟩;rw[if_neg e,if_neg (fun z=>e (h1.trans z))];exact⟨h1,h2⟩
theorem KV.put{kvs:List (κ×V)}{vs:List (κ×Value)}(r:KV kvs vs)(k:κ){y:V}{u:Value}(ry:sA y u):KV (iL kvs k y) (stored vs k u):=by unfold iL stored;rw[r.any k];by_cases e:(vs.any fun kv=>decide (kv.1=k))=true;rw[if_pos e,if_pos e];exact r.repl k ry;rw[if_neg e,if_neg e];exact Paired.snoc r ⟨rfl,ry⟩
theorem KV.length{kvs:List (κ×V)}{vs:List (κ×Value)}(r:KV kvs vs):kvs.length=vs.length:=Ws r
end
theorem mR{P:Program}{w:World}{k:lD}{u:Value}(r:sA (kV k) u):(BB P w).is k u=true:=by
 cases k with
 |inl i=>obtain⟨t,e⟩:=(show ∃t,u=Value.int i t from r);subst e;exact xR P w i t
 |inr x=>obtain⟨t,e⟩:=(show ∃t,u=Value.str x t from r);subst e;exact vR P w x t
theorem xO{P:Program}{w:World}:∀{ks:List lD}{us:List Value},pA (ks.map kV) us->ItemsAre (BB P w) ks us
 |[],_,r=>by rw[wf]at r;cases r;exact .nil
 |k::ks,_,r=>by
  rw[QV]at r;cases r with
  |cons h t=>exact .cons (mR h) (xO t)
noncomputable abbrev KT(H:Hp):List (List lD×V)->List (List lD×Addr×Value)->Prop:=Paired fun p q=>p.1=q.1/\H q.2.1=some (.tup (p.1.map kV))/\sA p.2 q.2.2
theorem KT.val{H:Hp}{kvs:List (List lD×V)}{xs:List (List lD×Addr×Value)}(r:KT H kvs xs)(k:List lD):YI (DD kvs k) ((atKey xs k).map (·.2)):=by
 induction r with
 |nil=>exact True.intro
 |@cons p q ps qs h t ih =>
  obtain⟨h1,_,h2⟩:=h;by_cases e:p.1=k;have e':q.1=k:=h1.symm.trans e;have b:atKey (q::qs) k=some q.2:=by simp[atKey,wg,e']
  rw[UI e,b];exact h2;have e':¬ q.1=k:=fun z=>e (h1.trans z);have b:atKey (q::qs) k=atKey qs k:=by simp[atKey,wg,e']
  rw[CI e,b];exact ih
section
variable{P:Program}{w:World}{H:Hp}{h:Heap}{a:Addr}
theorem J9{u:HO}(ok:UH P w H h)(e:Rd H a u):DA P w H h a u:=e.ok ok
theorem UR{kvs:List (lD×V)}(ok:UH P w H h)(e:Rd H a (.dK kvs)):kvs.length<=sizeLine/\(a==sysModules)=false/\∃vs,KV kvs vs/\h.DictOf (BB P w) a vs :=
 show DA P w H h a (.dK kvs) from J9 ok e
theorem Sj{kvs:List (lD×V)}(ok:UH P w H h)(e:H a=some (.dK kvs)):kvs.length<=sizeLine/\(a==sysModules)=false/\∃vs,KV kvs vs/\h.DictOf (BB P w) a vs:=UR ok (.inl e)
theorem iP{ks:List lD}(ok:UH P w H h)(e:H a=some (.tup (ks.map kV))):(tupleKind (BB P w)).is h ks a:=by
 obtain⟨_,its,r,o,h1,h2,n,h3⟩:=(show DA P w H h a (.tup (ks.map kV)) from ok a _ e)
 exact⟨o,its.toArray,n,h1,h2,h3,by simpa using xO r⟩
theorem jW{kvs:List (List lD×V)}(ok:UH P w H h)(e:Rd H a (.dT kvs)):kvs.length<=sizeLine/\(a==sysModules)=false /\
  ∃xs,KT H kvs xs/\h.DictOfH (tupleKind (BB P w)) a xs:=by
 obtain⟨z,y,xs,r,o,es,ep,h1,h2,h3,h4,h5⟩:=(show DA P w H h a (.dT kvs) from J9 ok e)
 refine⟨z,y,xs,r,o,es,ep,h1,h2,h3,h4,fun x hx=>?_,h5⟩;have all:∀{l:List (List lD×V)}{m:List (List lD×Addr×Value)},KT H l m->∀x∈m,(tupleKind (BB P w)).is h x.1 x.2.1:=by
  intro l m q;induction q with
  |nil=>intro x hx;exact nomatch hx
  |@cons p q ps qs hq t ih=>intro x hx;rcases QL.mp hx with e|hx;subst e;exact iP ok (by rw[<- hq.1];exact hq.2.1);exact ih x hx
 exact all r x hx
end
def xN(H:Hp)(a:Addr)(y:V)(r:Option V):Prop :=
 (∃kvs k,Rd H a (.dK kvs)/\y=kV k/\r=DD kvs k)∨∃kvs k b,Rd H a (.dT kvs)/\y=.ref b/\H b=some (.tup (k.map kV))/\r=DD kvs k
theorem xN.t{H:Hp}{a b:Addr}{kvs:List (List lD×V)}{k:List lD}(e:H a=some (.dT kvs))(eb:H b=some (.tup (k.map kV))):xN H a (.ref b) (DD kvs k):=.inr ⟨kvs,k,b,.inl e,rfl,eb,rfl⟩
section
variable{X:Cx}{pins:ZB}{σ:St}{H:Hp}{s:Shared}{a:Addr}{y v:V}{u r:Value}{o:Option V}{A:Around}{E:NB}
theorem Inv.big(I:Inv X pins σ H s):sysModules<s.heap.objs.size:=by have h:mainGlobals<s.heap.objs.size:=(I.mod.glob.keeps I.bk).lt;exact Nat.lt_trans (by decide) h
theorem EX{Q:NB}(hu:A.units+1<cLine)(I:Inv X pins σ H s)(g:xN H a y (some v))(ry:sA y u)(h:∀w' s',Inv X pins σ H s'->sA v w'->Q w' s') :
  wpAny (model X.prog X.w) A (getItem (.ref a) u) Q E s:=by
 rcases g with⟨kvs,k,e,ey,l⟩| ⟨kvs,k,b,e,ey,eb,l⟩
 subst ey;obtain⟨z,hd,vs,rel,dd⟩:=UR I.hok e;obtain⟨w',hw,rw'⟩:=YI.some_of (v:=v) (o:=valueAt vs k) (by rw[l];exact rel.val k);exact QCL (mR ry) dd.mapOf hw (h w' _ (I.tok _) rw');subst ey;cases(show u=Value.ref b from ry);obtain⟨z,hd,xs,rel,dd⟩:=jW I.hok e;obtain⟨w',hw,rw'⟩:=YI.some_of (v:=v) (o:=(atKey xs k).map (·.2)) (by rw[l];exact rel.val k);obtain⟨p,hp,hp2⟩:=Option.map_eq_some_iff.mp hw;refine wpAny_getItem_heap (QAH hu) (iP I.hok eb) dd hp ?_;rw[hp2];exact h w' _ (I.tok _) rw'
theorem bn{Q:NB}(hu:A.units+1<cLine)(I:Inv X pins σ H s)(g:xN H a y o)(ry:sA y u)(h:∀s',Inv X pins σ H s'->Q (.bool o.isSome) s') :
  wpAny (model X.prog X.w) A (compareOp .In u (.ref a)) Q E s:=by
 rcases g with⟨kvs,k,e,ey,l⟩| ⟨kvs,k,b,e,ey,eb,l⟩
 subst ey;obtain⟨z,hd,vs,rel,dd⟩:=UR I.hok e;refine wpAny_in_of (mR ry) hd dd.mapOf ?_;rw[<- (rel.val k).isSome_eq,<- l];exact h _ (I.tok _);subst ey;cases(show u=Value.ref b from ry);obtain⟨z,hd,xs,rel,dd⟩:=jW I.hok e;refine wpAny_in_heap (QAH hu) (iP I.hok eb) hd dd ?_;have q:=(rel.val k).isSome_eq;rw[QBx]at q;rw[<- q,<- l];exact h _ (I.tok _)
theorem B8{Q:NB}(hu:A.units+1<cLine)(I:Inv X pins σ H s)(g:xN H a y o)(ry:sA y u)(h:∀s',Inv X pins σ H s'->Q (.bool (!o.isSome)) s') :
  wpAny (model X.prog X.w) A (compareOp .NotIn u (.ref a)) Q E s:=by
 rcases g with⟨kvs,k,e,ey,l⟩| ⟨kvs,k,b,e,ey,eb,l⟩
 subst ey;obtain⟨z,hd,vs,rel,dd⟩:=UR I.hok e;refine wpAny_notIn_of (mR ry) hd dd.mapOf ?_;rw[<- (rel.val k).isSome_eq,<- l];exact h _ (I.tok _);subst ey;cases(show u=Value.ref b from ry);obtain⟨z,hd,xs,rel,dd⟩:=jW I.hok e;refine wpAny_notIn_heap (QAH hu) (iP I.hok eb) hd dd ?_;have q:=(rel.val k).isSome_eq;rw[QBx]at q;rw[<- q,<- l];exact h _ (I.tok _)
theorem U8{h':Heap}{t':Nat}{ob:HO}(I:Inv X pins σ H s)(mu:dl (H a))(hs:qj a s.heap h')(he:∃q,h'.get? a=some q)(new:DA X.prog X.w (FA H a ob) h' a ob) :
  Inv X pins σ (FA H a ob) { s with heap:=h',toks:=t' } :=
 I.write (x:=a) (e:=a) mu (.inl rfl) (fun b q hb z=>(hs.2 b hb).trans z) he new
theorem zg{P:Program}{w:World}{H':Hp}{h':Heap}{kvs:List (lD×V)}{vs:List (lD×Value)}(z:kvs.length<=sizeLine)(hd:(a==sysModules)=false)(rel:KV kvs vs)(dd:h'.DictOf (BB P w) a vs) :
  DA P w H' h' a (.dK kvs):=⟨z,hd,vs,rel,dd⟩
end
section
variable{X:Cx}{pins:ZB}{σ:St}{H:Hp}{s:Shared}{a:Addr}{kvs:List (lD×V)}{k:lD}{u:Value}{A:Around}{E:NB}
end
def xl(i:Expr):Prop:=∀ov iv,subscripted i false ov iv=operate [ov,iv] (getItem ov iv)
theorem A5{prog:Program}{w:World}{A:Around}{E:NB}{s:Shared}{env:Env}{value slice:Expr}{pos:Pos}{T id:String}{Q:NB}
  (hl:typeLookup (.type T) "__getitem__"=pure (some (.builtin id))) (hs:xl slice)
  (h:wpAny (model prog w) A (eval value env) (fun o s₁=>wpAny (model prog w) A (eval slice env) (fun i s₂=>s₂.TypeIs o T/\wpAny (model prog w) A (getItem o i) Q E s₂) E s₁) E s) :
  wpAny (model prog w) A (eval (.Subscript value slice pos) env) Q E s:=by
 refine QCp (qQ h (fun o s₁ h₁=>qQ h₁ (fun i s₂ h₂=>?_) fun _ _ x=>x) fun _ _ x=>x);obtain⟨hT,h₂⟩:=h₂;unfold subscriptTail;refine QE ?_;rw[getitemInPython_of_ne hT.not_modules];refine QE (wpAny_specialOf hT hl ?_);have fin:wpAny (model prog w) A (subscripted slice false o i) (fun r s₃=>wpAny (model prog w) A (letTemporaryGo value o r >>= fun _=>pure r) Q E s₃) E s₂:=by rw[hs o i];exact wpAny_operating (qQ h₂ (fun r s₃ h₃=>QE (wpAny_letTemporaryGo (QT h₃))) fun _ _ x=>x)
 first
  |exact QT (QE fin)
  |exact QE (QT (QE fin))
  |exact QE fin
theorem BR{X:Cx}{pins:ZB}{σ:St}{H:Hp}{s:Shared}{a:Addr}{y:V}{o:Option V}(I:Inv X pins σ H s)(g:xN H a y o):s.TypeIs (.ref a) "dict":=by
 rcases g with⟨kvs,k,e,_,_⟩| ⟨kvs,k,b,e,_,_,_⟩
 obtain⟨_,_,vs,_,dd⟩:=UR I.hok e;exact dd.typeIs;obtain⟨_,_,xs,_,dd⟩:=jW I.hok e;exact dd.typeIs
noncomputable def Jh(td ty:TE):TE:=fun σ H Q=>td σ H fun x H1=>ty σ H1 fun y H2=>∃a v,x=.ref a/\xN H2 a y (some v)/\Q v H2
noncomputable def im(ty td:TE):TE:=fun σ H Q=>ty σ H fun y H1=>td σ H1 fun x H2=>∃a o,x=.ref a/\xN H2 a y o/\Q (.bl o.isSome) H2
noncomputable def S5(ty td:TE):TE:=fun σ H Q=>ty σ H fun y H1=>td σ H1 fun x H2=>∃a o,x=.ref a/\xN H2 a y o/\Q (.bl (!o.isSome)) H2
section
variable{X:Cx}{o i e value:Expr}{pos pos' tpos:Pos}{td ty tv:TE}
theorem A6(hu:X.A.units+1<cLine)(ho:PE X o td)(hi:PE X i ty)(hs:xl i):PE X (.Subscript o i pos) (Jh td ty):=by intro pins s σ H Q I h;refine A5 QAM.lookup hs (EA (ho pins s σ H _ I h) fun u s1 ⟨x,H1,I1,rx,q1⟩=>EA (hi pins s1 σ H1 _ I1 q1) fun iv s2 ⟨y,H2,I2,ry,a,v,ex,g,q2⟩=>?_);subst ex;obtain rfl:u=Value.ref a:=rx;exact⟨BR I2 g,EX hu I2 g ry fun w' s3 I3 rw'=>⟨v,H2,I3,rw',q2⟩⟩
theorem VZ(hu:X.A.units+1<cLine)(hi:PE X i ty)(ho:PE X o td):PC X .In i o (im ty td):=by intro pins s σ H Q I h;refine EA (hi pins s σ H _ I h) fun iv s1 ⟨y,H1,I1,ry,q1⟩=>EA (ho pins s1 σ H1 _ I1 q1) fun u s2 ⟨x,H2,I2,rx,a,ov,ex,g,q2⟩=>?_;subst ex;obtain rfl:u=Value.ref a:=rx;exact bn hu I2 g ry fun s3 I3=>⟨.bl ov.isSome,H2,I3,rfl,q2⟩
theorem MN(hu:X.A.units+1<cLine)(hi:PE X i ty)(ho:PE X o td):PC X .NotIn i o (S5 ty td):=by intro pins s σ H Q I h;refine EA (hi pins s σ H _ I h) fun iv s1 ⟨y,H1,I1,ry,q1⟩=>EA (ho pins s1 σ H1 _ I1 q1) fun u s2 ⟨x,H2,I2,rx,a,ov,ex,g,q2⟩=>?_;subst ex;obtain rfl:u=Value.ref a:=rx;exact B8 hu I2 g ry fun s3 I3=>⟨.bl (!ov.isSome),H2,I3,rfl,q2⟩
end
theorem R3{P:Program}{w:World}{H:Hp}(h:Heap)(hb:sysModules<h.objs.size):DA P w H (h.push { cls:=.type "dict",data:=.dict #[] }) h.objs.size (.dK []) :=
 ⟨QAm _,beq_eq_false_iff_ne.mpr (Qu (Qx hb)),[],.nil,Heap.DictOf.new h⟩
section
variable{X:Cx}{pos:Pos}
end
noncomputable def bL:List (TE×TE)->St->Hp->(List (V×V)->Hp->Prop)->Prop
 |[],_,H,Q=>Q [] H
 | (tk,tv)::r,σ,H,Q=>tk σ H fun x H1=>tv σ H1 fun y H2=>bL r σ H2 fun ps H3=>Q ((x,y)::ps) H3
noncomputable abbrev VV:List (V×V)->List (Value×Value)->Prop:=Paired fun p q=>sA p.1 q.1/\sA p.2 q.2
def Ak(X:Cx)(pos:Pos)(keys:List (Option Expr))(values:List Expr)(trs:List (TE×TE)):Prop :=
 ∀(pins:ZB) (s:Shared) (σ:St) (H:Hp) (Q:List (V×V)->Hp->Prop),Inv X pins σ H s->bL trs σ H Q ->
  wpAny (model X.prog X.w) X.A (evalPairs (pairTrees keys values X.env pos)) (fun vs s'=>∃ps H',Inv X pins σ H' s'/\VV ps vs/\Q ps H') X.xe s
theorem G6{X:Cx}{pos:Pos}:Ak X pos [] [] []:=fun pins s σ H Q I h=>pairTrees_nil_walk ⟨[],H,I,.nil,h⟩
theorem nZ{X:Cx}{pos:Pos}{k v:Expr}{ks:List (Option Expr)}{vs:List Expr}{tk tv:TE}{trs:List (TE×TE)}(hk:PE X k tk)(hv:PE X v tv)(hr:Ak X pos ks vs trs) :
  Ak X pos (some k::ks) (v::vs) ((tk,tv)::trs):=fun pins s σ H Q I h =>
 pairTrees_cons_walk (EA (hk pins s σ H _ I h) fun u s1 ⟨x,H1,I1,rx,q1⟩=>EA (hv pins s1 σ H1 _ I1 q1) fun w2 s2 ⟨y,H2,I2,ry,q2⟩ =>
  EA (hr pins s2 σ H2 _ I2 q2) fun ws s3 ⟨ps,H3,I3,rel,q3⟩=>⟨(x,y)::ps,H3,I3,.cons ⟨rx,ry⟩ rel,q3⟩)
noncomputable def GG(kvs more:List (lD×V)):List (lD×V):=more.foldl (fun acc kv=>iL acc kv.1 kv.2) kvs
theorem KV.merge:∀{more:List (lD×V)}{rs:List (lD×Value)}{kvs:List (lD×V)}{vs:List (lD×Value)},KV more rs->KV kvs vs->KV (GG kvs more) (merged vs rs):=by
 intro more rs kvs vs r;unfold KV at r;induction r generalizing kvs vs with
 |nil=>intro q;exact q
 |@cons p q ps qs h t ih =>
  intro r0;have e:KV (iL kvs p.1 p.2) (stored vs q.1 q.2):=by have:=r0.put p.1 h.2;rw[<- h.1];exact this
  exact ih e
theorem HH:∀(more kvs:List (lD×V)),(GG kvs more).length<=kvs.length+more.length
 |[],kvs=>by show kvs.length<=kvs.length+0;omega
 |p::r,kvs=>by have h1:=HH r (iL kvs p.1 p.2);have h2:=fR kvs p.1 p.2;show(GG (iL kvs p.1 p.2) r).length<=_;rw[QH];omega
theorem ZM{P:Program}{w:World}:∀{kvs:List (lD×V)}{ws:List (Value×Value)},VV (kvs.map fun kv=>(kV kv.1,kv.2)) ws->∃rs,Carries (BB P w) ws rs/\KV kvs rs
 |[],_,r=>by rw[wf]at r;cases r;exact⟨[],True.intro,.nil⟩
 |p::kvs,_,r=>by
  rw[QV]at r;cases r with
  |@cons a b as bs h t=>obtain⟨rs,c,q⟩:=ZM (P:=P) (w:=w) t;obtain⟨b1,b2⟩:=b;exact⟨(p.1,b2)::rs,⟨mR h.1,rfl,c⟩,.cons ⟨rfl,h.2⟩ q⟩
noncomputable def sh(trs:List (TE×TE)):TE:=fun σ H Q=>∀p,H p=none->bL trs σ (FA H p (.dK [])) fun ps H2=>H2 p=some (.dK [])/\∃kvs:List (lD×V),ps=kvs.map (fun kv=>(kV kv.1,kv.2))/\kvs.length<=15/\Q (.ref p) (FA H2 p (.dK (GG [] kvs)))
theorem T6{X:Cx}{pos:Pos}{keys:List (Option Expr)}{values:List Expr}{trs:List (TE×TE)}(h:Ak X pos keys values trs)(hall:keys.all (·.isSome)=true)(hl:keys.length=values.length)(h0:keys≠[])
  (h15:keys.length<=15):PE X (.Dict keys values pos) (sh trs):=by
 intro pins s σ H Q I q;have hn:=I.hok.fresh (Qa s.heap.objs.size);have I1:=I.laid (a:=s.heap.objs.size) (o:=.dK []) (h':=s.heap.push { cls:=.type "dict",data:=.dict #[] }) (t':=s.toks) (fun _ _ q=>QF _ q) (Qa _) (R3 s.heap I.big);refine wpAny_Dict_walk (knd:=BB X.prog X.w) hall hl h0 h15 (EA (h pins _ σ _ _ I1 (q _ hn)) fun ws s2 ⟨ps,H2,I2,rel,e,kvs,ep,lk,q2⟩=>?_);subst ep;obtain⟨rs,c,rk⟩:=ZM (P:=X.prog) (w:=X.w) rel;obtain⟨z,hd,vs0,r0,dd⟩:=Sj I2.hok e;cases r0;refine⟨rs,c,dd,fun h' dd' hs=>⟨.ref s.heap.objs.size,_,?_,rfl,q2⟩⟩;have hz:(GG [] kvs).length<=sizeLine:=by have h1:=HH kvs [];rw[wd]at h1;rw[QX];omega
 have he:∃q,h'.get? s.heap.objs.size=some q:=let⟨q,_,_,hq,_⟩:=dd';⟨q,hq⟩
 exact U8 I2 (by rw[e];exact True.intro) hs he (zg hz hd (rk.merge .nil) dd')
section
variable{X:Cx}{pins:ZB}{σ:St}{H:Hp}{s:Shared}{a:Addr}{y d:V}{u r:Value}{o:Option V}{A:Around}{E:NB}
end
section
variable{X:Cx}{o e f:Expr}{apos cpos:Pos}{td ty tx:TE}
end
section
variable{X:Cx}{pins:ZB}{σ:St}{H:Hp}{s:Shared}{a:Addr}{kvs:List (lD×V)}{A:Around}{E:NB}
end
section
variable{X:Cx}{pins:ZB}{σ:St}{H:Hp}{s:Shared}{a:Addr}{y:V}{u:Value}{A:Around}{E:NB}
end
end L2
namespace L2.L3
open PySem PySem.Spec PyProof.Rows
structure Fly(B:Heap)(l:List Env)(e:Addr)(cls:Value)(dx:Addr)(fl:Option Value)(h:Heap):Prop where
 stay:B.StaysIn h
 new:B.get? e=none
 ff:h.FunFrames B l
 obj:∃oe vs,h.get? e=some oe/\oe.cls=cls/\oe.dict=some dx/\oe.data=.fields vs/\oe.slots=#[]/\1<vs.size/\match fl with
  |none=>vs[1]?=some .none
  |some f=>∃T oT ts,vs[1]?=some (.ref T)/\B.get? T=none/\T≠e/\h.get? T=some oT/\oT.data=.fields ts/\ts[3]?=some f
def ME(l:List Env)(h h':Heap):Prop:=∀b∈dO l,∀o,h.get? b=some o->∃sl,h'.get? b=some { o with slots:=sl }
theorem ME.refl{l:List Env}{h:Heap}:ME l h h:=fun _ _ o q=>⟨o.slots,q⟩
theorem ME.trans{l:List Env}{h h1 h2:Heap}(a:ME l h h1)(b:ME l h1 h2):ME l h h2:=fun c m o q=>by obtain⟨s1,q1⟩:=a c m o q;obtain⟨s2,q2⟩:=b c m _ q1;exact⟨s2,q2⟩
section
variable{M:Model}{A:Around}{E:NB}{s:Shared}{B:Heap}{env:Env}{outer l:List Env}{L e dx:Addr}{cls f:Value}{Q:Unit->Shared->Prop}
theorem B0{h:Heap}{T:Addr}{oT:Obj}{ts:Array Value}(x:h.FunFrames B l)(hT:h.get? T=some oT)(hd:oT.data=.fields ts):T∉dO l:=fun m=>by obtain⟨_,o,ho,hnf⟩:=x.mem m;rw[hT]at ho;injection ho with ho;subst ho;exact hnf ts hd
theorem gI(fr:Option Addr)(x:Fly B l e cls dx (some f) s.heap)(hQ:∀h',Fly B l e cls dx (some (fr.elim Value.none fun a=>rawInt a)) h'->ME l s.heap h'->s.heap.objs.size<=h'.objs.size->Q () { s with heap:=h' }) :
  wpAny M A (setFlight (.ref e) fr) Q E s:=by
 obtain⟨x1,x2,x3,oe,vs,he,hc,hdx,hd,hsl,hsz,T,oT,ts,h1,hnT,hTe,hT,hdT,h3⟩:=x;have z3:3<ts.size:=(QAD.mp h3).1;unfold setFlight;refine QE (Q3 he hd h1 ?_);rw[if_pos (show(Value.ref T != Value.none)=true from by simp)];refine Wc hT hdT z3 (hQ _ ?_ (fun b m o q=>?_) (by rw[wY];exact Qa _));have other:∀b,b≠T->(s.heap.update T (QAn (·.setIfInBounds 3 (fr.elim Value.none fun a=>rawInt a)))).get? b=s.heap.get? b:=fun b n=>qD _ _ (Qu n);refine⟨fun b o q=>(other b fun z=>by rw[z,hnT]at q;cases q).trans (x1 b o q),x2,x3.of_keeps fun b o q nf=>⟨o,(other b fun z=>?_).trans q,rfl⟩,oe,vs,(other e (Qu hTe)).trans he,hc,hdx,hd,hsl,hsz,?_⟩;rw[z,hT]at q;injection q with q;subst q;exact nf ts hdT;exact⟨T,_,_,h1,hnT,hTe,qm _ hT (Wi (wa hdT _)),wa hdT _,by simp[z3]⟩;exact⟨o.slots,(qD _ _ fun z:T=b=>B0 x3 hT hdT (z▸m)).trans q⟩
theorem fO{head:Value}{hadNext:Bool}{oe:Obj}{vs:Array Value}(hfr:A.frames=some (env::outer))(hf:env.frame=some L)(x1:B.StaysIn s.heap)(x2:B.get? e=none)(x3:s.heap.FunFrames B (env::outer))
  (he:s.heap.get? e=some oe) (hc:oe.cls=cls) (hdx:oe.dict=some dx) (hd:oe.data=.fields vs) (hsl:oe.slots=#[]) (hsz:1<vs.size)
  (hQ:∀h',Fly B (env::outer) e cls dx (some (rawInt L)) h'->ME (env::outer) s.heap h'->s.heap.objs.size<=h'.objs.size->Q () { s with heap:=h' }) :
  wpAny M A (do let a <- frameOf env;let pl <- entryPlaceOf L hadNext;let b <- QBO head a .none (rawInt L) .none pl;setField (.ref e) 1 b) Q E s:=by
 have hne:e∉dO (env::outer):=B0 x3 he hd;refine QE (wpAny_frameOf_fun hfr x3 hf fun h1 hs1=>QE (wpAny_entryPlaceOf fun pl hpl=>?_));have q1:h1.get? e=some oe:=(hs1.2.1 e hne).trans he;have st1:B.StaysIn h1:=fun b o q=>(hs1.2.1 b fun m=>by rw[(x3.mem m).1]at q;cases q).trans (x1 b o q);unfold QBO newFields;refine QE (qe ?_ (hpl.sizeOk5 _ _ _ _ _));generalize hts:([head,Value.ref L,Value.none,rawInt L,Value.none]++(if pl.isEmpty then QI 6 Value.none else pl)).toArray=ts;have t3:ts[3]?=some (rawInt L):=by rw[<- hts];rfl
 have q2:=QF (h:=h1) { cls:=.type "traceback",dict:=none,data:=.fields ts } q1;have hTe:h1.objs.size≠e:=Wf (QO q1);have d3:=wa hd (·.setIfInBounds 1 (Value.ref h1.objs.size));have q3:=qm (QAn (·.setIfInBounds 1 (Value.ref h1.objs.size))) q2 (Wi d3);have keep:∀b o,b≠e->h1.get? b=some o->((h1.push { cls:=.type "traceback",dict:=none,data:=.fields ts }).update e (QAn (·.setIfInBounds 1 (Value.ref h1.objs.size)))).get? b=some o :=
  fun b o n q=>(qD _ _ (Qu n)).trans (QF _ q)
 refine Wc q2 hd hsz (hQ _ ⟨fun b o q=>keep b o (fun z=>by rw[z,x2]at q;cases q) (st1 b o q),x2,x3.of_keeps fun b o q nf=>?_,?_⟩ (fun b m o q=>?_) ?_);obtain⟨sl,q'⟩:=hs1.2.2 b o q;exact⟨_,keep b _ (fun z=>by rw[z,he]at q;injection q with q;subst q;exact nf vs hd) q',rfl⟩;refine⟨_,_,q3,(QBy _ _).trans hc,?_,d3,?_,by rw[Array.size_setIfInBounds];exact hsz,h1.objs.size,_,_,by simp[hsz],st1.fresh,hTe,(qD _ _ (Qu hTe)).trans (QY h1 rfl),rfl,t3⟩
 ·obtain⟨c0,d0,dt,s0⟩:=oe
  obtain rfl:dt=.fields vs:=hd;exact hdx
 obtain⟨c0,d0,dt,s0⟩:=oe;obtain rfl:dt=.fields vs:=hd;exact hsl;obtain⟨sl,q'⟩:=hs1.2.2 b o q;exact⟨sl,keep b _ (fun z=>hne (z▸m)) q'⟩;rw[wY,qV,hs1.1];exact Wa _
theorem YR{fl:Option Value}(hfr:A.frames=some (env::outer))(hf:env.frame=some L)(hfl:fl=none∨fl=some .none∨fl=some (rawInt L))(x:Fly B (env::outer) e cls dx fl s.heap)
  (hQ:∀h',Fly B (env::outer) e cls dx (some (rawInt L)) h'->ME (env::outer) s.heap h'->s.heap.objs.size<=h'.objs.size->Q () { s with heap:=h' }):wpAny M A (noteFrame (.ref e) env) Q E s:=by
 unfold noteFrame;simp only[hf];rcases hfl with rfl|rfl|rfl;obtain⟨x1,x2,x3,oe,vs,he,hc,hdx,hd,hsl,hsz,h1⟩:=x;refine QE (Q3 he hd h1 ?_);rw[if_neg (by decide)];exact fO hfr hf x1 x2 x3 he hc hdx hd hsl hsz hQ;obtain⟨x1,x2,x3,oe,vs,he,hc,hdx,hd,hsl,hsz,T,oT,ts,h1,hnT,hTe,hT,hdT,h3⟩:=x;refine QE (Q3 he hd h1 ?_);rw[if_pos (show(Value.ref T != Value.none)=true from by simp)];refine QE (Q3 hT hdT h3 ?_);rw[if_neg (show ¬ ((Value.none==rawInt L)=true) from by simp[rawInt])];refine QE (Wc hT hdT (QAD.mp h3).1 ?_);have other:∀b,b≠T->(s.heap.update T (QAn (·.setIfInBounds 3 Value.none))).get? b=s.heap.get? b:=fun b n=>qD _ _ (Qu n);refine fO (vs:=vs) hfr hf (fun b o q=>(other b fun z=>by rw[z,hnT]at q;cases q).trans (x1 b o q)) x2 (x3.of_keeps fun b o q nf=>⟨o,(other b fun z=>?_).trans q,rfl⟩) ((other e (Qu hTe)).trans he) hc hdx hd hsl hsz fun h' F so sz=>hQ h' F (fun b m o q=>so b m o ((other b fun z=>B0 x3 hT hdT (z▸m)).trans q)) ?_;rw[z,hT]at q;injection q with q;subst q;exact nf ts hdT;rw[wY]at sz;exact sz;obtain⟨x1,x2,x3,oe,vs,he,hc,hdx,hd,hsl,hsz,T,oT,ts,h1,hnT,hTe,hT,hdT,h3⟩:=x;refine QE (Q3 he hd h1 ?_);rw[if_pos (show(Value.ref T != Value.none)=true from by simp)];refine QE (Q3 hT hdT h3 ?_);rw[if_pos (show(rawInt L==rawInt L)=true from by simp)];exact QT (hQ s.heap ⟨x1,x2,x3,oe,vs,he,hc,hdx,hd,hsl,hsz,T,oT,ts,h1,hnT,hTe,hT,hdT,h3⟩ .refl (Qa _))
theorem JR{fl:Option Value}(hfr:A.frames=some (env::outer))(hf:env.frame=some L)(hfl:fl=none∨fl=some .none∨fl=some (rawInt L))(x:Fly B (env::outer) e cls dx fl s.heap)
  (hQ:∀h',Fly B (env::outer) e cls dx (some .none) h'->ME (env::outer) s.heap h'->s.heap.objs.size<=h'.objs.size->Q () { s with heap:=h' }) :
  wpAny M A (noteFrame (.ref e) env) (fun _ s2=>wpAny M A (setFlight (.ref e) none) Q E s2) E s :=
 YR hfr hf hfl x fun h1 F1 s1 z1=>gI none F1 fun h2 F2 s2 z2=>hQ h2 F2 (s1.trans s2) (qC z1 z2)
end
open PySem.W
noncomputable def cN:List Value:=[.type "ValueError",.type "Exception",.type "BaseException",.type "object"]
noncomputable def gE(W C:Addr):List Value:=if C=W then cN else .ref W::cN
structure ExK(K:QC)(W C fI:Addr):Prop where
 obj:∃nm q N bs sn sub ab col dd k0 k1 k2 k3 k5,K.lookup C=some (excClassObj nm q C N bs (gE W C) true sn sub ab col dd k0 k1 k2 k3 k5 "ValueError.__new__")
 init:findIn K (.ref C) "__init__"=some (some (.ref fI))
 fn:typeIn K (.ref fI)=some (.type "function")
 sa:findIn K (.ref C) "__setattr__"=some (some (.builtin "object.__setattr__"))
 ga:findIn K (.ref C) "__getattribute__"=some (some (.builtin "BaseException.__getattribute__"))
 gh:findIn K (.ref C) "__getattr__"=some none
 pl:findIn K (.ref C) "place"=some none
 ca:findIn K (.ref C) "__class__"=some (some (.builtin "object.__class__"))
 kp:keepIn K (.ref C)=true
theorem rG{W C:Addr}{T:String}{b:Bool}(h:cN.contains (.type T)=b):(Value.ref C::gE W C).contains (.type T)=b:=by unfold gE;split;rw[qr,h];rfl;rw[qr,qr,h];rfl
noncomputable abbrev hG(C t:Addr)(d:Option Addr):Obj:={ cls:=.ref C,dict:=d,data:=.fields #[.ref t,.none,.none,.none,.bool false,.none] }
section
variable{prog:Program}{w:World}{A:Around}{E:NB}{h:Heap}{g:Array GenState}{d:Drawn}{t:Nat}{os:OsState}{K:QC}{W C fI:Addr}{rest:List Value}
theorem J8{R:Result->Shared->Prop}(X:K.In h)(Y:ExK K W C fI)(hr:rest.length<=sizeLine)
  (hq:R (.ok (.ret (.ref (h.objs.size+1)))) ⟨(h.push { cls:=.type "tuple",data:=.seq rest.toArray }).push (hG C h.objs.size none),g,d,t,os⟩) :
  codeAny (model prog w) A (.builtin "ValueError.__new__" ⟨.ref C::rest,[]⟩) R ⟨h,g,d,t,os⟩:=by
 obtain⟨nm,q,N,bs,sn,sub,ab,col,dd,k0,k1,k2,k3,k5,hl⟩:=Y.obj;have hC:=X _ _ hl;have F:=wy;have hends:=F.ends;have c1:=rG (W:=W) (C:=C) (T:="ValueError") (b:=true) rfl;have c2:=rG (W:=W) (C:=C) (T:="AttributeError") (b:=false) rfl;have c3:=rG (W:=W) (C:=C) (T:="NameError") (b:=false) rfl;refine codeAny_builtinAt F.entry ?_;unfold Builtin.«BaseException.__new__»;refine QCd ?_;show PySem.wpAt _ _ _ (stack >>= _) _ _ _;refine QCd (PySem.wpAt_stack fun p below=>QBP ?_);wp_walk;refine QBP ?_;rw[F.owner]
 repeat (first|with_reducible refine wpAny_madeHere_exc F.canon hC ?_|with_reducible refine Q8 hC ?_ | (with_reducible refine WG hC ?_;first|rw[c1]|rw[c2]|rw[c3])|wp_step)
 show R _ _;rw[qV];exact hq
theorem DP{M:Model}{Q:Unit->Shared->Prop}(X:K.In h)(Y:ExK K W C fI)(hq:Q () ⟨h,g,d,t,os⟩):wpAny M A (checkBuiltinCall "ValueError.__new__" ⟨.ref C::rest,[]⟩) Q E ⟨h,g,d,t,os⟩:=by
 obtain⟨nm,q,N,bs,sn,sub,ab,col,dd,k0,k1,k2,k3,k5,hl⟩:=Y.obj;have hC:=X _ _ hl;have F:=wy;have c1:=rG (W:=W) (C:=C) (T:="ValueError") (b:=true) rfl;have hs:=F.noStar;simp only[checkBuiltinCall,F.newKind,F.newSplit,F.newRow]
 repeat (first|refine Q8 hC ?_ | (refine WG hC ?_;rw[c1])|refine wpAny_staticBase_exc hC ?_|refine QCM hC ?_|simp only[bne_self_eq_false,Qi,if_false]|wp_step)
 exact hq
theorem B3{Q:NB}(X:K.In h)(Y:ExK K W C fI)(hr:rest.length<=sizeLine)
  (hq:wpAny (model prog w) (A.under (.builtin "type.__call__" ⟨.ref C::rest,[]⟩)) (call (.ref fI) (.ref (h.objs.size+1)::rest)) (fun r s'=>r=.none/\Q (.ref (h.objs.size+1)) s') E
   ⟨(h.push { cls:=.type "tuple",data:=.seq rest.toArray }).push (hG C h.objs.size none),g,d,t,os⟩):wpAny (model prog w) A (call (.ref C) rest) Q E ⟨h,g,d,t,os⟩:=by
 obtain⟨nm,q,N,bs,sn,sub,ab,col,dd,k0,k1,k2,k3,k5,hl⟩:=Y.obj;have hC:=X _ _ hl;have f1:=tc_lookup;have f2:=tc_bind (.ref C);have hT:(⟨h,g,d,t,os⟩:Shared).TypeIs (.ref C) "type":=⟨_,hC,rfl⟩
 have F:=wy;refine QBD (codeAny_of_tree ?_);show wpAny _ _ (callAny (.ref C) _) _ _ _
 repeat (any_goals (first|assumption|with_reducible refine Q8 hC ?_|wp_step))
 refine⟨rfl,codeAny_call_builtin_at (QBj _ (by decide +kernel)) entry_typeCall (wpAny_check_type_call_sub hC ?_)⟩
 repeat (first|with_reducible refine Q8 hC ?_|with_reducible refine QCM hC ?_|wp_step)
 refine codeAny_call_builtin_code (QBj _ F.quiet) (DP X Y (J8 X Y hr ?_));show wpAny _ _ _ _ _ _;have X1:K.In ((h.push { cls:=.type "tuple",data:=.seq rest.toArray }).push (hG C h.objs.size none)):=X.keeps fun b o e=>QF _ (QF _ e);have hC1:=X1 _ _ hl;have hget:((h.push { cls:=.type "tuple",data:=.seq rest.toArray }).push (hG C h.objs.size none)).get? (h.objs.size+1)=some (hG C h.objs.size none):=QAY (by rw[qV]) rfl;have cC:(Value.ref C::gE W C).contains (.ref C)=true:=by simp
 have L1:=looks_findIn (M:=model prog w) X1 Y.init;have L2:=bind_fn (M:=model prog w) X1 (.ref (h.objs.size+1)) Y.fn;unfold isInstance
 repeat (first|with_reducible refine Q8 hget ?_ | (refine WG hC1 ?_;rw[cC])|wp_step)
 show wpAny _ _ (typeLookup (.ref C) _) _ _ _;refine L1.at (WM (QE (L2.at (QE (qQ hq (fun r s' z=>?_) fun _ _ x=>x)))));obtain⟨rfl,hQ⟩:=z;wp_walk;exact hQ
end
open PySem.Builtin PySem.Builtin.ObjectAttr
section
variable{prog:Program}{w:World}{A:Around}{E:NB}{h:Heap}{g:Array GenState}{d:Drawn}{t:Nat}{os:OsState}{K:QC}{W C fI x:Addr}{ox:Obj}{od:Option Obj}
theorem ExK.sub{M:Model}(X:K.In h)(Y:ExK K W C fI)(T:String){b:Bool}(e:cN.contains (.type T)=b):Looks M h (isSubtype (.ref C) (.type T)) b:=by obtain⟨nm,q,N,bs,sn,sub,ab,col,dd,k0,k1,k2,k3,k5,hl⟩:=Y.obj;refine looks_mroIn X ?_;unfold mroIn clsIn;rw[hl];show(if(Value.ref C::gE W C).isEmpty=true then none else some ((Value.ref C::gE W C).contains (.type T)))=some b;rw[if_neg (by simp),rG e]
theorem ExK.subR{M:Model}(X:K.In h)(Y:ExK K W C fI)(D:Addr):Looks M h (isSubtype (.ref C) (.ref D)) (decide (D=C∨D=W)):=by obtain⟨nm,q,N,bs,sn,sub,ab,col,dd,k0,k1,k2,k3,k5,hl⟩:=Y.obj;refine looks_mroIn X ?_;unfold mroIn clsIn;rw[hl];show(if(Value.ref C::gE W C).isEmpty=true then none else some ((Value.ref C::gE W C).contains (.ref D)))=_;rw[if_neg (by simp)];congr 1;unfold gE cN;by_cases e:C=W;rw[if_pos e];simp[qr,e];rw[if_neg e];simp[qr]
theorem NX{name:Str}{tk:Tok}{R:Result->Shared->Prop}{v:Value}(X:K.In h)(Y:ExK K W C fI)(I:InstAt h x ox C od)(hf:findObj K C od name=some (Found.value v))(hq:R (.ok (.ret v)) ⟨h,g,d,t,os⟩) :
  codeAny (model prog w) A (.call (.builtin "BaseException.__getattribute__") ⟨[.ref x,.str name tk],[]⟩) R ⟨h,g,d,t,os⟩:=by
 have F0:=QAZ;have L0:=I.type (M:=model prog w);have L1:=looks_find (M:=model prog w) X I hf;have L3:Looks (model prog w) h (isInstance (.ref x) (.type "BaseException")) true:=L0.andThen (Y.sub X "BaseException" rfl);have k1:builtinKind "BaseException.__getattribute__"=some .slot:=by decide +kernel
 have k2:splitId "BaseException.__getattribute__"=some ("BaseException","__getattribute__"):=by decide +kernel
 have k3:=F.args_bexc_ga (.ref x) (.str name tk);refine wz F0.ga.plain QCe (@check_slot (model prog w) _ _ ⟨h,g,d,t,os⟩ "BaseException.__getattribute__" "BaseException" "__getattribute__" (.ref x) [.str name tk] [] _ k1 k2 L3 k3 ?_)
 repeat (first|with_reducible refine Looks.at L0 ?_|with_reducible refine Looks.at L1 ?_|wp_step)
 exact hq
theorem MX{name:Str}{tk:Tok}{fill expr:Bool}{Q:NB}{v:Value}(X:K.In h)(Y:ExK K W C fI)(I:InstAt h x ox C od)(hf:findObj K C od name=some (Found.value v))(hh:handedIn v=true)
  (hq:Q v ⟨h,g,d,t,os⟩):wpAny (model prog w) A (getAttrBy (.ref x) (.str name tk) fill expr) Q E ⟨h,g,d,t,os⟩:=by
 have F0:=QAZ;have f3:=F0.ga.bind (.ref x);have L0:=I.type (M:=model prog w);have L1:=looks_findIn (M:=model prog w) X Y.ga;have L2:=looks_findIn (M:=model prog w) X Y.gh;have hx0:(expr&&onTheHeap (Value.builtin "BaseException.__getattribute__"))=false:=by cases expr<;>rfl
 have hx2:(Value.builtin "BaseException.__getattribute__" == Value.builtin "object.__getattribute__")=false:=by decide +kernel
 have hx1:(onTheHeap (Value.ref C)&&Value.builtin "BaseException.__getattribute__" == Value.builtin "object.__getattribute__")=false:=by rw[hx2];rfl
 have hq':=handedOut_of hh
 repeat (any_goals (first|assumption|with_reducible refine Looks.at L0 ?_|with_reducible refine Looks.at L1 ?_|with_reducible refine Looks.at L2 ?_|wp_step))
 refine NX X Y I hf ?_
 repeat (any_goals (first|assumption|wp_step))
theorem OX{Q:Option Value->Shared->Prop}{o1:Obj}(X:K.In h)(Y:ExK K W C fI)(I:InstAt h x ox C (some o1))(hq:Q (some (.ref C)) ⟨h,g,d,t+1,os⟩):wpAny (model prog w) A (getAttr? (.ref x) "__class__") Q E ⟨h,g,d,t,os⟩:=by
 have F0:=QAZ;have f3:=F0.ga.bind (.ref x);have L0:=I.type (M:=model prog w);have L1:=looks_findIn (M:=model prog w) X Y.ga;have L2:=looks_findIn (M:=model prog w) X Y.gh;have hc:(clsIn K C).isSome=true:=by obtain⟨nm,q,N,bs,sn,sub,ab,col,dd,k0,k1,k2,k3,k5,hl⟩:=Y.obj;unfold clsIn;rw[hl];rfl
 have hf:findObj K C (some o1) "__class__"=some (.bind (.builtin "getset_descriptor.__get__") (.builtin "object.__class__")):=findObj_data hc Y.ca (by kernel_rfl) (by kernel_rfl);have L4:=looks_find (M:=model prog w) X I hf;have L3:Looks (model prog w) h (isInstance (.ref x) (.type "BaseException")) true:=L0.andThen (Y.sub X "BaseException" rfl);have hm:mroIn K C (.type "object")=some true:=by obtain⟨nm,q,N,bs,sn,sub,ab,col,dd,k0,k1,k2,k3,k5,hl⟩:=Y.obj;unfold mroIn clsIn;rw[hl];show(if(Value.ref C::gE W C).isEmpty=true then none else some ((Value.ref C::gE W C).contains (.type "object")))=_;rw[if_neg (by simp),rG (b:=true) rfl]
 have hx0:(false&&onTheHeap (Value.builtin "BaseException.__getattribute__"))=false:=rfl;have hx2:(Value.builtin "BaseException.__getattribute__" == Value.builtin "object.__getattribute__")=false:=by decide +kernel
 have hx1:(onTheHeap (Value.ref C)&&Value.builtin "BaseException.__getattribute__" == Value.builtin "object.__getattribute__")=false:=by rw[hx2];rfl
 have k1:builtinKind "BaseException.__getattribute__"=some .slot:=by decide +kernel
 have k2:splitId "BaseException.__getattribute__"=some ("BaseException","__getattribute__"):=by decide +kernel
 have k3:=F.args_bexc_ga (.ref x) (.str "__class__" t);have hq':=handedOut_of (v:=.ref C) rfl
 repeat (any_goals (first|assumption|with_reducible refine Looks.at L0 ?_|with_reducible refine Looks.at L1 ?_|with_reducible refine Looks.at L2 ?_|wp_step))
 refine wz F0.ga.plain QCe (@check_slot (model prog w) _ _ ⟨h,g,d,t+1,os⟩ "BaseException.__getattribute__" "BaseException" "__getattribute__" (.ref x) [.str "__class__" t] [] _ k1 k2 L3 k3 ?_)
 repeat (first|with_reducible refine Looks.at L0 ?_|with_reducible refine Looks.at L4 ?_|wp_step)
 refine class_get (s:=⟨h,g,d,t+1,os⟩) X I hm ?_
 repeat (any_goals (first|assumption|wp_step))
theorem M1{o1:Obj}(Y:ExK K W C fI):KitX K (.ref x) (.ref C) (fun h=>InstAt h x ox C (some o1)) where
 ty:=fun _ _ _ I=>I.type
 it:=fun _ _ X _=>by obtain⟨nm,q,N,bs,sn,sub,ab,col,dd,k0,k1,k2,k3,k5,hl⟩:=Y.obj;intro A' Q' E' s' k q;unfold isType loadHead;exact QE (wpAny_loadPart (k _ _ (X _ _ hl)) (QT q))
 ne:=fun h tp dd its n sl X htp=>by obtain⟨nm,q,N,bs,sn,sub,ab,col,dd',k0,k1,k2,k3,k5,hl⟩:=Y.obj;refine Bool.eq_false_iff.mpr fun q=>?_;obtain rfl:C=tp:=Value.ref.inj (beq_iff_eq.mp q);have z:=congrArg Obj.data (QW ((X _ _ hl).symm.trans htp));exact nomatch z
 ca:=fun {_ _ _ _ _ s} X I k=>by obtain⟨hh,gg,dd,tt,oo⟩:=s;exact OX X Y I k
end
section
variable{prog:Program}{w:World}{A:Around}{E:NB}{h:Heap}{g:Array GenState}{d:Drawn}{t:Nat}{os:OsState}{K:QC}{W C fI x ta:Addr}
theorem ExK.mro{M:Model}(X:K.In h)(Y:ExK K W C fI):Looks M h (mroOf (.ref C)) (.ref C::gE W C):=by obtain⟨nm,q,N,bs,sn,sub,ab,col,dd,k0,k1,k2,k3,k5,hl⟩:=Y.obj;exact(looks_clsIn (cd:={ name:=nm,bases:=bs,mro:=.ref C::gE W C,ns:=N,qualname:=q,hasDict:=true,slotNames:=sn,subclasses:=sub,abstract:=ab,collection:=col,hasDel:=false }) X (by unfold clsIn;rw[hl])).andThen .now
theorem ZW(self:Value)(W C:Addr):refuseLoop self "__setattr__" (.ref C::gE W C)=pure ():=by have p:=QBk.passes self;unfold gE;split;rw[QBL];exact p;rw[QBL,QBL];exact p
theorem LX{v:Value}{Q:Unit->Shared->Prop}(X:K.In h)(Y:ExK K W C fI)(hx:h.get? x=some (hG C ta none))
  (hq:∀h' tk,h'.get? x=some (hG C ta (some h.objs.size))->h'.Ns1 h.objs.size (fun y=>if y="place" then some v else none)->(∀b o,b≠x->h.get? b=some o->h'.get? b=some o)->h.objs.size<h'.objs.size->Q () ⟨h',g,d,tk,os⟩) :
  wpAny (model prog w) A (setAttr (.ref x) "place" v) Q E ⟨h,g,d,t,os⟩:=by
 have SF:=QBk;have L0:Looks (model prog w) h (typeOf (.ref x)) (.ref C):=(Looks.ld hx).andThen .now;have L1:=looks_findIn (M:=model prog w) X Y.sa;have L2:=looks_findIn (M:=model prog w) X Y.pl;have L3:Looks (model prog w) h (isInstance (.ref x) (.type "object")) true:=L0.andThen (Y.sub X "object" rfl);have L4:=Y.mro (M:=model prog w) X;have f3:=SF.slot.bind (.ref x);unfold setAttr callSpecial? specialOf
 repeat (any_goals (first|assumption|with_reducible refine Looks.at L0 ?_|with_reducible refine Looks.at L1 ?_|wp_step))
 have ha:=SF.args (.ref x) (.str "place" t) v;refine wz SF.slot.plain SF.entry (@check_slot (model prog w) _ _ ⟨h,g,d,t+1,os⟩ "object.__setattr__" "object" "__setattr__" (.ref x) [.str "place" t,v] [] _ SF.kind SF.split L3 ha ?_);show wpAny _ _ («object.__setattr__» ⟨[.ref x,.str "place" t,v],[]⟩) _ _ _;rw[osa_eq,refuse_eq];refine QE (QE (L0.at (QE (L4.at ?_))));rw[ZW];refine QT (QE (L0.at (QE (L2.at (QE (QT ?_))))));show wpAny _ _ (storeInOwnDict _ _ _ _ _ _) _ _ _;unfold storeInOwnDict;have xs:x≠h.objs.size:=Qx (QO hx);have hx1:(h.push { cls:=.type "dict",data:=.dict #[] }).get? x=some (hG C ta none):=QF _ hx;have hd2:((h.push { cls:=.type "dict",data:=.dict #[] }).update x fun o=>{ o with dict:=some h.objs.size }).get? h.objs.size=some { cls:=.type "dict",data:=.dict #[] } :=
  (QBQ _ _ _ _ xs.symm).trans (QAY rfl rfl)
 repeat (first|with_reducible refine Looks.at L0 ?_|with_reducible refine Q8 hx ?_|wp_step)
 obtain⟨nm,q,N,bs,sn,sub,ab,col,dd,k0,k1,k2,k3,k5,hl⟩:=Y.obj;refine QCo (X _ _ hl) (QT ?_);show wpAny _ _ (alloc _ >>= _) _ _ _;refine QE (wpAny_alloc' (QE (wpAny_update' hx1 (QT ?_))));have hnd:((h.push { cls:=.type "dict",data:=.dict #[] }).update x fun o=>{ cls:=o.cls,dict:=some h.objs.size,data:=o.data,slots:=o.slots }).Ns h.objs.size (fun _=>none) :=
  ⟨_,#[],_,hd2,rfl,fun e he=>absurd he (by simp),fun _=>rfl⟩
 show wpAny _ _ (storeInDict h.objs.size (.str "place" t) "place" v) _ _ _;unfold storeInDict newKeyGuard;refine QE (QT (QE (wpAny_nsSet1 (Heap.Ns1.of_empty hnd) fun h' hn' hs=>?_)));obtain⟨oD,esD,epD,hoD,hdD,hcD⟩:=hn'.count (Within.cons "place" v Within.nil);refine QE (wpAny_lookBehind hoD (by rw[hdD];exact pastItsLine_dict (qC hcD (by rw[QH,wd,QX];omega))) ?_);wp_walk;refine hq h' _ ((hs.2 x xs).trans (qm _ hx1 rfl)) hn' (fun b o n q=>(hs.2 b (Qx (QO q))).trans ((QBQ _ _ _ _ n).trans (QF _ q))) ?_;exact QO hoD
theorem U3{v:Value}{Q:NB}(X:K.In h)(Y:ExK K W C fI)(hx:h.get? x=some (hG C ta none))
  (hq:∀h',h'.get? x=some (hG C h.objs.size none)->(∀b o,b≠x->h.get? b=some o->h'.get? b=some o)->h.objs.size<=h'.objs.size->Q .none ⟨h',g,d,t,os⟩) :
  wpAny (model prog w) A (call (.builtin "ValueError.__init__") [.ref x,v]) Q E ⟨h,g,d,t,os⟩:=by
 have F:=wy;have L0:Looks (model prog w) h (typeOf (.ref x)) (.ref C):=(Looks.ld hx).andThen .now;have L3:Looks (model prog w) h (isInstance (.ref x) (.type "ValueError")) true:=L0.andThen (Y.sub X "ValueError" rfl);have hs:=F.noStar;refine QBD (wz F.init.plain F.initEntry ?_);simp only[checkBuiltinCall,F.initKind,F.initSplit,F.initRow];refine QE (L3.at ?_);obtain⟨nm,q,N,bs,sn,sub,ab,col,dd,k0,k1,k2,k3,k5,hl⟩:=Y.obj;have hC:=X _ _ hl
 repeat (first|with_reducible refine Q8 hx ?_|with_reducible refine Q8 hC ?_|with_reducible refine QCo hC ?_|with_reducible refine Looks.at L0 ?_|wp_step)
 refine hq _ ?_ (fun b o n q=>?_) ?_;rw[qm _ (QF _ hx) rfl];rfl;rw[qD _ _ (Qu n)];exact QF _ q;rw[wY,qV];exact Wa _
end
noncomputable def tM(C e:Addr):Heap->Prop:=fun h=>∃t,h.get? e=some (hG C t none)
noncomputable def KH(C e dx:Addr):Heap->Prop:=fun h=>∃vs,h.get? e=some { cls:=.ref C,dict:=some dx,data:=.fields vs }
noncomputable def DK(C e dx:Addr):Heap->Prop:=fun h=>∃t,h.get? e=some (hG C t (some dx))
noncomputable def OI(p:Int):List (Str×V):=[("place",.int p)]
section
variable{X:Cx}{pins:ZB}{σ:St}{H:Hp}{s:Shared}{W C fI e dx:Addr}
theorem SV{P:Program}{w:World}{h:Heap}{t:Addr}(q:h.get? e=some (hG C t none)):DA P w H h e (.ext (tM C e)) :=
 ⟨⟨t,q⟩,⟨_,q⟩,fun _ _ ⟨t,q⟩ k=>⟨t,k _ q⟩⟩
theorem RV{P:Program}{w:World}{h:Heap}{vs:Array Value}(q:h.get? e=some { cls:=.ref C,dict:=some dx,data:=.fields vs }):DA P w H h e (.ext (KH C e dx)) :=
 ⟨⟨vs,q⟩,⟨_,q⟩,fun _ _ ⟨t,q⟩ k=>⟨t,k _ q⟩⟩
theorem Y8{P:Program}{w:World}{h:Heap}{t:Addr}(q:h.get? e=some (hG C t (some dx))):DA P w H h e (.ext (DK C e dx)) :=
 ⟨⟨t,q⟩,⟨_,q⟩,fun _ _ ⟨t,q⟩ k=>⟨t,k _ q⟩⟩
noncomputable def mm(K:QC)(W fI:Addr)(i j:Nat):TE:=fun σ H Q=>∃e C v,σ[i]?=some (some (.ref e))/\σ[j]?=some (some v)/\H e=some (.ext (tM C e))/\ExK K W C fI/\Q .non H
theorem Be{i j:Nat}{x y:Str}{p1 p2 p3 ap pos:Pos}(hg:Gl X "ValueError")(hm:X.mg "ValueError"=none)(h1:PE X (.Name x p2) (GO i))(h2:PE X (.Name y p3) (GO j))(hp:(ap.endLine==pos.line)=true) :
  PE X (.Call (.Attribute (.Name "ValueError" p1) "__init__" ap) [.Name x p2,.Name y p3] [] pos) (mm X.K W fI i j):=by
 intro pins s σ H Q I h;obtain⟨e,C,v,e1,e2,e3,Y,q⟩:=h;obtain⟨m,F⟩:=I.fr;have hv:bootBuiltins "ValueError"=some (.type "ValueError"):=by decide +kernel
 refine PySem.W.methodCall_KW (pl:=do return(<- importBound (.Name "ValueError" p1) X.env).getD true) (NG I hg hm hv ?_) ?_;refine PySem.W.method_type (v:=.builtin "ValueError.__init__") F I.ok.mod.kin (by kernel_rfl) (by decide +kernel) (by kernel_rfl) rfl ?_;have I0:=I.tok (s.toks+1);refine Wh (EA ((JD h1 (JD h2 BL)) pos pins _ σ H (fun vs H1=>vs=[.ref e,v]/\H1=H) I0 ⟨_,e1,_,e2,rfl,rfl⟩) fun us s1 ⟨vs,H1,I1,r,ev,eh⟩=>?_) rfl rfl;subst ev eh;cases r with
 |cons r1 r=>cases r with
  |cons r2 r=>cases r with
   |nil =>
    cases(show _=Value.ref e from r1);obtain⟨t,ho⟩:=(show DA X.prog X.w H1 s1.heap e (.ext (tM C e)) from I1.hok e _ e3).1;obtain⟨hh,gg,dd,tt,oo⟩:=s1;refine U3 I1.kIn Y ho fun h' a b _=>?_;have J:=I1.write (x:=e) (e:=e) (o:=.ext (tM C e)) (h':=h') (t':=tt) (by rw[e3];exact True.intro) (.inl rfl) b ⟨_,a⟩ (SV a);have eu:FA H1 e (.ext (tM C e))=H1:=by funext b;unfold FA;split;rename_i z;rw[z,e3];rfl
    rw[eu]at J;exact⟨.non,H1,J,rfl,q⟩
 show(do
  let ov <- eval (.Name "ValueError" p1) X.env
  standAt ap.atName
  let(f,first) <- holding [ov] (getMethod ov "__init__" (do return(<- importBound (.Name "ValueError" p1) X.env).getD true))
  let cp <- (if(!true||ap.endLine==pos.line)=true then(pure pos:Sem Pos) else _)
  callWith cp f first (backTo pos (starEach [.Name x p2,.Name y p3] X.env)) (backToKw pos (keywordEach [] X.env)):Sem Value)=_
 rw[hp];rfl
noncomputable def Um(K:QC)(W fI:Addr)(i j:Nat):TS:=fun D σ H=>∃e C p,σ[i]?=some (some (.ref e))/\σ[j]?=some (some (.int p))/\H e=some (.ext (tM C e))/\ExK K W C fI/\∀dx,H dx=none->D.nx σ (FA (FA H dx (.xd (OI p))) e (.ext (DK C e dx)))
theorem fe{i j:Nat}{x y:Str}{p1 p2 pos' pos:Pos}(h1:PE X (.Name x p1) (GO i))(h2:PE X (.Name y p2) (GO j)):PS X (.Assign [.Attribute (.Name x p1) "place" pos'] (.Name y p2) pos) (Um X.K W fI i j):=by
 intro pins s σ H D I h;obtain⟨e,C,p,e1,e2,e3,Y,q⟩:=h;refine plainObj_wpAny_Assign_Attribute (EA (h2 pins s σ H (fun v H1=>v=.int p/\H1=H) I ⟨_,e2,rfl,rfl⟩) fun u s1 ⟨v,H1,I1,rv,ev,eh⟩=>EA (h1 pins s1 σ H1 (fun v H2=>v=.ref e/\H2=H) I1 ⟨_,e1,rfl,eh⟩) fun ov s2 ⟨v2,H2,I2,rv2,ev2,eh2⟩=>?_) rfl;subst ev ev2 eh eh2;cases(show ov=Value.ref e from rv2);obtain⟨t,ho⟩:=(show DA X.prog X.w H2 s2.heap e (.ext (tM C e)) from I2.hok e _ e3).1;obtain⟨hh,gg,dd,tt,oo⟩:=s2;refine LX I2.kIn Y ho fun h' tk a b c d=>?_;have hn:H2 hh.objs.size=none:=I2.hok.fresh (Qa _);have ne:e≠hh.objs.size:=Qx (QO ho);obtain⟨oD,es,ep,b1,b2,b3,b4,b5⟩:=b;have hfd:oD.isFreed=false:=(Heap.get?_some_iff.mp b1).2;have J1:=I2.laid (a:=hh.objs.size) (o:=.xd (OI p)) (h':=hh.push oD) (t':=tk) (fun b u q=>QF _ q) (Qa _)
  ⟨_,⟨oD,es,ep,QY _ hfd,b2,b3,b4,b5⟩,fun f=>by unfold OI;by_cases z:f="place";subst z;rw[if_pos rfl];exact rv;rw[if_neg z,Qe];have z':(f==("place":Str))=false:=beq_eq_false_iff_ne.mpr z;rw[z'];trivial⟩
 have J2:=J1.write (x:=e) (e:=e) (o:=.ext (DK C e hh.objs.size)) (h':=h') (t':=tk) (by rw[vA ne,e3];exact True.intro) (.inl rfl) (fun b u n q=>by rcases QBI q with⟨z1,z2⟩| z;rw[z1,z2];exact b1;exact c b u n z) ⟨_,a⟩ (Y8 a);exact⟨σ,_,J2,q _ hn⟩
end
noncomputable def DN(K:QC)(W fI:Addr):Sp:=fun vs H Q _=>∃e v p C,vs=[.ref e,v,.int p]/\H e=some (.ext (tM C e))/\ExK K W C fI/\∀dx,H dx=none->Q .non (FA (FA H dx (.xd (OI p))) e (.ext (DK C e dx)))
structure IniB(st:Stmt):Prop where
 body:∃p1 ap p2 p3 pos p4 p5 p6 p7 p8,EB st=[.Expr (.Call (.Attribute (.Name "ValueError" p1) "__init__" ap) [.Name "self" p2,.Name "words" p3] [] pos) p4,.Assign [.Attribute (.Name "self" p5) "place" p6] (.Name "place" p7) p8]/\(ap.endLine==pos.line)=true
 sc:FnScope ["self","words","place"] ["self","words","place"] (oA st)
 l1:(oA st).names.lookup ("self":Str)=some .local
 l2:(oA st).names.lookup ("words":Str)=some .local
 l3:(oA st).names.lookup ("place":Str)=some .local
 g:(oA st).names.lookup ("ValueError":Str)=some .globalImplicit
section
variable{P:Program}{w:World}{K:QC}{mg:Str->Option Value}{base:Heap}{W fI:Addr}
theorem Af{st:Stmt}{fd:FuncData}{k:Nat}(F:Fun K "__init__" "WorldError.__init__" st fI fd)(B:IniB st)(hm:mg "ValueError"=none):FnOk P w K mg base i5 (k+1) fI fd ["self","words","place"] (DN K W fI):=by refine F.ok B.sc (fun vs H Q E h=>?_) fun cdv A outer s H vs Q E hr h=>?_;obtain⟨e,v,p,C,rfl,_⟩:=h;rfl;obtain⟨p1,ap,p2,p3,pos,p4,p5,p6,p7,p8,eb,hp⟩:=B.body;rw[eb];have v0:∀p,PE (EJ i5 P w K mg base ["self","words","place"] "WorldError.__init__" (oA st) fI cdv A outer s H E).nox (.Name "self" p) (GO 0):=fun p=>BJ rfl (.inl B.l1);have v1:∀p,PE (EJ i5 P w K mg base ["self","words","place"] "WorldError.__init__" (oA st) fI cdv A outer s H E).nox (.Name "words" p) (GO 1):=fun p=>BJ rfl (.inl B.l2);have v2:∀p,PE (EJ i5 P w K mg base ["self","words","place"] "WorldError.__init__" (oA st) fI cdv A outer s H E).nox (.Name "place" p) (GO 2):=fun p=>BJ rfl (.inl B.l3);refine⟨_,YL (lV (Be (W:=W) (fI:=fI) B.g hm (v0 p2) (v1 p3) hp)) (YL (fe (W:=W) (fI:=fI) (v0 p5) (v2 p7)) hV),?_⟩;obtain⟨e,v,p,C,rfl,e1,Y,q⟩:=h;exact⟨e,C,v,rfl,rfl,e1,Y,e,C,p,rfl,rfl,e1,Y,fun dx hd=>q dx hd⟩
end
section
variable{X:Cx}{pins:ZB}{σ:St}{H:Hp}{s:Shared}{W C fI:Addr}{fd:FuncData}{k:Nat}
theorem n6{Q:VK}{us:List Value}{v:V}{p:Int}(Y:ExK X.K W C fI)(F:FnOk X.prog X.w X.K X.mg X.base i5 k fI fd ["self","words","place"] (DN X.K W fI))(hr:Room (k+1) X.A)(hb:AD X.K fd ["self","words","place"] [])
  (I:Inv X pins σ H s) (r:pA [v,.int p] us) (h:∀e dx,H e=none->H dx=none->dx≠e->Q (.ref e) (FA (FA H dx (.xd (OI p))) e (.ext (DK C e dx)))) :
  wpAny (model X.prog X.w) X.A (call (.ref C) us) (EP X pins σ Q) X.xe s:=by
 obtain⟨hh,gg,dd,tt,oo⟩:=s;have hl:us.length=2:=r.length.symm;refine B3 I.kIn Y (by rw[hl,QX];decide) ?_;have I1:=I.kept (h':=hh.push { cls:=.type "tuple",data:=.seq us.toArray }) (t':=tt) fun b u e=>QF _ e;have z1:(hh.push { cls:=.type "tuple",data:=.seq us.toArray }).objs.size=hh.objs.size+1:=qV ..;have g2:((hh.push { cls:=.type "tuple",data:=.seq us.toArray }).push (hG C hh.objs.size none)).get? (hh.objs.size+1)=some (hG C hh.objs.size none):=QAY z1.symm rfl;have I2:=I1.laid (a:=hh.objs.size+1) (o:=.ext (tM C (hh.objs.size+1))) (h':=(hh.push { cls:=.type "tuple",data:=.seq us.toArray }).push (hG C hh.objs.size none)) (t':=tt) (fun b u e=>QF _ e) (by rw[z1];exact Qa _) (SV g2);have n1:H (hh.objs.size+1)=none:=I.hok.fresh (Wa _);have hq:DN X.K W fI [.ref (hh.objs.size+1),v,.int p] (FA H (hh.objs.size+1) (.ext (tM C (hh.objs.size+1)))) (fun v H2=>v=.non/\Q (.ref (hh.objs.size+1)) H2) E0:=by
  refine⟨_,v,p,C,rfl,dA,Y,fun dx hd=>⟨rfl,?_⟩⟩;have ne:dx≠hh.objs.size+1:=fun z=>by rw[z,dA]at hd;cases hd
  rw[vA ne]at hd;have e:FA (FA (FA H (hh.objs.size+1) (.ext (tM C (hh.objs.size+1)))) dx (.xd (OI p))) (hh.objs.size+1) (.ext (DK C (hh.objs.size+1) dx))=FA (FA H dx (.xd (OI p))) (hh.objs.size+1) (.ext (DK C (hh.objs.size+1) dx)):=by funext b;by_cases z:b=hh.objs.size+1;rw[z,dA,dA];rw[vA z,vA z];by_cases z2:b=dx;rw[z2,dA,dA];rw[vA z2,vA z2,vA z]
  rw[e];exact h _ dx n1 hd ne
 refine QBD (Wg (F.run _ X.stack _ _ ⟨Value.ref (hh.objs.size+1)::us,[]⟩ (Value.ref (hh.objs.size+1)::us) _ _ E0 (hr.make C us []) (I2.env0.make C us []) ?_ (.cons (show sA (.ref (hh.objs.size+1)) (Value.ref (hh.objs.size+1)) from rfl) r) hq) fun r s' hq'=>?_);have b:=hb _ (Value.ref (hh.objs.size+1)::us) I2.kIn (by rw[Q7,QH,hl];rfl);rw[Q7]at b;exact b;cases r with
 |error e=>exact hq'.elim
 |ok fl =>
  cases fl with
  |ret u=>obtain⟨v,H',I3,rv,ev,q3⟩:=I2.after hq';subst ev;exact⟨rv,⟨V.ref (hh.objs.size+1),H',I3,rfl,q3⟩⟩
  |next=>exact QR hq'
  |brk=>exact QR hq'
  |cont=>exact QR hq'
end
section
variable{M:Model}{A:Around}{E:NB}{s:Shared}{env:Env}{K:QC}
theorem AS{x:Sem Value}{Q:Flow->Shared->Prop}(hh:A.handled=none)
  (h:wpAny M A x (fun v s1=>∃e W C fI t dx,v=.ref e/\K.In s1.heap/\ExK K W C fI/\s1.heap.get? e=some (hG C t (some dx))/\E (.ref e) s1) E s):wpAny M A (raiseStmt env (some x) none) Q E s:=by
 unfold raiseStmt;refine QE (qQ h (fun v s1 h1=>?_) fun _ _ x=>x);obtain⟨e,W,C,fI,t,dx,rfl,X,Y,he,hE⟩:=h1;obtain⟨hp,g,d,tk,os⟩:=s1;obtain⟨nm,q,N,bs,sn,sub,ab,col,dd,k0,k1,k2,k3,k5,hl⟩:=Y.obj;have hC:=X _ _ hl;have c1:=rG (W:=W) (C:=C) (T:="BaseException") (b:=true) rfl
 repeat (first|with_reducible refine Q8 he ?_|with_reducible refine Q8 hC ?_ | (refine WG hC ?_;rw[c1])|wp_step)
 exact wpAny_raiseNew_none hh hE
end
section
variable{X:Cx}{W C fI:Addr}{fd:FuncData}{k:Nat}
noncomputable def pd(C:Addr)(t:TA):TE:=fun σ H Q=>t σ H fun vs H1=>∃v p,vs=[v,.int p]/\∀e dx,H1 e=none->H1 dx=none->dx≠e->Q (.ref e) (FA (FA H1 dx (.xd (OI p))) e (.ext (DK C e dx)))
theorem De{x:Str}{p pos:Pos}{e:Expr}{es:List Expr}{t:TA}(Y:ExK X.K W C fI)(F:FnOk X.prog X.w X.K X.mg X.base i5 k fI fd ["self","words","place"] (DN X.K W fI))(hr:Room (k+1) X.A)(hb:AD X.K fd ["self","words","place"] [])
  (hg:Gl X x) (hm:X.mg x=some (.ref C)) (ha:PA X (e::es) t) (hdb:(x==("__debug__":Str))=false) (he:starEach (e::es) X.env=(false,eval e X.env)::starEach es X.env) (hpl:(backTo pos (starEach es X.env)).any (·.1)=false) :
  PE X (.Call (.Name x p) (e::es) [] pos) (pd C t):=by
 intro pins s σ H Q I h;refine wD (zJ I hg hm ?_ hdb);refine QAG (h₀:=X.base) I.ok.mod.kin Y.kp (EA (ha pos pins s σ H _ I h) fun us s1 ⟨vs,H1,I1,r,q⟩=>⟨I1.kIn,?_⟩) he hpl;obtain⟨v,p,rfl,q⟩:=q;exact n6 Y F hr hb I1 r q
def BU(X:Cx)(W fI:Addr)(EK:XK):Prop:=∀(pins:ZB) (σ:St) (H:Hp) (s:Shared) (e C dx:Addr),Inv X pins σ H s->H e=some (.ext (DK C e dx))->(∃fs,H dx=some (.xd fs))->ExK X.K W C fI ->
 EK .none (some e) (FA H e (.ext (KH C e dx)))->X.xe (.ref e) s
noncomputable def xm(K:QC)(W fI C:Addr)(EK:XK)(t:TA):TS:=fun D σ H=>pd C t σ H fun v H1=>∃e dx,v=.ref e/\H1 e=some (.ext (DK C e dx))/\(∃fs,H1 dx=some (.xd fs))/\EK .none (some e) (FA H1 e (.ext (KH C e dx)))
theorem ce{EK:XK}{x:Str}{p cpos pos:Pos}{e:Expr}{es:List Expr}{t:TA}(Y:ExK X.K W C fI)(hx:BU X W fI EK)(hc:X.calm=true)(he:PE X (.Call (.Name x p) (e::es) [] cpos) (pd C t)) :
  PS X (.Raise (some (.Call (.Name x p) (e::es) [] cpos)) none pos) (xm X.K W fI C EK t):=by
 intro pins s σ H D I h;rw[arm_exec_Raise];refine QE (Wt (AS (K:=X.K) (I.ok.hd hc) ?_));refine QE (qQ (he pins s σ H _ I h) (fun v s1 h1=>QE (Wt (QT ?_))) fun _ _ x=>x);obtain⟨v,H1,I1,rv,e',dx,ev,q1,q2,q3⟩:=h1;subst ev;cases(show _=Value.ref e' from rv);obtain⟨t',ho⟩:=(show DA X.prog X.w H1 s1.heap e' (.ext (DK C e' dx)) from I1.hok e' _ q1).1;exact⟨e',W,C,fI,t',dx,rfl,I1.kIn,Y,ho,hx pins σ H1 s1 e' C dx I1 q1 q2 Y q3⟩
end
structure Exc(K:QC)(W fI:Addr)(l:List Env)(H':Hp)(e:Addr)(fl:Option Value)(B h:Heap):Prop where
 obj:∃C dx,H' e=some (.ext (KH C e dx))/\(∃fs,H' dx=some (.xd fs))/\ExK K W C fI/\Fly B l e (.ref C) dx fl h
 inB:∀b o,H' b=some o->b≠e->∃ob,B.get? b=some ob
def En(P:Program)(w:World)(K:QC)(W fI:Addr)(fs:List Addr)(l:List Env)(H:Hp)(h0:Heap)(os:OsState)(EK:XK)(fls:Option Value->Prop)(v:Value)(s':Shared):Prop :=
 ∃e H' B fl,v=.ref e/\fls fl/\s'.os=os/\AllBare s'.gens/\Un fs [] H H' h0 s'.heap/\UH P w H' s'.heap/\(∀b o,h0.get? b=some o->b∉fs->b=e∨∃ob,B.get? b=some ob)/\Exc K W fI l H' e fl B s'.heap/\EK .none (some e) H'
def yn(X:Cx)(fl:Option Value):Prop:=fl=none∨fl=some .none∨fl=some (rawInt X.env.locals)
noncomputable def z9(P:Program)(w:World)(K:QC)(W fI:Addr):DU:=fun outer H s EK v s'=>En P w K W fI (dO outer) outer H s.heap s.os EK (fun fl=>fl=some .none) v s'
def SX(X:Cx)(W fI:Addr)(EK:XK)(v:Value)(s':Shared):Prop:=En X.prog X.w X.K W fI X.fs X.stack X.H₀ X.s₀.heap X.s₀.os EK (yn X) v s'
theorem jf{P:Program}{w:World}{H:Hp}{h:Heap}{a:Addr}{o:HO}(x:DA P w H h a o):∃ob,h.get? a=some ob:=by
 cases o with
 |lst xs=>obtain⟨_,_,_,_,e⟩:=x;exact⟨_,e⟩
 |tup xs=>obtain⟨_,_,_,_,e,_⟩:=x;exact⟨_,e⟩
 |dK kvs=>obtain⟨_,_,_,_,_,_,_,e,_⟩:=x;exact⟨_,e⟩
 |dT kvs=>obtain⟨_,_,_,_,_,_,_,e,_⟩:=x;exact⟨_,e⟩
 |set S n=>obtain⟨_,_,_,_,e,_⟩:=x;exact⟨_,e⟩
 |ins C dx fs=>obtain⟨_,_,_,e,_⟩:=x;exact⟨_,e⟩
 |own y=>exact x
 |xd fs=>obtain⟨_,⟨_,_,_,e,_⟩,_⟩:=x;exact⟨_,e⟩
 |rng lo hi=>obtain⟨_,_,_,e⟩:=x;exact⟨_,e⟩
 |frz ob u=>obtain⟨e,_⟩:=x;exact⟨_,e⟩
 |tbl ps=>exact⟨_,x⟩
 |met f y=>exact⟨_,x⟩
 |ext φ=>exact x.2.1
section
variable{P:Program}{w:World}{K:QC}{W fI:Addr}{fs:List Addr}{l:List Env}{H H':Hp}{h0 h h' B:Heap}{e C dx:Addr}{fl fl':Option Value}
theorem Exc.hok(x:Exc K W fI l H' e fl B h)(ok:UH P w H' h)(q:∀C dx,Fly B l e (.ref C) dx fl h->Fly B l e (.ref C) dx fl' h'):UH P w H' h':=fun a o ha=>by
 obtain⟨C,dx,h1,h2,Y,F⟩:=x.obj;have F':=q C dx F;by_cases z:a=e;subst z;rw[h1]at ha;cases ha;obtain⟨oe,vs,he,hc,hd,hdt,hsl,_⟩:=F'.obj;obtain⟨c0,d0,dt,s0⟩:=oe;obtain rfl:c0=.ref C:=hc;obtain rfl:d0=some dx:=hd;obtain rfl:dt=.fields vs:=hdt;obtain rfl:s0=#[]:=hsl;exact RV he;refine(ok a o ha).stay (fun b u hb qb=>?_) (fun _ q=>q) fun _ _ q=>q;have nb:b≠e/\∃o',H' b=some o':=by rcases hb with rfl|hb;exact⟨z,o,ha⟩;exact⟨fun z=>(by rw[z,h1]at hb;cases hb),_,hb⟩
 obtain⟨nb,o',ho'⟩:=nb;obtain⟨ob,hob⟩:=x.inB b o' ho' nb;rw[F.stay b ob hob]at qb;cases qb;exact F'.stay b _ hob
theorem Exc.un(x:Exc K W fI l H' e fl B h)(u:Un fs [] H H' h0 h)(ib:∀b o,h0.get? b=some o->b∉fs->b=e∨∃ob,B.get? b=some ob)(q:∀C dx,Fly B l e (.ref C) dx fl h->Fly B l e (.ref C) dx fl' h')(so:∀b∈fs,∀o,h.get? b=some o->∃sl,h'.get? b=some { o with slots:=sl }):Un fs [] H H' h0 h':=by
 obtain⟨C,dx,h1,h2,Y,F⟩:=x.obj;have F':=q C dx F;refine⟨fun b o qb n nf nx=>?_,fun b o qb n mf nx=>?_,u.free,fun b o qb nx=>?_,u.tups,u.frzs,u.tbls⟩;rcases ib b o qb nf with z|⟨ob,hob⟩
 ·have:=u.free b o qb n nx
  rw[z,h1]at this;cases this
 have k:=u.keep b o qb n nf nx;rw[F.stay b ob hob]at k;cases k;exact F'.stay b _ hob;obtain⟨sl,k⟩:=u.slot b o qb n mf nx;obtain⟨sl2,k2⟩:=so b mf _ k;exact⟨sl2,k2⟩;by_cases mf:b∈fs
 ·obtain⟨o',k⟩:=u.there b o qb nx
  obtain⟨sl,k2⟩:=so b mf _ k;exact⟨_,k2⟩
 rcases ib b o qb mf with z|⟨ob,hob⟩
 ·obtain⟨oe,_,he,_⟩:=F'.obj
  exact⟨oe,by rw[z];exact he⟩
 exact⟨ob,F'.stay b ob hob⟩
theorem Exc.to(x:Exc K W fI l H' e fl B h){l':List Env}(q:∀C dx,Fly B l e (.ref C) dx fl h->Fly B l' e (.ref C) dx fl' h'):Exc K W fI l' H' e fl' B h':=by obtain⟨C,dx,h1,h2,Y,F⟩:=x.obj;exact⟨⟨C,dx,h1,h2,Y,q C dx F⟩,x.inB⟩
theorem Fly.tail{env:Env}{cls:Value}(x:Fly B (env::l) e cls dx fl h):Fly B l e cls dx fl h:=⟨x.stay,x.new,x.ff.2.2,x.obj⟩
end
section
variable{P:Program}{w:World}{K:QC}{mg:Str->Option Value}{base:Heap}{W fI:Addr}
theorem tX{N:List Str}{qual:Str}{scope:Scope}{f:Addr}{cd:Value}{A:Around}{outer:List Env}{s:Shared}{H:Hp}{E EK:XK}{v:Value}{s':Shared}(hfr:(A.deeper (envOfC qual scope s.heap.objs.size f cd)).frames=some (envOfC qual scope s.heap.objs.size f cd::outer))(he:∀a H,EK .none a H->E .none a H)
  (h:SX (EJ (z9 P w K W fI) P w K mg base N qual scope f cd A outer s H E) W fI EK v s'):(EJ (z9 P w K W fI) P w K mg base N qual scope f cd A outer s H E).xe v s':=by
 obtain⟨e,H',B,fl,rfl,hf,os,br,un,ok,ib,x,q⟩:=h;show wpAny _ _ (leaving _ _) _ _ _;unfold leaving;refine QE ?_;obtain⟨C,dx,h1,h2,Y,F⟩:=id x.obj;refine JR (L:=s.heap.objs.size) hfr rfl hf F fun h' F' so sz=>?_;have tr:∀C' dx',Fly B (envOfC qual scope s.heap.objs.size f cd::outer) e (.ref C') dx' fl s'.heap->Fly B (envOfC qual scope s.heap.objs.size f cd::outer) e (.ref C') dx' (some .none) h':=fun C' dx' G=>by obtain⟨o1,_,a1,a2,a3,_⟩:=G.obj;obtain⟨o2,_,b1,b2,b3,_⟩:=F.obj;rw[a1]at b1;cases b1;rw[a2]at b2;rw[a3]at b3;cases b2;cases b3;exact F'
 exact⟨e,H',B,some .none,rfl,rfl,os,br,x.un un ib tr fun b m o q=>so b (by unfold dO at m ⊢;rw[qz];exact QG _ m) o q,x.hok ok tr,ib,x.to fun C' dx' G=>(tr C' dx' G).tail,he _ _ q⟩
end
section
variable{X:Cx}{W fI:Addr}{EK:XK}
theorem XZ(hx:X.ex=[])(hxe:∀v s',SX X W fI EK v s'->X.xe v s'):OM (z9 X.prog X.w X.K W fI) X EK:=fun pins σ H s v s' I h=>by refine hxe v s' ?_;obtain⟨e,H',B,fl,rfl,rfl,os,br,un,ok,ib,x,q⟩:=h;have J:=I.call' os un ok br (fun b z=>absurd z (by simp));have jb:=J.base;rw[hx]at jb;refine⟨e,H',B,_,rfl,.inr (.inl rfl),J.os,br,jb,ok,fun b o qb nf=>?_,x,q⟩;have ib0:=I.base;rw[hx]at ib0;obtain⟨o',k⟩:=ib0.there b o qb (by simp);refine ib b o' k fun m=>?_;rcases QL.mp (I.stkSub b m) with z|z;exact absurd (QO qb) (by rw[z];exact QBz.mpr I.ok.above);exact nf z
theorem SW(hx:X.ex=[])(hxe:∀v s',SX X W fI EK v s'->X.xe v s'):BU X W fI EK:=fun pins σ H s e C dx I h1 h2 Y q=>by
 refine hxe _ s ?_;obtain⟨t,ho⟩:=(show DA X.prog X.w H s.heap e (.ext (DK C e dx)) from I.hok e _ h1).1;have J:=I.write (x:=e) (e:=e) (o:=.ext (KH C e dx)) (h':=s.heap) (t':=s.toks) (by rw[h1];exact True.intro) (.inl rfl) (fun _ _ _ q=>q) ⟨_,ho⟩ (RV ho);have J:Inv X pins σ (FA H e (.ext (KH C e dx))) s:=J;have jb:=J.base;rw[hx]at jb;have ne:∃fs,(FA H e (.ext (KH C e dx))) dx=some (.xd fs):=by obtain⟨fs,h2⟩:=h2;exact⟨fs,by rw[vA (fun z=>by rw[z,h1]at h2;cases h2)];exact h2⟩
 refine⟨e,_,QCa s.heap (e::dO X.stack),none,rfl,.inl rfl,J.os,J.bare,jb,J.hok,fun b o qb nf=>?_,⟨⟨C,dx,dA,ne,Y,?_⟩,fun b o qb n=>?_⟩,q⟩;by_cases z:b=e
 ·exact .inl z
 obtain⟨o',k⟩:=jb.there b o qb (by simp);refine .inr ⟨o',W5 _ k fun m=>?_⟩;rcases QL.mp m with m|m;exact z m;rcases QL.mp (J.stkSub b m) with z|z
 ·exact absurd (QO qb) (by rw[z];exact QBz.mpr I.ok.above)
 exact nf z;refine⟨fun b o k=>QBe _ k,QBG _ QK,PySem.W.funFrames_hide J.stack fun env m a ha=>QG _ (wZ.mpr ⟨env,m,ha⟩),_,_,ho,rfl,rfl,rfl,rfl,(show 1<6 by decide),rfl⟩;have ok:=J.hok b o qb;obtain⟨ob,hob⟩:=jf ok;refine⟨ob,W5 _ hob fun m=>?_⟩;rcases QL.mp m with m|m;exact n m;have:=J.stkFree b m;rw[qb]at this;cases this
theorem d7(hs:X.stack=X.env::X.outer)(hf:X.env.frame=some X.env.locals)(hfr:X.A.frames=some X.stack)(hxe:X.xe=SX X W fI EK):PassesOwn (model X.prog X.w) X.A X.env X.xe:=fun v s' h=>by
 rw[hxe]at h ⊢;obtain⟨e,H',B,fl,rfl,hfl,os,br,un,ok,ib,x,q⟩:=h;obtain⟨C,dx,h1,h2,Y,F⟩:=id x.obj;rw[hs]at F;rw[hs]at hfr;have same:∀{f1 f2:Option Value}{g1 g2:Heap},Fly B X.stack e (.ref C) dx f1 g1->Fly B X.stack e (.ref C) dx f2 g2->∀C' dx',Fly B X.stack e (.ref C') dx' f1 g1->Fly B X.stack e (.ref C') dx' f2 g2:=fun F F' C' dx' G=>by obtain⟨o1,_,a1,a2,a3,_⟩:=G.obj;obtain⟨o2,_,b1,b2,b3,_⟩:=F.obj;rw[a1]at b1;cases b1;rw[a2]at b2;rw[a3]at b3;cases b2;cases b3;exact F'
 refine YR (L:=X.env.locals) hfr hf hfl F fun h1' F1 so1 z1=>?_;obtain⟨oe,vs,he,hc,hd,hdt,hsl,hsz,T,oT,ts,e1,e2⟩:=id F1.obj;show wpAny _ _ (do
  if(<- field (.ref e) 1)==.none then unsupported "frame.own-activation:exception-without-traceback"
  setFlight (.ref e) X.env.frame) _ _ _
 refine QE (Q3 he hdt e1 ?_);rw[if_neg (by simp)];rw[hf];refine gI (some X.env.locals) F1 fun h2' F2 so2 z2=>?_;rw[<- hs]at F F1 F2 so1 so2;have t1:=same F F2;exact⟨e,H',B,_,rfl,.inr (.inr rfl),os,br,x.un un ib t1 fun b m o q=>(so1.trans so2) b (by rw[hs];unfold dO;rw[qz,hf];exact QG _ m) o q,x.hok ok t1,ib,x.to t1,q⟩
end
section
variable{X:Cx}
noncomputable def rm(j:Nat):TE:=fun σ H Q=>∃p,σ[j]?=some (some (.int p))/\p.natAbs.log2<1920/\∀z,Q (.str z) H
theorem Ce{j:Nat}{a b y:Str}{k1 k2:Nat}{p1 p2 p3 fp pos:Pos}(h1:PE X (.Name y p2) (GO j))(ha:a.length<=1000)(hb:b.length<=1000) :
  PE X (.JoinedStr [.Constant (.str a) k1 p1,.FormattedValue (.Name y p2) (-1) none fp,.Constant (.str b) k2 p3] pos) (rm j):=by
 intro pins s σ H Q I h;obtain⟨p,e1,hp,q⟩:=h;have zl:sizeLine=16777216:=QX;have la:∀z:Str,(QCq++z).length=z.length:=fun z=>by rw[WQ];exact QA2 _
 have lt:(QA (toString p)).length<=1921:=by rw[PySem.ofString_length];exact int_text_length_le (k:=1920) (by decide) hp
 refine wpAny_JoinedStr ?_;show Joins _ _ _ (eval (.Constant (.str a) k1 p1) X.env::evalEach [.FormattedValue (.Name y p2) (-1) none fp,.Constant (.str b) k2 p3] X.env) _ _ _;refine EA (VL pins s σ H (fun v H1=>v=.str a/\H1=H) I ⟨rfl,rfl⟩) fun u0 s0 ⟨v0,H0,I0,r0,ev0,eh0⟩=>?_;subst ev0 eh0;obtain⟨t0,rfl⟩:=(show ∃t,u0=Value.str a t from r0)
 refine⟨a,t0,rfl,by rw[la];omega,?_⟩;show Joins _ _ _ (eval (.FormattedValue (.Name y p2) (-1) none fp) X.env::evalEach [.Constant (.str b) k2 p3] X.env) _ _ _;refine wpAny_FormattedValue_plain (EA (h1 pins s0 σ H0 (fun v H1=>v=.int p/\H1=H0) I0 ⟨_,e1,rfl,rfl⟩) fun u s1 ⟨v,H1,I1,rv,ev,eh⟩=>?_);subst ev eh;obtain⟨t,rfl⟩:=(show ∃t,u=Value.int p t from rv)
 refine wpAny_formatField_int hp ⟨_,_,rfl,by rw[WQ,la];omega,?_⟩;show Joins _ _ _ [eval (.Constant (.str b) k2 p3) X.env] _ _ _;refine EA (VL pins _ σ H1 (fun v H2=>v=.str b/\H2=H1) (I1.tok _) ⟨rfl,rfl⟩) fun u2 s2 ⟨v2,H2,I2,r2,ev2,eh2⟩=>?_;subst ev2 eh2;obtain⟨t2,rfl⟩:=(show ∃t,u2=Value.str b t from r2)
 refine⟨b,t2,rfl,by rw[WQ,WQ,la];omega,?_⟩;show _/\EP X pins σ Q _ _;exact⟨by rw[WQ,WQ,la];omega,.str (QCq++a++QA (toString p)++b),H2,I2.tok _,⟨_,rfl⟩,q _⟩
end
section
variable{X:Cx}{pins:ZB}{σ:St}{H:Hp}{s:Shared}
theorem gX{A:Around}{E:NB}{M:Model}{k:Nat}{n:Str}{pos:Pos}{Q:Unit->Shared->Prop}(I:Inv X pins σ H s)(hN:X.N.Nodup)(hi:X.N[k]?=some n)(hk:X.env.scope.names.lookup n=some .local)
  (h:∀s',Inv X pins (σ.set k none) H s'->Q () s'):wpAny M A (do bindName X.env n .none;unbindBehindTheSuite X.env n pos) Q E s:=by
 obtain⟨m,hn,hl⟩:=id I.loc;have hc:(X.env.scope.kind==.class||(X.env.scope.kind==.module&&X.env.locals != X.env.globals))=false:=by rw[I.ok.kind];rfl
 have hz:k<σ.length:=by rw[I.len];exact(Qr.mp hi).1
 have cne:=I.cne;obtain⟨oL,_,_,hoL,_⟩:=id hn;refine wpAny_nameGoes_keeps hk hn hc fun h' v hn' hs=>h _ ?_;have far:∀b o,X.s₀.heap.get? b=some o->h'.get? b=s.heap.get? b:=fun b o e=>hs.2 b (Qx (Qg (QO e) I.ok.above));refine⟨I.ok,I.os,I.bare,⟨fun b o e n hb hx=>(far b o e).trans (I.base.keep b o e n hb hx),fun b o e n hb hx=>?_,I.base.free,fun b o e hx=>?_,I.base.tups,I.base.frzs,I.base.tbls⟩,⟨_,hn',fun j y w e1 e2 e3=>?_⟩,fun y c e=>?_,I.free,I.freeC,fun p hp=>?_,fun b ob e=>?_,by simpa using I.len⟩;obtain⟨sl,e1⟩:=I.base.slot b o e n hb hx;exact⟨sl,(far b o e).trans e1⟩;obtain⟨o',e1⟩:=I.base.there b o e hx;exact⟨o',(far b o e).trans e1⟩;have nj:j≠k:=fun z=>by rw[z,Q4 hz]at e2;cases e2
 rw[Qm (Qu nj)]at e2;obtain⟨u,r,q⟩:=hl j y w e1 e2 e3;refine⟨u,r,?_⟩;rcases q with⟨k1,k2⟩| ⟨k1,c,k2,z⟩
 have ny:y≠n:=fun z=>nj (RL hN e1 (z▸hi));exact .inl ⟨k1,by simp[ny,k2]⟩;exact .inr ⟨k1,c,k2,z.sameBut hs (cne y c k2)⟩;obtain⟨w,z⟩:=I.cell y c e;exact⟨w,z.sameBut hs (cne y c e)⟩;obtain⟨e,n,ne,nf,d⟩:=I.pin p hp;exact⟨(hs.2 p.1 ne).trans e,n,ne,nf,d⟩;refine(I.hok b ob e).stay (fun c w hcb q=>(hs.2 c fun z=>?_).trans q) (fun _ q=>q) fun _ _ q=>q;rcases hcb with w'|w';rw[<- w',z,I.free]at e;cases e;rw[z,I.free]at w';cases w'
noncomputable abbrev RK(X:Cx)(v:Value):Cx:={ X with A:=X.A.mark (some v),calm:=false,xe:=fun _ _=>False }
theorem VY(I:Inv X pins σ H s)(v:Value):Inv (RK X v) pins σ H s :=
 ⟨⟨I.ok.mod,I.ok.kind,I.ok.glob,I.ok.blt,I.ok.above,I.ok.inj,I.ok.has,I.ok.cab,(fun z=>nomatch z),I.ok.frames,I.ok.stk,I.ok.exf,I.ok.bs,I.ok.bsz,I.ok.noex,I.ok.exfs,I.ok.funs,I.ok.frf⟩,I.os,I.bare,I.base,I.loc,I.cell,I.free,I.freeC,I.pin,I.hok,I.len⟩
theorem j0{v:Value}(I0:Inv X pins σ H s){σ':St}{H':Hp}{s':Shared}(I:Inv (RK X v) pins σ' H' s'):Inv X pins σ' H' s':=⟨I0.ok,I.os,I.bare,I.base,I.loc,I.cell,I.free,I.freeC,I.pin,I.hok,I.len⟩
end
section
variable{M:Model}{A:Around}{E:NB}{h:Heap}{g:Array GenState}{d:Drawn}{t:Nat}{os:OsState}{K:QC}{W C fI e dx:Addr}{Q:Bool->Shared->Prop}
theorem ZR{oe:Obj}(X:K.In h)(Y:ExK K W C fI)(Z:ExK K W W fI)(he:h.get? e=some oe)(hc:oe.cls=.ref C)(hq:Q true ⟨h,g,d,t,os⟩):wpAny M A (excMatches (.ref e) (.ref W)) Q E ⟨h,g,d,t,os⟩:=by
 obtain⟨nm,q,N,bs,sn,sub,ab,col,dd,k0,k1,k2,k3,k5,hl⟩:=Z.obj;have hW:=X _ _ hl;have L1:=Y.subR (M:=M) X W;have e1:decide (W=C∨W=W)=true:=dT (.inr rfl);rw[e1]at L1;have L2:=Z.sub (M:=M) X "BaseException" (b:=true) rfl;have f:=tc_notTuple;unfold excMatches
 repeat (first | (with_reducible refine Q8 he ?_;rw[hc])|with_reducible refine Q8 hW ?_|refine L1.at ?_|refine L2.at ?_|wp_step)
 exact hq
end
section
variable{X:Cx}{pins:ZB}{σ:St}{H:Hp}{s:Shared}{W fI:Addr}{D:Ends}{EK:XK}{s':Shared}{v:Value}
theorem lh{x y n:Str}{i k:Nat}{np yp ep ap hpos:Pos}{rest:List ExceptHandler}(I:Inv X pins σ H s)(h:z9 X.prog X.w X.K W fI X.stack H s EK v s')(hs:X.stack=X.env::X.outer)(hf:X.env.frame=some X.env.locals)(hN:X.N.Nodup)(Z:ExK X.K W W fI)
  (hg:Gl X x) (hm:X.mg x=some (.ref W)) (hdb:(x==("__debug__":Str))=false) (hi:X.N[i]?=some y) (hiL:X.env.scope.names.lookup y=some .local) (hk:X.N[k]?=some n) (hkL:X.env.scope.names.lookup n=some .local)
  (hn1:(n==("__debug__":Str))=false) (hn2:(n==("__classdict__":Str))=false) (hik:i≠k) (q:∀e H',EK .none (some e) H'->D.nx ((σ.set i (some (.ref e))).set k none) H') :
  wpAny (model X.prog X.w) X.A (noteFrame v X.env) (fun _ s2=>wpAny (model X.prog X.w) X.A (setFlight v none) (fun _ s3=>wpAny (model X.prog X.w) X.A (handleBy v X.env (.ExceptHandler (some (.Name x np)) (some n) [.Assign [.Name y yp] (.Name n ep) ap] hpos::rest)) (SP X pins D) X.xe s3) X.xe s2) X.xe s':=by
 obtain⟨e,H',B,fl,rfl,rfl,os,br,un,ok,ib,x0,qE⟩:=h;obtain⟨C,dx,h1,h2,Y,F⟩:=id x0.obj;have hfr:=I.ok.frames;rw[hs]at F hfr;have same:∀{f1 f2:Option Value}{g1 g2:Heap},Fly B X.stack e (.ref C) dx f1 g1->Fly B X.stack e (.ref C) dx f2 g2->∀C' dx',Fly B X.stack e (.ref C') dx' f1 g1->Fly B X.stack e (.ref C') dx' f2 g2:=fun F F' C' dx' G=>by obtain⟨o1,_,a1,a2,a3,_⟩:=G.obj;obtain⟨o2,_,b1,b2,b3,_⟩:=F.obj;rw[a1]at b1;cases b1;rw[a2]at b2;rw[a3]at b3;cases b2;cases b3;exact F'
 refine JR (L:=X.env.locals) hfr hf (.inr (.inl rfl)) F fun h3 F3 so3 _=>?_;have I3:Inv X pins σ H' { s' with heap:=h3 }:=by rw[<- hs]at F F3 so3;exact I.call' os (x0.un un ib (same F F3) fun b m o q=>so3 b m o q) (x0.hok ok (same F F3)) br (fun b z=>absurd z (by simp))
 refine wpAny_handleBy_cons (codeAny_handlers_test ?_) (by intro q;cases q);refine wv I.ok.kind hg (QAk (by rw[I.ok.glob];exact I3.mod.glob.keeps I3.bk) hm ?_) hdb;obtain⟨oe,vs,he,hc,hd,hdt,_⟩:=id F3.obj;refine ZR I3.kIn Y Z he hc (codeAny_handlers_suite_as ?_);refine gI none F3 fun h4 F4 so4 _=>?_;have I4:Inv X pins σ H' { s' with heap:=h4 }:=by rw[<- hs]at F F4 so3 so4;exact I.call' os (x0.un un ib (same F F4) fun b m o q=>(so3.trans so4) b m o q) (x0.hok ok (same F F4)) br (fun b z=>absurd z (by simp))
 refine GI (X:=RK X (.ref e)) (v:=.ref e) (VY I4 (.ref e)) hN hk (.inl hkL) rfl (fun s5 I5=>?_) (.inr hkL);have hkz:k<σ.length:=by rw[I.len];exact(Qr.mp hk).1
 have ps:=gZ (X:=RK X (.ref e)) (pos:=ap) (pos':=yp) hN hi (.inl hiL) (BJ (i:=k) (pos:=ep) hk (.inl hkL) hn1 hn2) rfl (.inr hiL);refine WF (qQ (ps pins s5 _ H' { nx:=fun σ2 H2=>σ2=(σ.set k (some (.ref e))).set i (some (.ref e))/\H2=H',rt:=fun _ _=>False } I5 ⟨.ref e,Q4 hkz,rfl,rfl⟩) (fun f s6 q6=>?_) fun _ _ z=>z.elim);cases f with
 |next =>
  obtain⟨σ2,H2,I6,rfl,rfl⟩:=q6;refine we ?_;refine gX (j0 I4 I6) hN hk hkL fun s7 I7=>?_;refine⟨_,_,I7,?_⟩;have es:((σ.set k (some (V.ref e))).set i (some (.ref e))).set k none=(σ.set i (some (.ref e))).set k none:=by rw[List.set_comm _ _ (Qu hik),List.set_set]
  rw[es];exact q e _ qE
 |brk=>obtain⟨_,_,_,z⟩:=q6;exact QR z
 |cont=>obtain⟨_,_,_,z⟩:=q6;exact QR z
 |ret u=>obtain⟨_,_,_,_,_,z⟩:=q6;exact z.elim
end
noncomputable def clsNm(x:Str)(o:Obj):Bool:=match o.data with
 | .cls cd=>cd.name==x
 |_=>false
noncomputable def clsAt(K:QC)(x:Str):Option Addr:=(K.find? fun p=>clsNm x p.2).map (·.1)
noncomputable def wOf(K:QC):Addr:=(clsAt K "WorldError").getD 0
noncomputable def iOf(K:QC):Addr:=match qh K (.ref (wOf K)) "__init__" with
 |some (some (.ref f))=>f
 |_=>0
structure ExC(K:QC)(C:Addr)(x:Str):Prop where
 ex:ExK K (wOf K) C (iOf K)
 at_:clsAt K x=some C
 nm:(K.lookup C).any (clsNm x)=true
 wn:(K.lookup (wOf K)).any (clsNm "WorldError")=true
theorem ExC.inj{K:QC}{C D:Addr}{x y:Str}(a:ExC K C x)(b:ExC K D y):D=C↔y=x:=by constructor;rintro rfl;have h1:=a.nm;have h2:=b.nm;obtain⟨nm,q,N,bs,sn,sub,ab,col,dd,k0,k1,k2,k3,k5,hl⟩:=a.ex.obj;rw[hl]at h1 h2;have h1:(nm==x)=true:=h1;have h2:(nm==y)=true:=h2;rw[<- Qd h1,<- Qd h2];intro e;rw[e]at b;exact QW (b.at_.symm.trans a.at_)
theorem ExC.w{K:QC}{C:Addr}(a:ExC K C "WorldError"):C=wOf K:=by unfold wOf;rw[a.at_];rfl
theorem ExC.isW{K:QC}{C:Addr}{x:Str}(a:ExC K C x):C=wOf K↔x="WorldError":=by constructor;intro e;have h1:=a.nm;have h2:=a.wn;rw[<- e]at h2;obtain⟨nm,q,N,bs,sn,sub,ab,col,dd,k0,k1,k2,k3,k5,hl⟩:=a.ex.obj;rw[hl]at h1 h2;have h1:(nm==x)=true:=h1;have h2:(nm==("WorldError":Str))=true:=h2;rw[<- Qd h1,Qd h2];intro e;subst e;exact a.w
noncomputable def kF(ks:List Str)(xs:List V):List (lD×V):=(ks.map fun z=>(Sum.inr z:lD)).zip xs
noncomputable def mG(ks:List Str)(ds:List PyData):List (PyData×PyData):=(ks.map PyData.str).zip ds
end L2.L3
namespace L2
open PySem PySem.Spec PyProof.Rows
noncomputable def eN(env:Env):List (Str×NameKind)->List (Str×Addr)->List (Str×Addr)
 |[],cs=>cs
 | (n,k)::r,cs=>eN env r (if k==.free then(n,(env.cells.lookup n).getD 0)::cs else cs)
theorem sU{scope:Scope}{env:Env}(h:∀y∈scope.names,y.2=.free->∃c,env.cells.lookup y.1=some c):closureFor scope env=pure (eN env scope.names []):=by
 have key:∀(l:List (Str×NameKind)) (cs:List (Str×Addr)),(∀y∈l,y.2=.free->∃c,env.cells.lookup y.1=some c) ->
   (forIn l cs fun(x:Str×NameKind) (r:List (Str×Addr))=>(if(x.2==NameKind.free)=true then(do let c <- cellOf env x.1;pure (ForInStep.yield ((x.1,c)::r))) else pure (ForInStep.yield r):Sem (ForInStep (List (Str×Addr)))))=pure (eN env l cs):=by
  intro l;induction l with
  |nil=>intro cs _;rfl
  |cons y l ih =>
   intro cs hl;obtain⟨n,k⟩:=y;rw[W7];by_cases hk:k=.free;subst hk;obtain⟨c,hc⟩:=hl (n,.free) QK rfl;have hc:env.cells.lookup n=some c:=hc;simp only[beq_self_eq_true,if_true,cellOf,hc,pure_bind,eN,QCN];exact ih _ fun z hz=>hl z (QG _ hz);have hb:(k==NameKind.free)=false:=by simpa using hk
   simp only[hb,Qi,if_false,pure_bind,eN];exact ih _ fun z hz=>hl z (QG _ hz)
 have e:=key scope.names [] h;unfold closureFor;exact(congrArg (· >>= pure) e).trans (pure_bind _ _)
theorem rO{env:Env}{x:Str}{c:Addr}:∀(l:List (Str×NameKind)) (cs:List (Str×Addr)),(∀y∈l,y.2=.free->∃c,env.cells.lookup y.1=some c)->(∀c,cs.lookup x=some c->env.cells.lookup x=some c) ->
  (eN env l cs).lookup x=some c->env.cells.lookup x=some c
 |[],cs,_,hc,h=>hc c h
 | (n,k)::r,cs,hl,hc,h=>by
  refine rO r _ (fun z hz=>hl z (QG _ hz)) (fun d hd=>?_) h;by_cases hk:k=.free;subst hk;obtain⟨e,he⟩:=hl (n,.free) QK rfl;have he:env.cells.lookup n=some e:=he;simp only[beq_self_eq_true,if_true,he,QCN,Qe]at hd;cases hx:x==n with
  |true=>rw[hx]at hd;cases hd;rw[Qd hx];exact he
  |false=>rw[hx]at hd;exact hc d hd
  have hb:(k==NameKind.free)=false:=by simpa using hk
  simp only[hb,Qi,if_false]at hd;exact hc d hd
theorem iM{env:Env}{x:Str}:∀(l:List (Str×NameKind)) (cs:List (Str×Addr)),((∃c,cs.lookup x=some c)∨(x,NameKind.free)∈l)->∃c,(eN env l cs).lookup x=some c
 |[],cs,h=>by rcases h with h|h;exact h;cases h
 | (n,k)::r,cs,h=>by
  refine iM r _ ?_;rcases h with⟨c,h⟩| h;refine .inl ?_;split;rw[Qe];split;exact⟨_,rfl⟩;exact⟨c,h⟩;exact⟨c,h⟩;rcases QL.mp h with h|h
  ·cases h
   refine .inl ?_;simp
  exact .inr h
noncomputable def AB:List Bool->Nat->List Str->List Str
 |b::m,j,x::N=>(if b then⟨#[46,j]⟩ else x)::AB m (j+1) N
 |_,_,N=>N
noncomputable def cD:List Bool->St->St
 |b::m,v::σ=>(if b then none else v)::cD m σ
 |_,σ=>σ
theorem MJ:∀(m:List Bool) (σ:St),(cD m σ).length=σ.length
 |[],σ=>by unfold cD;rfl
 |_::_,[]=>by unfold cD;rfl
 |b::m,v::σ=>by unfold cD;rw[QH,QH,MJ m σ]
theorem cO:∀(m:List Bool) (j:Nat) (N:List Str),(AB m j N).length=N.length
 |[],_,N=>by unfold AB;rfl
 |_::_,_,[]=>by unfold AB;rfl
 |b::m,j,x::N=>by unfold AB;rw[QH,QH,cO m (j+1) N]
theorem yM:∀(m:List Bool) (j:Nat) (N:List Str) (σ:St) (i:Nat) (v:V),(cD m σ)[i]?=some (some v)->σ[i]?=some (some v)/\(AB m j N)[i]?=N[i]?
 |[],_,N,σ,i,v,h=>by unfold cD at h;unfold AB;exact⟨h,rfl⟩
 |_::_,_,N,[],i,v,h=>by unfold cD at h;simp at h
 |b::m,j,[],w::σ,i,v,h=>by
  unfold cD at h;cases i with
  |zero =>
   cases b with
   |true=>simp at h
   |false=>simp at h;subst h;exact⟨by simp,by unfold AB;rfl⟩
  |succ i=>have q:=(yM m (j+1) [] σ i v (by simpa using h)).1;exact⟨by simpa using q,by unfold AB;rfl⟩
 |b::m,j,x::N,w::σ,0,v,h=>by
  unfold cD at h;cases b with
  |true=>simp at h
  |false=>simp at h;subst h;exact⟨by simp,by unfold AB;simp⟩
 |b::m,j,x::N,w::σ,i+1,v,h=>by unfold cD at h;have q:=yM m (j+1) N σ i v (by simpa using h);unfold AB;exact⟨by simpa using q.1,by simpa using q.2⟩
noncomputable def aL(scope sc:Scope):Scope :=
  { scope with names:=scope.names.map fun(n,k)=>if(k==.free&&sc.kind==.function&&sc.names.lookup n==some .cell) then(n,.cell) else(n,k) }
theorem bD(sc:Scope)(x:Str):∀(l:List (Str×NameKind)),
  (l.map fun(n,k)=>if(k==NameKind.free&&sc.kind==.function&&sc.names.lookup n==some .cell) then(n,NameKind.cell) else(n,k)).lookup x =
   (l.lookup x).map fun k=>if(k==NameKind.free&&sc.kind==.function&&sc.names.lookup x==some .cell) then NameKind.cell else k
 |[]=>rfl
 | (n,k)::r=>by
  rw[QV];have e:(if(k==NameKind.free&&sc.kind==.function&&sc.names.lookup n==some .cell)=true then(n,NameKind.cell) else(n,k)) =
    (n,if(k==NameKind.free&&sc.kind==.function&&sc.names.lookup n==some .cell)=true then NameKind.cell else k):=by split<;>rfl
  show qO x ((if(k==NameKind.free&&sc.kind==.function&&sc.names.lookup n==some .cell)=true then(n,NameKind.cell) else(n,k))::_)=_;rw[e,Qe,Qe];cases hx:x==n with
  |true=>rw[Qd hx];simp
  |false=>exact bD sc x r
structure CompSt(N:List Str)(sc scope:Scope)(tgs:List Str)(mask:List Bool):Prop where
 kind:scope.kind=.function
 nocell:∀y∈scope.names,y.2≠.cell
 names:∀y∈scope.names,y.2=.local->scope.names.lookup y.1=some .local
 free:∀y∈scope.names,y.2=.free->sc.names.lookup y.1=some .cell∨sc.names.lookup y.1=some .free
 loc:∀y∈scope.names,y.2=.local->y.1∈tgs∨y.1=(".0":Str)
 nd:(tgs++AB mask 0 N).Nodup
 no0:(".0":Str)∉tgs++AB mask 0 N
noncomputable def yB(X:Cx)(scope:Scope)(tgs:List Str)(mask:List Bool)(s:Shared)(H:Hp)(ex:List Addr):Cx :=
  { X with N:=tgs++AB mask 0 X.N,s₀:=s,H₀:=H,env:=compEnvC scope (eN X.env scope.names []) s.heap.objs.size X.env,outer:=X.stack,stack:=X.stack,ex:=ex,fn:=fun _=>false,pn:=[],xe:=fun _ _=>False }
noncomputable def cJ(k:Nat)(mask:List Bool)(σ:St):St:=QI k none++cD mask σ
section
variable{X:Cx}{pins:ZB}{σ:St}{H:Hp}{s:Shared}{scope:Scope}{tgs:List Str}{mask:List Bool}{ex:List Addr}
theorem CompSt.cells(C:CompSt X.N X.env.scope scope tgs mask)(ok:X.Ok):∀y∈scope.names,y.2=.free->∃c,X.env.cells.lookup y.1=some c:=fun y hy hf =>
 ok.has y.1 (C.free y hy hf)
theorem CompSt.kindCF(C:CompSt X.N X.env.scope scope tgs mask){x:Str}(h:(relabel scope X.env).names.lookup x=some .cell∨(relabel scope X.env).names.lookup x=some .free):(x,NameKind.free)∈scope.names:=by
 have e:=bD X.env.scope x scope.names;have e':(relabel scope X.env).names.lookup x=(scope.names.lookup x).map fun k=>if(k==NameKind.free&&X.env.scope.kind==.function&&X.env.scope.names.lookup x==some .cell) then NameKind.cell else k:=e
 rw[e']at h;cases q:scope.names.lookup x with
 |none=>rw[q]at h;simp at h
 |some k =>
  have hm:=qA q;have nc:=C.nocell _ hm;cases k with
  |free=>exact hm
  |cell=>exact absurd rfl nc
  | «local»=>rw[q]at h;simp at h
  |_=>rw[q]at h;simp at h
theorem mU(I:Inv X pins σ H s)(C:CompSt X.N X.env.scope scope tgs mask)(hex:∀b∈ex,uK X pins H b/\b<s.heap.objs.size){h':Heap}{t':Nat}
  (hn:h'.Ns s.heap.objs.size (fun _=>none)) (hs:qj s.heap.objs.size (s.heap.push { cls:=.type "dict",data:=.dict #[] }) h') :
  Inv (yB X scope tgs mask s H ex) [] (cJ tgs.length mask σ) H { s with heap:=h',toks:=t' }:=by
 have kept:∀b u,s.heap.get? b=some u->h'.get? b=some u:=fun b u e=>hs.extBut b u (Qx (QO e)) (QF _ e);have look:∀x c,(eN X.env scope.names []).lookup x=some c->X.env.cells.lookup x=some c:=fun x c e=>rO scope.names [] (C.cells I.ok) (fun c z=>by simp at z) e;have nofs:∀b∈ex,b∉dO X.stack:=fun b hb z=>by obtain⟨⟨_,f1,f2,_⟩,_⟩:=hex b hb;rcases QL.mp (I.stkSub b z) with e|e;exact f1 e;exact f2 e
 refine⟨⟨I.ok.mod,C.kind,I.ok.glob,I.ok.blt,Qa _,fun x y c h1 h2=>I.ok.inj x y c (look x c h1) (look y c h2),fun x hx=>?_,fun x c hf _=>absurd (show false=true from hf) QD,I.ok.hd,I.ok.frames,.inl rfl,fun b hb=>?_,I.bs,qC I.ok.bsz I.sz,fun b o e hb=>?_,nofs,I.stack,I.stkFree⟩,
  rfl,I.bare,Un.kept kept,⟨_,hn,fun i x v h1 h2 h3=>?_⟩,fun x c h=>?_,I.hok.fresh (Qa _),fun x c h=>I.freeC x c (look x c h),fun p hp=>absurd (show p∈([]:ZB) from hp) (by simp),I.hok.kept kept,?_⟩
 exact iM scope.names [] (.inr (C.kindCF hx));obtain⟨⟨_,_,_,_,f4,_⟩,lt⟩:=hex b hb;exact⟨Qx lt,fun x c e=>f4 x c (look x c e)⟩;obtain⟨⟨_,_,_,f3,_⟩,_⟩:=hex b hb;rcases f3 with z|z;exact I.ok.noex b o e z;exact absurd (Qg (QO (I.ok.bs b o e).1) z) (qi _)
 ·
  have hi:tgs.length<=i:=by rcases QA7 i tgs.length with z|z;unfold cJ at h2;rw[qL (by simpa using z),wV]at h2;split at h2<;>cases h2;exact z
  have h1':(AB mask 0 X.N)[i - tgs.length]?=some x:=by have:(tgs++AB mask 0 X.N)[i]?=some x:=h1;rw[qH hi]at this;exact this
  have h2':(cD mask σ)[i - tgs.length]?=some (some v):=by unfold cJ at h2;rw[qH (by simpa using hi)]at h2;simpa using h2
  obtain⟨g1,g2⟩:=yM mask 0 X.N σ _ v h2';rw[g2]at h1';have hxm:x∈tgs++AB mask 0 X.N:=Qn (show(tgs++AB mask 0 X.N)[i]?=some x from h1);have hxt:x∉tgs:=fun z=>by have nd:=C.nd;rw[QB0]at nd;exact nd.2.2 x z x (Qn (by rw[g2];exact h1')) rfl
  have hfree:(x,NameKind.free)∈scope.names:=by
   rcases h3 with z|z|z;exfalso;have e:(relabel scope X.env).names.lookup x=some .local:=z;have e2:=bD X.env.scope x scope.names;have e3:(relabel scope X.env).names.lookup x=(scope.names.lookup x).map fun k=>if(k==NameKind.free&&X.env.scope.kind==.function&&X.env.scope.names.lookup x==some .cell) then NameKind.cell else k:=e2
   rw[e3]at e;cases q:scope.names.lookup x with
   |none=>rw[q]at e;cases e
   |some k =>
    rw[q]at e;have hm:=qA q;have kl:k=.local:=by
     cases k with
     | «local»=>rfl
     |free=>simp at e;split at e<;>cases e
     |_=>simp at e
    subst kl;rcases C.loc _ hm rfl with z|z;exact hxt z;exact C.no0 (z▸hxm)
   exact C.kindCF (.inl z);exact C.kindCF (.inr z)
  obtain⟨m,hnm,hl⟩:=I.loc;have vis:Kk X.env.scope x:=.inr (C.free _ hfree rfl);obtain⟨u,r,l⟩:=hl _ x v h1' g1 vis;refine⟨u,r,?_⟩;rcases l with⟨k,_⟩| ⟨_,c,hc,hcell⟩
  exfalso;have k':X.env.scope.names.lookup x=some .local:=k;rcases C.free _ hfree rfl with z|z;have z':X.env.scope.names.lookup x=some .cell:=z;rw[k']at z';cases z';have z':X.env.scope.names.lookup x=some .free:=z;rw[k']at z';cases z';obtain⟨c',hc'⟩:=iM (env:=X.env) scope.names [] (.inr hfree);have:c'=c:=by have:=look x c' hc';rw[hc]at this;exact(QW this).symm
  subst this;refine .inr ⟨?_,c',hc',?_⟩;rcases h3 with z|z|z
  ·exfalso
   have e:(relabel scope X.env).names.lookup x=some .local:=z;have e2:=bD X.env.scope x scope.names;have e3:(relabel scope X.env).names.lookup x=(scope.names.lookup x).map fun k=>if(k==NameKind.free&&X.env.scope.kind==.function&&X.env.scope.names.lookup x==some .cell) then NameKind.cell else k:=e2
   rw[e3]at e;cases q:scope.names.lookup x with
   |none=>rw[q]at e;cases e
   |some k =>
    rw[q]at e;have hm:=qA q;have kl:k=.local:=by
     cases k with
     | «local»=>rfl
     |free=>simp at e;split at e<;>cases e
     |_=>simp at e
    subst kl;rcases C.loc _ hm rfl with z|z;exact hxt z;exact C.no0 (z▸hxm)
  exact .inl z;exact .inr z;obtain⟨o,ho,hd⟩:=hcell;exact⟨o,kept _ _ ho,hd⟩
 obtain⟨v,o,ho,hd⟩:=I.cell x c (look x c h);exact⟨v,o,kept _ _ ho,hd⟩;show(cJ tgs.length mask σ).length=(tgs++AB mask 0 X.N).length;unfold cJ;rw[Qc,Qc,qF,MJ,cO,I.len]
end
section
variable{X:Cx}{pins:ZB}{σ σ':St}{H H':Hp}{s s':Shared}{scope:Scope}{tgs:List Str}{mask:List Bool}{ex:List Addr}{D:Addr}{acc:List V}{its:List Value}
theorem oU(I:Inv X pins σ H s)(hex:∀b∈ex,uK X pins H b/\b<s.heap.objs.size)(hD:D∈ex)(J:Inv (yB X scope tgs mask s H ex) [] σ' H' s')(hD':H' D=none)(hv:pA acc its)(hz:acc.length<=sizeLine)
  (hl:s'.heap.PlainList D its.toArray) {h'':Heap}(hs:qj s.heap.objs.size s'.heap h''):Inv X pins σ (FA H' D (.lst acc)) { s' with heap:=h'' }:=by
 have un:Un (dO X.stack) ex H H' s.heap s'.heap:=J.base;have neC:∀b o,s.heap.get? b=some o->b≠s.heap.objs.size:=fun b o e=>Qx (QO e);have fD:=hex D hD;have lC:H' s.heap.objs.size=none:=J.free;have DC:D≠s.heap.objs.size:=Qx fD.2;have go:∀b u,b≠s.heap.objs.size->s'.heap.get? b=some u->h''.get? b=some u:=fun b u nb e=>hs.extBut b u nb e;refine I.call' (s':={ s' with heap:=h'' }) (ch:=ex) J.os ⟨fun b o e n hb hx=>?_,fun b o e n hb hx=>?_,fun b o e n hx=>?_,fun b o e hx=>?_,fun b xs e=>?_,fun b o u e=>?_,fun b ps e=>?_⟩ ?_ J.bare fun b hb=>?_;exact go b o (neC b o e) (un.keep b o e n hb hx);obtain⟨sl,q⟩:=un.slot b o e n hb hx;exact⟨sl,go b _ (neC b o e) q⟩;have q:=un.free b o e n hx;rw[vA (fun(z:b=D)=>hx (by rw[z];exact hD))];exact q;obtain⟨o',q⟩:=un.there b o e hx;exact⟨o',go b o' (neC b o e) q⟩;rw[vA (KA (un.tups b xs e) hD')];exact un.tups b xs e;rw[vA (KA (un.frzs b o u e) hD')];exact un.frzs b o u e;obtain⟨more,q⟩:=un.tbls b ps e;exact⟨more,by rw[vA (KA q hD')];exact q⟩;intro b u e;by_cases hb:b=D;subst hb;rw[dA]at e;cases e;obtain⟨n,q⟩:=hl;exact⟨hz,its,n,hv,go _ _ DC q⟩;rw[vA hb]at e;refine(J.hok b u e).stay (fun c v hc q=>go c v ?_ q) (fun c q=>?_) fun c xs q=>?_;rintro rfl;rcases hc with z|z;subst z;rw[lC]at e;cases e;rw[lC]at z;cases z;rw[vA (KA q hD')];exact q;rw[vA (KA q hD')];exact q;obtain⟨⟨f0,f1,f2,f3,f4,f5⟩,_⟩:=hex b hb;exact⟨f3,f1,f4,f5⟩
end
def Ek(X:Cx)(ifs:List Expr)(t:TT):Prop:=∀(pins:ZB) (s:Shared) (σ:St) (H:Hp) (Q:Bool->Hp->Prop),Inv X pins σ H s->t σ H Q ->
 wpAny (model X.prog X.w) X.A (forIn ifs true fun c r=>if r=true then do let ok <- isTrue c X.env (eval c X.env);pure (ForInStep.yield ok) else pure (ForInStep.yield r)) (TP X pins σ Q) X.xe s
theorem nV{X:Cx}:Ek X [] (fun _ H Q=>Q true H):=fun pins s σ H Q I h=>by rw[QAN];exact QT ⟨H,I,h⟩
theorem mV{X:Cx}{c:Expr}{t:TT}(hc:PT X c t):Ek X [c] t:=fun pins s σ H Q I h=>by rw[W7];simp only[if_true];refine QE (QE (EA (hc pins s σ H Q I h) fun b s1 q=>QT ?_));dsimp only;rw[QAN];exact QT q
theorem VH{prog:Program}{w:World}{A:Around}{R:Result->Shared->Prop}{s:Shared}{elt target iter:Expr}{ifs:List Expr}{scope:Scope}{pos:Pos}{it acc:Value}{env:Env}(I:Nat->Shared->Prop)
  (turn:∀n s,I n s->wpAny (model prog w) A (pyNext it) (fun r s₁=>match r with
   |none=>R (.ok .next) s₁
   |some v=>wpAny (model prog w) A (letOwnedTupleGo target it v) (fun _ s₁'=>wpAny (model prog w) A (assign target env v) (fun _ s₂ =>
     wpAny (model prog w) A (forIn ifs true fun c r=>if r=true then do let ok <- isTrue c env (eval c env);pure (ForInStep.yield ok) else pure (ForInStep.yield r)) (fun ok s₃ =>
      if ok=true then wpAny (model prog w) A (eval elt env) (fun x s₄ =>
       wpAny (model prog w) A (call (.builtin "list.append") [acc,x]) (fun _ s₅=>∃m,m<n/\I m s₅) (fun _ _=>False) s₄) (fun _ _=>False) s₃
      else ∃m,m<n/\I m s₃) (fun _ _=>False) s₂) (fun _ _=>False) s₁') (fun _ _=>False) s₁) (fun _ _=>False) s)
  (n:Nat) (h:I n s) :
  codeAny (model prog w) A (.compLoop (.ListComp elt [⟨target,iter,ifs,0⟩] scope pos) 0 it acc env) R s:=by
 refine codeAny_loop rfl I (fun n s hI=>?_) n h;show wpAny _ A ((compTurn (.ListComp elt [⟨target,iter,ifs,0⟩] scope pos) 0 it acc env).onRaise (fun x=>do noteFrame x env;theTreesLotGoes x)) _ _ s;refine wpAny_noted ?_;rw[compTurn_list];refine QE (Wt (QE (qQ (turn n s hI) (fun r s₁ h₁=>?_) fun _ _ h'=>h'.elim)));cases r with
 |none=>exact QT h₁
 |some v =>
  refine QE (qQ h₁ (fun _ s₁' h₁'=>?_) fun _ _ h'=>h'.elim);refine QE (qQ h₁' (fun _ s₂ h₂=>QE (qQ h₂ (fun ok s₃ h₃=>?_) fun _ _ h'=>h'.elim)) fun _ _ h'=>h'.elim);cases ok with
  |false=>exact QT ⟨rfl,h₃⟩
  |true=>exact QE (QE (qQ h₃ (fun x s₄ h₄=>QE (qQ h₄ (fun _ s₅ h₅=>QT (QT ⟨rfl,h₅⟩)) fun _ _ h'=>h'.elim)) fun _ _ h'=>h'.elim))
noncomputable def XY(wi:TI)(g:TG)(tc:TT)(te:TE)(k:Nat)(mask:List Bool):TE:=fun σ H Q=>wi σ H fun J H1=>∃W:Nat->Nat->List V->St->Hp->Prop,(∃m,W 0 m [] (cJ k mask σ) H1) /\
 ∀i m acc σ' H',W i m acc σ' H'->(J.stop i H'/\acc.length<=sizeLine/\∀p,H' p=none->Q (.ref p) (FA H' p (.lst acc))) ∨
  (J.go i H'/\∀x H2,J.yld i H' x H2->g x σ' H2 fun σ3 H3=>tc σ3 H3 fun b H4=>if b=true then te σ3 H4 fun y H5=>acc.length<sizeLine/\∃m',m' < m/\W (i+1) m' (acc++[y]) σ3 H5 else ∃m',m' < m/\W (i+1) m' acc σ3 H4)
def Yl(X:Cx)(pins:ZB)(H:Hp)(s:Shared)(C:Addr):Prop :=
 H C=none/\C≠X.env.locals/\X.s₀.heap.objs.size<=C/\(∀x c,X.env.cells.lookup x=some c->c≠C)/\(∀p∈X.pn++pins,p.1≠C)/\∃m,s.heap.Ns C m
theorem FR{X:Cx}{elt tg iter:Expr}{ifs:List Expr}{scope:Scope}{pos pos':Pos}{wi:TI}{g:TG}{tc:TT}{te:TE}{tgs:List Str}{mask:List Bool}{use:Option (Value->Sem Unit)}(hc:X.calm=true)(hi:PI X tg iter wi)(C:CompSt X.N X.env.scope scope tgs mask)
  (inner:∀s H ex,PG (yB X scope tgs mask s H ex) tg g/\Ek (yB X scope tgs mask s H ex) ifs tc/\PE (yB X scope tgs mask s H ex) elt te)
  (hs:∀x,foldedSetIterable iter X.env x=pure x) {pins:ZB}{s:Shared}{σ:St}{H:Hp}{Q:VK}{QQ:NB}(I:Inv X pins σ H s) (h:XY wi g tc te tgs.length mask σ H Q)
  (fin:∀(D:Addr) (H':Hp) (s6:Shared) (F:Addr),Inv X pins σ H' s6->Yl X pins H' s6 F->Q (.ref D) H'->compPost (model X.prog X.w) X.A X.xe use QQ (.ref D) F (.ok .next) s6) :
  wpAny (model X.prog X.w) X.A (comprehension (.ListComp elt [⟨tg,iter,ifs,0⟩] scope pos) scope X.env pos' (newList []) false (eval iter X.env) use) QQ X.xe s:=by
 refine wpAny_comprehension_free (use:=use) rfl hs (sU (C.cells I.ok)) C.kind C.names (EA (hi pins s σ H _ I h) fun v s1 h1=>EA h1 fun itv s2 h2=>?_);obtain⟨it,fp,tn,J,H2,e,I2,T,st2,f2,W,⟨m0,w0⟩,turn⟩:=h2;subst e;refine qe ?_;have I3:Inv X pins σ H2 { s2 with heap:=s2.heap.push { cls:=.type "list",data:=.seq ([]:List Value).toArray } }:=I2.kept (t':=s2.toks) fun b o e=>QF _ e;generalize hS:({ s2 with heap:=s2.heap.push { cls:=.type "list",data:=.seq ([]:List Value).toArray } }:Shared)=s3 at I3;have sz3:s3.heap.objs.size=s2.heap.objs.size+1:=by rw[<- hS];exact qV ..
 have lst3:s3.heap.PlainList s2.heap.objs.size ([]:List Value).toArray:=⟨0,by rw[<- hS];exact QY _ rfl⟩
 have old3:∀b o,s2.heap.get? b=some o->s3.heap.get? b=some o:=fun b o e=>by rw[<- hS];exact QF _ e
 generalize hDd:s2.heap.objs.size=D at sz3 lst3;have fD:uK X pins H2 D:=by rw[<- hDd];exact I2.fpOk (Qa _) (I2.hok.fresh (Qa _))
 have fpl:∀b∈fp,b<D:=fun b hb=>by obtain⟨o,e,_⟩:=T.obj _ _ st2 b hb;rw[<- hDd];exact QO e
 have hex:∀b∈D::fp,uK X pins H2 b/\b<s3.heap.objs.size:=fun b hb=>by rcases QL.mp hb with z|z;subst z;exact⟨fD,by rw[sz3];exact Nat.lt_succ_self _⟩;exact⟨f2 b z,by rw[sz3];exact Nat.lt_succ_of_lt (fpl b z)⟩
 refine wpAny_newFunctionEnv C.nocell (by intro y hy;simp at hy) (fun h' hn hsb=>?_) C.kind;have J0:Inv (yB X scope tgs mask s3 H2 (D::fp)) [] (cJ tgs.length mask σ) H2 { s3 with heap:=h',toks:=s3.toks+([]:List (Str×Value)).length }:=mU I3 C hex hn hsb;have kept:∀b u,s3.heap.get? b=some u->h'.get? b=some u:=fun b u e=>hsb.extBut b u (Qx (QO e)) (QF _ e);obtain⟨pg,pf,pl⟩:=inner s3 H2 (D::fp);have loop:∀s4:Shared,s4={ s3 with heap:=h',toks:=s3.toks+([]:List (Str×Value)).length } ->
   codeAny (model X.prog X.w) X.A (.compLoop (.ListComp elt [⟨tg,iter,ifs,0⟩] scope pos) 0 (.ref it) (.ref D) (compEnvC scope (eN X.env scope.names []) s3.heap.objs.size X.env))
    (compPost (model X.prog X.w) X.A X.xe use QQ (.ref D) s3.heap.objs.size) s4:=by
  rintro s4 rfl;have exok:∀{H':Hp},(∀b∈D::fp,H' b=none)->∀(pp:ZB),(∀p∈pp,p.1∉fp)->∀b∈fp,uK (yB X scope tgs mask s3 H2 (D::fp)) pp H' b:=fun {H'} hn pp hpp b hb=>by have g:=J0.ok.exf b (QG _ hb);exact⟨hn b (QG _ hb),g.1,J0.ok.exfs b (QG _ hb),.inl (QG _ hb),g.2,fun p hp z=>hpp p (by simpa[yB]using hp) (z▸hb)⟩
  have DX:=J0.ok.exf D QK;have Dfp:D∉fp:=fun z=>qi _ (fpl D z);refine VH (fun n s'=>∃i σ' H' acc its,Inv (yB X scope tgs mask s3 H2 (D::fp)) [] σ' H' s'/\tn i s'.heap/\(∀b∈D::fp,H' b=none)/\pA acc its/\s'.heap.PlainList D its.toArray/\W i n acc σ' H') ?_ m0
   ⟨0,_,H2,[],[],J0,T.keep _ _ _ (T.keep _ _ _ st2 fun b hb o e=>old3 b o e) fun b hb o e=>kept b o e,fun b hb=>((hex b hb).1).1,.nil,lst3.at fun o e=>kept _ _ e,w0⟩
  rintro n s5 ⟨i,σ5,H5,acc,its,I5,st5,fr5,va5,ls5,w5⟩;obtain⟨nL,lo⟩:=id ls5;have pinD:∀{σ':St}{H':Hp}{s':Shared},Inv (yB X scope tgs mask s3 H2 (D::fp)) [] σ' H' s'->(∀b∈D::fp,H' b=none)->s'.heap.get? D=some { cls:=.type "list",dict:=none,data:=.seq its.toArray nL } ->
    Inv (yB X scope tgs mask s3 H2 (D::fp)) [(D,{ cls:=.type "list",dict:=none,data:=.seq its.toArray nL })] σ' H' s':=fun {σ' H' s'} I' fr' e' =>
   I'.pins_of fun p hp=>by
    have e:p=(D,{ cls:=.type "list",dict:=none,data:=.seq its.toArray nL }):=by simpa using hp
    subst e;exact⟨e',fr' D QK,DX.1,J0.ok.exfs D QK,fun v z=>by cases z⟩
  have hppD:∀p∈[(D,({ cls:=.type "list",dict:=none,data:=.seq its.toArray nL }:Obj))],p.1∉fp:=fun p hp=>by
   have e:p=(D,{ cls:=.type "list",dict:=none,data:=.seq its.toArray nL }):=by simpa using hp
   subst e;exact Dfp
  have I5':=pinD I5 fr5 lo;rcases turn i n acc σ5 H5 w5 with⟨stop,hz,qn⟩| ⟨go,step⟩
  refine EA (T.done (yB X scope tgs mask s3 H2 (D::fp)) rfl rfl rfl hc i _ s5 σ5 H5 (fun _ _=>False) I5' (exok fr5 _ hppD) st5 stop) fun r s6 ⟨hr,I6⟩=>?_;subst hr;obtain⟨m6,hn6,_⟩:=I6.loc;have l6:s6.heap.PlainList D its.toArray:=⟨nL,(I6.pin _ (Qb _ (qJ.mpr rfl))).1⟩
  have I6':Inv (yB X scope tgs mask s3 H2 (D::fp)) [] σ5 H5 s6:=I6.pins_of fun p hp=>by simp at hp
  have Iout:Inv X pins σ (FA H5 D (.lst acc)) s6:=oU I3 hex QK I6' (fr5 D QK) va5 hz l6 (qj.refl _ _);have lC:H5 s3.heap.objs.size=none:=I6'.free;refine fin D _ s6 s3.heap.objs.size Iout ⟨?_,Wf I3.lt,I3.sz,fun x c e z=>?_,fun p hp z=>?_,m6,hn6⟩ (qn D (fr5 D QK));rw[vA (fun(z:s3.heap.objs.size=D)=>absurd (hex D QK).2 (by rw[z];exact qi _))];exact lC;obtain⟨v,q⟩:=I3.cell x c e;exact absurd q.lt (by rw[z];exact qi _);exact absurd (QO (I3.pin p hp).1) (by rw[z];exact qi _);refine EA (T.item (yB X scope tgs mask s3 H2 (D::fp)) rfl rfl rfl hc i _ s5 σ5 H5 (fun _ _=>False) I5' (exok fr5 _ hppD) st5 go) fun r s6 ⟨u,hr,h6⟩=>?_;subst hr;refine EA h6 fun _ s7 ⟨x,H7,I7,r7,y7,st7,fr7⟩=>?_;have hD7:=(I7.pin _ (Qb _ (qJ.mpr rfl)))
  have fr7':∀b∈D::fp,H7 b=none:=fun b hb=>by rcases QL.mp hb with z|z;subst z;exact hD7.2.1;exact fr7 b z
  have I7':=I7.pinned (exok fr7' _ hppD) (T.obj _ _ st7);have bk:∀{σ':St}{H':Hp}{s':Shared},Inv (yB X scope tgs mask s3 H2 (D::fp)) ([(D,{ cls:=.type "list",dict:=none,data:=.seq its.toArray nL })]++KL fp s7.heap) σ' H' s' ->
    s'.heap.get? D=some { cls:=.type "list",dict:=none,data:=.seq its.toArray nL }/\tn (i+1) s'.heap/\(∀b∈D::fp,H' b=none):=fun {σ' H' s'} I'=>by
   have hD:=I'.pin (D,{ cls:=.type "list",dict:=none,data:=.seq its.toArray nL }) (Qb _ (wK _ (qJ.mpr rfl)));refine⟨hD.1,T.keep _ _ _ st7 fun b hb o e=>(I'.pin (b,o) (Qb _ (Qb _ (CF hb e)))).1,fun b hb=>?_⟩;rcases QL.mp hb with z|z;subst z;exact hD.2.1;obtain⟨o,e,_⟩:=T.obj _ _ st7 b z;exact(I'.pin (b,o) (Qb _ (Qb _ (CF z e)))).2.1
  refine EA (pg _ s7 σ5 H7 x u _ I7' r7 (step x H7 y7)) fun _ s8 ⟨σ8,H8,I8,q8⟩=>?_;refine EA (pf _ s8 σ8 H8 _ I8 q8) fun ok s9 ⟨H9,I9,q9⟩=>?_;cases ok with
  |false=>obtain⟨m',hm,w'⟩:=q9;obtain⟨b1,b2,b3⟩:=bk I9;exact⟨m',hm,i+1,σ8,H9,acc,its,I9.pins_of fun p hp=>by simp at hp,b2,b3,va5,⟨nL,b1⟩,w'⟩
  |true =>
   refine EA (pl _ s9 σ8 H9 _ I9 q9) fun y s10 ⟨yv,H10,I10,r10,hz,m',hm,w'⟩=>?_;obtain⟨b1,b2,b3⟩:=bk I10;have hlen:=va5.length;refine wpAny_list_append_plain (hsz:=by rw[QM];omega) (show s10.heap.PlainList D its.toArray from⟨nL,b1⟩) fun h11 hl11 hs11=>?_;refine⟨m',hm,i+1,σ8,H10,acc++[yv],its++[y],?_,T.keep _ _ _ b2 fun b hb o e=>(hs11.2 b (fun z=>Dfp (z▸hb))).trans e,b3,va5.append (.cons r10 .nil),by simpa using hl11,w'⟩;have I10':Inv (yB X scope tgs mask s3 H2 (D::fp)) [] σ8 H10 s10:=I10.pins_of fun p hp=>by simp at hp
   exact I10'.turned (t':=s10.toks) (fun b o hb e=>(hs11.2 b hb).trans e) (b3 D QK) DX.1 (.inl QK) DX.2 fun p hp=>by simp[yB]at hp
 refine codeAny_compStart_list (loop _ rfl) (T.self X.A 0 _ _ _ (T.keep _ _ _ (T.keep _ _ _ st2 fun b hb o e=>old3 b o e) fun b hb o e=>kept b o e) (loop _ rfl))
theorem fM{X:Cx}{pins:ZB}{σ:St}{H:Hp}{s:Shared}{F:Addr}(I:Inv X pins σ H s)(f:Yl X pins H s F){h':Heap}(hs:qj F s.heap h'):Inv X pins σ H { s with heap:=h' }:=by obtain⟨f0,f1,f2,f3,f4,_⟩:=f;exact I.turned (t':=s.toks) (fun b o hb e=>(hs.2 b hb).trans e) f0 f1 (.inr f2) f3 f4
theorem E6{X:Cx}{elt tg iter:Expr}{ifs:List Expr}{scope:Scope}{pos:Pos}{wi:TI}{g:TG}{tc:TT}{te:TE}{tgs:List Str}{mask:List Bool}(hc:X.calm=true)(hi:PI X tg iter wi)(C:CompSt X.N X.env.scope scope tgs mask)
  (inner:∀s H ex,PG (yB X scope tgs mask s H ex) tg g/\Ek (yB X scope tgs mask s H ex) ifs tc/\PE (yB X scope tgs mask s H ex) elt te)
  (hs:∀x,foldedSetIterable iter X.env x=pure x:=by intro _;rfl):PE X (.ListComp elt [⟨tg,iter,ifs,0⟩] scope pos) (XY wi g tc te tgs.length mask):=by
 intro pins s σ H Q I h;rw[eval_ListComp];refine FR hc hi C inner hs I h fun D H' s6 F I6 f q=>?_;obtain⟨m,hn⟩:=f.2.2.2.2.2;exact⟨m,hn,fun h' hs'=>⟨.ref D,H',fM I6 f hs',rfl,q⟩⟩
theorem C6{X:Cx}{elt tg iter:Expr}{ifs:List Expr}{scope:Scope}{cpos pos px:Pos}{wi:TI}{g:TG}{tc:TT}{te:TE}{tgs:List Str}{mask:List Bool}{i:Nat}{x:Str}(hc:X.calm=true)(hN:X.N.Nodup)(hi0:X.N[i]?=some x)(hx:X.env.scope.names.lookup x=some .local)
  (hi:PI X tg iter wi) (C:CompSt X.N X.env.scope scope tgs mask)
  (inner:∀s H ex,PG (yB X scope tgs mask s H ex) tg g/\Ek (yB X scope tgs mask s H ex) ifs tc/\PE (yB X scope tgs mask s H ex) elt te)
  (hs:∀x,foldedSetIterable iter X.env x=pure x) (hsw:swapsWith (.ListComp elt [⟨tg,iter,ifs,0⟩] scope cpos) (some (.Name x px)) pos.line X.env=pure true) :
  PS X (.Assign [.Name x px] (.ListComp elt [⟨tg,iter,ifs,0⟩] scope cpos) pos) (Jd (XY wi g tc te tgs.length mask) (MV i)):=by
 intro pins s σ H D0 I h;rw[exec_Assign_Name_used _ _ _ _ hsw];refine QE (Wt (QE ?_));show wpAny _ X.A (do let _ <- comprehension (.ListComp elt [⟨tg,iter,ifs,0⟩] scope cpos) scope X.env _ (newList []) false (eval iter X.env) (some (assign (.Name x px) X.env))) _ _ s;refine QE (qQ (FR (use:=some (assign (.Name x px) X.env)) (QQ:=fun _ s'=>SP X pins D0 .next s') hc hi C inner hs I h fun D H' s6 F I6 f q=>?_) (fun _ s' hq=>QT (QT hq)) fun _ _ e=>e);show wpAny _ X.A (assign (.Name x px) X.env (.ref D)) _ _ s6;refine QBr (CN I6 hN hi0 (.inl hx) (v:=.ref D) rfl (fun s7 I7 ⟨a,sb,ha⟩=>?_) (.inr hx));obtain⟨f0,f1,f2,f3,f4,m,hn⟩:=f;have ne:F≠a:=by rcases ha with z|z;rw[z];exact f1;exact fun e=>f3 x a z e.symm
 have hn7:s7.heap.Ns F m:=hn.sameBut sb ne;exact⟨m,hn7,fun h' hs'=>⟨_,H',fM I7 ⟨f0,f1,f2,f3,f4,m,hn7⟩ hs',q⟩⟩
end L2
namespace L2.L3
open PySem PySem.Spec PyProof.Rows
noncomputable def ai(K:QC):R2:=fun x y H Q=>match x,y with
 | .int i,.int j=>Q (.int (i+j)) H
 | .str a,.str b=>a.length+b.length<=sizeLine/\Q (.str (a++b)) H
 | .ref a,.ref b=>(∃xs ys,ID K H a xs/\ID K H b ys/\xs.length+ys.length<=sizeLine/\∀p,H p=none->Q (.ref p) (FA H p (.lst (xs++ys))))∨U9 K (.ref a) (.ref b) H Q
 |_,_=>False
noncomputable def Ah:R2:=fun x y H Q=>match x,y with
 | .int i,.int j=>Q (.int (i - j)) H
 |_,_=>False
noncomputable def gG(x:Str)(n:Int):Str:=Txt.mul x n
noncomputable def vi(K:QC):R2:=fun x y H Q=>match x,y with
 | .int i,.int j=>IntMulOk i j/\Q (.int (i * j)) H
 | .str a,.int k=>(-(2 ^ 31)<=k/\k<2 ^ 31/\a.length * k.toNat<=sizeLine)/\Q (.str (gG a k)) H
 | .ref a,.int k=>∃xs,ID K H a xs/\(-(2 ^ 31)<=k/\k<2 ^ 31/\xs.length * k.toNat<=sizeLine)/\∀p,H p=none->Q (.ref p) (FA H p (.lst (QI k.toNat xs).flatten))
 |_,_=>False
noncomputable def X9:R2:=fun x y H Q=>match x,y with
 | .int i,.int j=>(0<j/\j<2 ^ 200)/\Q (.int (i / j)) H
 |_,_=>False
noncomputable def xi:R2:=fun x y H Q=>match x,y with
 | .int i,.int j=>0<j/\Q (.int (i % j)) H
 |_,_=>False
noncomputable def zi:R2:=fun x y H Q=>match x,y with
 | .int i,.int j=>J5 i j/\Q (.int (i ^ j.toNat)) H
 |_,_=>False
section
variable{X:Cx}
theorem op_add:cE X (binaryOp .Add) (ai X.K):=by
 intro pins s σ H x y v u Q I rx ry h;cases x with
 |int i =>
  cases y with
  |int j=>exact _root_.L2.op_add pins s σ H _ _ v u Q I rx ry ⟨i,j,rfl,rfl,h⟩
  |_=>exact QR h
 |str a =>
  cases y with
  |str b=>exact xT pins s σ H _ _ v u Q I rx ry ⟨a,b,rfl,rfl,h.1,h.2⟩
  |_=>exact QR h
 |ref a =>
  cases y with
  |ref b =>
   rcases h with⟨xs,ys,hx,hy,hz,q⟩| h;cases rx;cases ry;obtain⟨its,r,⟨⟨cls,dd,data,sl⟩,n1,e1,c1,d1,s1⟩,z1⟩:=I.list hx;obtain⟨its2,r2,⟨⟨cls2,dd2,data2,sl2⟩,n2,e2,c2,d2,s2⟩,z2⟩:=I.list hy;simp only at c1 s1 c2 s2;subst c1 s1 c2 s2;have hl:=r.length;have hl2:=r2.length;refine QCE ⟨_,e1,rfl⟩ ⟨_,e2,rfl⟩ noFill_list_add seq_list_add PySem.F.slot_list_add PySem.F.entry_list_add (PySem.F.args_list_add_2 _ _) (list_addW a b its.toArray its2.toArray n1 n2 dd dd2 sl sl2 (by simp;omega)) ⟨e1,e2,?_⟩;have ea:its.toArray++its2.toArray=(its++its2).toArray:=by simp
   rw[ea];exact⟨.ref _,_,I.lnew (t':=s.toks) (r.append r2) (by rw[Qc];omega),rfl,q _ I.fresh⟩;exact e7 pins s σ H _ _ v u Q I rx ry h
  |_=>exact QR h
 |_=>exact QR h
theorem op_sub:cE X (binaryOp .Sub) Ah:=by
 intro pins s σ H x y v u Q I rx ry h;cases x with
 |int i =>
  cases y with
  |int j=>exact _root_.L2.op_sub pins s σ H _ _ v u Q I rx ry ⟨i,j,rfl,rfl,h⟩
  |_=>exact QR h
 |_=>exact QR h
theorem m7:cE X (binaryOp .FloorDiv) X9:=by
 intro pins s σ H x y v u Q I rx ry h;cases x with
 |int i =>
  cases y with
  |int j =>
   obtain⟨t,rfl⟩:=rx;obtain⟨t',rfl⟩:=ry;obtain⟨⟨h1,h2⟩,q⟩:=h;refine floordiv_int (by omega) ?_ (.inl (PyProof.noPylong_of_log2 ?_));rw[Int.fdiv_eq_ediv_of_nonneg i (by omega)];exact⟨.int _,H,I.tok _,⟨_,rfl⟩,q⟩;have:j.natAbs<2 ^ 200:=by omega
   have:=(QBR (show j.natAbs≠0 by omega)).mpr this;omega
  |_=>exact QR h
 |_=>exact QR h
theorem op_mod:cE X (binaryOp .Mod) xi:=by
 intro pins s σ H x y v u Q I rx ry h;cases x with
 |int i =>
  cases y with
  |int j=>exact _root_.L2.op_mod pins s σ H _ _ v u Q I rx ry ⟨i,j,rfl,rfl,h.1,h.2⟩
  |_=>exact QR h
 |_=>exact QR h
theorem op_pow:cE X (binaryOp .Pow) zi:=by
 intro pins s σ H x y v u Q I rx ry h;cases x with
 |int i =>
  cases y with
  |int j=>exact _root_.L2.op_pow pins s σ H _ _ v u Q I rx ry ⟨i,j,rfl,rfl,h.1,h.2⟩
  |_=>exact QR h
 |_=>exact QR h
theorem f8(i:Int)(t:Tok)(l:Addr)(items:Array Value)(n:Nat)(sl:Array (Option Value)) :
  Meets (Builtin.«int.__rmul__» ⟨[.int i t,.ref l],[]⟩) (fun _ R s=>s.heap.get? l=some ⟨.type "list",none,.seq items n,sl⟩/\R (.ok (.ret Value.notImplemented)) s) :=
 .of_wp fun prog w A R s h=>by obtain⟨hp,g,d,tk,os⟩:=s;obtain⟨hl,h⟩:=h;wp_walk;exact⟨_,rfl,h⟩
theorem rf(l:Addr)(items:Array Value)(n:Nat)(sl:Array (Option Value))(x:Int)(u:Tok)(hc0:¬(!Builtin.List.listFitsIndex x)=true)(hc1:¬items.size * x.toNat > (2 ^ 63 - 1) / 8)(hc2:¬wO (items.size * x.toNat)=true) :
  Meets (Builtin.«list.__mul__» ⟨[.ref l,.int x u],[]⟩) (fun _ R s=>s.heap.get? l=some ⟨.type "list",none,.seq items n,sl⟩/\R (.ok (.ret (Value.ref s.heap.objs.size))) { s with heap:=s.heap.push { cls:=Value.type "list",data:=Data.seq (W0 (fun x1 x2=>x1++x2) #[] (QI (if items.isEmpty=true then 0 else x.toNat) items)) },toks:=s.toks }) :=
 .of_wp fun prog w A R s h=>by obtain⟨hp,g,d,tk,os⟩:=s;obtain⟨hl,h⟩:=h;have hsz:=AutoListH.joined_fits hc2;wp_walk;refine wpAny_ite_false (dF (QBz.mpr hsz)) ?_;wp_walk;exact⟨_,rfl,h⟩
theorem l7{pins:ZB}{s:Shared}{σ:St}{H:Hp}{l:Addr}{k:Int}{t:Tok}{xs:List V}{Q:VK}(I:Inv X pins σ H s)(hq:ID X.K H l xs)(h1:-(2 ^ 31)<=k)(h2:k<2 ^ 31)(hz:xs.length * k.toNat<=sizeLine)(q:∀p,H p=none->Q (.ref p) (FA H p (.lst (QI k.toNat xs).flatten))) :
  wpAny (model X.prog X.w) X.A (binaryOp .Mult (.ref l) (.int k t)) (EP X pins σ Q) X.xe s:=by
 obtain⟨its,r,⟨⟨cl,od,dt,sl⟩,n,e,rfl,rfl,rfl⟩,_⟩:=I.list hq;have hl:=r.length;have hlen:its.toArray.size * k.toNat<=sizeLine:=by rw[QM,<- hl];exact hz
 have hcap:¬ its.toArray.size * k.toNat > (2 ^ 63 - 1) / 8:=by
  have:(sizeLine:Nat)<=(2 ^ 63 - 1) / 8:=by decide
  omega
 have hfit:¬ (!Builtin.List.listFitsIndex k)=true:=by rw[fitsIndex_both (by omega) (by omega)];exact QD
 have hlong:¬ wO (its.toArray.size * k.toNat)=true:=by rw[K0 hlen];exact QD
 have hnew:W0 (fun x1 x2=>x1++x2) #[] (QI (if its.toArray.isEmpty=true then 0 else k.toNat) its.toArray)=(QI k.toNat its).flatten.toArray:=by
  have f0:∀m:Nat,W0 (fun x1 x2=>x1++x2) #[] (QI m its.toArray)=(QI m its).flatten.toArray:=fun m=>by have:=AJ its m [];rw[Qz]at this;exact this
  rw[f0];cases its with
  |nil=>simp
  |cons a r'=>rw[if_neg (by simp)]
 refine QAO (T:="list") (U:="int") (by decide) ⟨_,e,rfl⟩ (fun s'=>QBF s' k t) noFill_list_mul QCf W8 repeat_list QCO.lookup
  (wr W8 (QBF s k t) QCP (QB1 _ _) (f8 k t l its.toArray n sl)
   ⟨e,rfl,⟨_,e,rfl⟩,wr F.slot_list_mul ⟨_,e,rfl⟩ F.entry_list_mul (F.args_list_mul_2 _ _) (rf l its.toArray n sl k t hfit hcap hlong) ⟨e,?_⟩⟩)
 rw[hnew];exact⟨.ref _,_,I.lnew (t':=s.toks) (r.rep k.toNat) (by rw[MK,QCH];exact hz),rfl,q _ I.fresh⟩
theorem Me:cE X (binaryOp .Mult) (vi X.K):=by
 intro pins s σ H x y v u Q I rx ry h;cases x with
 |int i =>
  cases y with
  |int j=>obtain⟨t,rfl⟩:=rx;obtain⟨t',rfl⟩:=ry;exact mul_int ⟨.int _,H,I.tok _,⟨_,rfl⟩,h.2⟩ h.1
  |_=>exact QR h
 |str a =>
  cases y with
  |int k =>
   obtain⟨t,rfl⟩:=rx;obtain⟨t',rfl⟩:=ry;obtain⟨⟨h1,h2,h3⟩,q⟩:=h;refine SB.mul ⟨?_,fun _ _=>?_,fun _ _=>?_⟩ fun t' kk=>⟨.str (gG a k),H,I.tok _,⟨_,rfl⟩,q⟩
   have e1:decide (k < -(2 ^ 63:Int))=false:=dF (by omega);have e2:decide (k ≥ 2 ^ 63)=false:=dF (by omega);rw[e1,e2];rfl;have e:(a.length:Int) * k=((a.length * k.toNat:Nat):Int):=by rw[QCg,QBS (by omega)]
   have hz:sizeLine=16777216:=QX;have:=Int.le_ediv_of_mul_le (a:=(a.length:Int)) (b:=2 ^ 63 - 1) (c:=k) (by omega) (by rw[e];omega);omega;unfold Builtin.Str.tooLong;exact dF (by omega)
  |_=>exact QR h
 |ref a =>
  cases y with
  |int k=>obtain⟨xs,hq,⟨h1,h2,h3⟩,q⟩:=h;cases rx;obtain⟨t,rfl⟩:=ry;exact l7 I hq h1 h2 h3 q
  |_=>exact QR h
 |_=>exact QR h
end
mutual
inductive Rep(K:QC)(H:Hp):V->PyData->Prop where
 |non:Rep K H .non .none
 |bl (b:Bool):Rep K H (.bl b) (.bool b)
 |int (i:Int):Rep K H (.int i) (.int i)
 |str (x:Str):Rep K H (.str x) (.str x)
 |lst {a:Addr}{xs:List V}{ds:List PyData}:ID K H a xs->Reps K H xs ds->Rep K H (.ref a) (.list ds)
 |tup {a:Addr}{xs:List V}{ds:List PyData}:LE K H a xs->Reps K H xs ds->Rep K H (.ref a) (.tuple ds)
 |exc {a C dx:Addr}{x:Str}{p:Int}:H a=some (.ext (KH C a dx))->H dx=some (.xd (OI p))->ExC K C x->Rep K H (.ref a) (.dict [(.none,.list [.str x,.int p])])
 |cls {C:Addr}{x:Str}:ExC K C x->Rep K H (.ref C) (.dict [(.none,.str x)])
 |dct {a:Addr}{ks:List Str}{xs:List V}{ds:List PyData}:H a=some (.dK (kF ks xs))->ks.length=xs.length->Reps K H xs ds->Rep K H (.ref a) (.dict (mG ks ds))
inductive Reps(K:QC)(H:Hp):List V->List PyData->Prop where
 |nil:Reps K H [] []
 |cons {x:V}{d:PyData}{xs:List V}{ds:List PyData}:Rep K H x d->Reps K H xs ds->Reps K H (x::xs) (d::ds)
end
theorem Reps.length{K:QC}{H:Hp}:∀{xs:List V}{ds:List PyData},Reps K H xs ds->xs.length=ds.length
 |_,_,.nil=>rfl
 |_,_,.cons _ t=>by rw[QH,QH,Reps.length t]
section
variable{X:Cx}{pins:ZB}{σ:St}{H:Hp}{s:Shared}
mutual
theorem Rep.reads(I:Inv X pins σ H s):∀{x:V}{d:PyData}{u:Value},Rep X.K H x d->d.canLay0=true->sA x u->∃as,Reads s.heap u d as
 |_,_,u,.non,_,r=>by cases r;exact⟨_,.none⟩
 |_,_,u,.bl b,_,r=>by cases r;exact⟨_,.bool b⟩
 |_,_,u,.int i,_,r=>by obtain⟨t,rfl⟩:=r;exact⟨_,.int i t⟩
 |_,_,u,.str x,_,r=>by obtain⟨t,rfl⟩:=r;exact⟨_,.str x t⟩
 |_,_,u,.lst h q,z,r=>by cases r;obtain⟨its,rv,⟨o,n,e,c,_,d⟩,_⟩:=I.list h;obtain⟨as,ra⟩:=Reps.reads I q z rv;exact⟨_,.list e c d (by simpa using ra)⟩
 |_,_,u,.tup h q,z,r=>by cases r;obtain⟨its,rv,⟨o,e,c,n,d⟩,_⟩:=I.tuple h;obtain⟨as,ra⟩:=Reps.reads I q z rv;exact⟨_,.tuple e c d (by simpa using ra)⟩
 |_,_,u,.exc _ _ _,z,r=>(QD z).elim
 |_,_,u,.cls _,z,r=>(QD z).elim
 |_,_,u,.dct _ _ _,z,r=>(QD z).elim
theorem Reps.reads(I:Inv X pins σ H s):∀{xs:List V}{ds:List PyData}{us:List Value},Reps X.K H xs ds->wt ds=true->pA xs us->∃as,ReadsAll s.heap us ds as
 |_,_,_,.nil,_,.nil=>⟨_,.nil⟩
 |_,_,_,.cons h t,z,.cons r rs=>by have z:=(QN _ _).mp z;obtain⟨as,ra⟩:=Rep.reads I h z.1 r;obtain⟨bs,rb⟩:=Reps.reads I t z.2 rs;exact⟨_,.cons ra rb⟩
end
def NE(d:PyData):Prop:=d.canLay0=true/\d.depth<=64
noncomputable def rEq(K:QC)(neg:Bool):R2:=fun x y H Q=>match x,y with
 | .int i,.int j=>Q (.bl (if neg then !decide (i=j) else decide (i=j))) H
 | .str a,.str b=>Q (.bl (if neg then !decide (a=b) else decide (a=b))) H
 | .bl a,.bl b=>Q (.bl (if neg then !decide (a=b) else decide (a=b))) H
 |x,y=>∃dx dy,Rep K H x dx/\Rep K H y dy/\NE dx/\NE dy/\Q (.bl (if neg then !PyData.eqv dx dy else Qo dx dy)) H
theorem op_eq(hu:X.A.units+64<cLine):cE X (compareOp .Eq) (rEq X.K false):=by
 intro pins s σ H x y v u Q I rx ry h;have gen:(∃dx dy,Rep X.K H x dx/\Rep X.K H y dy/\NE dx/\NE dy/\Q (.bl (if false=true then !PyData.eqv dx dy else Qo dx dy)) H)->wpAny (model X.prog X.w) X.A (compareOp .Eq v u) (EP X pins σ Q) X.xe s:=by rintro⟨dx,dy,h1,h2,⟨o1,o2⟩,⟨o3,o4⟩,q⟩;obtain⟨as,ra⟩:=h1.reads I o1 rx;obtain⟨bs,rb⟩:=h2.reads I o3 ry;exact SeqAt.compareEq_reads ra rb o1 o3 (by omega) ⟨.bl _,H,I,rfl,q⟩
 have sc:f6 x y=true->Q (.bl (decide (x=y))) H->wpAny (model X.prog X.w) X.A (compareOp .Eq v u) (EP X pins σ Q) X.xe s:=fun h1 h2=>_root_.L2.op_eq pins s σ H x y v u Q I rx ry ⟨h1,h2⟩;cases x with
 |int i =>
  cases y with
  |int j=>exact sc rfl (by simpa[rEq]using h)
  |_=>exact gen h
 |str a =>
  cases y with
  |str b=>exact sc rfl (by simpa[rEq]using h)
  |_=>exact gen h
 |bl a =>
  cases y with
  |bl b=>exact sc rfl (by simpa[rEq]using h)
  |_=>exact gen h
 |_=>exact gen h
theorem op_ne(hu:X.A.units+64<cLine):cE X (compareOp .NotEq) (rEq X.K true):=by
 intro pins s σ H x y v u Q I rx ry h;have gen:(∃dx dy,Rep X.K H x dx/\Rep X.K H y dy/\NE dx/\NE dy/\Q (.bl (if true=true then !PyData.eqv dx dy else Qo dx dy)) H)->wpAny (model X.prog X.w) X.A (compareOp .NotEq v u) (EP X pins σ Q) X.xe s:=by rintro⟨dx,dy,h1,h2,⟨o1,o2⟩,⟨o3,o4⟩,q⟩;obtain⟨as,ra⟩:=h1.reads I o1 rx;obtain⟨bs,rb⟩:=h2.reads I o3 ry;exact SeqAt.compareNe_reads ra rb o1 o3 (by omega) ⟨.bl _,H,I,rfl,q⟩
 have sc:f6 x y=true->Q (.bl (!decide (x=y))) H->wpAny (model X.prog X.w) X.A (compareOp .NotEq v u) (EP X pins σ Q) X.xe s:=fun h1 h2=>_root_.L2.op_ne pins s σ H x y v u Q I rx ry ⟨h1,h2⟩;cases x with
 |int i =>
  cases y with
  |int j=>exact sc rfl (by simpa[rEq]using h)
  |_=>exact gen h
 |str a =>
  cases y with
  |str b=>exact sc rfl (by simpa[rEq]using h)
  |_=>exact gen h
 |bl a =>
  cases y with
  |bl b=>exact sc rfl (by simpa[rEq]using h)
  |_=>exact gen h
 |_=>exact gen h
noncomputable def TW(f:Int->Int->Bool):R2:=fun x y H Q=>match x,y with
 | .int i,.int j=>Q (.bl (f i j)) H
 |_,_=>False
theorem xP{op:CmpOp}{f:Int->Int->Bool}(h0:cE X (compareOp op) (Z6 fun i j=>.bl (f i j))):cE X (compareOp op) (TW f):=by
 intro pins s σ H x y v u Q I rx ry h;cases x with
 |int i =>
  cases y with
  |int j=>exact h0 pins s σ H _ _ v u Q I rx ry ⟨i,j,rfl,rfl,h⟩
  |_=>exact QR h
 |_=>exact QR h
noncomputable def inStr(b a:Str):Bool:=match a.cps.toList with
 |[c]=>decide (c∈b.cps.toList)
 |_=>!(qX b a 0 b.length 1).isEmpty
theorem pR(b a:Str):inStr b a=!(qX b a 0 b.length 1).isEmpty:=by
 unfold inStr;split;rename_i c e;have ea:a=⟨#[c]⟩:=by
  obtain⟨cps⟩:=a;have:cps=#[c]:=by apply Wm.mp;simpa using e
  rw[this]
 rw[ea];exact(StrLaws.found_one b c).symm;rfl
noncomputable def ES(K:QC)(neg:Bool):R2:=fun x y H Q=>match y with
 | .str b=>match x with
  | .str a=>Q (.bl (if neg then !inStr b a else inStr b a)) H
  |_=>False
 | .ref p=>Dm K neg x (.ref p) H Q∨(∃d ds,Rep K H x d/\(Rep K H (.ref p) (.list ds)∨Rep K H (.ref p) (.tuple ds))/\NE d/\NE (.list ds)/\Q (.bl (if neg then !(ds.any fun y=>Qo y d) else ds.any fun y=>Qo y d)) H)
 |_=>False
theorem RN{ds:List PyData}(h:NE (.list ds)):wt ds=true/\W9 ds<=63:=by obtain⟨h1,h2⟩:=h;simp only[Wd]at h1;simp only[QAI]at h2;exact⟨h1,by omega⟩
theorem Mi(hu:X.A.units+66<cLine):cE X (compareOp .In) (ES X.K false):=by
 intro pins s σ H x y v u Q I rx ry h;cases y with
 |str b =>
  cases x with
  |str a=>refine jX pins s σ H _ _ v u Q I rx ry ⟨a,b,rfl,rfl,?_⟩;rw[<- pR];simpa[ES]using h
  |_=>exact QR h
 |ref p =>
  rcases h with h|⟨d,ds,hx,hp,o1,o2,q⟩
  exact yX pins s σ H _ _ v u Q I rx ry h;obtain⟨as,ra⟩:=hx.reads I o1.1 rx;obtain⟨c1,c2⟩:=RN o2;rcases hp with hp|hp;obtain⟨bs,rb⟩:=hp.reads I c1 ry;exact SeqAt.in_list_reads rb ra c1 o1.1 (by omega) ⟨.bl _,H,I,rfl,q⟩;obtain⟨bs,rb⟩:=hp.reads I c1 ry;exact SeqAt.in_tuple_reads rb ra c1 o1.1 (by omega) ⟨.bl _,H,I,rfl,q⟩
 |_=>exact QR h
theorem DZ(hu:X.A.units+66<cLine):cE X (compareOp .NotIn) (ES X.K true):=by
 intro pins s σ H x y v u Q I rx ry h;cases y with
 |str b =>
  cases x with
  |str a=>refine uP pins s σ H _ _ v u Q I rx ry ⟨a,b,rfl,rfl,?_⟩;rw[<- pR];simpa[ES]using h
  |_=>exact QR h
 |ref p =>
  rcases h with h|⟨d,ds,hx,hp,o1,o2,q⟩
  exact bP pins s σ H _ _ v u Q I rx ry h;obtain⟨as,ra⟩:=hx.reads I o1.1 rx;obtain⟨c1,c2⟩:=RN o2;rcases hp with hp|hp;obtain⟨bs,rb⟩:=hp.reads I c1 ry;exact SeqAt.notIn_list_reads rb ra c1 o1.1 (by omega) ⟨.bl _,H,I,rfl,q⟩;obtain⟨bs,rb⟩:=hp.reads I c1 ry;exact SeqAt.notIn_tuple_reads rb ra c1 o1.1 (by omega) ⟨.bl _,H,I,rfl,q⟩
 |_=>exact QR h
end
noncomputable def Vn(z:Str):It:=⟨fun i _=>i<z.cps.size,fun i H x H'=>H'=H/\∃c,z.cps[i]?=some c/\x=.str ⟨#[c]⟩,fun i _=>z.cps.size<=i⟩
theorem ZY{P:Program}{w:World}{K:QC}{tg:Expr}(it:Addr)(z:Str)(t:Tok):Turn P w K tg (Vn z) [it] it (fun i h=>h.IsStrIter it (strIterType z) z t i) where
 mem:=by simp
 obj:=fun i h st b hb=>by
  have e:b=it:=by simpa using hb
  subst e;obtain⟨o,e,c,d⟩:=st;exact⟨o,e,fun v z=>by rw[d]at z;cases z⟩
 keep:=fun i h h' st k=>by obtain⟨o,e,r⟩:=st;exact⟨o,k it (by simp) o e,r⟩
 item:=by
  intro X hP hw hK hc i pins s σ H E I hf st hg;subst hP hw hK;obtain⟨f0,f1,f2,f3,f4,f5⟩:=hf it (by simp);have hg':i<z.cps.size:=hg;obtain⟨ch,hx⟩:∃ch,z.cps[i]?=some ch:=⟨_,Array.getElem?_eq_getElem hg'⟩
  have key:∀h',h'.IsStrIter it (strIterType z) z t (i+1)->qj it s.heap h'->∃u,some (Value.str ⟨#[ch]⟩ s.toks)=some u /\
    wpAny (model X.prog X.w) X.A (letOwnedTupleGo tg (.ref it) u) (fun _ s2=>∃x H',Inv X pins σ H' s2/\sA x u/\(Vn z).yld i H x H'/\s2.heap.IsStrIter it (strIterType z) z t (i+1)/\∀b∈[it],H' b=none) E { s with heap:=h',toks:=s.toks+1 }:=fun h' st' sb=>by
   have I1:Inv X pins σ H { s with heap:=h',toks:=s.toks+1 }:=I.turned (fun b o hb e=>(sb.2 b hb).trans e) f0 f1 f3 f4 f5;obtain⟨o,e,c,d⟩:=id st';refine⟨_,rfl,tR (s:={ s with heap:=h',toks:=s.toks+1 }) (n:=strIterType z) e c d ?_ ⟨.str ⟨#[ch]⟩,H,I1,⟨_,rfl⟩,⟨rfl,_,hx,rfl⟩,st',fun b hb=>(hf b hb).1⟩⟩;unfold strIterType;split<;>decide
  cases ha:z.cps.all (· < 128) with
  |false =>
   have e1:strIterType z="str_iterator":=by simp[strIterType,ha]
   exact wpAny_pyNext_wide_item (by rw[<- e1];exact st) hx fun h' st' sb=>key h' (by rw[e1];exact st') sb
  |true =>
   have e1:strIterType z="str_ascii_iterator":=by simp[strIterType,ha]
   exact wpAny_pyNext_ascii_item (by rw[<- e1];exact st) hx fun h' st' sb=>key h' (by rw[e1];exact st') sb
 done:=by
  intro X hP hw hK hc i pins s σ H E I hf st hg;subst hP hw hK;obtain⟨f0,f1,f2,f3,f4,f5⟩:=hf it (by simp);have hx:z.cps[i]?=none:=by rw[Array.getElem?_eq_none_iff];exact hg
  cases ha:z.cps.all (· < 128) with
  |false =>
   have e1:strIterType z="str_iterator":=by simp[strIterType,ha]
   rw[e1]at st;exact wpAny_pyNext_wide_end (I.ok.hd hc) st hx fun h' eb=>⟨rfl,I.turned (t':=s.toks) (fun b o hb e=>eb b o hb e) f0 f1 f3 f4 f5⟩
  |true =>
   have e1:strIterType z="str_ascii_iterator":=by simp[strIterType,ha]
   rw[e1]at st;exact wpAny_pyNext_ascii_end (I.ok.hd hc) st hx fun h' eb=>⟨rfl,I.turned (t':=s.toks) (fun b o hb e=>eb b o hb e) f0 f1 f3 f4 f5⟩
 self:=by
  intro A i s Q E st h;cases ha:z.cps.all (· < 128) with
  |false =>
   have e1:strIterType z="str_iterator":=by simp[strIterType,ha]
   rw[e1]at st;exact wpAny_pyIter_striter_wide st h
  |true =>
   have e1:strIterType z="str_ascii_iterator":=by simp[strIterType,ha]
   rw[e1]at st;exact wpAny_pyIter_striter_ascii st h
section
variable{X:Cx}
theorem vS:∀{bs:List Bool}{us:List Value},pA (bs.map V.bl) us->∀(i:Nat) (v:Value),us[i]?=some v->∃b,bs[i]?=some b/\v=Value.bool b
 |[],_,.nil,i,v,h=>by simp at h
 |b::bs,_,.cons r t,0,v,h=>by simp at h;subst h;exact⟨b,by simp,r⟩
 |b::bs,_,.cons r t,i+1,v,h=>by obtain⟨c,h1,h2⟩:=vS (bs:=bs) t i v (by simpa using h);exact⟨c,by simpa using h1,h2⟩
theorem RW(bs:List Bool):(qK bs.length).all (fun i=>bs.getD i true)=bs.all id:=by
 rw[WO,Qk,Qk];constructor;intro h b hb;obtain⟨i,hi,e⟩:=List.getElem_of_mem hb;have:=h i (by simpa using hi);simp[QCs,hi,e]at this;simpa using this;intro h i hi;have hi':i<bs.length:=by simpa using hi
 have:=h bs[i] (List.getElem_mem hi');simpa[QCs,hi']using this
noncomputable def si(K:QC):List V->Hp->VK->Prop:=fun vs H Q=>match vs with
 |[.ref a]=>∃bs:List Bool,ID K H a (bs.map V.bl)/\Q (.bl (bs.all id)) H
 |_=>False
theorem J4(hh:X.calm=true):gD X (.builtin "all") (si X.K):=by
 intro pins s σ H xs us Q I r h
 match xs,h with
 |[.ref a],⟨bs,hq,q⟩ =>
  obtain⟨u,rfl,ru⟩:=oG r;cases ru;obtain⟨its,rv,p,hz⟩:=I.list hq;have hl:=rv.length;rw[QJ]at hl;refine call_all_walk (QAa p.isList ?_);have hlt:a<s.heap.objs.size:=by obtain⟨o,n,e,_⟩:=p;exact QO e
  refine⟨s.heap.objs.size,_,_,_,_,_,fun i=>bs.getD i true,rfl,Walks.list (A:=X.A.in1) (I.ok.hd hh) s.heap.objs.size a (Qx hlt) its.toArray,⟨⟨_,QY _ rfl,rfl,rfl⟩,?_⟩,?_,?_⟩;obtain⟨o,n,e,c,d,sq⟩:=p;exact⟨o,QF _ e,c,n,sq⟩;intro i v s' Q' E' hP hQ';obtain⟨b,hb,rfl⟩:=vS rv i v (by simpa using hP);refine qR ?_;have:bs.getD i true=b:=by simp[QCs,hb]
  rw[<- this];exact hQ';intro h' tk hk;have e1:(qK its.toArray.size).all (fun i=>bs.getD i true)=bs.all id:=by rw[QM,<- hl,RW]
  rw[e1];exact⟨.bl _,H,I.kept (t':=tk) (fun b o e=>hk b o (by simp;exact Qx (QO e)) (QF _ e)),rfl,q⟩
noncomputable def ci(K:QC):List V->Hp->VK->Prop:=fun vs H Q=>match vs with
 |[.str z]=>z.length<=sizeLine/\Q (.int z.length) H
 |[.ref a]=>(∃xs,ID K H a xs/\Q (.int xs.length) H)∨(∃xs,LE K H a xs/\Q (.int xs.length) H)
 |_=>False
theorem l4:gD X (.builtin "len") (ci X.K):=by
 intro pins s σ H xs us Q I r h
 match xs,h with
 |[.str z],h=>exact vQ pins s σ H _ us Q I r ⟨z,rfl,h⟩
 |[.ref a],.inl ⟨xs,hq,q⟩=>exact dJ pins s σ H _ us Q I r ⟨a,xs,rfl,.inl hq,q⟩
 |[.ref a],.inr ⟨xs,hq,q⟩=>exact dJ pins s σ H _ us Q I r ⟨a,xs,rfl,.inr hq,q⟩
noncomputable def cV:V->Option Value
 | .ty n=>some (.type n)
 | .ref C=>some (.ref C)
 |_=>none
def jo(K:QC)(H:Hp)(x:V)(t:Value):Prop:=(∃a xs,x=.ref a/\ID K H a xs/\t=.type "list")∨∃a xs,x=.ref a/\LE K H a xs/\t=.type "tuple"
noncomputable def Y6(K:QC):List V->Hp->VK->Prop:=fun vs H Q=>match vs with
 |[x,c]=>∃t cv b,(TyOf K H x t∨jo K H x t)/\cV c=some cv/\WC K t cv=some b/\Q (.bl b) H
 |_=>False
theorem kS:gD X (.builtin "isinstance") (Y6 X.K):=by
 intro pins s σ H xs us Q I r h
 match xs,h with
 |[x,c],⟨t,cv,b,ty,hc,hk,q⟩ =>
  obtain⟨u,w',rfl,ru,rw'⟩:=MU r;have e:w'=cv:=by
   cases c with
   |ty n=>have h1:w'=Value.type n:=rw';have h2:some (Value.type n)=some cv:=hc;rw[h1];exact QW h2
   |ref C=>have h1:w'=Value.ref C:=rw';have h2:some (Value.ref C)=some cv:=hc;rw[h1];exact QW h2
   |_=>cases hc
  subst e;rcases ty with ty|⟨a,xs,rfl,hq,rfl⟩| ⟨a,xs,rfl,hq,rfl⟩
  exact iX I ru ty hk fun tk=>⟨.bl b,H,I.tok tk,rfl,q⟩
  cases ru;obtain⟨its,rv,⟨o,n,e,c,_,d⟩,_⟩:=I.list hq;exact Q6 QAU I.kIn ⟨o,e,c⟩ hk (fun z=>nomatch z) fun tk=>⟨.bl b,H,I.tok tk,rfl,q⟩
  cases ru;obtain⟨its,rv,⟨o,e,c,n,d⟩,_⟩:=I.tuple hq;exact Q6 QBg I.kIn ⟨o,e,c⟩ hk (fun z=>nomatch z) fun tk=>⟨.bl b,H,I.tok tk,rfl,q⟩
noncomputable def Ih(K:QC):V->Option Int->Option Int->Hp->VK->Prop:=fun x lo hi H Q=>∃a xs,x=.ref a/\LE K H a xs/\(HT.sIx xs.length 0 lo=0/\HT.sIx xs.length xs.length hi=xs.length)/\Q (.ref a) H
theorem aW{P:Program}{w:World}{A:Around}{E:NB}{z:Shared}{b sl:Addr}{js:Array Value}{u1 u2:Value}{lo hi:Option Int}{C:NB}(bt:IsTup z.heap b js)(ss:z.heap.IsSliceOf sl u1 u2 .none)(g1:IsPart u1 lo)(g2:IsPart u2 hi)
  (all:HT.sIx js.size 0 lo=0/\HT.sIx js.size js.size hi=js.size) (c:C (.ref b) z):wpAny (model P w) A (getItem (.ref b) (.ref sl)) C E z:=by
 obtain⟨o,ho,co,_⟩:=id ss;have ty:z.TypeIs (.ref sl) "slice":=⟨o,ho,co⟩
 unfold getItem
 try with_reducible refine WM ?_
 first|refine QE (QT ?_)|skip
 refine QE (QBv bt.typeIs (by decide) (QE (qY (name:=QA "__getitem__") bt.typeIs WP (wX WP bt.typeIs QBN ?_ (QBi _ _)))));show wpAny _ _ (QAC (.ref b) >>= _) _ _ z;refine QE (tupleItemsOf_ bt (QE (QCF ty ?_)));rw[if_pos (by decide)];refine QE (HT.sliceApplied_gen ss g1 g2 ?_);rw[all.1,all.2];have yes:((((0:Nat):Int)==0&&(1:Int)==1&&(js.size - 0)==js.size)=true):=by simp
 show wpAny _ _ (if(((0:Nat):Int)==0&&(1:Int)==1&&(js.size - 0)==js.size)=true then _ else _) _ _ z;rw[if_pos yes];unfold Builtin.Tuple.tupleIsExact;refine QE (QE (QCF bt.typeIs (QT ?_)));rw[if_pos (by decide)];exact QE (QB2 (QT ⟨_,rfl,QT c⟩))
theorem DY:Hk X (Ih X.K):=by
 rintro pn z σ H _ u u1 u2 lo hi sl Q I rx ss g1 g2 ⟨a,xs,rfl,sq,all,q⟩;cases rx;obtain⟨js,r,bt,_⟩:=I.tuple sq;have n:js.toArray.size=xs.length:=by rw[QM];exact r.length.symm
 exact⟨"tuple",_,WP.lookup,bt.typeIs,aW bt ss g1 g2 (by rw[n];exact all) ⟨.ref a,H,I,rfl,q⟩⟩
noncomputable def Cm(K:QC):V->Option Int->Option Int->Hp->VK->Prop:=fun x lo hi H Q=>match x with
 | .str z=>z.length<=sizeLine/\Q (.str (qS z lo hi)) H
 | .ref a=>yi K (.ref a) lo hi H Q∨ji K (.ref a) lo hi H Q∨Ih K (.ref a) lo hi H Q
 |_=>False
theorem Gd:Hk X (Cm X.K):=by
 intro pins s σ H x v vl vu lo hi sl Q I rx hs pl pu h;cases x with
 |str z =>
  obtain⟨t,rfl⟩:=rx;obtain⟨hz,q⟩:=h;refine⟨"str",_,F.slot_str_getitem.lookup,QAX _ _ _,?_⟩;have fin:∀l u:Option (Int×Tok),l.map (·.1)=lo->u.map (·.1)=hi->s.heap.IsSlice sl l u none->wpAny (model X.prog X.w) X.A (getItem (.str z t) (.ref sl)) (EP X pins σ Q) X.xe s:=fun l u e1 e2 hsl=>by refine wpAny_getItem_str_slice hsl rfl ?_;subst e1 e2;exact post_val_or_str ⟨qC (Txt.slice_le z _ _) hz,fun t' k=>⟨.str (qS z _ _),H,I.tok k,⟨_,rfl⟩,q⟩⟩
  obtain⟨o,ho,hc,hd⟩:=hs;cases pl with
  |none =>
   cases pu with
   |none=>exact fin none none rfl rfl ⟨o,ho,hc,hd⟩
   |int j tj=>exact fin none (some (j,tj)) rfl rfl ⟨o,ho,hc,hd⟩
  |int i ti =>
   cases pu with
   |none=>exact fin (some (i,ti)) none rfl rfl ⟨o,ho,hc,hd⟩
   |int j tj=>exact fin (some (i,ti)) (some (j,tj)) rfl rfl ⟨o,ho,hc,hd⟩
 |ref a =>
  rcases h with h|h|h
  rotate_left 2
  exact DY pins s σ H _ v vl vu lo hi sl Q I rx hs pl pu h;exact z6 pins s σ H _ v vl vu lo hi sl Q I rx hs pl pu h;exact Fd pins s σ H _ v vl vu lo hi sl Q I rx hs pl pu h
 |_=>exact QR h
theorem UN:∀{l:List (Str×Tok)},pA (l.map fun p=>V.str p.1) (strValues l)
 |[]=>.nil
 |p::r=>.cons ⟨p.2,rfl⟩ UN
theorem VS{l:List (Str×Tok)}{ts:List Str}(e:l.map (·.1)=ts):pA (ts.map V.str) (strValues l):=by subst e;rw[qp];exact UN
noncomputable def xZ:V->List V->Hp->VK->Prop:=fun x vs H Q=>match x,vs with
 | .str z,[.str y]=>z.length<=sizeLine/\0<y.length/\(wP z y).length<=sizeLine/\∀p,H p=none->Q (.ref p) (FA H p (.lst ((wP z y).map V.str)))
 |_,_=>False
theorem K1:ac X "str.split" xZ:=by
 intro pins s σ H x xs v us Q I rx rs h
 match x,xs,h with
 | .str z,[.str y],⟨hz,hy,hn,q⟩ =>
  obtain⟨t,rfl⟩:=rx;obtain⟨u,rfl,t',rfl⟩:=oG rs;have hy':(y.length==0)=false:=by simp;omega
  cases h1:(decide (z.length<y.length)||decide (QBT z<QBT y));cases hf:(qX z y 0 z.length (z.length+1)).isEmpty
  ·have e:wP z y=Builtin.Str.partsBetween z (qX z y 0 z.length (z.length+1)) y.length:=(if_neg (ne_true_of_eq_false h1)).trans (if_neg (ne_true_of_eq_false hf))
   rw[e]at hn q;refine wr QAt (QAX s z t) QAb (QAJ _ _) (meets_str_split_sep z y t t' h1 hy' hf hz hn) ?_;rw[strsFrom_eq];exact⟨.ref _,_,I.lnew (t':=_) (VS (numbered_texts _ _)) (by rw[QJ];exact hn),rfl,q _ I.fresh⟩
  have e:wP z y=[z]:=(if_neg (ne_true_of_eq_false h1)).trans (if_pos hf);rw[e]at hn q;refine wr QAt (QAX s z t) QAb (QAJ _ _) (meets_str_split_not_found z y t t' h1 hy' hf) ?_;exact⟨.ref _,_,I.lnew (t':=s.toks) (ys:=[V.str z]) (its:=[.str z t]) (.cons ⟨t,rfl⟩ .nil) hn,rfl,q _ I.fresh⟩;have e:wP z y=[z]:=if_pos h1;rw[e]at hn q;refine wr QAt (QAX s z t) QAb (QAJ _ _) (meets_str_split_cannot_occur z y t t' h1) ?_;exact⟨.ref _,_,I.lnew (t':=s.toks) (ys:=[V.str z]) (its:=[.str z t]) (.cons ⟨t,rfl⟩ .nil) hn,rfl,q _ I.fresh⟩
end
inductive Src where
 |l (a:Addr)|t (a:Addr)|s (x:Str) (t:Tok)
noncomputable def Src.adr:Src->Addr
 | .l a=>a
 | .t a=>a
 | .s _ _=>0
noncomputable def Src.val:Src->Value
 | .l a=>.ref a
 | .t a=>.ref a
 | .s x q=>.str x q
noncomputable def jV(x:Str):Array Value:=x.cps.map fun c=>.str ⟨#[c]⟩ 0
def Lk(x u:Value):Prop:=u=x∨∃z t t',x=.str z t/\u=.str z t'
noncomputable def NA(h:Heap)(j:Addr):Src->Nat->Prop
 | .l a,k=>h.IsListIter j a k
 | .t a,k=>h.IsTupleIter j a k
 | .s x t,k=>h.IsStrIter j "str_ascii_iterator" x t k
noncomputable def UA(h:Heap):Src->Array Value->Prop
 | .l a,xs=>h.IsList a xs
 | .t a,xs=>h.IsTuple a xs
 | .s x _,xs=>x.cps.all (· < 128)=true/\xs=jV x
theorem NA.ext{h h':Heap}{j b:Addr}{z:Src}{k:Nat}(x:NA h j z k)(e:QBU b h h')(n:j≠b):NA h' j z k:=by
 cases z with
 |l a=>exact Heap.IsListIter.extBut x e n
 |t a=>exact Heap.IsTupleIter.extBut x e n
 |s y t=>exact Heap.IsStrIter.extBut x e n
theorem NA.keep{h h':Heap}{j:Addr}{z:Src}{k:Nat}(x:NA h j z k)(e:∀o,h.get? j=some o->h'.get? j=some o):NA h' j z k:=by
 cases z with
 |l a=>obtain⟨o,g1,g2⟩:=x;exact⟨o,e o g1,g2⟩
 |t a=>obtain⟨o,g1,g2⟩:=x;exact⟨o,e o g1,g2⟩
 |s y t=>obtain⟨o,g1,g2⟩:=x;exact⟨o,e o g1,g2⟩
theorem NA.obj{h:Heap}{j:Addr}{z:Src}{k:Nat}(x:NA h j z k):∃o,h.get? j=some o/\∀v,o.data≠.cell v:=by
 cases z with
 |l a=>obtain⟨o,g1,g2,g3⟩:=x;exact⟨o,g1,fun v q=>by rw[g3]at q;cases q⟩
 |t a=>obtain⟨o,g1,g2,g3⟩:=x;exact⟨o,g1,fun v q=>by rw[g3]at q;cases q⟩
 |s y t=>obtain⟨o,g1,g2,g3⟩:=x;exact⟨o,g1,fun v q=>by rw[g3]at q;cases q⟩
theorem UA.ext{h h':Heap}{b:Addr}{z:Src}{xs:Array Value}(x:UA h z xs)(e:QBU b h h')(n:z.adr≠b):UA h' z xs:=by
 cases z with
 |l a=>exact Heap.IsList.extBut x e n
 |t a=>exact Heap.IsTuple.extBut x e n
 |s y t=>exact x
theorem UA.lt{h:Heap}{z:Src}{xs:Array Value}(x:UA h z xs)(h0:0<h.objs.size):z.adr<h.objs.size:=by
 cases z with
 |l a=>obtain⟨o,g1,_⟩:=x;exact QO g1
 |t a=>obtain⟨o,g1,_⟩:=x;exact QO g1
 |s y t=>exact h0
theorem NA.lt{h:Heap}{j:Addr}{z:Src}{k:Nat}(x:NA h j z k):j<h.objs.size:=by obtain⟨o,g1,_⟩:=x.obj;exact QO g1
section
variable{prog:Program}{w:World}{A:Around}{E:NB}{s:Shared}
theorem zf{j t:Addr}{k:Nat}{xs:Array Value}{x:Value}{Q:NB}(p:s.heap.IsTupleIter j t k)(pt:s.heap.IsTuple t xs)(px:xs[k]?=some x)
  (q:∀h',h'.IsTupleIter j t (k+1)->qj j s.heap h'->Q x { s with heap:=h' }):wpAny (model prog w) A (Qs (.ref j)) Q E s:=by
 obtain⟨ob,g1,g2,g3⟩:=id p;obtain⟨ot,t1,_,nt,t3⟩:=pt;unfold Qs;refine QE (qY (name:=QA "__next__") p.typeIs qd (wX qd p.typeIs WR ?_ (WK _)));show wpAny _ _ (field (.ref j) 0 >>= _) _ _ _;refine QE (Q3 g1 g3 (x:=.ref t) rfl ?_);show wpAny _ _ (if(Value.ref t==Value.none)=true then _ else _) _ _ _;rw[if_neg (show ¬ (Value.ref t==Value.none)=true from QD)];show wpAny _ _ (field (.ref j) 1 >>= _) _ _ _;refine QE (Q3 g1 g3 (x:=.int k 0) rfl ?_);show wpAny _ _ (seqItems? (.ref t) >>= _) _ _ _;refine QE (wJ t1 t3 ?_);simp only[QAc,px];refine QE (Wc g1 g3 (by simp) (QT ⟨x,rfl,QT (q _ ?_ (QBV ..))⟩));refine⟨_,qm _ g1 (Wi (wa g3 _)),(QBy ..).trans g2,?_⟩;rw[wa g3];simp[rawInt]
theorem VT{j t:Addr}{k:Nat}{xs:Array Value}{Q:NB}(ah:A.handled=none)(p:s.heap.IsTupleIter j t k)(pt:s.heap.IsTuple t xs)(px:xs[k]?=none)
  (q:∀h' e,QBU j s.heap h'->(∃o,h'.get? e=some o/\o.cls=.type "StopIteration")->E (.ref e) { s with heap:=h' }):wpAny (model prog w) A (Qs (.ref j)) Q E s:=by
 obtain⟨ob,g1,g2,g3⟩:=id p;obtain⟨ot,t1,_,nt,t3⟩:=pt;unfold Qs;refine QE (qY (name:=QA "__next__") p.typeIs qd (wX qd p.typeIs WR ?_ (WK _)));show wpAny _ _ (field (.ref j) 0 >>= _) _ _ _;refine QE (Q3 g1 g3 (x:=.ref t) rfl ?_);show wpAny _ _ (if(Value.ref t==Value.none)=true then _ else _) _ _ _;rw[if_neg (show ¬ (Value.ref t==Value.none)=true from QD)];show wpAny _ _ (field (.ref j) 1 >>= _) _ _ _;refine QE (Q3 g1 g3 (x:=.int k 0) rfl ?_);show wpAny _ _ (seqItems? (.ref t) >>= _) _ _ _;refine QE (wJ t1 t3 ?_);simp only[QAc,px];refine QE (QB2 (QE (Wc g1 g3 (by simp) ?_)));refine QE (m:=newExc (.type "StopIteration") []) ?_;simp only[newExc,newTuple];refine QE (qe ?made (by size_fits));refine QE (m:=firstArgMember _ _) (wpAny_of_eq (a:=Value.none) (by first|rfl | (rw[firstArgMember];rfl)) ?arg);refine qe ?made2 (by size_fits);simp only[raiseNew];refine QE (wpAny_handled ?_);first|rw[show A.in1.handled=none from ah]|rw[ah]
 refine QE (QT (wpAny_throw (q _ _ (((QBV ..).extBut.push _).push _) ⟨_,QY _ rfl,rfl⟩)))
theorem oP{j:Addr}{z:Src}{k:Nat}{xs:Array Value}{x:Value}{Q:NB}(p:NA s.heap j z k)(pt:UA s.heap z xs)(px:xs[k]?=some x)
  (q:∀h' u tk,Lk x u->NA h' j z (k+1)->qj j s.heap h'->Q u { s with heap:=h',toks:=tk }):wpAny (model prog w) A (Qs (.ref j)) Q E s:=by
 cases z with
 |l a=>exact wpAny_nextOf_list_item p pt px fun h' a b=>q h' x s.toks (.inl rfl) a b
 |t a=>exact zf p pt px fun h' a b=>q h' x s.toks (.inl rfl) a b
 |s y t =>
  obtain⟨_,rfl⟩:=pt;obtain⟨c,hc,rfl⟩:∃c,y.cps[k]?=some c/\x=.str ⟨#[c]⟩ 0:=by
   rw[jV,QBl]at px;cases e:y.cps[k]? with
   |none=>rw[e]at px;cases px
   |some c=>rw[e]at px;exact⟨c,rfl,(QW px).symm⟩
  exact wpAny_nextOf_ascii_item p hc fun h' a b=>q h' _ _ (.inr ⟨_,_,_,rfl,rfl⟩) a b
theorem o0{j:Addr}{z:Src}{k:Nat}{xs:Array Value}{Q:NB}(ah:A.handled=none)(p:NA s.heap j z k)(pt:UA s.heap z xs)(px:xs[k]?=none)
  (q:∀h' e,QBU j s.heap h'->(∃o,h'.get? e=some o/\o.cls=.type "StopIteration")->E (.ref e) { s with heap:=h' }):wpAny (model prog w) A (Qs (.ref j)) Q E s:=by
 cases z with
 |l a=>exact wpAny_nextOf_list_end ah p pt px q
 |t a=>exact VT ah p pt px q
 |s y t =>
  obtain⟨_,rfl⟩:=pt;refine wpAny_nextOf_ascii_end ah p ?_ q;rw[jV,QBl]at px;cases e:y.cps[k]? with
  |none=>rfl
  |some c=>rw[e]at px;cases px
noncomputable def Src.it:Src->Obj
 | .l a=>{ cls:=.type "list_iterator",data:=.fields #[.ref a,.int 0 0] }
 | .t a=>{ cls:=.type "tuple_iterator",data:=.fields #[.ref a,.int 0 0] }
 | .s x q=>{ cls:=.type "str_ascii_iterator",data:=.fields #[.str x q,.int 0 0] }
theorem rQ{z:Src}{xs:Array Value}{Q:NB}(pt:UA s.heap z xs)(q:Q (.ref s.heap.objs.size) { s with heap:=s.heap.push z.it }):wpAny (model prog w) A (pyIter z.val) Q E s:=by
 cases z with
 |l a=>exact QAa pt q
 |t a=>exact QBm pt q
 |s y t=>exact wpAny_pyIter_ascii pt.1 q
theorem EU(h:Heap)(z:Src):NA (h.push z.it) h.objs.size z 0:=by
 cases z with
 |l a=>exact⟨_,QY _ rfl,rfl,rfl⟩
 |t a=>exact⟨_,QY _ rfl,rfl,rfl⟩
 |s y t=>exact⟨_,QY _ rfl,rfl,rfl⟩
end
section
variable{prog:Program}{w:World}{A:Around}{E:NB}{s:Shared}
theorem EE{h h':Heap}{j b:Addr}{z:Src}{k:Nat}(x:NA h j z k)(e:qj b h h')(n:j≠b):NA h' j z k:=x.ext e.extBut n
theorem oF{h h':Heap}{b:Addr}{z:Src}{xs:Array Value}(x:UA h z xs)(e:qj b h h')(n:z.adr≠b):UA h' z xs:=x.ext e.extBut n
theorem pW{z TI TO i1 i2:Addr}{z1 z2:Src}{k1 k2:Nat}{xs ys:Array Value}{x y a b:Value}{Q:NB}(D:ZipApart z TI TO i1 i2 z1.adr z2.adr)
  (hz:IsZip s.heap z TI TO .none) (pI:IsPair s.heap TI (.ref i1) (.ref i2)) (pO:IsPair s.heap TO a b) (p1:NA s.heap i1 z1 k1) (p2:NA s.heap i2 z2 k2) (q1:UA s.heap z1 xs) (q2:UA s.heap z2 ys)
  (ex:xs[k1]?=some x) (ey:ys[k2]?=some y)
  (q:∀h' u v tk,Lk x u->Lk y v->IsZip h' z TI TO (rawInt s.heap.objs.size)->IsPair h' TO u v->NA h' i1 z1 (k1+1)->NA h' i2 z2 (k2+1)->IsPair h' s.heap.objs.size u v->h'.objs.size=s.heap.objs.size+1 ->
   (∀c o,c≠z->c≠TO->c≠i1->c≠i2->s.heap.get? c=some o->h'.get? c=some o)->Q (.ref s.heap.objs.size) { s with heap:=h',toks:=tk }) :
  wpAny (model prog w) A (Builtin.«zip.__next__» ⟨[.ref z],[]⟩) (fun fin s'=>∃v,fin=.done (.ret v)/\Q v s') E s:=by
 show wpAny (model prog w) A (field (.ref z) 2 >>= _) _ _ _;refine QE (Q3 hz rfl (x:=.bool false) rfl ?f2);show wpAny (model prog w) A (field (.ref z) 3 >>= _) _ _ _;refine QE (Q3 hz rfl (x:=.ref TI) rfl ?f3);refine QE (wJ pI rfl ?fi);show wpAny (model prog w) A (qP (.ref z) >>= _) _ _ _;refine QE ?free;unfold qP;refine QE (Q3 hz rfl (x:=.none) rfl (QT ?f0));simp only[if_true];refine QE (QB2 ?ru);refine QE (Q3 hz rfl (x:=.ref TO) rfl ?fo);refine QE (wE hz (by simp) fun ha hza hsa=>?_);replace hza:IsZip ha z TI TO .ellipsis:=hza;refine QE ?lp;simp only[QCQ,QCh,W7,QAN];refine QE (QE (QAo ?r1));show wpAny (model prog w) A (Qs (.ref i1) >>= _) _ _ _;refine QE (oP (EE p1 hsa D.i1z) (oF q1 hsa D.l1z) ex fun hb u tk1 lu p1b hsb=>QT ?_);have pOb:IsPair hb TO a b:=hsb.extBut _ _ D.TOi1 (hsa.extBut _ _ D.TOz pO);refine QE (wJ pOb rfl ?sb);refine QE (Wq pOb fun hc pOc hsc=>?_);replace pOc:IsPair hc TO u b:=pOc;refine QE (QCi (QT ?g1));refine QE (QE (QAo ?r2));show wpAny (model prog w) A (Qs (.ref i2) >>= _) _ _ _;refine QE (oP (EE (EE (EE p2 hsa D.i2z) hsb D.i12.symm) hsc D.TOi2.symm) (oF (oF (oF q2 hsa D.l2z) hsb D.l2i1) hsc D.l2TO) ey fun hd v tk2 lv p2d hsd=>QT ?_);have pOd:IsPair hd TO u b:=hsd.extBut _ _ D.TOi2 pOc;refine QE (wJ pOd rfl ?sd);refine QE (Wq pOd fun he pOe hse=>?_);replace pOe:IsPair he TO u v:=pOe;refine QE (QCi (QT (QT ?g2)));refine QE (wJ pOe rfl ?se);refine QE (wpAny_newTuple ?nt);have size:he.objs.size=s.heap.objs.size:=by rw[hse.1,hsd.1,hsc.1,hsb.1,hsa.1]
 have hze:IsZip he z TI TO .ellipsis:=hse.extBut _ _ D.TOz.symm (hsd.extBut _ _ D.i2z.symm (hsc.extBut _ _ D.TOz.symm (hsb.extBut _ _ D.i1z.symm hza)));have kept:∀c o,c≠z->c≠TO->c≠i1->c≠i2->s.heap.get? c=some o->he.get? c=some o:=fun c o c1 c2 c3 c4 e=>hse.extBut _ _ c2 (hsd.extBut _ _ c4 (hsc.extBut _ _ c2 (hsb.extBut _ _ c3 (hsa.extBut _ _ c1 e))));have p1e:NA he i1 z1 (k1+1):=EE (EE (EE p1b hsc D.TOi1.symm) hsd D.i12) hse D.TOi1.symm;have p2e:NA he i2 z2 (k2+1):=EE p2d hse D.TOi2.symm;have zlt:z<he.objs.size:=QO hze;show wpAny (model prog w) A (WE (.ref z) (.ref he.objs.size) >>= _) _ _ _;refine QE ?ho;unfold WE;have hzf:IsZip (he.push { cls:=.type "tuple",data:=.seq #[u,v] }) z TI TO .ellipsis:=QF _ hze;refine QE (wE hzf (by simp) fun hg hzg hsg=>?_);replace hzg:IsZip hg z TI TO (rawInt he.objs.size):=hzg;refine wE hzg (by simp) fun hh hzh hsh=>?_;replace hzh:IsZip hh z TI TO (rawInt he.objs.size):=hzh;have up:∀c o,c≠z->he.get? c=some o->hh.get? c=some o:=fun c o c1 e=>hsh.extBut _ _ c1 (hsg.extBut _ _ c1 (QF _ e));have pT:IsPair hh he.objs.size u v:=hsh.extBut _ _ (Wf zlt) (hsg.extBut _ _ (Wf zlt) (QY _ rfl));have sizeh:hh.objs.size=he.objs.size+1:=by rw[hsh.1,hsg.1,qV]
 rw[size]at hzh pT sizeh;refine QT ⟨_,rfl,?_⟩;show Q (.ref he.objs.size) _;rw[size];exact q hh u v _ lu lv hzh (up _ _ D.TOz pOe) (p1e.keep fun o e=>up _ o D.i1z e) (p2e.keep fun o e=>up _ o D.i2z e) pT sizeh fun c o c1 c2 c3 c4 e=>up c o c1 (kept c o c1 c2 c3 c4 e)
theorem nY{z TI TO i1 i2:Addr}{z1 z2:Src}{k1 k2:Nat}{xs ys:Array Value}{a b:Value}{Q:PySem.Fin->Shared->Prop}(ah:A.handled=none)(D:ZipApart z TI TO i1 i2 z1.adr z2.adr)
  (hz:IsZip s.heap z TI TO .none) (pI:IsPair s.heap TI (.ref i1) (.ref i2)) (pO:IsPair s.heap TO a b) (p1:NA s.heap i1 z1 k1) (p2:NA s.heap i2 z2 k2) (q1:UA s.heap z1 xs) (q2:UA s.heap z2 ys)
  (en:xs[k1]?=none∨ys[k2]?=none)
  (qE:∀h' e tk,(∀c o,c≠z->c≠TO->c≠i1->c≠i2->s.heap.get? c=some o->h'.get? c=some o)->(∃o,h'.get? e=some o/\o.cls=.type "StopIteration")->E (.ref e) { s with heap:=h',toks:=tk }) :
  wpAny (model prog w) A (Builtin.«zip.__next__» ⟨[.ref z],[]⟩) Q E s:=by
 show wpAny (model prog w) A (field (.ref z) 2 >>= _) _ _ _;refine QE (Q3 hz rfl (x:=.bool false) rfl ?f2);show wpAny (model prog w) A (field (.ref z) 3 >>= _) _ _ _;refine QE (Q3 hz rfl (x:=.ref TI) rfl ?f3);refine QE (wJ pI rfl ?fi);show wpAny (model prog w) A (qP (.ref z) >>= _) _ _ _;refine QE ?free;unfold qP;refine QE (Q3 hz rfl (x:=.none) rfl (QT ?f0));simp only[if_true];refine QE (QB2 ?ru);refine QE (Q3 hz rfl (x:=.ref TO) rfl ?fo);refine QE (wE hz (by simp) fun ha hza hsa=>?_);replace hza:IsZip ha z TI TO .ellipsis:=hza;refine QE ?lp;simp only[QCQ,QCh,W7,QAN];refine QE (QE (QAo ?r1));show wpAny (model prog w) A (Qs (.ref i1) >>= _) _ _ _;cases ex:xs[k1]? with
 |none =>
  refine QE (o0 ah (EE p1 hsa D.i1z) (oF q1 hsa D.l1z) ex fun hb e hsb he=>?_);obtain⟨oe,e1,e2⟩:=he;have hzb:IsZip hb z TI TO .ellipsis:=hsb _ _ D.i1z.symm hza;have ne:e≠z:=fun x=>by subst x;rw[hzb]at e1;cases e1;simp at e2
  refine wE hzb (by simp) fun hc _ hsc=>qE hc e _ (fun c o c1 _ c3 _ x=>hsc.extBut _ _ c1 (hsb _ _ c3 (hsa.extBut _ _ c1 x))) ⟨oe,hsc.extBut _ _ ne e1,e2⟩
 |some x =>
  have ey:ys[k2]?=none:=by rcases en with h|h;rw[ex]at h;cases h;exact h
  refine QE (oP (EE p1 hsa D.i1z) (oF q1 hsa D.l1z) ex fun hb u tk1 lu p1b hsb=>QT ?_);have pOb:IsPair hb TO a b:=hsb.extBut _ _ D.TOi1 (hsa.extBut _ _ D.TOz pO);refine QE (wJ pOb rfl ?sb);refine QE (Wq pOb fun hc pOc hsc=>?_);refine QE (QCi (QT ?g1));refine QE (QE (QAo ?r2));show wpAny (model prog w) A (Qs (.ref i2) >>= _) _ _ _;refine QE (o0 ah (EE (EE (EE p2 hsa D.i2z) hsb D.i12.symm) hsc D.TOi2.symm) (oF (oF (oF q2 hsa D.l2z) hsb D.l2i1) hsc D.l2TO) ey fun hd e hsd he=>?_);obtain⟨oe,e1,e2⟩:=he;have hzd:IsZip hd z TI TO .ellipsis:=hsd _ _ D.i2z.symm (hsc.extBut _ _ D.TOz.symm (hsb.extBut _ _ D.i1z.symm hza));have ne:e≠z:=fun x=>by subst x;rw[hzd]at e1;cases e1;simp at e2
  refine wE hzd (by simp) fun hf _ hsf=>qE hf e _ (fun c o c1 c2 c3 c4 x=>hsf.extBut _ _ c1 (hsd _ _ c4 (hsc.extBut _ _ c2 (hsb.extBut _ _ c3 (hsa.extBut _ _ c1 x))))) ⟨oe,hsf.extBut _ _ ne e1,e2⟩
theorem oW{z TI TO i1 i2:Addr}{z1 z2:Src}{k1 k2:Nat}{xs ys:Array Value}{x y a b:Value}{Q:Option Value->Shared->Prop}(D:ZipApart z TI TO i1 i2 z1.adr z2.adr)
  (hz:IsZip s.heap z TI TO .none) (pI:IsPair s.heap TI (.ref i1) (.ref i2)) (pO:IsPair s.heap TO a b) (p1:NA s.heap i1 z1 k1) (p2:NA s.heap i2 z2 k2) (q1:UA s.heap z1 xs) (q2:UA s.heap z2 ys)
  (ex:xs[k1]?=some x) (ey:ys[k2]?=some y)
  (q:∀h' u v tk,Lk x u->Lk y v->IsZip h' z TI TO (rawInt s.heap.objs.size)->IsPair h' TO u v->NA h' i1 z1 (k1+1)->NA h' i2 z2 (k2+1)->IsPair h' s.heap.objs.size u v->h'.objs.size=s.heap.objs.size+1 ->
   (∀c o,c≠z->c≠TO->c≠i1->c≠i2->s.heap.get? c=some o->h'.get? c=some o)->Q (some (.ref s.heap.objs.size)) { s with heap:=h',toks:=tk }):wpAny (model prog w) A (pyNext (.ref z)) Q E s:=by
 have ht:s.TypeIs (.ref z) "zip":=⟨_,hz,rfl⟩
 unfold pyNext;exact QE (wpAny_attempt (qY (name:=QA "__next__") ht wj (wX wj ht QAz
  (pW D hz pI pO p1 p2 q1 q2 ex ey fun h' u v tk lu lv a1 a2 a3 a4 a5 a6 a7=>QT (q h' u v tk lu lv a1 a2 a3 a4 a5 a6 a7)) (QAp _))))
theorem rW{z TI TO i1 i2:Addr}{z1 z2:Src}{k1 k2:Nat}{xs ys:Array Value}{a b:Value}{Q:Option Value->Shared->Prop}(ah:A.handled=none)(D:ZipApart z TI TO i1 i2 z1.adr z2.adr)
  (hz:IsZip s.heap z TI TO .none) (pI:IsPair s.heap TI (.ref i1) (.ref i2)) (pO:IsPair s.heap TO a b) (p1:NA s.heap i1 z1 k1) (p2:NA s.heap i2 z2 k2) (q1:UA s.heap z1 xs) (q2:UA s.heap z2 ys)
  (en:xs[k1]?=none∨ys[k2]?=none) (q:∀h' tk,(∀c o,c≠z->c≠TO->c≠i1->c≠i2->s.heap.get? c=some o->h'.get? c=some o)->Q none { s with heap:=h',toks:=tk }):wpAny (model prog w) A (pyNext (.ref z)) Q E s:=by
 have ht:s.TypeIs (.ref z) "zip":=⟨_,hz,rfl⟩
 unfold pyNext;refine QE (wpAny_attempt (qY (name:=QA "__next__") ht wj (wX wj ht QAz
  (nY ah D hz pI pO p1 p2 q1 q2 en fun h' e tk hk he=>?_) (QAp _))))
 obtain⟨o,ho,hc⟩:=he;exact QE (wpAny_isInstance (T:="StopIteration") (b:=true) ⟨o,ho,hc⟩ isSubtype_stop (QT (q _ _ hk)))
end
noncomputable abbrev Ag(h:Heap)(z1:Src):Heap:=h.push z1.it
noncomputable abbrev Bl(h:Heap)(z1 z2:Src):Heap:=(Ag h z1).push z2.it
noncomputable abbrev Ul(h:Heap)(z1 z2:Src):Heap:=(Bl h z1 z2).push { cls:=.type "tuple",data:=.seq #[.ref h.objs.size,.ref (Ag h z1).objs.size] }
noncomputable abbrev Xl(h:Heap)(z1 z2:Src):Heap:=(Ul h z1 z2).push { cls:=.type "tuple",data:=.seq #[.none,.none] }
noncomputable abbrev Og(h:Heap)(z1 z2:Src):Heap:=(Xl h z1 z2).push { cls:=.type "zip",data:=.fields #[.none,.bool false,.bool false,.ref (Bl h z1 z2).objs.size,.ref (Ul h z1 z2).objs.size] }
theorem UA.push{h:Heap}{z:Src}{xs:Array Value}(x:UA h z xs)(o:Obj):UA (h.push o) z xs:=by
 cases z with
 |l a=>exact Heap.IsList.push x o
 |t a=>exact Heap.IsTuple.push x o
 |s y t=>exact x
theorem mY(z1 z2:Src)(xs ys:Array Value):Meets (Builtin.«zip.__new__» ⟨[.type "zip",z1.val,z2.val],[]⟩) (fun _ R s=>UA s.heap z1 xs/\UA s.heap z2 ys /\
   R (.ok (.ret (.ref (Xl s.heap z1 z2).objs.size))) { s with heap:=Og s.heap z1 z2 }) :=
 .of_wp fun prog w A R s h=>by obtain⟨hp,g,d,tk,os⟩:=s;obtain⟨q1,q2,h⟩:=h;have hsub:=sub_zip;have hL1:UA (Shared.heap ⟨hp,g,d,tk,os⟩) z1 xs:=q1;have hL2:UA (Shared.heap ⟨hp.push z1.it,g,d,tk,os⟩) z2 ys:=UA.push q2 _;wp_walk using rQ hL1,rQ hL2;exact⟨_,rfl,h⟩
section
variable{X:Cx}{pins:ZB}{σ:St}{H:Hp}{s:Shared}{h':Heap}
theorem _root_.L2.Inv.turnedL{t':Nat}{ch:List Addr}(I:Inv X pins σ H s)(k:∀b o,b∉ch->s.heap.get? b=some o->h'.get? b=some o)(f:∀b∈ch,uK X pins H b):Inv X pins σ H { s with heap:=h',toks:=t' }:=by
 have away:∀b u,H b=some u->b∉ch:=fun b u e z=>by rw[(f b z).1]at e;cases e
 have hL:X.env.locals∉ch:=fun z=>(f _ z).2.1 rfl;refine I.step (g':=s.gens) (d':=s.drawn) (ch:=ch) (fun b hb=>?_) (fun b o _ _ hc e _=>k b o hc e) (fun b o _ _ hc e _=>⟨o.slots,k b o hc e⟩) (fun _ _ _ _ n=>n)
  (fun b o hc e=>⟨o,k b o hc e⟩) (fun _ _ e=>e) (fun _ _ _ e=>e) (fun b ps e=>⟨#[],by rw[e];simp⟩) (fun m hm=>?_) (fun b u e=>?_) I.bare
 obtain⟨_,f1,_,f3,f4,f5⟩:=f b hb;exact⟨f3,f1,f4,f5⟩;obtain⟨o,es,ep,ho,r⟩:=hm;exact⟨o,es,ep,k _ o hL ho,r⟩;refine(I.hok b u e).stay (fun c v hc q=>k c v ?_ q) (fun _ q=>q) fun _ _ q=>q;rcases hc with z|z;rw[z];exact away b u e;exact away c _ z
noncomputable def fQ(K:QC)(H:Hp):Src->List V->Prop
 | .l a,xs=>ID K H a xs
 | .t a,xs=>LE K H a xs
 | .s x _,xs=>x.cps.all (· < 128)=true/\xs=x.cps.toList.map fun c=>.str ⟨#[c]⟩
noncomputable def Src.v:Src->V
 | .l a=>.ref a
 | .t a=>.ref a
 | .s x _=>.str x
theorem f9{z:Src}{u:Value}(r:sA z.v u):∃z':Src,z'.val=u/\∀K H xs,fQ K H z' xs=fQ K H z xs:=by
 cases z with
 |l a=>cases r;exact⟨.l a,rfl,fun _ _ _=>rfl⟩
 |t a=>cases r;exact⟨.t a,rfl,fun _ _ _=>rfl⟩
 |s x t=>obtain⟨t',rfl⟩:=r;exact⟨.s x t',rfl,fun _ _ _=>rfl⟩
theorem kZ{x:V}{u u':Value}(r:sA x u)(l:Lk u u'):sA x u':=by
 rcases l with rfl|⟨z,t,t',rfl,rfl⟩
 exact r;cases x with
 |str y=>obtain⟨_,e⟩:=r;cases e;exact⟨_,rfl⟩
 |int i=>obtain⟨_,e⟩:=r;cases e
 |byt i=>obtain⟨_,e⟩:=r;cases e
 |flt i=>obtain⟨_,e⟩:=r;cases e
 |_=>cases r
theorem HU:∀cs:List Nat,pA (cs.map fun c=>V.str ⟨#[c]⟩) (cs.map fun c=>Value.str ⟨#[c]⟩ 0)
 |[]=>.nil
 |_::cs=>.cons ⟨_,rfl⟩ (HU cs)
theorem _root_.L2.Inv.src(I:Inv X pins σ H s){z:Src}{xs:List V}(h:fQ X.K H z xs):∃its:List Value,pA xs its/\UA s.heap z its.toArray:=by
 cases z with
 |l a=>obtain⟨its,rv,p,hz⟩:=I.list h;exact⟨its,rv,p.isList⟩
 |t a=>obtain⟨its,rv,p,hz⟩:=I.tuple h;exact⟨its,rv,p⟩
 |s x t=>obtain⟨ha,rfl⟩:=h;exact⟨_,HU x.cps.toList,ha,by rw[jV,<- List.map_toArray,Array.toArray_toList]⟩
theorem _root_.L2.Inv.src_inj(I:Inv X pins σ H s){z:Src}{xs ys:List V}(h:fQ X.K H z xs)(h':fQ X.K H z ys):xs=ys:=by
 cases z with
 |l a=>exact I.list_inj h h'
 |t a=>exact I.tuple_inj h h'
 |s x t=>exact h.2.trans h'.2.symm
theorem _root_.L2.Inv.pair{p:Addr}{a b:Value}{x y:V}{t':Nat}(I:Inv X pins σ H s)(k:∀b u,s.heap.get? b=some u->h'.get? b=some u)(hp:s.heap.objs.size<=p)(ho:h'.get? p=some { cls:=.type "tuple",data:=.seq #[a,b] })(ra:sA x a)(rb:sA y b) :
  Inv X pins σ (FA H p (.tup [x,y])) { s with heap:=h',toks:=t' } :=
 I.laid k hp ⟨by rw[QX];show 2<=_;decide,[a,b],.cons ra (.cons rb .nil),_,ho,rfl,_,rfl⟩
end
noncomputable def To(K:QC)(z1 z2:Src):It :=
  ⟨fun i H=>∃xs ys x y,fQ K H z1 xs/\fQ K H z2 ys/\xs[i]?=some x/\ys[i]?=some y,
   fun i H v H'=>∃p x y,H p=none/\v=.ref p/\H'=FA H p (.tup [x,y])/\∀xs ys,fQ K H z1 xs->fQ K H z2 ys->xs[i]?=some x/\ys[i]?=some y,
   fun i H=>∃xs ys,fQ K H z1 xs/\fQ K H z2 ys/\(xs.length<=i∨ys.length<=i)⟩
def cS(z TI TO i1 i2:Addr)(z1 z2:Src)(f0:Value)(i:Nat)(h:Heap):Prop:=IsZip h z TI TO f0/\IsPair h TI (.ref i1) (.ref i2)/\(∃a b,IsPair h TO a b)/\NA h i1 z1 i/\NA h i2 z2 i
theorem cS.keep{z TI TO i1 i2:Addr}{z1 z2:Src}{f0:Value}{i:Nat}{h h':Heap}(st:cS z TI TO i1 i2 z1 z2 f0 i h)(k:∀b∈[z,TI,TO,i1,i2],∀o,h.get? b=some o->h'.get? b=some o):cS z TI TO i1 i2 z1 z2 f0 i h':=by obtain⟨a1,a2,⟨u,v,a3⟩,a4,a5⟩:=st;exact⟨k z (by simp) _ a1,k TI (by simp) _ a2,⟨u,v,k TO (by simp) _ a3⟩,a4.keep fun o e=>k i1 (by simp) o e,a5.keep fun o e=>k i2 (by simp) o e⟩
theorem YY{P:Program}{w:World}{K:QC}{es:List Expr}{kk:Nat}{pp:Pos}{z TI TO i1 i2:Addr}{z1 z2:Src}(D:ZipApart z TI TO i1 i2 z1.adr z2.adr) :
  Turn P w K (.Tuple es kk pp) (To K z1 z2) [z,TI,TO,i1,i2] z (cS z TI TO i1 i2 z1 z2 .none) where
 mem:=by simp
 obj:=fun i h st b hb=>by obtain⟨a1,a2,⟨u,v,a3⟩,a4,a5⟩:=st;simp only[QL,qN,or_false]at hb;rcases hb with rfl|rfl|rfl|rfl|rfl;exact⟨_,a1,fun v q=>by cases(show Data.fields _=Data.cell v from q)⟩;exact⟨_,a2,fun v q=>by cases(show Data.seq _ _=Data.cell v from q)⟩;exact⟨_,a3,fun v q=>by cases(show Data.seq _ _=Data.cell v from q)⟩;exact a4.obj;exact a5.obj
 keep:=fun i h h' st k=>st.keep k
 item:=by
  intro X hP hw hK hc i pins s σ H E I hf st hg;subst hP hw hK;obtain⟨xs,ys,x,y,h1,h2,ex,ey⟩:=hg;obtain⟨its,rv,sh1⟩:=I.src h1;obtain⟨jts,rw',sh2⟩:=I.src h2;obtain⟨u,hu,ru⟩:=rv.get ex;obtain⟨v,hv,rvv⟩:=rw'.get ey;obtain⟨a1,a2,⟨c,d,a3⟩,a4,a5⟩:=st;refine oW D a1 a2 a3 a4 a5 sh1 sh2 (x:=u) (y:=v) (by simpa using hu) (by simpa using hv) fun h' u' v' tk lu lv b1 b2 b3 b4 b5 b6 b7=>?_;replace ru:=kZ ru lu;replace rvv:=kZ rvv lv;refine⟨_,rfl,wpAny_letOwnedTupleGo_zip b1 fun h'' c1 sb=>?_⟩;have kept:∀b o,b∉[z,TI,TO,i1,i2]->s.heap.get? b=some o->h''.get? b=some o:=fun b o hb e=>by simp only[QL,qN,or_false,not_or]at hb;exact(sb.2 b hb.1).trans (b7 b o hb.1 hb.2.2.1 hb.2.2.2.1 hb.2.2.2.2 e)
  have hp:=I.hok.fresh (Qa s.heap.objs.size);have zlt:z<s.heap.objs.size:=QO a1;have pairAt:h''.get? s.heap.objs.size=some { cls:=.type "tuple",data:=.seq #[u',v'] }:=(sb.2 _ (Wf zlt)).trans b5;have old:∀b∈[z,TI,TO,i1,i2],b<s.heap.objs.size:=fun b hb=>by simp only[QL,qN,or_false]at hb;rcases hb with rfl|rfl|rfl|rfl|rfl;exact zlt;exact QO a2;exact QO a3;exact a4.lt;exact a5.lt
  have I1:=I.pair (h':=s.heap.push { cls:=.type "tuple",data:=.seq #[u',v'] }) (t':=s.toks) (fun b o e=>QF _ e) (Qa _) (QY _ rfl) ru rvv;have I2:=I1.turnedL (h':=h'') (t':=tk) (ch:=[z,TI,TO,i1,i2]) (fun b o hb e=>by
   rcases QBI e with⟨q1,q2⟩| q;subst q1 q2;exact pairAt;exact kept b o hb q) fun b hb=>by
   obtain⟨f0,f1,f2,f3,f4,f5⟩:=hf b hb;exact⟨by rw[vA (Qx (old b hb))];exact f0,f1,f2,f3,f4,f5⟩
  refine⟨.ref s.heap.objs.size,_,I2,rfl,⟨s.heap.objs.size,x,y,hp,rfl,rfl,fun xs' ys' g1 g2=>?_⟩,⟨c1,?_,⟨_,_,(sb.2 _ D.TOz).trans b2⟩,b3.keep fun o e=>(sb.2 _ D.i1z).trans e,b4.keep fun o e=>(sb.2 _ D.i2z).trans e⟩,fun b hb=>?_⟩;rw[I.src_inj g1 h1,I.src_inj g2 h2];exact⟨ex,ey⟩;exact(sb.2 _ D.TIz).trans (b7 _ _ D.TIz D.TITO D.TIi1 D.TIi2 a2);rw[vA (Qx (old b hb))];exact(hf b hb).1
 done:=by
  intro X hP hw hK hc i pins s σ H E I hf st hg;subst hP hw hK;obtain⟨xs,ys,h1,h2,en⟩:=hg;obtain⟨its,rv,sh1⟩:=I.src h1;obtain⟨jts,rw',sh2⟩:=I.src h2;obtain⟨a1,a2,⟨c,d,a3⟩,a4,a5⟩:=st;have l1:=rv.length;have l2:=rw'.length;have en':its.toArray[i]?=none∨jts.toArray[i]?=none:=by rcases en with q|q;exact .inl (by simp;omega);exact .inr (by simp;omega)
  refine rW (I.ok.hd hc) D a1 a2 a3 a4 a5 sh1 sh2 en' fun h' tk kp=>⟨rfl,I.turnedL (t':=tk) (ch:=[z,TI,TO,i1,i2]) (fun b o hb e=>?_) hf⟩
  simp only[QL,qN,or_false,not_or]at hb;exact kp b o hb.1 hb.2.2.1 hb.2.2.2.1 hb.2.2.2.2 e
 self:=fun _ _ _ _ _ st h=>QCR st.1 h
section
variable{prog:Program}{w:World}{A:Around}{E:NB}{s:Shared}
theorem vY{z1 z2:Src}{xs ys:Array Value}{Q:NB}(q1:UA s.heap z1 xs)(q2:UA s.heap z2 ys)
  (h:∀h',cS (s.heap.objs.size+4) (s.heap.objs.size+2) (s.heap.objs.size+3) s.heap.objs.size (s.heap.objs.size+1) z1 z2 .none 0 h'->(∀c o,s.heap.get? c=some o->h'.get? c=some o)->Q (.ref (s.heap.objs.size+4)) { s with heap:=h' }) :
  wpAny (model prog w) A (call (.type "zip") [z1.val,z2.val]) Q E s:=by
 refine callType_new PySem.F.called_zip (by decide) (PySem.F.typeCall_zip_2 _ _) (PySem.F.newCall_zip_2 _ _) (fun obj=>PySem.F.args_object_init_3 obj _ _) PySem.F.entry_zip_new (mY z1 z2 xs ys) ⟨q1,q2,?_⟩;have s1:(Ag s.heap z1).objs.size=s.heap.objs.size+1:=qV ..;have s2:(Bl s.heap z1 z2).objs.size=s.heap.objs.size+2:=by rw[qV,s1]
 have s3:(Ul s.heap z1 z2).objs.size=s.heap.objs.size+3:=by rw[qV,s2]
 have s4:(Xl s.heap z1 z2).objs.size=s.heap.objs.size+4:=by rw[qV,s3]
 have g5:(Og s.heap z1 z2).get? (Xl s.heap z1 z2).objs.size=some _:=QY _ rfl;have g4:(Og s.heap z1 z2).get? (Ul s.heap z1 z2).objs.size=some _:=QF _ (QY _ rfl);have g3:(Og s.heap z1 z2).get? (Bl s.heap z1 z2).objs.size=some _:=QF _ (QF _ (QY _ rfl));have g2:NA (Og s.heap z1 z2) (Ag s.heap z1).objs.size z2 0:=(EU (Ag s.heap z1) z2).keep fun o e=>QF _ (QF _ (QF _ e));have g1:NA (Og s.heap z1 z2) s.heap.objs.size z1 0:=(EU s.heap z1).keep fun o e=>QF _ (QF _ (QF _ (QF _ e)));show _/\_;rw[s2,s3,s4]at g5;rw[s1,s2]at g3;rw[s3]at g4;rw[s1]at g2;rw[s4];exact⟨⟨_,g5,rfl⟩,h _ ⟨g5,g3,⟨_,_,g4⟩,g1,g2⟩ fun c o x=>QF _ (QF _ (QF _ (QF _ (QF _ x))))⟩
end
section
variable{prog:Program}{w:World}{A:Around}{E:NB}{s:Shared}
end
section
variable{prog:Program}{w:World}{A:Around}{E:NB}{s:Shared}
end
theorem Mp{a b:Nat}(h:a≠b):((a:Addr)≠(b:Addr)):=h
theorem mQ{n l1 l2:Nat}(h1:l1<n)(h2:l2<n):ZipApart ((n+4:Nat):Addr) ((n+2:Nat):Addr) ((n+3:Nat):Addr) (n:Addr) ((n+1:Nat):Addr) (l1:Addr) (l2:Addr):=by constructor<;>(apply Mp;omega)
def y9(P:Program)(w:World)(K:QC)(a:Addr)(kvs:List (Str×V)):Prop :=
 (a==sysModules)=false/\∃us:List (Str×Value),KV kvs us/\∀h:Heap,K.In h->h.DictOf (Wv P w) a us
theorem XV{kvs:List (Str×V)}{us:List (Str×Value)}(r:KV kvs us)(x:Str):YI (kvs.lookup x) (valueAt us x):=by
 unfold KV at r;induction r with
 |nil=>exact True.intro
 |@cons p q ps qs h t ih =>
  obtain⟨h1,h2⟩:=h;obtain⟨p1,p2⟩:=p;obtain⟨q1,q2⟩:=q;have h1:p1=q1:=h1;subst h1;by_cases e:p1=x;subst e;have l:valueAt ((p1,q2)::qs) p1=some q2:=by simp[valueAt]
  have m:qO p1 ((p1,p2)::ps)=some p2:=by simp
  rw[l,m];exact h2;have l:valueAt ((p1,q2)::qs) x=valueAt qs x:=by simp[valueAt,e]
  have e':(x==p1)=false:=by simpa using fun z=>e z.symm
  have m:qO x ((p1,p2)::ps)=qO x ps:=by rw[Qe,e']
  rw[l,m];exact ih
theorem ye{o:Option V}{u:Option Value}(r:YI o u):sA (o.getD .non) (u.getD .none):=by
 cases o with
 |none=>cases u with
  |none=>rfl
  |some _=>exact(show False from r).elim
 |some _=>cases u with
  |none=>exact(show False from r).elim
  |some _=>exact r
section
variable{X:Cx}{a:Addr}{kvs:List (Str×V)}
theorem O1(D:y9 X.prog X.w X.K a kvs):x5 X (fun x y H Q=>∃z v,x=.ref a/\y=.str z/\kvs.lookup z=some v/\Q v H):=by
 intro value slice pins s σ H x y v u Q I rx ry h hs;obtain⟨z,r,rfl,rfl,l,q⟩:=h;cases rx;obtain⟨t,rfl⟩:=ry;obtain⟨hd,us,rel,dd⟩:=D;have dd:=dd _ I.kIn;have rl:=XV rel z;rw[l]at rl;cases eu:valueAt us z with
 |none=>rw[eu]at rl;exact(show False from rl).elim
 |some w' =>
  rw[eu]at rl;exact WW (x:=w') dd.typeIs QAM.lookup
   (QCL (Q:=fun r s'=>r=w'/\EP X pins σ Q r s') (strKind_is X.prog X.w z t) dd.mapOf eu ⟨rfl,r,H,I.tok _,rl,q⟩) hs
theorem z7{o e:Expr}{ty:TE}{apos cpos:Pos}(D:y9 X.prog X.w X.K a kvs)(ho:PE X o fun _ H Q=>Q (.ref a) H)(he:PE X e ty)
  (hbase:attributeBase o "get" X.env (eval o X.env)=eval o X.env)
  (hfew:((backTo cpos (starEach [e] X.env)).all (fun x=>!x.1)&&(backToKw cpos (keywordEach [] X.env)).all (fun x=>x.1.isSome)
   && decide (([e]:List Expr).length+([]:List Keyword).length+(if([]:List Keyword).isEmpty then 0 else 1)<30))=true)
  (hline:(apos.endLine==cpos.line)=true) (hs:starEach [e] X.env=[(false,eval e X.env)]) :
  PE X (.Call (.Attribute o "get" apos) [e] [] cpos) (fun σ H Q=>ty σ H fun y H1=>∃z,y=.str z/\Q ((kvs.lookup z).getD .non) H1):=by
 intro pins s σ H Q I h;refine QAy hbase hfew hline rfl (EA (ho pins s σ H (fun x H1=>x=.ref a/\ty σ H1 fun y H2=>∃z,y=.str z/\Q ((kvs.lookup z).getD .non) H2) I ⟨rfl,h⟩) fun v s1 ⟨x,H1,I1,r1,ex,q1⟩=>?_);subst ex;obtain rfl:v=Value.ref a:=r1;obtain⟨hd,us,rel,dd0⟩:=D;have d1:=dd0 _ I1.kIn;refine⟨"dict",_,PySem.F.plainAttrs_dict,QA8,PySem.F.type_dict_get,d1.typeIs,fun b q=>?_,?_⟩;cases q;obtain⟨ob,_,_,g1,g2,_⟩:=d1;exact⟨ob,g1,g2.2.1⟩;rw[hs];refine WX rfl (QBH (QBh (EA (he pins s1 σ H1 _ I1 q1) fun iv s2 ⟨y,H2,I2,ry,z,ey,q2⟩=>QBu ?_)));subst ey;obtain⟨t,rfl⟩:=ry;have d2:=dd0 _ I2.kIn;refine call_meetsIn QA8 d2.typeIs PySem.F.entry_dict_get (PySem.F.args_dict_get_2 _ _) (meets_dict_get (Wv X.prog X.w) a (strKind_is X.prog X.w z t) hd) ⟨_,d2.mapOf,_,H2,I2.tok _,?_,q2⟩;exact ye (XV rel z)
end
theorem BT:fillsNumberSlot (.type "tuple") "mul"=pure false :=
 PySem.fillsNumberSlot_seq (id:="tuple.__mul__") (r:=some (.builtin "tuple.__rmul__")) Wn.lookup (by decide +kernel) QB3.lookup (by decide +kernel)
theorem r6:seqRepeat? (.type "tuple")=pure (some (.builtin "tuple.__mul__")):=by unfold seqRepeat?;rw[QCS (T:="tuple") (name:="__mul__") (id:="tuple.__mul__") Wn.lookup (by decide +kernel),QCS (T:="tuple") (name:="__rmul__") (id:="tuple.__rmul__") QB3.lookup (by decide +kernel)];rfl
theorem d8(i:Int)(t:Tok)(l:Addr)(o:Obj)(items:Array Value)(n:Nat)(hc:o.cls=.type "tuple")(hd:o.data=.seq items n) :
  Meets (Builtin.«int.__rmul__» ⟨[.int i t,.ref l],[]⟩) (fun _ R s=>s.heap.get? l=some o/\R (.ok (.ret Value.notImplemented)) s) :=
 .of_wp fun prog w A R s h=>by obtain⟨hp,g,d,tk,os⟩:=s;obtain⟨hl,h⟩:=h;obtain⟨cl,od,dt,sl⟩:=o;simp only at hc hd;subst hc hd;wp_walk;exact⟨_,rfl,h⟩
theorem ud(l:Addr)(o:Obj)(items:Array Value)(n:Nat)(t:Tok)(hc:o.cls=.type "tuple")(hd:o.data=.seq items n) :
  Meets (Builtin.«tuple.__mul__» ⟨[.ref l,.int 1 t],[]⟩) (fun _ R s=>s.heap.get? l=some o/\R (.ok (.ret (.ref l))) s) :=
 .of_wp fun prog w A R s h=>by obtain⟨hp,g,d,tk,os⟩:=s;obtain⟨hl,h⟩:=h;obtain⟨cl,od,dt,sl⟩:=o;simp only at hc hd;subst hc hd;wp_walk;exact⟨_,rfl,h⟩
theorem vd(l:Addr)(o:Obj)(items:Array Value)(n:Nat)(k:Int)(t:Tok)(hc:o.cls=.type "tuple")(hd:o.data=.seq items n)(h0:items.isEmpty=false)(h1:2<=k)(h2:k<2 ^ 31)(h3:items.size * k.toNat<=sizeLine)(h4:(W0 (fun x1 x2=>x1++x2) #[] (QI k.toNat items)).size<=sizeLine) :
  Meets (Builtin.«tuple.__mul__» ⟨[.ref l,.int k t],[]⟩) (fun _ R s=>s.heap.get? l=some o/\R (.ok (.ret (.ref s.heap.objs.size))) { s with heap:=s.heap.push { cls:=Value.type "tuple",data:=Data.seq (W0 (fun x1 x2=>x1++x2) #[] (QI k.toNat items)) },toks:=s.toks }) :=
 .of_wp fun prog w A R s h=>by
  obtain⟨hp,g,d,tk,os⟩:=s;obtain⟨hl,h⟩:=h;obtain⟨cl,od,dt,sl⟩:=o;simp only at hc hd;subst hc hd;have e1:decide (k < -(2 ^ 63:Int))=false:=dF (by omega);have e2:decide (k ≥ 2 ^ 63)=false:=dF (by omega);have e3:(k==1)=false:=by simp;omega
  have e4:decide (k<=0)=false:=dF (by omega);have e:((items.size * k.toNat:Nat):Int)=(items.size:Int) * k:=by rw[QCg,QBS (by omega)]
  have hz:sizeLine=16777216:=QX;have c4:¬ ((items.size:Int) * k > (2 ^ 63 - 1) / 8):=by omega
  have c5:¬ wx ((items.size:Int) * k)=true:=by
   have e6:wx ((items.size:Int) * k)=false:=by unfold wx;exact dF (by omega)
   rw[e6];exact QD
  have c1:¬ (decide (k < -2 ^ 63)||decide (k ≥ 2 ^ 63))=true:=by rw[e1,e2];exact QD
  have c2:¬ (items.isEmpty||k==1)=true:=by rw[h0,e3];exact QD
  have c3:¬ (decide (k<=0)||items.isEmpty)=true:=by rw[h0,e4];exact QD
  have c6:=QBz.mpr h4;clear e1 e2 e3 e4 h0 h1 h2 h3 h4 e hz;wp_walk;rw[if_neg c1];wp_walk;rw[if_neg c4];wp_walk;exact⟨_,rfl,h⟩
section
variable{X:Cx}
noncomputable def Y9(K:QC):R2:=fun x y H Q=>match x,y with
 | .ref a,.int k=>∃xs,LE K H a xs/\xs≠[]/\(1<=k/\k<2 ^ 31/\xs.length * k.toNat<=sizeLine)/\(k=1->Q (.ref a) H)/\(k≠1->∀p,H p=none->Q (.ref p) (FA H p (.tup (QI k.toNat xs).flatten)))
 |_,_=>False
theorem f7:cE X (binaryOp .Mult) (Y9 X.K):=by
 intro pins s σ H x y v u Q I rx ry h;cases x with
 |ref a =>
  cases y with
  |int k =>
   obtain⟨xs,hq,hn,⟨h1,h2,h3⟩,q1,q2⟩:=h;cases rx;obtain⟨t,rfl⟩:=ry;obtain⟨its,r,⟨o,ho,hc,n,hd⟩,hz⟩:=I.tuple hq;have hl:=r.length;have go:∀{Q':NB},wpAny (model X.prog X.w) X.A (call (.builtin "tuple.__mul__") [.ref a,.int k t]) Q' X.xe s->wpAny (model X.prog X.w) X.A (binaryOp .Mult (.ref a) (.int k t)) Q' X.xe s:=fun {Q'} hh =>
    QAO (T:="tuple") (U:="int") (by decide) ⟨_,ho,hc⟩ (fun s'=>QBF s' k t) BT QCf W8 r6 QCO.lookup
     (wr W8 (QBF s k t) QCP (QB1 _ _) (d8 k t a o its.toArray n hc hd) ⟨ho,rfl,⟨_,ho,hc⟩,hh⟩)
   refine go ?_;by_cases hk:k=1;subst hk;exact wr Wn ⟨_,ho,hc⟩ QB4 (QBn _ _) (ud a o its.toArray n t hc hd) ⟨ho,.ref a,H,I,rfl,q1 rfl⟩;have hnew:W0 (fun x1 x2=>x1++x2) #[] (QI k.toNat its.toArray)=(QI k.toNat its).flatten.toArray:=by have:=AJ its k.toNat [];rw[Qz]at this;exact this
   have hne:its.toArray.isEmpty=false:=by
    cases its with
    |nil=>cases xs with
     |nil=>exact absurd rfl hn
     |cons _ _=>simp at hl
    |cons _ _=>rfl
   have hsz:(QI k.toNat its).flatten.length<=sizeLine:=by rw[MK,QCH,<- hl];exact h3
   refine wr Wn ⟨_,ho,hc⟩ QB4 (QBn _ _) (vd a o its.toArray n k t hc hd hne (by omega) h2 (by rw[QM,<- hl];exact h3) (by rw[hnew,QM];exact hsz)) ⟨ho,?_⟩;rw[hnew];refine⟨.ref s.heap.objs.size,_,I.laid (t':=s.toks) (o:=.tup (QI k.toNat xs).flatten) (fun _ _ q=>QF _ q) (Qa _) ?_,rfl,q2 hk _ I.fresh⟩;exact⟨by rw[MK,QCH];exact h3,_,r.rep k.toNat,QCr _ _⟩
  |_=>exact QR h
 |_=>exact QR h
end
noncomputable def ke(K:QC):List V->Hp->VK->Prop:=fun vs H Q=>Y6 K vs H Q∨∃a C dx c b,vs=[.ref a,c]/\H a=some (.ext (KH C a dx))/\(∃fs,H dx=some (.xd fs))/\ExK K (wOf K) C (iOf K) /\
 ((∃D,c=.ref D/\ExK K (wOf K) D (iOf K)/\b=decide (D=C∨D=wOf K))∨∃n,c=.ty n/\QCj n=true/\b=cN.contains (.type n))/\Q (.bl b) H
section
variable{X:Cx}{pins:ZB}{σ:St}{H:Hp}{s:Shared}{a C dx:Addr}
theorem KR{h:Heap}{fs:List (Str×V)}(ok:UH X.prog X.w H h)(h1:H a=some (.ext (KH C a dx)))(h2:H dx=some (.xd fs)):∃(ox od:Obj) (mA:Str->Option Value),PySem.W.InstAt h a ox C (some od)/\(∀n,QAL n od=some (mA n))/\∀f,YI (fs.lookup f) (mA f):=by
 obtain⟨vs,ho⟩:=(show DA X.prog X.w H h a (.ext (KH C a dx)) from ok a _ h1).1;obtain⟨mA,n,r⟩:=(show DA X.prog X.w H h dx (.xd fs) from ok dx _ h2)
 obtain⟨od,hod,hl⟩:=jO n;exact⟨_,od,mA,⟨ho,rfl,rfl,hod⟩,hl,r⟩
theorem zS:gD X (.builtin "isinstance") (ke X.K):=by
 intro pins s σ H xs us Q I r h;rcases h with h|⟨a,C,dx,c,b,rfl,h1,⟨fs,h2⟩,Y,h3,q⟩
 exact kS pins s σ H xs us Q I r h;obtain⟨u,w',rfl,ru,rw'⟩:=MU r;cases(show u=Value.ref a from ru);obtain⟨ox,od,mA,J,_,_⟩:=KR I.hok h1 h2;have kk:∀cv,WC X.K (.ref C) cv=some b->wpAny (model X.prog X.w) X.A (call (.builtin "isinstance") [.ref a,cv]) (EP X pins σ Q) X.xe s:=fun cv hk =>
  Q6 (M1 Y) I.kIn J hk (fun z=>nomatch z) fun tk=>⟨.bl b,H,I.tok tk,rfl,q⟩
 obtain⟨nm,q0,N,bs,sn,sub,ab,col,dd,k0,k1,k2,k3,k5,hl⟩:=Y.obj;have mi:∀t:Value,Wu X.K C t=some ((Value.ref C::gE (wOf X.K) C).contains t):=fun t=>by unfold Wu Ww;rw[hl];show(if(Value.ref C::gE (wOf X.K) C).isEmpty=true then none else some _)=_;rw[if_neg (by simp)]
 rcases h3 with⟨D,rfl,Z,rfl⟩| ⟨n,rfl,hn,rfl⟩
 cases(show w'=Value.ref D from rw');refine kk _ ?_;unfold WC;by_cases e:C=D;subst e;rw[if_pos (by simp)];rw[dT (.inl rfl)];rw[if_neg (by simpa using e)];obtain⟨nm',q0',N',bs',sn',sub',ab',col',dd',k0',k1',k2',k3',k5',hl'⟩:=Z.obj;show(if((Ww X.K D).isSome&&QBK X.K (.ref D)==some (.type "type"))=true then Wu X.K C (.ref D) else none)=_;have t2:QBK X.K (.ref D)=some (.type "type"):=by show(X.K.lookup D).map (·.cls)=_;rw[hl'];rfl
 have t1:(Ww X.K D).isSome=true:=by unfold Ww;rw[hl'];rfl
 rw[t1,t2,if_pos (by decide)];rw[mi];congr 1;unfold gE cN;by_cases e2:C=wOf X.K;rw[if_pos e2];simp[qr,e2];rw[if_neg e2];simp[qr];cases(show w'=Value.type n from rw');refine kk _ ?_;unfold WC;rw[if_neg (by simp)];show(if QCj n=true then Wu X.K C (.type n) else none)=_;rw[if_pos hn,mi,rG rfl]
noncomputable def ki(K:QC):List V->Hp->VK->Prop:=fun vs H Q=>∃a C dx p,vs=[.ref a]/\H a=some (.ext (KH C a dx))/\H dx=some (.xd (OI p))/\ExK K (wOf K) C (iOf K)/\Q (.int p) H
theorem Xe{e:Expr}{te:TE}{pos:Pos}(he:PE X e te)(hb:attributeBase e "place" X.env (eval e X.env)=eval e X.env):PE X (.Attribute e "place" pos) (fun σ H Q=>te σ H fun v H1=>ki X.K [v] H1 Q):=by
 intro pins s σ H Q I h;refine R8 hb (EA (he pins s σ H _ I h) fun u s1 ⟨x,H1,I1,rx,a,C,dx,p,ex,h1,h2,Y,q⟩=>?_);obtain rfl:x=.ref a:=(QAq ex).1;obtain rfl:u=Value.ref a:=rx;obtain⟨ox,od,mA,J,hl,r⟩:=KR I1.hok h1 h2;obtain⟨u,hu,ru⟩:=YI.some_of (v:=.int p) (o:=mA "place") (r "place");obtain⟨hh,gg,dd,tt,oo⟩:=s1;have hd:QAT X.K C=true:=by obtain⟨nm,q0,N,bs,sn,sub,ab,col,dd,k0,k1,k2,k3,k5,hl⟩:=Y.obj;unfold QAT Ww;rw[hl];rfl
 unfold getAttr;refine QE (wpAny_mkText ?_);exact MX I1.kIn Y J (PySem.W.findObj_own hd Y.pl rfl (by rw[hl,hu])) (UX ru) ⟨.int p,H1,I1.tok _,ru,q⟩
end
inductive Bi where
 |len|all|int|str|max|list
 deriving DecidableEq
inductive Mt where
 |split|rstrip|insert|find|pop
 deriving DecidableEq
inductive Prm where
 |dget (x:Str)|dix (x:Str)|tmul|plc|isC|isT (x:Str) (m:String)|din (neg:Bool)|dgt|ngt
 deriving DecidableEq
inductive ItK where
 |val|rng1|rng3|zip2
 deriving DecidableEq
inductive Tg where
 |nm (i:Nat)|tp (is:List Nat)
 deriving DecidableEq
set_option genSizeOf false in
set_option genInjectivity false in
inductive PX where
 |var (i:Nat)|int (i:Int)|str (x:Str)|bl (b:Bool)|non
 |glo (x:Str)|bty (x:Str) (n:String)
 |bin (op:Operator) (a b:PX)
 |cmp (op:CmpOp) (a b:PX)|chn (o p:CmpOp) (a b c:PX)
 |and (a b:PX)|or (a b:PX)|not (a:PX)|ife (c a b:PX)
 |call (f:Str) (as:PX)
 |bi (f:Bi) (as:PX)|isi (a c:PX)|prm (o:Prm) (as:PX)
 |mt (m:Mt) (o as:PX)
 |idx (a b:PX)|slc (a lo hi:PX)|nop
 |lst (as:PX)|tup (as:PX)
 |comp (mask:List Bool) (tgs:List Str) (tg:Tg) (ik:ItK) (its cond elt:PX)
 |nr|nq (a as:PX)|dsp (ks:List Str) (vs:PX)
structure Ev where
 sp:Str->Sp
 va:Str->V
 dc:Str->Option (List (Str×V))
structure W3 where
 e:TE
 t:TT
 a:TA
noncomputable def never:W3:=⟨fun _ _ _=>False,fun _ _ _=>False,fun _ _ _=>False⟩
def fE(K:QC)(x:V)(H:Hp)(Q:Bool->Hp->Prop):Prop:=match x with
 | .bl b=>Q b H
 | .int i=>Q (i != 0) H
 | .non=>Q false H
 | .str z=>z.length<=sizeLine/\Q ((z.length:Int) != 0) H
 |x=>∃k,Fg K x H k/\Q k H
def lQ(x:V)(H:Hp)(Q:Bool->Hp->Prop):Prop:=match x with
 | .bl b=>Q b H
 |_=>False
noncomputable def O8(K:QC):Operator->R2
 | .Add=>ai K
 | .Sub=>Ah
 | .Mult=>vi K
 | .FloorDiv=>X9
 | .Mod=>xi
 | .Pow=>zi
 |_=>fun _ _ _ _=>False
noncomputable def CV(neg:Bool):R2:=fun x y H Q=>match y with
 | .non=>Q (.bl (if neg then !decide (x=.non) else decide (x=.non))) H
 |_=>False
noncomputable def XH(K:QC):CmpOp->R2
 | .Eq=>rEq K false
 | .NotEq=>rEq K true
 | .Lt=>TW fun i j=>decide (i<j)
 | .LtE=>TW fun i j=>decide (i<=j)
 | .Gt=>TW fun i j=>decide (j<i)
 | .GtE=>TW fun i j=>decide (j<=i)
 | .In=>ES K false
 | .NotIn=>ES K true
 | .Is=>CV false
 | .IsNot=>CV true
noncomputable def J6(K:QC):R2:=fun x y H Q=>match x,y with
 | .str z,.int i=>z.length<=sizeLine/\∃c,mC z.cps.toList i=some c/\Q (.str ⟨#[c]⟩) H
 | .ref a,.int i=>∃xs v,(ID K H a xs∨LE K H a xs)/\mC xs i=some v/\Q v H
 |_,_=>False
noncomputable def oi:List V->Hp->VK->Prop:=fun vs H Q=>match vs with
 |[.int i]=>Q (.int i) H
 |[.bl b]=>Q (.int (if b then 1 else 0)) H
 |[.str z]=>z.length<=640/\∃n,intText? z=some n/\Q (.int n) H
 |_=>False
noncomputable def Eh:List V->Hp->VK->Prop:=fun vs H Q=>match vs with
 |[.int i]=>i.natAbs.log2<1920/\Q (.str (toString i)) H
 |[.str z]=>Q (.str z) H
 |_=>False
noncomputable def ui(g:Bool):List V->Hp->VK->Prop:=fun vs H Q=>match vs with
 |[.int i,.int j]=>Q (.int (if g then(if j > i then j else i) else(if j<i then j else i))) H
 |_=>False
noncomputable def i6(K:QC):List V->Hp->VK->Prop:=fun vs H Q=>∃p ys,vs=[.ref p]/\(ID K H p ys∨LE K H p ys)/\∀l,H l=none->Q (.ref l) (FA H l (.lst ys))
noncomputable def Zk(K:QC):Bi->List V->Hp->VK->Prop
 | .len=>ci K
 | .all=>si K
 | .int=>oi
 | .str=>Eh
 | .max=>ui true
 | .list=>i6 K
noncomputable def fV:V->List V->Hp->VK->Prop:=fun x vs H Q=>match x,vs with
 | .str z,[]=>z.length<=sizeLine/\Q (.str (wu z)) H
 |_,_=>False
noncomputable def bG{α:Type}(xs:List α)(k:Nat)(y:α):List α:=xs.take k++y::xs.drop k
noncomputable def K9:V->List V->Hp->VK->Prop:=fun x vs H Q=>∃l i y xs,x=.ref l/\vs=[.int i,y]/\H l=some (.lst xs)/\(0<=i/\i<=xs.length)/\xs.length<sizeLine/\Q .non (FA H l (.lst (bG xs i.toNat y)))
noncomputable def V9:V->List V->Hp->VK->Prop:=fun x vs H Q=>∃z y,x=.str z/\vs=[.str y]/\Q (.int (QCY z y)) H
noncomputable def Z9:V->List V->Hp->VK->Prop:=fun x vs H Q=>∃l i xs k v,x=.ref l/\vs=[.int i]/\H l=some (.lst xs)/\vO xs.length i=some k/\xs[k]?=some v/\Q v (FA H l (.lst (xs.eraseIdx k)))
noncomputable def z8(K:QC):Mt->V->List V->Hp->VK->Prop
 | .split=>xZ
 | .rstrip=>fV
 | .insert=>K9
 | .find=>V9
 | .pop=>Z9
noncomputable def Mt.ty:Mt->String
 | .split=>"str"
 | .rstrip=>"str"
 | .insert=>"list"
 | .find=>"str"
 | .pop=>"list"
def UL(x:V)(H:Hp)(Q:Option Int->Hp->Prop):Prop:=match x with
 | .int i=>Q (some i) H
 |_=>False
noncomputable def VQ(i j k:Int):Nat:=if i<j then((j - i - 1) / k+1).toNat else 0
inductive Item where
 |one (v:V)|tup (vs:List V)
noncomputable def HD(K:QC):ItK->List V->Hp->(List Item->(Hp->Prop)->Hp->Prop)->Prop
 | .val,[.str z],H,R=>R (z.cps.toList.map fun c=>.one (.str ⟨#[c]⟩)) (fun _=>True) H
 | .val,[.ref a],H,R=>(∃xs,ID K H a xs/\R (xs.map .one) (fun H=>ID K H a xs) H)∨(∃xs,LE K H a xs/\R (xs.map .one) (fun H=>LE K H a xs) H)
 | .rng1,[.int j],H,R=>(-(2 ^ 62)<=j/\j<2 ^ 62)/\R ((qK j.toNat).map fun(i:Nat)=>.one (.int (i:Int))) (fun _=>True) H
 | .rng3,[.int i,.int j,.int k],H,R=>(-(2 ^ 62)<=i/\i<2 ^ 62/\-(2 ^ 62)<=j/\j<2 ^ 62/\0<k/\k<1000)/\R ((qK (VQ i j k)).map fun(m:Nat)=>.one (.int (i+(m:Int) * k))) (fun _=>True) H
 | .zip2,[u,v],H,R=>∃z1 z2 xs ys,Src.v z1=u/\Src.v z2=v/\fQ K H z1 xs/\fQ K H z2 ys/\R ((xs.zip ys).map fun p=>.tup [p.1,p.2]) (fun H=>fQ K H z1 xs/\fQ K H z2 ys) H
 |_,_,_,_=>False
noncomputable def bB:List Nat->List V->St->Option St
 |[],[],σ=>some σ
 |i::is,v::vs,σ=>bB is vs (σ.set i (some v))
 |_,_,_=>none
noncomputable def uF(K:QC):Tg->TG
 | .nm i=>fun v σ H Q=>Q (σ.set i (some v)) H
 | .tp is=>fun v σ H Q=>match v with
  | .ref p=>∃xs σ',LE K H p xs/\bB is xs σ=some σ'/\Q σ' H
  |_=>False
noncomputable def bindI(K:QC)(tg:Tg):Item->St->Hp->(St->Hp->Prop)->Prop
 | .one v=>uF K tg v
 | .tup vs=>fun σ H Q=>match tg with
  | .tp is=>∀H',Same H H'->∃σ',bB is vs σ=some σ'/\Q σ' H'
  | .nm i=>∀p,H p=none->Q (σ.set i (some (.ref p))) (FA H p (.tup vs))
def Aj(K:QC)(xs:List Item)(st:Hp->Prop)(bind:Item->St->Hp->(St->Hp->Prop)->Prop)(tc:TT)(te:TE)(σ:St)(H:Hp)(Q:VK):Prop :=
 ∃W:Nat->List V->Hp->Prop,W 0 [] H/\(∀i acc H,i<=xs.length->W i acc H->st H) /\
  (∀i x acc H,xs[i]?=some x->W i acc H->bind x σ H fun σ2 H2=>tc σ2 H2 fun b H3=>if b=true then te σ2 H3 fun y H4=>acc.length<sizeLine/\W (i+1) (acc++[y]) H4 else W (i+1) acc H3) /\
  ∀acc H2,W xs.length acc H2->acc.length<=sizeLine/\∀p,H2 p=none->Q (.ref p) (FA H2 p (.lst acc))
structure Yields(J:It)(xs:List Item)(st:Hp->Prop):Prop where
 go:∀i H,st H->i<xs.length->J.go i H
 yld:∀i H x H',st H->i<xs.length->J.yld i H x H'->∃it,xs[i]?=some it/\match it with
  | .one v=>x=v/\H'=H
  | .tup vs=>∃p,H p=none/\x=.ref p/\H'=FA H p (.tup vs)
 stop:∀i H,st H->xs.length<=i->J.stop i H
def Ej(J:It)(g:TG)(tc:TT)(te:TE)(σ0:St)(H1:Hp)(Q:VK):Prop:=∃W:Nat->Nat->List V->St->Hp->Prop,(∃m,W 0 m [] σ0 H1) /\
 ∀i m acc σ' H',W i m acc σ' H'->(J.stop i H'/\acc.length<=sizeLine/\∀p,H' p=none->Q (.ref p) (FA H' p (.lst acc))) ∨
  (J.go i H'/\∀x H2,J.yld i H' x H2->g x σ' H2 fun σ3 H3=>tc σ3 H3 fun b H4=>if b=true then te σ3 H4 fun y H5=>acc.length<sizeLine/\∃m',m' < m/\W (i+1) m' (acc++[y]) σ3 H5 else ∃m',m' < m/\W (i+1) m' acc σ3 H4)
def nW(K:QC)(xs:List Item)(st:Hp->Prop)(tg:Tg)(tc:TT)(te:TE)(σ0:St)(H:Hp)(Q:VK):Prop:=∀J,Yields J xs st->Ej J (uF K tg) tc te σ0 H Q
noncomputable def uZ(neg:Bool):V->V->Hp->VK->Prop:=fun x y H Q=>∃a o,y=.ref a/\xN H a x o/\Q (.bl (cond neg (!o.isSome) o.isSome)) H
noncomputable def Fm:V->V->Hp->VK->Prop:=fun x y H Q=>∃a v,x=.ref a/\xN H a y (some v)/\Q v H
noncomputable def lZ(K:QC)(Γ:Ev):Prm->List V->Hp->VK->Prop
 | .dget x,[.str z],H,Q=>∃kvs,Γ.dc x=some kvs/\Q ((kvs.lookup z).getD .non) H
 | .dix x,[.str z],H,Q=>∃kvs v,Γ.dc x=some kvs/\kvs.lookup z=some v/\Q v H
 | .tmul,[x,y],H,Q=>Y9 K x y H Q
 | .plc,[x],H,Q=>ki K [x] H Q
 | .ngt,[x],H,Q=>rU (fun i=>.int (-i)) x H Q
 | .isC,[x,y],H,Q=>ke K [x,y] H Q
 | .din neg,[x,y],H,Q=>uZ neg x y H Q
 | .dgt,[x,y],H,Q=>Fm x y H Q
 | .isT _ m,[x],H,Q=>ke K [x,.ty m] H Q
 |_,_,_,_=>False
noncomputable def isNop:PX->Bool
 | .nop=>true
 |_=>false
noncomputable def wp(K:QC)(Γ:Ev):PX->XK->W3
 | .var i,E=>let e:TE:=fun σ H Q=>match σ[i]? with
   |some (some v)=>Q v H
   |_=>False
  ⟨e,fun σ H Q=>e σ H fun x H1=>fE K x H1 Q,never.a⟩
 | .int i,E=>⟨fun _ H Q=>Q (.int i) H,fun _ H Q=>Q (i != 0) H,never.a⟩
 | .str x,E=>⟨fun _ H Q=>Q (.str x) H,never.t,never.a⟩
 | .bl b,E=>⟨fun _ H Q=>Q (.bl b) H,fun _ H Q=>Q b H,never.a⟩
 | .non,E=>⟨fun _ H Q=>Q .non H,fun _ H Q=>Q false H,never.a⟩
 | .glo x,E=>⟨fun _ H Q=>Q (Γ.va x) H,fun _ H Q=>fE K (Γ.va x) H Q,never.a⟩
 | .bty _ n,E=>⟨fun _ H Q=>Q (.ty n) H,never.t,never.a⟩
 | .bin op a b,E=>let e:TE:=fun σ H Q=>(wp K Γ a E).e σ H fun x H1=>(wp K Γ b E).e σ H1 fun y H2=>O8 K op x y H2 Q
  ⟨e,fun σ H Q=>e σ H fun x H1=>fE K x H1 Q,never.a⟩
 | .cmp op a b,E=>let e:TE:=fun σ H Q=>(wp K Γ a E).e σ H fun x H1=>(wp K Γ b E).e σ H1 fun y H2=>XH K op x y H2 Q
  ⟨e,fun σ H Q=>e σ H fun x H1=>lQ x H1 Q,never.a⟩
 | .chn o p a b c,E=>let e:TE:=fun σ H Q=>(wp K Γ a E).e σ H fun x H1=>(wp K Γ b E).e σ H1 fun y H2=>XH K o x y H2 fun z H3=>lQ z H3 fun k H4=>if k=true then(wp K Γ c E).e σ H4 fun w' H5=>XH K p y w' H5 Q else Q (.bl false) H4
  ⟨e,fun σ H Q=>e σ H fun x H1=>lQ x H1 Q,never.a⟩
 | .and a b,E=>⟨fun σ H Q=>(wp K Γ a E).e σ H fun x H1=>lQ x H1 fun c H2=>if c=true then(wp K Γ b E).e σ H2 Q else Q (.bl false) H2,
   fun σ H Q=>(wp K Γ a E).t σ H fun c H1=>if c=true then(wp K Γ b E).t σ H1 Q else Q false H1,never.a⟩
 | .or a b,E=>⟨fun σ H Q=>(wp K Γ a E).e σ H fun x H1=>lQ x H1 fun c H2=>if c=true then Q (.bl true) H2 else(wp K Γ b E).e σ H2 Q,
   fun σ H Q=>(wp K Γ a E).t σ H fun c H1=>if c=true then Q true H1 else(wp K Γ b E).t σ H1 Q,never.a⟩
 | .not a,E=>⟨fun σ H Q=>(wp K Γ a E).e σ H fun x H1=>fE K x H1 fun c H2=>Q (.bl (!c)) H2,fun σ H Q=>(wp K Γ a E).t σ H fun c H1=>Q (!c) H1,never.a⟩
 | .ife c a b,E=>⟨fun σ H Q=>(wp K Γ c E).t σ H fun k H1=>if k=true then(wp K Γ a E).e σ H1 Q else(wp K Γ b E).e σ H1 Q,never.t,never.a⟩
 | .call f as,E=>let e:TE:=fun σ H Q=>(wp K Γ as E).a σ H fun vs H1=>Γ.sp f vs H1 Q E
  ⟨e,fun σ H Q=>e σ H fun x H1=>fE K x H1 Q,never.a⟩
 | .bi f as,E=>let e:TE:=fun σ H Q=>(wp K Γ as E).a σ H fun vs H1=>Zk K f vs H1 Q
  ⟨e,fun σ H Q=>e σ H fun x H1=>fE K x H1 Q,never.a⟩
 | .prm o as,E=>let e:TE:=fun σ H Q=>(wp K Γ as E).a σ H fun vs H1=>lZ K Γ o vs H1 Q
  ⟨e,fun σ H Q=>e σ H fun x H1=>fE K x H1 Q,never.a⟩
 | .isi a c,E=>let e:TE:=fun σ H Q=>(wp K Γ a E).e σ H fun x H1=>(wp K Γ c E).e σ H1 fun y H2=>Y6 K [x,y] H2 Q
  ⟨e,fun σ H Q=>e σ H fun x H1=>fE K x H1 Q,never.a⟩
 | .mt m o as,E=>let e:TE:=fun σ H Q=>(wp K Γ o E).e σ H fun x H1=>iY K m.ty x H1/\(wp K Γ as E).a σ H1 fun vs H2=>z8 K m x vs H2 Q
  ⟨e,fun σ H Q=>e σ H fun x H1=>fE K x H1 Q,never.a⟩
 | .idx a b,E=>let e:TE:=fun σ H Q=>(wp K Γ a E).e σ H fun x H1=>(wp K Γ b E).e σ H1 fun y H2=>J6 K x y H2 Q
  ⟨e,fun σ H Q=>e σ H fun x H1=>fE K x H1 Q,never.a⟩
 | .slc a lo hi,E=>⟨fun σ H Q=>(wp K Γ a E).e σ H fun x H1 =>
   (if isNop lo=true then fun(R:Option Int->Hp->Prop)=>R none H1 else fun R=>(wp K Γ lo E).e σ H1 fun l H2=>UL l H2 R) fun l H2 =>
   (if isNop hi=true then fun(R:Option Int->Hp->Prop)=>R none H2 else fun R=>(wp K Γ hi E).e σ H2 fun u H3=>UL u H3 R) fun u H3=>Cm K x l u H3 Q,never.t,never.a⟩
 | .nop,E=>never
 | .lst as,E=>⟨fun σ H Q=>(wp K Γ as E).a σ H fun xs H1=>xs.length<=sizeLine/\∀p,H1 p=none->Q (.ref p) (FA H1 p (.lst xs)),never.t,never.a⟩
 | .tup as,E=>⟨fun σ H Q=>(wp K Γ as E).a σ H fun xs H1=>xs.length<=sizeLine/\∀p,H1 p=none->Q (.ref p) (FA H1 p (.tup xs)),never.t,never.a⟩
 | .comp mask tgs tg ik its cond elt,E=>⟨fun σ H Q=>(wp K Γ its E).a σ H fun vs H1=>HD K ik vs H1 fun xs st H2 =>
   nW K xs st tg (if isNop cond=true then fun _ H Q=>Q true H else(wp K Γ cond (fun _ _ _=>False)).t) (wp K Γ elt (fun _ _ _=>False)).e (cJ tgs.length mask σ) H2 Q,never.t,never.a⟩
 | .dsp ks vs,E=>⟨fun σ H Q=>∀p,H p=none->(wp K Γ vs E).a σ (FA H p (.dK [])) fun xs H2=>H2 p=some (.dK [])/\∃kvs:List (lD×V),(ks.map V.str).zip xs=kvs.map (fun kv=>(kV kv.1,kv.2))/\kvs.length<=15/\Q (.ref p) (FA H2 p (.dK (GG [] kvs))),never.t,never.a⟩
 | .nr,E=>⟨never.e,never.t,fun _ H Q=>Q [] H⟩
 | .nq a as,E=>⟨never.e,never.t,fun σ H Q=>(wp K Γ a E).e σ H fun x H1=>(wp K Γ as E).a σ H1 fun xs H2=>Q (x::xs) H2⟩
structure Glob where
 ev:Ev
 fn:Str->Prop
 val:Str->Prop
 no:Str->Prop
 dc:Str->Prop
noncomputable def Bi.nm:Bi->Str
 | .len=>"len"
 | .all=>"all"
 | .int=>"int"
 | .str=>"str"
 | .max=>"max"
 | .list=>"list"
noncomputable def Mt.nm:Mt->Str
 | .split=>"split"
 | .rstrip=>"rstrip"
 | .insert=>"insert"
 | .find=>"find"
 | .pop=>"pop"
noncomputable def Al(G:Glob):ItK->Prop
 | .val=>True
 | .rng1 | .rng3=>G.no "range"
 | .zip2=>G.no "zip"
noncomputable def Ji(G:Glob):Prm->Prop
 | .dget x | .dix x=>G.dc x
 | .tmul=>True
 | .plc=>True
 | .ngt=>True
 | .din _=>True
 | .dgt=>True
 | .isC=>G.no "isinstance"
 | .isT x m=>G.no "isinstance"/\G.no x/\bootBuiltins x=some (.type m)
noncomputable def SA(G:Glob):PX->Prop
 | .glo x=>G.val x
 | .bty x n=>G.no x/\bootBuiltins x=some (.type n)
 | .bin _ a b | .cmp _ a b | .and a b | .or a b | .idx a b | .nq a b=>SA G a/\SA G b
 | .not a | .lst a | .tup a | .dsp _ a=>SA G a
 | .chn _ _ a b c | .ife a b c | .slc a b c=>SA G a/\SA G b/\SA G c
 | .call f as=>G.fn f/\SA G as
 | .bi f as=>G.no f.nm/\SA G as
 | .prm o as=>Ji G o/\SA G as
 | .isi a c=>G.no "isinstance"/\SA G a/\SA G c
 | .mt _ o as=>SA G o/\SA G as
 | .comp _ _ _ ik its cond elt=>Al G ik/\SA G its/\SA G cond/\SA G elt
 |_=>True
structure SC where
 N:List Str
 sc:Scope
noncomputable def jB:Expr->Bool
 | .Starred _ _=>false
 |_=>true
noncomputable def sY(S:SC)(i:Nat)(x:Str):Bool :=
 S.N[i]?==some x&&(S.sc.names.lookup x==some .local||S.sc.names.lookup x==some .cell||S.sc.names.lookup x==some .free)&&x != "__debug__" && x != "__classdict__"
noncomputable def pN(S:SC)(i:Nat)(x:Str):Bool:=S.N[i]?==some x&&S.sc.names.lookup x==some .local
noncomputable def SJ(S:SC)(x:Str):Bool:=S.sc.names.lookup x==some .globalImplicit&&x != "__debug__" && x != "__name__"
noncomputable def xW(S:SC)(scope:Scope)(tgs:List Str)(mask:List Bool):SC:=⟨tgs++AB mask 0 S.N,aL scope S.sc⟩
noncomputable def FG:List Str->Bool
 |[]=>true
 |x::r=>!r.contains x&&FG r
noncomputable def y4(S:SC)(scope:Scope)(tgs:List Str)(mask:List Bool):Bool :=
 scope.kind==.function&&scope.names.all (fun y=>y.2 != .cell&&(y.2 != .local||(scope.names.lookup y.1==some .local&&(tgs.contains y.1||y.1==(".0":Str)))) &&
  (y.2 != .free||S.sc.names.lookup y.1==some .cell||S.sc.names.lookup y.1==some .free))&&FG (tgs++AB mask 0 S.N)&&!(tgs++AB mask 0 S.N).contains (".0":Str)
noncomputable def dh(S:SC):Tg->Expr->Bool
 | .nm i,.Name x _=>pN S i x
 | .tp is,.Tuple es _ _=>is.length==es.length&&(is.zip es).all fun p=>match p.2 with
  | .Name x _=>pN S p.1 x
  |_=>false
 |_,_=>false
noncomputable def rP:Expr->Bool
 | .Call (.Name _ _) [] [] _=>false
 |_=>true
noncomputable def TL:Expr->Bool
 | .Set _ _ _=>false
 |_=>true
noncomputable def yJ:Expr->Bool
 | .Slice _ _ _ _=>false
 |_=>true
noncomputable def VC:PX->Bool
 | .nr=>true
 | .nq _ r=>VC r
 |_=>false
noncomputable def KP:Expr->Bool
 | .Tuple _ _ _=>true
 |_=>false
section
variable{α:Type}
noncomputable def nC(e:Expr)(f:Str->Pos->Bool):Bool:=match e with | .Name x p=>f x p|_=>false
noncomputable def UF(e:Expr)(f:Const->Bool):Bool:=match e with | .Constant c _ _=>f c|_=>false
noncomputable def PZ(e:Expr)(f:Expr->Operator->Expr->Pos->Bool):Bool:=match e with | .BinOp l o r p=>f l o r p|_=>false
noncomputable def Re(e:Expr)(f:UnaryOp->Expr->Bool):Bool:=match e with | .UnaryOp o x _=>f o x|_=>false
noncomputable def sV(e:Expr)(f:Expr->List CmpOp->List Expr->Bool):Bool:=match e with | .Compare l os rs _=>f l os rs|_=>false
noncomputable def bT(e:Expr)(f:BoolOp->List Expr->Pos->Bool):Bool:=match e with | .BoolOp o es p=>f o es p|_=>false
noncomputable def Oi(e:Expr)(f:Expr->Expr->Expr->Bool):Bool:=match e with | .IfExp t l r _=>f t l r|_=>false
noncomputable def NL(e:Expr)(f:Expr->List Expr->List Keyword->Pos->Bool):Bool:=match e with | .Call g es ks p=>f g es ks p|_=>false
noncomputable def gT(e:Expr)(f:Expr->Str->Pos->Bool):Bool:=match e with | .Attribute v n p=>f v n p|_=>false
noncomputable def LL(e:Expr)(f:Expr->Expr->Pos->Bool):Bool:=match e with | .Subscript v i p=>f v i p|_=>false
noncomputable def rV(e:Expr)(f:Option Expr->Option Expr->Option Expr->Bool):Bool:=match e with | .Slice l h s _=>f l h s|_=>false
noncomputable def cP(e:Expr)(f:List Expr->Pos->Bool):Bool:=match e with | .List es p=>f es p|_=>false
noncomputable def N9(e:Expr)(f:List Expr->Nat->Pos->Bool):Bool:=match e with | .Tuple es k p=>f es k p|_=>false
noncomputable def Se(e:Expr)(f:Expr->List Comprehension->Scope->Pos->Bool):Bool:=match e with | .ListComp x gs sc p=>f x gs sc p|_=>false
noncomputable def GJ(l:List α)(f:α->Bool):Bool:=match l with | [x]=>f x|_=>false
noncomputable def ja(l:List α)(f:α->α->Bool):Bool:=match l with | [x,y]=>f x y|_=>false
noncomputable def Lm(l:List α)(f:α->α->α->Bool):Bool:=match l with | [x,y,z]=>f x y z|_=>false
noncomputable def U5(l:List α)(f:α->List α->Bool):Bool:=match l with|x::r=>f x r|_=>false
noncomputable def Pl(o:Option α)(n:Bool)(f:α->Bool):Bool:=match o with|none=>n|some x=>f x
theorem xB{e:Expr}{f:Str->Pos->Bool}(h:nC e f=true):∃x p,e=.Name x p/\f x p=true:=by
 cases e with
 |Name x p=>exact⟨x,p,rfl,h⟩
 |_=>exact(QD h).elim
theorem BD{e:Expr}{f:Const->Bool}(h:UF e f=true):∃c k p,e=.Constant c k p/\f c=true:=by
 cases e with
 |Constant c k p=>exact⟨c,k,p,rfl,h⟩
 |_=>exact(QD h).elim
theorem tV{e:Expr}{f:Expr->Operator->Expr->Pos->Bool}(h:PZ e f=true):∃l o r p,e=.BinOp l o r p/\f l o r p=true:=by
 cases e with
 |BinOp l o r p=>exact⟨l,o,r,p,rfl,h⟩
 |_=>exact(QD h).elim
theorem GZ{e:Expr}{f:UnaryOp->Expr->Bool}(h:Re e f=true):∃o x p,e=.UnaryOp o x p/\f o x=true:=by
 cases e with
 |UnaryOp o x p=>exact⟨o,x,p,rfl,h⟩
 |_=>exact(QD h).elim
theorem dP{e:Expr}{f:Expr->List CmpOp->List Expr->Bool}(h:sV e f=true):∃l os rs p,e=.Compare l os rs p/\f l os rs=true:=by
 cases e with
 |Compare l os rs p=>exact⟨l,os,rs,p,rfl,h⟩
 |_=>exact(QD h).elim
theorem CQ{e:Expr}{f:BoolOp->List Expr->Pos->Bool}(h:bT e f=true):∃o es p,e=.BoolOp o es p/\f o es p=true:=by
 cases e with
 |BoolOp o es p=>exact⟨o,es,p,rfl,h⟩
 |_=>exact(QD h).elim
theorem Te{e:Expr}{f:Expr->Expr->Expr->Bool}(h:Oi e f=true):∃t l r p,e=.IfExp t l r p/\f t l r=true:=by
 cases e with
 |IfExp t l r p=>exact⟨t,l,r,p,rfl,h⟩
 |_=>exact(QD h).elim
theorem II{e:Expr}{f:Expr->List Expr->List Keyword->Pos->Bool}(h:NL e f=true):∃g es ks p,e=.Call g es ks p/\f g es ks p=true:=by
 cases e with
 |Call g es ks p=>exact⟨g,es,ks,p,rfl,h⟩
 |_=>exact(QD h).elim
theorem DQ{e:Expr}{f:Expr->Str->Pos->Bool}(h:gT e f=true):∃v n p,e=.Attribute v n p/\f v n p=true:=by
 cases e with
 |Attribute v n p=>exact⟨v,n,p,rfl,h⟩
 |_=>exact(QD h).elim
theorem lH{e:Expr}{f:Expr->Expr->Pos->Bool}(h:LL e f=true):∃v i p,e=.Subscript v i p/\f v i p=true:=by
 cases e with
 |Subscript v i p=>exact⟨v,i,p,rfl,h⟩
 |_=>exact(QD h).elim
theorem zX{e:Expr}{f:Option Expr->Option Expr->Option Expr->Bool}(h:rV e f=true):∃l u s p,e=.Slice l u s p/\f l u s=true:=by
 cases e with
 |Slice l u s p=>exact⟨l,u,s,p,rfl,h⟩
 |_=>exact(QD h).elim
theorem ML{e:Expr}{f:List Expr->Pos->Bool}(h:cP e f=true):∃es p,e=.List es p/\f es p=true:=by
 cases e with
 |List es p=>exact⟨es,p,rfl,h⟩
 |_=>exact(QD h).elim
theorem J7{e:Expr}{f:List Expr->Nat->Pos->Bool}(h:N9 e f=true):∃es k p,e=.Tuple es k p/\f es k p=true:=by
 cases e with
 |Tuple es k p=>exact⟨es,k,p,rfl,h⟩
 |_=>exact(QD h).elim
theorem uT{e:Expr}{f:Expr->List Comprehension->Scope->Pos->Bool}(h:Se e f=true):∃x gs sc p,e=.ListComp x gs sc p/\f x gs sc p=true:=by
 cases e with
 |ListComp x gs sc p=>exact⟨x,gs,sc,p,rfl,h⟩
 |_=>exact(QD h).elim
theorem jJ{l:List α}{f:α->List α->Bool}(h:U5 l f=true):∃x r,l=x::r/\f x r=true:=by
 cases l with
 |nil=>exact(QD h).elim
 |cons x r=>exact⟨x,r,rfl,h⟩
theorem oB{l:List α}{f:α->Bool}(h:GJ l f=true):∃x,l=[x]/\f x=true:=by
 cases l with
 |nil=>exact(QD h).elim
 |cons x r =>
  cases r with
  |nil=>exact⟨x,rfl,h⟩
  |cons _ _=>exact(QD h).elim
theorem mK{l:List α}{f:α->α->Bool}(h:ja l f=true):∃x y,l=[x,y]/\f x y=true:=by
 cases l with
 |nil=>exact(QD h).elim
 |cons x r =>
  obtain⟨y,e,h⟩:=oB (l:=r) (f:=f x) (by
   cases r with
   |nil=>exact h
   |cons y r=>cases r<;>exact h)
  exact⟨x,y,by rw[e],h⟩
theorem E9{l:List α}{f:α->α->α->Bool}(h:Lm l f=true):∃x y z,l=[x,y,z]/\f x y z=true:=by
 cases l with
 |nil=>exact(QD h).elim
 |cons x r =>
  obtain⟨y,z,e,h⟩:=mK (l:=r) (f:=f x) (by
   cases r with
   |nil=>exact h
   |cons y r=>cases r with
    |nil=>exact h
    |cons z r=>cases r<;>exact h)
  exact⟨x,y,z,by rw[e],h⟩
end
noncomputable def ck(c:Const)(f:Int->Bool):Bool:=match c with | .int i=>f i|_=>false
noncomputable def F8(c:Const)(f:Str->Bool):Bool:=match c with | .str i=>f i|_=>false
noncomputable def vb(c:Const)(f:Bool->Bool):Bool:=match c with | .bool i=>f i|_=>false
noncomputable def zb(c:Const):Bool:=match c with | .none=>true|_=>false
theorem ug{c:Const}{f:Int->Bool}(h:ck c f=true):∃i,c=.int i/\f i=true:=by
 cases c with
 |int i=>exact⟨i,rfl,h⟩
 |_=>exact(QD h).elim
theorem ZU{c:Const}{f:Str->Bool}(h:F8 c f=true):∃i,c=.str i/\f i=true:=by
 cases c with
 |str i=>exact⟨i,rfl,h⟩
 |_=>exact(QD h).elim
theorem L8{c:Const}{f:Bool->Bool}(h:vb c f=true):∃i,c=.bool i/\f i=true:=by
 cases c with
 |bool i=>exact⟨i,rfl,h⟩
 |_=>exact(QD h).elim
theorem G8{c:Const}(h:zb c=true):c=.none:=by
 cases c with
 |none=>rfl
 |_=>exact(QD h).elim
theorem jA{a b:Bool}(h:(a&&b)=true):a=true/\b=true:=by cases a<;>cases b<;>first|exact⟨rfl,rfl⟩| exact(QD h).elim
noncomputable def MH(S:SC)(n:Str)(e:Expr)(f:List Expr->List Keyword->Pos->Bool):Bool:=NL e fun g es ks p=>nC g fun x _=>n==x&&(SJ S x&&f es ks p)
theorem TC{S:SC}{n:Str}{e:Expr}{f:List Expr->List Keyword->Pos->Bool}(h:MH S n e f=true):∃px es ks p,e=.Call (.Name n px) es ks p/\SJ S n=true/\f es ks p=true:=by obtain⟨g,es,ks,p,rfl,q1⟩:=II h;obtain⟨x,px,rfl,q2⟩:=xB q1;have q3:=jA q2;have q4:=jA q3.2;have e:=Qd q3.1;exact⟨px,es,ks,p,by rw[e],by rw[e];exact q4.1,q4.2⟩
noncomputable def U1(n:Str)(e:Expr)(f:Expr->List Expr->Pos->Pos->Bool):Bool:=NL e fun g es ks p=>gT g fun v x ap=>n==x&&(ks.isEmpty&&(ap.endLine==p.line&&f v es ap p))
theorem JV{n:Str}{e:Expr}{f:Expr->List Expr->Pos->Pos->Bool}(h:U1 n e f=true):∃v ap es p,e=.Call (.Attribute v n ap) es [] p/\(ap.endLine==p.line)=true/\f v es ap p=true:=by obtain⟨g,es,ks,p,rfl,q1⟩:=II h;obtain⟨v,x,ap,rfl,q2⟩:=DQ q1;have q3:=jA q2;have q4:=jA q3.2;have q5:=jA q4.2;have e:=Qd q3.1;have e2:=Qp.mp q4.1;exact⟨v,ap,es,p,by rw[e,e2],q5.1,q5.2⟩
noncomputable def ma(op:BoolOp)(r:Expr)(rest:List Expr)(pos:Pos):Expr:=match rest with
 |[]=>r
 |q::t=>.BoolOp op (r::q::t) pos
noncomputable def Rm(ia:Bool)(S:SC)(ik:ItK)(c:List Expr->Pos->Bool)(t it:Expr)(pos:Pos):Bool:=match ik with
 | .val=>ia&&c [it] pos
 | .rng1=>MH S "range" it fun es ks p=>ks.isEmpty&&GJ es fun a=>c [a] p
 | .rng3=>MH S "range" it fun es ks p=>ks.isEmpty&&Lm es fun a b d=>c [a,b,d] p
 | .zip2=>KP t&&MH S "zip" it fun es ks p=>ks.isEmpty&&ja es fun a b=>c [a,b] p
noncomputable def L6:Pos:=⟨0,0,0,0⟩
noncomputable def OZ(e:Expr)(f:List (Option Expr)->List Expr->Pos->Bool):Bool:=match e with | .Dict ks vs p=>f ks vs p|_=>false
theorem NZ{e:Expr}{f:List (Option Expr)->List Expr->Pos->Bool}(h:OZ e f=true):∃ks vs p,e=.Dict ks vs p/\f ks vs p=true:=by
 cases e with
 |Dict ks vs p=>exact⟨ks,vs,p,rfl,h⟩
 |_=>exact(QD h).elim
noncomputable def jm:List Str->List (Option Expr)->Bool
 |[],[]=>true
 |k::ks,some e::es=>(UF e fun c=>F8 c fun z=>k==z)&&jm ks es
 |_,_=>false
noncomputable def Gm(S:SC)(c:List Expr->Pos->Bool)(e:Expr):Prm->Bool
 | .dget y=>U1 "get" e fun v es _ p=>nC v fun x _=>y==x&&(SJ S x&&GJ es fun a=>c [a] p)
 | .dix y=>LL e fun v i p=>nC v fun x _=>y==x&&(SJ S x&&(yJ i&&c [i] p))
 | .tmul=>PZ e fun l o r p=>o==.Mult&&c [l,r] p
 | .ngt=>Re e fun o x=>o==.USub&&(jB x&&c [x] L6)
 | .plc=>gT e fun v n p=>("place":Str)==n&&(rP v&&(jB v&&c [v] p))
 | .din neg=>sV e fun l os rs=>GJ os fun o=>GJ rs fun r=>(o==if neg then .NotIn else .In)&&(TL r&&c [l,r] L6)
 | .dgt=>LL e fun v i p=>yJ i&&c [v,i] p
 | .isC=>MH S "isinstance" e fun es ks p=>ks.isEmpty&&ja es fun a b=>c [a,b] p
 | .isT x _=>MH S "isinstance" e fun es ks p=>ks.isEmpty&&ja es fun a b=>jB b&&(nC b (fun y _=>x==y&&SJ S y)&&c [a] p)
noncomputable def Tm(ifs:List Expr)(n:Bool)(f:Expr->Bool):Bool:=match ifs with
 |[]=>n
 |c::r=>r.isEmpty&&(!n&&f c)
noncomputable def VB:PX->SC->Expr->Bool
 | .var i,S,e=>nC e fun x _=>sY S i x
 | .int i,_,e=>UF e fun c=>ck c fun j=>i==j
 | .str x,_,e=>UF e fun c=>F8 c fun y=>x==y
 | .bl b,_,e=>UF e fun c=>vb c fun k=>b==k
 | .non,_,e=>UF e zb
 | .glo x,S,e=>nC e fun y _=>x==y&&SJ S x
 | .bty x _,S,e=>nC e fun y _=>x==y&&SJ S x
 | .bin op a b,S,e=>PZ e fun l o r _=>op==o&&(VB a S l&&VB b S r)
 | .cmp op a b,S,e=>sV e fun l os rs=>GJ os fun o=>GJ rs fun r=>op==o&&(TL r&&(VB a S l&&VB b S r))
 | .chn o p a b c,S,e=>sV e fun l os rs=>ja os fun o' p'=>ja rs fun r q=>o==o'&&(p==p'&&(TL q&&(VB a S l&&(VB b S r&&VB c S q))))
 | .and a b,S,e=>bT e fun o es p=>o==.And&&U5 es fun l t=>U5 t fun r t=>VB a S l&&VB b S (ma .And r t p)
 | .or a b,S,e=>bT e fun o es p=>o==.Or&&U5 es fun l t=>U5 t fun r t=>VB a S l&&VB b S (ma .Or r t p)
 | .not a,S,e=>Re e fun o x=>o==.Not&&VB a S x
 | .ife c a b,S,e=>Oi e fun t l r=>VB c S t&&(VB a S l&&VB b S r)
 | .call f as,S,e=>MH S f e fun es ks p=>ks.isEmpty&&VB as S (.List es p)
 | .bi f as,S,e=>MH S f.nm e fun es ks p=>ks.isEmpty&&U5 es fun x t=>VB as S (.List (x::t) p)
 | .prm o as,S,e=>VC as&&Gm S (fun es p=>VB as S (.List es p)) e o
 | .isi a c,S,e=>MH S "isinstance" e fun es ks _=>ks.isEmpty&&ja es fun l r=>jB l&&(jB r&&(VB a S l&&VB c S r))
 | .mt m o as,S,e=>U1 m.nm e fun v es _ p=>VC as&&(rP v&&(decide (es.length<20)&&(VB o S v&&VB as S (.List es p))))
 | .idx a b,S,e=>LL e fun v i _=>yJ i&&(VB a S v&&VB b S i)
 | .slc a lo hi,S,e=>LL e fun v sl _=>rV sl fun l h s=>s.isNone&&(VB a S v&&(Pl l (isNop lo) (fun e=>!isNop lo&&VB lo S e)&&Pl h (isNop hi) fun e=>!isNop hi&&VB hi S e))
 | .nop,_,_=>false
 | .lst as,S,e=>cP e fun es p=>VB as S (.List es p)
 | .tup as,S,e=>N9 e fun es _ p=>VB as S (.List es p)
 | .comp mask tgs tg ik its cond elt,S,e=>Se e fun el gs scope p=>GJ gs fun g=>g.is_async==0&&(y4 S scope tgs mask&&(dh (xW S scope tgs mask) tg g.target&&(TL g.iter &&
   (Rm (VC its) S ik (fun es p=>VB its S (.List es p)) g.target g.iter p&&(Tm g.ifs (isNop cond) (fun c=>VB cond (xW S scope tgs mask) c)&&VB elt (xW S scope tgs mask) el)))))
 | .dsp ks vs,S,e=>OZ e fun keys vals p=>decide (0<ks.length/\ks.length<=15)&&(jm ks keys&&(decide (keys.length=vals.length)&&(VC vs&&VB vs S (.List vals p))))
 | .nr,_,e=>cP e fun es _=>es.isEmpty
 | .nq a as,S,e=>cP e fun es p=>U5 es fun x t=>jB x&&(VB a S x&&VB as S (.List t p))
variable{Γ:Ev}
theorem Bg(x:V)(H:Hp)(Q:Bool->Hp->Prop):lQ x H Q=∃k,x=.bl k/\Q k H:=by
 apply propext;cases x with
 |bl b=>exact⟨fun h=>⟨b,rfl,h⟩,fun⟨k,e,h⟩=>by cases e;exact h⟩
 |_=>exact⟨fun h=>QR h,fun⟨k,e,h⟩=>by cases e⟩
theorem UZ(x:V)(H:Hp)(Q:Option Int->Hp->Prop):UL x H Q=∃i,x=.int i/\Q (some i) H:=by
 apply propext;cases x with
 |int b=>exact⟨fun h=>⟨b,rfl,h⟩,fun⟨k,e,h⟩=>by cases e;exact h⟩
 |_=>exact⟨fun h=>QR h,fun⟨k,e,h⟩=>by cases e⟩
theorem RU(K:QC)(x:V)(H:Hp)(Q:Bool->Hp->Prop):fE K x H Q=∃k,Fg K x H k/\Q k H:=by
 apply propext;cases x with
 |bl b=>exact⟨fun h=>⟨b,rfl,h⟩,fun⟨k,(e:k=b),h⟩=>by subst e;exact h⟩
 |int i=>exact⟨fun h=>⟨i != 0,rfl,h⟩,fun⟨k,(e:k=(i != 0)),h⟩=>by subst e;exact h⟩
 |non=>exact⟨fun h=>⟨false,rfl,h⟩,fun⟨k,(e:k=false),h⟩=>by subst e;exact h⟩
 |str z=>exact⟨fun h=>⟨_,⟨h.1,rfl⟩,h.2⟩,fun⟨k,⟨e1,e2⟩,h⟩=>by subst e2;exact⟨e1,h⟩⟩
 |_=>exact QAP
section
variable{X:Cx}
theorem tZ{e:Expr}:PE X e never.e:=fun _ _ _ _ _ _ h=>QR h
theorem JL{e:Expr}:PT X e never.t:=fun _ _ _ _ _ _ h=>QR h
theorem BQ{es:List Expr}:PA X es never.a:=fun _ _ _ _ _ _ _ h=>QR h
theorem UB{a:Expr}{ta:TE}(ha:PE X a ta)(he:∀whole,isTrue a X.env whole=(do let v <- whole;standAt a.pos;holding [v] (truthy v))) :
  PT X a (fun σ H Q=>ta σ H fun x H'=>fE X.K x H' Q):=by
 intro pins s σ H Q I h;refine isTrue_plain (EA (ha pins s σ H _ I h) fun v s1 ⟨x,H1,I1,r1,q1⟩=>?_) (he _);have q1:fE X.K x H1 Q:=q1;rw[RU]at q1;exact KY pins s1 σ H1 x v Q I1 r1 q1
theorem FZ{f:Value->Value->Sem Value}:cE X f (fun _ _ _ _=>False):=fun _ _ _ _ _ _ _ _ _ _ _ _ h=>h.elim
theorem Pe(op:Operator):cE X (binaryOp op) (O8 X.K op):=by
 cases op with
 |Add=>exact op_add
 |Sub=>exact op_sub
 |Mult=>exact Me
 |FloorDiv=>exact m7
 |Mod=>exact op_mod
 |Pow=>exact op_pow
 |_=>exact FZ
theorem FJ(hu:X.A.units+66<cLine)(op:CmpOp):cE X (compareOp op) (XH X.K op):=by
 cases op with
 |Eq=>exact op_eq (by omega)
 |NotEq=>exact op_ne (by omega)
 |Lt=>exact xP _root_.L2.op_lt
 |LtE=>exact xP _root_.L2.op_le
 |Gt=>exact xP _root_.L2.op_gt
 |GtE=>exact xP _root_.L2.op_ge
 |In=>exact Mi hu
 |NotIn=>exact DZ hu
 |Is =>
  intro pins s σ H x y v u Q I rx ry h;cases y with
  |non=>exact Oe pins s σ H x _ v u Q I rx ry ⟨rfl,h⟩
  |_=>exact QR h
 |IsNot =>
  intro pins s σ H x y v u Q I rx ry h;cases y with
  |non=>exact g7 pins s σ H x _ v u Q I rx ry ⟨rfl,h⟩
  |_=>exact QR h
theorem Df:x5 X (J6 X.K):=by
 intro value slice pins s σ H x y v u Q I rx ry h hs;refine Cf value slice pins s σ H x y v u Q I rx ry ?_ hs;cases x with
 |str z =>
  cases y with
  |int i=>obtain⟨h1,c,h2,q⟩:=h;exact .inr (.inr ⟨z,i,c,rfl,rfl,h1,h2,q⟩)
  |_=>exact QR h
 |ref a =>
  cases y with
  |int i=>obtain⟨xs,w',hq,h2,q⟩:=h;rcases hq with hq|hq;exact .inl ⟨a,xs,i,w',rfl,rfl,hq,h2,q⟩;exact .inr (.inl ⟨a,xs,i,w',rfl,rfl,hq,h2,q⟩)
  |_=>exact QR h
 |_=>exact QR h
theorem xI{op:CmpOp}{b:Expr}(h:TL b=true):behindInMarks op b=false:=by cases b<;>first|rfl|cases h
theorem jP{b:Expr}(h:yJ b=true):fW b:=by intro o i;cases b<;>first|rfl|cases h
theorem gA{e:Expr}{es:List Expr}(env:Env)(h:jB e=true):starEach (e::es) env=(false,eval e env)::starEach es env:=by cases e<;>first|rfl|cases h
theorem UT{e:Expr}{env:Env}(h:TL e=true)(x:Value):foldedSetIterable e env x=pure x:=by cases e<;>first|rfl|cases h
theorem U0{o:Expr}{n:Str}{env:Env}(h:rP o=true):attributeBase o n env (eval o env)=eval o env:=by unfold attributeBase;split;cases h;rfl
theorem pX:ac X "str.rstrip" fV:=by
 intro pins s σ H x xs v us Q I rx rs h
 match x,xs,h with
 | .str z,[],h=>obtain⟨t,rfl⟩:=rx;cases rs;exact SC.rstrip (fun t' k=>⟨.str _,H,I.tok _,⟨_,rfl⟩,h.2⟩) h.1
theorem i4:gD X (.type "int") oi:=by
 intro pins s σ H xs us Q I r h
 match xs,h with
 |[.int i],h=>exact tO pins s σ H _ us Q I r (.inl ⟨i,rfl,h⟩)
 |[.bl b],h=>exact tO pins s σ H _ us Q I r (.inr ⟨b,rfl,h⟩)
 |[.str z],⟨hl,n,hn,q⟩=>obtain⟨u,rfl,t,rfl⟩:=oG r;exact PySem.W.KIN.call_text hn hl ⟨.int n,H,I.tok _,⟨_,rfl⟩,q⟩
theorem x4:gD X (.type "str") Eh:=by
 intro pins s σ H xs us Q I r h
 match xs,h with
 |[.int i],h=>exact zQ pins s σ H _ us Q I r ⟨i,rfl,h⟩
 |[.str z],h=>obtain⟨u,rfl,t,rfl⟩:=oG r;exact PySem.P.str_of_str ⟨.str z,H,I,⟨_,rfl⟩,h⟩
theorem xY(hc:X.calm=true):gD X (.builtin "max") (ui true):=by
 intro pins s σ H xs us Q I r h
 match xs,h with
 |[.int i,.int j],h=>exact uY hc pins s σ H _ us Q I r ⟨i,j,rfl,h⟩
theorem A7:ac X "list.pop" Z9:=by intro pins s σ H x xs v us Q I rx rs h;obtain⟨l,i,xs,k,y,rfl,rfl,hH,hk,hy,q⟩:=h;obtain⟨e1,e2,e3,e4⟩:=JP hk;have hl:xs.length<=sizeLine:=(show DA X.prog X.w H s.heap l (.lst xs) from I.hok l _ hH).1;rw[QX]at hl;exact V1 pins s σ H _ _ v us Q I rx rs ⟨l,xs,i,k,y,rfl,rfl,hH,by omega,by omega,e1,hy,q⟩
theorem j8:ac X "str.find" V9:=by intro pins s σ H x xs v us Q I rx rs h;obtain⟨z,y,rfl,rfl,h⟩:=h;obtain⟨t,rfl⟩:=rx;obtain⟨u,rfl,t',rfl⟩:=oG rs;exact SC.find ⟨.int _,H,I.tok _,⟨_,rfl⟩,h⟩
theorem E7:ac X "list.insert" K9:=by
 intro pins s σ H x xs v us Q I rx rs h;obtain⟨l,i,y,xs,rfl,rfl,hH,hi,hz,q⟩:=h;cases rx;obtain⟨u,w,rfl,ru,rw'⟩:=MU rs;obtain⟨t,rfl⟩:=ru;obtain⟨z,its,n,r,hl,e⟩:=I.lstM hH;have hz':sizeLine=16777216:=QX;have hlen:=r.length;refine wr F.slot_list_insert ⟨_,e,rfl⟩ F.entry_list_insert (F.args_list_insert_3 _ _ _) (PySem.AutoSeq1.list_insert_list_int_val_1 l its.toArray n i t w (by unfold Builtin.List.listFitsIndex;simp;omega) (by rw[QM];omega)) ⟨e,?_⟩;refine⟨.non,_,I.lset (its':=bG its i.toNat w) hH e ?_ ((r.take _).append (.cons rw' (r.drop _))) ?_,rfl,q⟩;have h1:¬ i<0:=by omega
 have h2:min i.toNat its.toArray.size=i.toNat:=by rw[QM];omega
 simp only[h1,if_false,h2];unfold bG;simp;exact WY (by simp);simp;omega
theorem dk(hc:X.calm=true)(f:Bi):(∃id,bootBuiltins f.nm=some (.builtin id)/\gD X (.builtin id) (Zk X.K f))∨∃T,bootBuiltins f.nm=some (.type T)/\gD X (.type T) (Zk X.K f):=by
 cases f with
 |len=>exact .inl ⟨_,PySem.boot_len,l4⟩
 |all=>exact .inl ⟨_,PyProof.Rows.boot_all,J4 hc⟩
 |int=>exact .inr ⟨_,PyProof.Rows.boot_int,i4⟩
 |str=>exact .inr ⟨_,PyProof.Rows.boot_str,x4⟩
 |list=>exact .inr ⟨_,PyProof.Rows.boot_list,kQ⟩
 |max=>exact .inl ⟨_,by kernel_rfl,xY hc⟩
end
end L2.L3
namespace L2.L3
open PySem PySem.Spec PyProof.Rows
structure OkX(X:Cx)(S:SC)(G:Glob)(E:XK):Prop where
 N:X.N=S.N
 sc:X.env.scope=S.sc
 calm:X.calm=true
 un:X.A.units+66<cLine
 fn:∀f,G.fn f->∃(CX:DU) (k:Nat) (a:Addr) (fd:FuncData) (ps:List Str),FnOk X.prog X.w X.K X.mg X.base CX k a fd ps (G.ev.sp f)/\Room k X.A/\X.mg f=some (.ref a)/\qU X.K (.ref a)=true/\AD X.K fd ps [] /\
  OM CX X E/\∀l H s e s',CX l H s (fun _ _ _=>False) e s'->False
 val:∀x,G.val x->∃u,X.mg x=some u/\sA (G.ev.va x) u
 no:∀x,G.no x->X.mg x=none
 dic:∀x,G.dc x->∃a kvs,X.mg x=some (.ref a)/\G.ev.dc x=some kvs/\y9 X.prog X.w X.K a kvs
noncomputable def uN(X:Cx)(Γ:Ev)(E:XK):PX->List Expr->Prop
 | .nq a as,e::es=>PE X e (wp X.K Γ a E).e/\uN X Γ E as es
 |_,_=>True
structure Snd(X:Cx)(Γ:Ev)(E:XK)(p:PX)(e:Expr):Prop where
 pe:PE X e (wp X.K Γ p E).e
 pt:PT X e (wp X.K Γ p E).t
 pw:∀op es pos,e=.BoolOp op es pos->PW X e (wp X.K Γ p E).t
 pa:∀es pos,e=.List es pos->PA X es (wp X.K Γ p E).a
 pas:∀es pos,e=.List es pos->uN X Γ E p es
theorem FO{S:SC}{i:Nat}{x:Str}(h:sY S i x=true):S.N[i]?=some x/\Kk S.sc x/\(x==("__debug__":Str))=false/\(x==("__classdict__":Str))=false:=by simp only[sY,QN,qq,beq_iff_eq,bne_iff_ne,ne_eq]at h;obtain⟨⟨⟨h1,h2⟩,h3⟩,h4⟩:=h;refine⟨h1,?_,by simpa using h3,by simpa using h4⟩;rcases h2 with(h2|h2)|h2;exact .inl h2;exact .inr (.inl h2);exact .inr (.inr h2)
theorem oH{S:SC}{i:Nat}{x:Str}(h:pN S i x=true):S.N[i]?=some x/\S.sc.names.lookup x=some .local:=by simp only[pN,QN,beq_iff_eq]at h;exact h
theorem aC{S:SC}{x:Str}(h:SJ S x=true):S.sc.names.lookup x=some .globalImplicit/\(x==("__debug__":Str))=false/\x≠"__name__":=by simp only[SJ,QN,beq_iff_eq,bne_iff_ne,ne_eq]at h;exact⟨h.1.1,by simpa using h.1.2,h.2⟩
theorem kD:∀{l:List Str},FG l=true->l.Nodup
 |[],_=>QBM
 |x::r,h=>by simp only[FG,QN,wQ]at h;exact qk.mpr ⟨by simpa using h.1,kD h.2⟩
theorem GR{S:SC}{scope:Scope}{tgs:List Str}{mask:List Bool}(h:y4 S scope tgs mask=true):CompSt S.N S.sc scope tgs mask:=by simp only[y4,QN,Qk,beq_iff_eq,wQ]at h;obtain⟨⟨⟨h1,h2⟩,h3⟩,h4⟩:=h;refine⟨h1,fun y hy e=>?_,fun y hy e=>?_,fun y hy e=>?_,fun y hy e=>?_,kD h3,by simpa using h4⟩;have:=(h2 y hy).1.1;rw[e]at this;exact absurd this (by decide);have:=(h2 y hy).1.2;rw[e]at this;simp at this;exact this.1;have:=(h2 y hy).2;rw[e]at this;simp at this;exact this;have:=(h2 y hy).1.2;rw[e]at this;simp at this;exact this.2
theorem OkX.comp{X:Cx}{S:SC}{G:Glob}{E:XK}(ok:OkX X S G E)(scope:Scope)(tgs:List Str)(mask:List Bool)(s:Shared)(H:Hp)(ex:List Addr):OkX (yB X scope tgs mask s H ex) (xW S scope tgs mask) G (fun _ _ _=>False) where
 N:=by show tgs++AB mask 0 X.N=tgs++AB mask 0 S.N;rw[ok.N]
 sc:=by show aL scope X.env.scope=aL scope S.sc;rw[ok.sc]
 calm:=ok.calm
 un:=ok.un
 fn:=fun f h=>by obtain⟨CX,k,a,fd,ps,h1,h2,h3,h4,h5,h6,h7⟩:=ok.fn f h;exact⟨CX,k,a,fd,ps,h1,h2,h3,h4,h5,fun _ _ _ _ _ _ _ z=>(h7 _ _ _ _ _ z).elim,h7⟩
 val:=ok.val
 no:=ok.no
 dic:=ok.dic
section
variable{X:Cx}
theorem FN{S:SC}(hN:X.N=S.N)(hsc:X.env.scope=S.sc)(nd:X.N.Nodup):∀(is:List Nat) (es:List Expr),is.length=es.length->((is.zip es).all fun p=>match p.2 with | .Name x _=>pN S p.1 x|_=>false)=true ->
  Jo X es (fun vs σ H Q=>∃σ',bB is vs σ=some σ'/\Q σ' H)
 |[],[],_,_=>by
  intro pins s σ H vs us Q I r h;obtain⟨σ',e,q⟩:=h;cases vs with
  |nil=>cases r;simp only[bB]at e;cases e;exact assignInOrder_nil ⟨σ,H,I,q⟩
  |cons _ _=>simp[bB]at e
 |[],_::_,h,_=>by cases h
 |_::_,[],h,_=>by cases h
 |i::is,e::es,hl,hz=>by
  simp only[WS,Qw,QN]at hz;obtain⟨h1,h2⟩:=hz;cases e with
  |Name x pos =>
   obtain⟨g1,g2⟩:=oH h1;have g1':X.N[i]?=some x:=by rw[hN];exact g1
   have g2':X.env.scope.names.lookup x=some .local:=by rw[hsc];exact g2
   have ih:=FN hN hsc nd is es (by simpa using hl) h2;intro pins s σ H vs us Q I r h;obtain⟨σ',e,q⟩:=h;cases vs with
   |nil=>simp[bB]at e
   |cons v vs =>
    simp only[bB]at e;cases r with
    |cons r rr=>show wpAny _ _ (assignInOrder (assign (.Name x pos) X.env::(assignEach es X.env).map (·.2)) _) _ _ _;refine assignInOrder_cons (EA (pV (pos:=pos) nd g1' (.inl g2') (.inr g2') pins s σ H v _ _ I r (show MV i v σ H (fun σ1 H1=>σ1=σ.set i (some v)/\H1=H) from⟨rfl,rfl⟩)) fun _ s1 ⟨σ1,H1,I1,e1,e2⟩=>?_);subst e1 e2;exact ih pins s1 _ _ vs _ Q I1 rr ⟨σ',e,q⟩
  |_=>simp at h1
theorem gR:∀(is:List Nat) (es:List Expr) (S:SC),is.length=es.length->((is.zip es).all fun p=>match p.2 with | .Name x _=>pN S p.1 x|_=>false)=true->(assignEach es X.env).length=es.length/\(assignEach es X.env).findIdx? (·.1)=none
 |[],[],_,_,_=>⟨rfl,rfl⟩
 |[],_::_,_,h,_=>by cases h
 |_::_,[],_,h,_=>by cases h
 |i::is,e::es,S,hl,hz=>by
  simp only[WS,Qw,QN]at hz;obtain⟨h1,h2⟩:=hz;cases e with
  |Name x pos=>have ih:=gR is es S (by simpa using hl) h2;have e1:assignEach (.Name x pos::es) X.env=(false,assign (.Name x pos) X.env)::assignEach es X.env:=rfl;rw[e1];refine⟨by rw[QH,QH,ih.1],?_⟩;rw[List.findIdx?_cons];simp[ih.2]
  |_=>simp at h1
theorem gL:∀{is:List Nat}{vs:List V}{σ σ':St},bB is vs σ=some σ'->vs.length=is.length
 |[],[],_,_,_=>rfl
 |[],_::_,_,_,h=>by simp[bB]at h
 |_::_,[],_,_,h=>by simp[bB]at h
 |_::is,_::vs,σ,σ',h=>by simp only[bB]at h;rw[QH,QH,gL h]
theorem oV{S:SC}{G:Glob}{E:XK}(ok:OkX X S G E)(nd:X.N.Nodup){tg:Tg}{e:Expr}(h:dh S tg e=true):PG X e (uF X.K tg):=by
 cases tg with
 |nm i =>
  cases e with
  |Name x pos =>
   obtain⟨g1,g2⟩:=oH h;have g1':X.N[i]?=some x:=by rw[ok.N];exact g1
   have g2':X.env.scope.names.lookup x=some .local:=by rw[ok.sc];exact g2
   exact pV nd g1' (.inl g2') (.inr g2')
  |_=>cases h
 |tp is =>
  cases e with
  |Tuple es k pos =>
   simp only[dh,QN,beq_iff_eq]at h;obtain⟨h1,h2⟩:=h;obtain⟨l1,l2⟩:=gR (X:=X) is es S h1 h2;have base:=Ze (pos:=pos) (k:=k) (n:=es.length) ok.calm (FN ok.N ok.sc nd is es h1 h2) l1 l2;intro pins s σ H v u Q I r hw;refine base pins s σ H v u Q I r ?_;cases v with
   |ref p=>obtain⟨xs,σ',hq,e,q⟩:=hw;exact⟨p,xs,rfl,hq,by rw[gL e,h1],σ',e,q⟩
   |_=>exact QR hw
  |_=>cases h
end
variable{Γ:Ev}
theorem G5(K:QC)(a:Addr)(xs:List V):Yields (Eo K a) (xs.map .one) (fun H=>ID K H a xs) :=
  { go:=fun i H h hi=>by
      have hi':i<xs.length:=by simpa using hi
      exact⟨xs,xs[i],h,by simp[hi']⟩
    yld:=fun i H x H' h _ ⟨e,y⟩=>⟨.one x,by rw[Qv,y xs h];rfl,rfl,e⟩
    stop:=fun i H h hi=>⟨xs,h,by simpa using hi⟩ }
theorem Tc(K:QC)(a:Addr)(xs:List V):Yields (Ao K a) (xs.map .one) (fun H=>LE K H a xs) :=
  { go:=fun i H h hi=>by
      have hi':i<xs.length:=by simpa using hi
      exact⟨xs,xs[i],h,by simp[hi']⟩
    yld:=fun i H x H' h _ ⟨e,y⟩=>⟨.one x,by rw[Qv,y xs h];rfl,rfl,e⟩
    stop:=fun i H h hi=>⟨xs,h,by simpa using hi⟩ }
theorem Ac(z:Str):Yields (Vn z) (z.cps.toList.map fun c=>.one (.str ⟨#[c]⟩)) (fun _=>True) :=
  { go:=fun i H h hi=>by
      have hi':i<z.cps.size:=by simpa using hi
      exact hi'
    yld:=fun i H x H' h _ ⟨e,c,hc,ex⟩=>⟨.one x,by rw[Qv,QA6,hc,ex];rfl,rfl,e⟩
    stop:=fun i H h hi=>by
      have hi':z.cps.size<=i:=by simpa using hi
      exact hi' }
theorem Ec(lo:Int)(n:Nat):Yields (Xn lo n) ((qK n).map fun(k:Nat)=>.one (.int (lo+(k:Int)))) (fun _=>True) :=
  { go:=fun i H h hi=>by
      have hi':i<n:=by simpa using hi
      exact hi'
    yld:=fun i H x H' h hi ⟨e,ex⟩=>by
      have hi':i<n:=by simpa using hi
      exact⟨.one x,by rw[Qv,QBW hi',ex];rfl,rfl,e⟩
    stop:=fun i H h hi=>by
      have hi':n<=i:=by simpa using hi
      exact hi' }
theorem Sc(K:QC)(z1 z2:Src)(xs ys:List V):Yields (To K z1 z2) ((xs.zip ys).map fun p=>.tup [p.1,p.2]) (fun H=>fQ K H z1 xs/\fQ K H z2 ys) :=
  { go:=fun i H h hi=>by
      have hi':i<xs.length/\i<ys.length:=by simp only[QJ,WT]at hi;omega
      exact⟨xs,ys,xs[i],ys[i],h.1,h.2,by simp[hi'.1],by simp[hi'.2]⟩
    yld:=fun i H x H' h hi ⟨p,a,b,hp,e,eH,k⟩=>by obtain⟨e1,e2⟩:=k xs ys h.1 h.2;refine⟨.tup [a,b],?_,p,hp,e,eH⟩;rw[Qv,(List.getElem?_zip_eq_some (z:=(a,b))).mpr ⟨e1,e2⟩];rfl
    stop:=fun i H h hi=>⟨xs,ys,h.1,h.2,by simp only[QJ,WT]at hi;omega⟩ }
noncomputable def il(lo k:Int)(n:Nat):It:=⟨fun i _=>i<n,fun i H x H'=>H'=H/\x=.int (lo+(i:Int) * k),fun i _=>n<=i⟩
theorem JW{P:Program}{w:World}{K:QC}{tg:Expr}(it:Addr)(lo k:Int)(n:Nat):Turn P w K tg (il lo k n) [it] it (fun i h=>IsRangeIter h it (lo+(i:Nat) * k) ((n:Int) - (i:Nat)) k) where
 mem:=by simp
 obj:=fun i h st b hb=>by
  have e:b=it:=by simpa using hb
  subst e;exact⟨_,st,fun v z=>by cases(show Data.fields _=Data.cell v from z)⟩
 keep:=fun i h h' st k=>k it (by simp) _ st
 item:=by intro X hP hw hK hc i pins s σ H E I hf st hg;subst hP hw hK;obtain⟨f0,f1,f2,f3,f4,f5⟩:=hf it (by simp);refine(Walks.range (prog:=X.prog) (w:=X.w) (I.ok.hd hc) it lo k n).item i s _ _ hg st fun v h' tk hv st' kk=>?_;obtain⟨t,rfl⟩:=hv;have I1:Inv X pins σ H { s with heap:=h',toks:=tk }:=I.turned (fun b o hb e=>kk b o (by simpa using hb) e) f0 f1 f3 f4 f5;exact⟨_,rfl,tR (s:={ s with heap:=h',toks:=tk }) (n:="range_iterator") st' rfl rfl (by decide) ⟨.int (lo+(i:Int) * k),H,I1,⟨t,rfl⟩,⟨rfl,rfl⟩,st',fun b hb=>(hf b hb).1⟩⟩
 done:=by intro X hP hw hK hc i pins s σ H E I hf st hg;subst hP hw hK;obtain⟨f0,f1,f2,f3,f4,f5⟩:=hf it (by simp);exact QAu (I.ok.hd hc) st (by have:n<=i:=hg;omega) fun h' eb=>⟨rfl,I.turned (t':=s.toks) (fun b o hb e=>eb b o hb e) f0 f1 f3 f4 f5⟩
 self:=fun _ _ _ _ _ st h=>QAv st h
theorem F5(lo k:Int)(n:Nat):Yields (il lo k n) ((qK n).map fun(m:Nat)=>.one (.int (lo+(m:Int) * k))) (fun _=>True) :=
  { go:=fun i H h hi=>by
      have hi':i<n:=by simpa using hi
      exact hi'
    yld:=fun i H x H' h hi ⟨e,ex⟩=>by
      have hi':i<n:=by simpa using hi
      exact⟨.one x,by rw[Qv,QBW hi',ex];rfl,rfl,e⟩
    stop:=fun i H h hi=>by
      have hi':n<=i:=by simpa using hi
      exact hi' }
noncomputable def tW(wi0:St->Hp->(List Item->(Hp->Prop)->Hp->Prop)->Prop):TI:=fun σ H R=>wi0 σ H fun xs st H'=>∀J,Yields J xs st->R J H'
section
variable{X:Cx}{tg:Expr}
theorem O6{l:Expr}{t:TE}(hl:PE X l t):PI X tg l (tW fun σ H R=>t σ H fun v H1=>HD X.K .val [v] H1 R):=by
 intro pins s σ H R I h;refine EA (hl pins s σ H _ I h) fun v s1 ⟨x,H1,I1,r1,q1⟩=>?_;have fp1:∀b∈[s1.heap.objs.size],uK X pins H1 b:=fun b hb=>by
  have e:b=s1.heap.objs.size:=by simpa using hb
  subst e;exact I1.fpOk (Qa _) (I1.hok.fresh (Qa _))
 cases x with
 |str z=>obtain⟨t,rfl⟩:=r1;refine wpAny_pyIter_strU ?_;exact⟨s1.heap.objs.size,[s1.heap.objs.size],_,_,H1,rfl,I1.kept (t':=s1.toks) fun b o e=>QF _ e,ZY _ z t,⟨_,QY _ rfl,rfl,rfl⟩,fp1,q1 _ (Ac z)⟩
 |ref a =>
  cases r1;rcases q1 with⟨xs,hq,q⟩| ⟨xs,hq,q⟩
  obtain⟨its,rv,p,hz⟩:=I1.list hq;refine QAa p.isList ?_;exact⟨s1.heap.objs.size,[s1.heap.objs.size],_,_,H1,rfl,I1.kept (t':=s1.toks) fun b o e=>QF _ e,YW a _,⟨_,QY _ rfl,rfl,rfl⟩,fp1,q _ (G5 _ a xs)⟩;obtain⟨its,rv,p,hz⟩:=I1.tuple hq;refine QBm (show s1.heap.IsTuple a its.toArray from p) ?_;exact⟨s1.heap.objs.size,[s1.heap.objs.size],_,_,H1,rfl,I1.kept (t':=s1.toks) fun b o e=>QF _ e,BS a _,⟨_,QY _ rfl,rfl,rfl⟩,fp1,q _ (Tc _ a xs)⟩
 |_=>exact QR q1
theorem R6{a:Expr}{ta:TA}{p pos:Pos}{x:Str}(hx:x="range")(hg:Gl X x)(hm:X.mg x=none)(ha:PA X [a] ta)(hs:jB a=true) :
  PI X tg (.Call (.Name x p) [a] [] pos) (tW fun σ H R=>ta σ H fun vs H1=>HD X.K .rng1 vs H1 R):=by
 subst hx;intro pins s σ H R I h;refine Call_ (NG I hg hm boot_range (wA (EA (ha pos pins s σ H _ I h) fun us s1 ⟨vs,H1,I1,r1,q1⟩=>?_) (gA _ hs) rfl))
 match vs,q1 with
 |[.int j],⟨⟨q1,q2⟩,q⟩ =>
  cases r1 with
  |cons r rr =>
   cases rr;obtain⟨t,rfl⟩:=r;refine call_range_1 (vZ I1 (by omega) (by omega) q1 q2 ?_);have e:(j - 0).toNat=j.toNat:=by simp
   rw[e];have y:=Ec 0 j.toNat;refine q _ ?_;simpa using y
theorem P6{a b c:Expr}{ta:TA}{p pos:Pos}{x:Str}(hx:x="range")(hg:Gl X x)(hm:X.mg x=none)(ha:PA X [a,b,c] ta)(hs:jB a=true)(hs2:jB b=true)(hs3:jB c=true) :
  PI X tg (.Call (.Name x p) [a,b,c] [] pos) (tW fun σ H R=>ta σ H fun vs H1=>HD X.K .rng3 vs H1 R):=by
 subst hx;intro pins s σ H R I h;refine Call_ (NG I hg hm boot_range (wA (EA (ha pos pins s σ H _ I h) fun us s1 ⟨vs,H1,I1,r1,q1⟩=>?_) (gA _ hs) (by rw[gA _ hs2,gA _ hs3];rfl)))
 match vs,q1 with
 |[.int i,.int j,.int k],⟨⟨q1,q2,q3,q4,q5,q6⟩,q⟩ =>
  cases r1 with
  |cons r rr =>
   cases rr with
   |cons r' rr =>
    cases rr with
    |cons r'' rr =>
     cases rr;obtain⟨t,rfl⟩:=r;obtain⟨t',rfl⟩:=r';obtain⟨t'',rfl⟩:=r'';have hp:Builtin.divisionGoesByPylong (j - i) k=false:=PyProof.noPylong_small (by omega);have rs:qW i j k=((VQ i j k:Nat):Int):=by unfold qW VQ;rw[if_pos q5];split;have:0<=(j - i - 1) / k:=QCk (by omega) (by omega);omega;rfl
     have sm:QBX i j k=true:=by
      unfold QBX;have hd:(j - i - 1) / k<=j - i - 1∨j<=i:=by rcases Int.lt_or_le i j with q|q;exact .inl (Int.ediv_le_self _ (by omega));exact .inr q
      have e:qW i j k=if i<j then(j - i - 1) / k+1 else 0:=by unfold qW;rw[if_pos q5]
      have hn:0<=(j - i - 1) / k∨j<=i:=by rcases Int.lt_or_le i j with q|q;exact .inl (QCk (by omega) (by omega));exact .inr q
      rw[e];simp only[Builtin.Range.rangeFitsLong,QN,qq,decide_eq_true_eq,beq_iff_eq,q5,if_true];split<;>omega
     refine PySem.call_range_3 (by omega) ?_ (.inl hp);refine QBf (IsRange.new ..) sm ?_;have I2:Inv X pins σ H1 { s1 with heap:=s1.heap.push { cls:=.type "range",data:=.fields #[.int i t,.int j t',.int k t''] } }:=I1.kept (t':=s1.toks) fun b o e=>QF _ e;refine⟨_,[_],_,_,H1,rfl,I2.kept (t':=s1.toks) fun b o e=>QF _ e,JW _ i k (VQ i j k),?_,fun b hb=>?_,q _ (F5 i k _)⟩;have e1:i+((0:Nat):Int) * k=i:=by simp
     have e2:((VQ i j k:Nat):Int) - ((0:Nat):Int)=qW i j k:=by rw[rs];simp
     rw[e1,e2];exact QY _ rfl;have e:=qJ.mp hb;subst e;exact I2.fpOk (Qa _) (I2.hok.fresh (Qa _))
theorem _root_.L2.Inv.size0{pins:ZB}{σ:St}{H:Hp}{s:Shared}(I:Inv X pins σ H s):0<s.heap.objs.size:=by obtain⟨m,⟨o,_,_,ho,_⟩,_⟩:=I.loc;exact QBo (QAm _) (QO ho)
theorem U4:bootBuiltins ("zip":Str)=some (.type "zip"):=by kernel_rfl
theorem Ye{a b:Expr}{ta:TA}{p pos pt:Pos}{x:Str}{es:List Expr}{kt:Nat}(hx:x="zip")(hg:Gl X x)(hm:X.mg x=none)(ha:PA X [a,b] ta)(hs:jB a=true)(hs2:jB b=true) :
  PI X (.Tuple es kt pt) (.Call (.Name x p) [a,b] [] pos) (tW fun σ H R=>ta σ H fun vs H1=>HD X.K .zip2 vs H1 R):=by
 subst hx;intro pins s σ H R I h;refine Call_ (NG I hg hm U4 (wA (EA (ha pos pins s σ H _ I h) fun us s1 ⟨vs,H1,I1,r1,q1⟩=>?_) (gA _ hs) (by rw[gA _ hs2];rfl)))
 match vs,q1 with
 |[u1,u2],⟨z1,z2,xs,ys,e1,e2,h1,h2,q⟩ =>
  subst e1 e2;cases r1 with
  |cons r rr =>
   cases rr with
   |cons r' rr =>
    cases rr;obtain⟨z3,rfl,eq1⟩:=f9 r;obtain⟨z4,rfl,eq2⟩:=f9 r';rw[<- eq1]at h1;rw[<- eq2]at h2;simp only[<- eq1,<- eq2]at q;obtain⟨its,_,sh1⟩:=I1.src h1;obtain⟨jts,_,sh2⟩:=I1.src h2;refine vY sh1 sh2 fun h' st kp=>QCR st.1 ?_;have I2:=I1.kept (h':=h') (t':=s1.toks) kp;refine⟨_,[s1.heap.objs.size+4,s1.heap.objs.size+2,s1.heap.objs.size+3,s1.heap.objs.size,s1.heap.objs.size+1],_,_,H1,rfl,I2,YY (mQ (sh1.lt I1.size0) (sh2.lt I1.size0)),st,fun b hb=>?_,q _ (Sc _ z3 z4 xs ys)⟩;have hb':s1.heap.objs.size<=b:=by simp only[QL,qN,or_false]at hb;rcases hb with rfl|rfl|rfl|rfl|rfl;exact Wo _ _;exact Wo _ _;exact Wo _ _;exact Qa _;exact Wo _ _
    exact I1.fpOk hb' (I1.hok.fresh hb')
end
noncomputable def Tg.at:Tg->List Nat
 | .nm i=>[i]
 | .tp is=>is
def iS(tg:Tg)(σ' σ:St):Prop:=σ'.length=σ.length/\∀(j:Nat),j∉tg.at->σ'[j]?=σ[j]?
theorem CW{i:Nat}{v:Option V}{σ' σ:St}(h:σ'.length=σ.length)(hj:∀j,j≠i->σ'[j]?=σ[j]?):σ'.set i v=σ.set i v:=by apply QAd;intro j;by_cases e:j=i;subst e;by_cases hl:j<σ.length;rw[Q4 (by omega),Q4 hl];rw[wF (by rw[qM];omega),wF (by rw[qM];omega)];rw[Qm (Qu e),Qm (Qu e)];exact hj j e
theorem HI:∀(is:List Nat) (vs:List V) (σ' σ:St),σ'.length=σ.length->(∀j,j∉is->σ'[j]?=σ[j]?)->bB is vs σ'=bB is vs σ
 |[],[],σ',σ,hl,h=>by have:σ'=σ:=QAd fun j=>h j (by simp);rw[this]
 |[],_::_,_,_,_,_=>rfl
 |_::_,[],_,_,_,_=>rfl
 |i::is,v::vs,σ',σ,hl,h=>by simp only[bB];refine HI is vs _ _ (by simp[hl]) fun j hj=>?_;by_cases e:j=i;subst e;by_cases hl':j<σ.length;rw[Q4 (by omega),Q4 hl'];rw[wF (by rw[qM];omega),wF (by rw[qM];omega)];rw[Qm (Qu e),Qm (Qu e)];exact h j (by simp[e,hj])
theorem nF:∀(is:List Nat) (vs:List V) (σ σ':St),bB is vs σ=some σ'->σ'.length=σ.length/\∀j,j∉is->σ'[j]?=σ[j]?
 |[],[],σ,σ',e=>by simp only[bB]at e;cases e;exact⟨rfl,fun _ _=>rfl⟩
 |[],_::_,_,_,e=>by simp[bB]at e
 |_::_,[],_,_,e=>by simp[bB]at e
 |i::is,v::vs,σ,σ',e=>by simp only[bB]at e;obtain⟨h1,h2⟩:=nF is vs _ _ e;refine⟨by rw[h1,qM],fun j hj=>?_⟩;rw[h2 j (fun z=>hj (QG _ z)),Qm (fun z=>hj (by simp[z]))]
theorem xS{K:QC}{tg:Tg}{v:V}{σ' σ:St}{H:Hp}{Q:St->Hp->Prop}(a:iS tg σ' σ)(h:uF K tg v σ H Q):uF K tg v σ' H fun σ3 H3=>iS tg σ3 σ/\Q σ3 H3:=by
 obtain⟨al,aj⟩:=a;cases tg with
 |nm i=>have e:σ'.set i (some v)=σ.set i (some v):=CW al fun j hj=>aj j (by simpa[Tg.at]using hj);show iS (.nm i) (σ'.set i (some v)) σ/\Q (σ'.set i (some v)) H;rw[e];exact⟨⟨by simp,fun j hj=>Qm (fun z=>hj (by simp[Tg.at,z]))⟩,h⟩
 |tp is =>
  cases v with
  |ref p=>obtain⟨xs,σ3,hq,e,q⟩:=h;exact⟨xs,σ3,hq,by rw[HI is xs σ' σ al fun j hj=>aj j hj];exact e,⟨(nF is xs σ σ3 e).1,fun j hj=>(nF is xs σ σ3 e).2 j hj⟩,q⟩
  |_=>exact QR h
theorem KU{K:QC}{tg:Tg}{v:V}{σ:St}{H:Hp}{Q Q':St->Hp->Prop}(m:∀σ H,Q σ H->Q' σ H)(h:uF K tg v σ H Q):uF K tg v σ H Q':=by
 cases tg with
 |nm i=>exact m _ _ h
 |tp is =>
  cases v with
  |ref p=>obtain⟨xs,σ3,hq,e,q⟩:=h;exact⟨xs,σ3,hq,e,m _ _ q⟩
  |_=>exact QR h
theorem VM{K:QC}{tg:Tg}{it:Item}{x:V}{σ:St}{H H':Hp}{Q:St->Hp->Prop}(hi:match it with | .one v=>x=v/\H'=H | .tup vs=>∃p,H p=none/\x=.ref p/\H'=FA H p (.tup vs))(h:bindI K tg it σ H Q):uF K tg x σ H' Q:=by
 cases it with
 |one v=>obtain⟨rfl,rfl⟩:=hi;exact h
 |tup vs =>
  obtain⟨p,hp,rfl,rfl⟩:=hi;cases tg with
  |nm i=>exact h p hp
  |tp is =>
   obtain⟨σ',e,q⟩:=h (FA H p (.tup vs)) fun b o e=>by rw[vA (KA e hp)];exact e
   exact⟨vs,σ',LE.of dA,e,q⟩
theorem j4{K:QC}{xs:List Item}{st:Hp->Prop}{tg:Tg}{tc:TT}{te:TE}{σ0:St}{H:Hp}{Q:VK}(h:Aj K xs st (bindI K tg) tc te σ0 H Q):nW K xs st tg tc te σ0 H Q:=by
 obtain⟨W,w0,hst,turn,done⟩:=h;intro J Y;refine⟨fun i m acc σ' H'=>m=xs.length - i/\i<=xs.length/\iS tg σ' σ0/\W i acc H',⟨xs.length,by simp,QAm _,⟨rfl,fun _ _=>rfl⟩,w0⟩,?_⟩;rintro i m acc σ' H' ⟨rfl,hi,ag,w⟩;have s':=hst i acc H' hi w;by_cases hlt:i<xs.length;refine .inr ⟨Y.go i H' s' hlt,fun x H2 y=>?_⟩;obtain⟨it,hit,hy⟩:=Y.yld i H' x H2 s' hlt y;have b:=xS ag (VM hy (turn i it acc H' hit w));refine KU (fun σ3 H3 q=>?_) b;obtain⟨ag3,q⟩:=q;have e1:∀(acc':List V) (H5:Hp),(∃m',m' < xs.length - i/\m'=xs.length - (i+1)/\i+1<=xs.length/\iS tg σ3 σ0/\W (i+1) acc' H5)=W (i+1) acc' H5:=fun acc' H5 =>
  propext ⟨fun⟨_,_,_,_,_,w⟩=>w,fun w=>⟨_,by omega,rfl,hlt,ag3,w⟩⟩
 simp only[e1];exact q
 ·have e:i=xs.length:=by omega
  subst e;obtain⟨hz,q⟩:=done acc H' w;exact .inl ⟨Y.stop _ H' s' (Qa _),hz,q⟩
theorem O3:∀(ks:List Str) (es:List (Option Expr)),jm ks es=true->es.length=ks.length/\es.all (·.isSome)=true
 |[],[],_=>⟨rfl,rfl⟩
 |[],_::_,h=>(QD h).elim
 |_::_,[],h=>(QD h).elim
 |_::_,none::_,h=>(QD h).elim
 |k::ks,some e::es,h=>by obtain⟨a,b⟩:=O3 ks es (jA h).2;exact⟨by rw[QH,QH,a],by rw[Qw,b];rfl⟩
noncomputable def SU(K:QC)(Γ:Ev)(E:XK):List Str->PX->List (TE×TE)
 |k::ks,.nq a as=>(tC (.str k),(wp K Γ a E).e)::SU K Γ E ks as
 |_,_=>[]
end L2.L3
namespace L2.L3
open PySem PySem.Spec PyProof.Rows
variable{Γ:Ev}
noncomputable def pP:PX->Bool
 | .nq _ _=>false
 |_=>true
theorem bS{X:Cx}{E:XK}{p:PX}{es:List Expr}(h:pP p=true):uN X Γ E p es:=by cases p<;>first|trivial|cases h
theorem pJ(Q:Bool->Hp->Prop):(fun(x:V) (H1:Hp)=>lQ x H1 Q)=fun(x:V) (H1:Hp)=>∃k,x=.bl k/\Q k H1:=by funext x H1;exact Bg x H1 Q
theorem Snd.of{X:Cx}{E:XK}{p:PX}{e:Expr}(pe:PE X e (wp X.K Γ p E).e)(pt:PT X e (wp X.K Γ p E).t)(hb:∀op es pos,e≠.BoolOp op es pos)(ha:(wp X.K Γ p E).a=never.a)(hn:pP p=true:=by rfl):Snd X Γ E p e :=
 ⟨pe,pt,fun op es pos z=>absurd z (hb op es pos),fun es pos z=>by rw[ha];exact BQ,fun _ _ _=>bS hn⟩
theorem Snd.lit{X:Cx}{E:XK}{p:PX}{e:Expr}(pe:PE X e (wp X.K Γ p E).e)(ht:(wp X.K Γ p E).t=never.t)(hb:∀op es pos,e≠.BoolOp op es pos)(ha:(wp X.K Γ p E).a=never.a)(hn:pP p=true:=by rfl):Snd X Γ E p e :=
 Snd.of pe (by rw[ht];exact JL) hb ha hn
theorem Snd.args{X:Cx}{E:XK}{p:PX}{es:List Expr}{pos:Pos}(ha:PA X es (wp X.K Γ p E).a)(hp:uN X Γ E p es)(he:(wp X.K Γ p E).e=never.e)(ht:(wp X.K Γ p E).t=never.t):Snd X Γ E p (.List es pos) :=
 ⟨by rw[he];exact tZ,by rw[ht];exact JL,fun _ _ _ z=>(by cases z),fun es' pos' z=>by cases z;exact ha,fun es' pos' z=>by cases z;exact hp⟩
theorem zT{X:Cx}{S:SC}{x:Str}{v:V}{u:Value}{pos:Pos}(hsc:X.env.scope=S.sc)(h:SJ S x=true)(hm:X.mg x=some u)(r:sA v u):PE X (.Name x pos) (fun _ H Q=>Q v H):=by obtain⟨h1,h2,h3⟩:=aC h;exact S6 (show X.env.scope.names.lookup x=some .globalImplicit by rw[hsc];exact h1) hm r h2
theorem MB{S:SC}{pos:Pos}:∀(p:PX) {es:List Expr},VB p S (.List es pos)=true->es.all jB=true:=by
 intro p;induction p with
 |nr=>intro es h;have h:es.isEmpty=true:=h;rw[Qp.mp h];rfl
 |nq a as _ ih=>intro es h;have h:U5 es _=true:=h;obtain⟨x,t,rfl,h⟩:=jJ h;have h1:=jA h;rw[Qw,h1.1,ih (jA h1.2).2];rfl
 |lst as ih=>exact fun h=>ih h
 |prm o as=>intro es h;have h:=(jA h).2;cases o<;>exact(QD h).elim
 |_=>exact fun h=>(QD h).elim
theorem uS{K:QC}{E:XK}{S:SC}{pos:Pos}{σ:St}{H:Hp}{Q:List V->Hp->Prop}:∀(p:PX),VC p=true->VB p S (.List [] pos)=true->((wp K Γ p E).a σ H Q↔Q [] H):=by
 intro p;cases p with
 |nr=>exact fun _ _=>QAP
 |nq _ _=>exact fun _ h=>(QD h).elim
 |_=>exact fun h=>(QD h).elim
theorem fY{K:QC}{E:XK}{S:SC}{pos:Pos}{σ:St}{H:Hp}{Q:List V->Hp->Prop}(p:PX)(h:VB p S (.List [] pos)=true)(q:(wp K Γ p E).a σ H Q):Q [] H:=by
 cases hi:VC p with
 |true=>exact(uS p hi h).mp q
 |false =>
  cases p with
  |nr=>exact q
  |nq _ _=>exact(QD h).elim
  |_=>exact q.elim
theorem TD{S:SC}{a:Expr}{pos:Pos}(p:PX)(h0:VC p=true)(h:VB p S (.List [a] pos)=true):∃a1,p=.nq a1 .nr:=by
 cases p with
 |nq a1 r =>
  have h2:VB r S (.List [] pos)=true:=(jA (jA h).2).2;cases r with
  |nr=>exact⟨a1,rfl⟩
  |nq _ _=>exact(QD h2).elim
  |_=>exact(QD h0).elim
 |nr=>exact(QD h).elim
 |_=>exact(QD h0).elim
theorem rJ{S:SC}{a b:Expr}{pos:Pos}(p:PX)(h0:VC p=true)(h:VB p S (.List [a,b] pos)=true):∃a1 b1,p=.nq a1 (.nq b1 .nr):=by
 cases p with
 |nq a1 r=>obtain⟨b1,e⟩:=TD r h0 (jA (jA h).2).2;exact⟨a1,b1,by rw[e]⟩
 |nr=>exact(QD h).elim
 |_=>exact(QD h0).elim
theorem xj{X:Cx}(m:Mt):∃id,PlainAttrs m.ty/\Slot m.ty m.nm id/\typeOf (.builtin id)=pure (.type "method_descriptor")/\ac X id (z8 X.K m):=by
 cases m with
 |split=>exact⟨_,WZ,PySem.F.slot_str_split,PySem.F.type_str_split,K1⟩
 |rstrip=>exact⟨_,WZ,PySem.F.slot_str_rstrip,PySem.F.type_str_rstrip,pX⟩
 |insert=>exact⟨_,QAr,PySem.F.slot_list_insert,PySem.F.type_list_insert,E7⟩
 |find=>exact⟨_,WZ,PySem.F.slot_str_find,PySem.F.type_str_find,j8⟩
 |pop=>exact⟨_,QAr,PySem.F.slot_list_pop,PySem.F.type_list_pop,A7⟩
theorem rC{env:Env}{pos:Pos}:∀{es:List Expr},es.all jB=true->(backTo pos (starEach es env)).any (·.1)=false
 |[],_=>rfl
 |e::es,h=>by rw[Qw]at h;obtain⟨h1,h2⟩:=jA h;rw[gA env h1];show(false||(backTo pos (starEach es env)).any (·.1))=false;rw[rC h2];rfl
theorem LM{env:Env}{pos:Pos}:∀{es:List Expr},es.all jB=true->(backTo pos (starEach es env)).all (fun x=>!x.1)=true
 |[],_=>rfl
 |e::es,h=>by rw[Qw]at h;obtain⟨h1,h2⟩:=jA h;rw[gA env h1];show(true&&(backTo pos (starEach es env)).all (fun x=>!x.1))=true;rw[LM h2];rfl
theorem yT{X:Cx}{S:SC}{G:Glob}{E:XK}(ok:OkX X S G E){ik:ItK}{its:PX}{t it:Expr}{pos:Pos}(hik:Rm (VC its) S ik (fun es p=>VB its S (.List es p)) t it pos=true)(n1:Al G ik)
  (sn:∀es p,VB its S (.List es p)=true->Snd X G.ev E its (.List es p)):PI X t it (tW fun σ H R=>(wp X.K G.ev its E).a σ H fun vs H1=>HD X.K ik vs H1 R):=by
 have glo:∀{x:Str},SJ S x=true->Gl X x:=fun {x} h=>by show X.env.scope.names.lookup x=some .globalImplicit;rw[ok.sc];exact(aC h).1
 have tupT:KP t=true->∃es k p,t=.Tuple es k p:=fun h=>by
  cases t with
  |Tuple es k p=>exact⟨es,k,p,rfl⟩
  |_=>exact(QD h).elim
 cases ik with
 |val=>have i:=jA hik;have pas:=(sn _ pos i.2).pas _ pos rfl;obtain⟨a,rfl⟩:=TD its i.1 i.2;exact O6 pas.1
 |rng1=>obtain⟨px,es,ks,p,rfl,hg,h⟩:=TC hik;have h1:=jA h;cases Qp.mp h1.1;obtain⟨a,rfl,h3⟩:=oB h1.2;exact R6 rfl (glo hg) (ok.no _ n1) ((sn _ p h3).pa _ p rfl) (by simpa using MB its h3)
 |rng3=>obtain⟨px,es,ks,p,rfl,hg,h⟩:=TC hik;have h1:=jA h;cases Qp.mp h1.1;obtain⟨a,b,c,rfl,h3⟩:=E9 h1.2;have st:=jA (MB its h3);have st2:=jA st.2;exact P6 rfl (glo hg) (ok.no _ n1) ((sn _ p h3).pa _ p rfl) st.1 st2.1 (jA st2.2).1
 |zip2=>have i:=jA hik;obtain⟨es,k,pt,rfl⟩:=tupT i.1;obtain⟨px,es,ks,p,rfl,hg,h⟩:=TC i.2;have h1:=jA h;cases Qp.mp h1.1;obtain⟨a,b,rfl,h3⟩:=mK h1.2;have st:=jA (MB its h3);exact Ye rfl (glo hg) (ok.no _ n1) ((sn _ p h3).pa _ p rfl) st.1 (jA st.2).1
theorem dC{X:Cx}{e:Expr}{te te':TE}(h:PE X e te)(q:∀σ H Q,te' σ H Q->te σ H Q):PE X e te':=fun pins s σ H Q I z=>h pins s σ H Q I (q σ H Q z)
theorem YO{S:SC}{pos:Pos}{v:Expr}{vs:List Expr}(p:PX)(h0:VC p=true)(h:VB p S (.List (v::vs) pos)=true):∃a as,p=.nq a as/\VC as=true/\VB as S (.List vs pos)=true:=by
 cases p with
 |nq a as=>exact⟨a,as,rfl,h0,(jA (jA h).2).2⟩
 |nr=>exact(QD h).elim
 |_=>exact(QD h0).elim
theorem mZ{X:Cx}{S:SC}{E:XK}{pos:Pos}:∀(ks:List Str) (vs:PX) (keys:List (Option Expr)) (vals:List Expr),jm ks keys=true->VC vs=true->VB vs S (.List vals pos)=true->keys.length=vals.length->uN X Γ E vs vals->Ak X pos keys vals (SU X.K Γ E ks vs)
 |[],vs,keys,vals,h,ha,hc,hl,hp=>by
  cases keys with
  |cons _ _=>exact(QD h).elim
  |nil=>cases vals with
   |nil=>exact G6
   |cons _ _=>cases hl
 |k::ks,vs,keys,vals,h,ha,hc,hl,hp=>by
  cases keys with
  |nil=>exact(QD h).elim
  |cons e es=>cases e with
   |none=>exact(QD h).elim
   |some e=>cases vals with
    |nil=>cases hl
    |cons v vals=>obtain⟨a,as,rfl,h1,h2⟩:=YO vs ha hc;have h3:=jA h;obtain⟨c,j,cp,rfl,h4⟩:=BD h3.1;obtain⟨z,rfl,h5⟩:=ZU h4;cases Qd h5;exact nZ VL hp.1 (mZ ks as es vals h3.2 h1 h2 (WJ hl) hp.2)
theorem UQ{K:QC}{S:SC}{E:XK}{pos:Pos}:∀(ks:List Str) (vs:PX) (vals:List Expr),VC vs=true->VB vs S (.List vals pos)=true->ks.length=vals.length->∀{σ:St}{H:Hp}{Q:List (V×V)->Hp->Prop},bL (SU K Γ E ks vs) σ H Q=(wp K Γ vs E).a σ H fun xs H2=>Q ((ks.map V.str).zip xs) H2
 |[],vs,vals,ha,hc,hl,σ,H,Q=>by
  cases vals with
  |cons _ _=>cases hl
  |nil =>
   cases vs with
   |nr=>rfl
   |nq _ _=>exact(QD hc).elim
   |_=>exact(QD ha).elim
 |k::ks,vs,vals,ha,hc,hl,σ,H,Q=>by
  cases vals with
  |nil=>cases hl
  |cons v vals=>obtain⟨a,as,rfl,h1,h2⟩:=YO vs ha hc;show((wp K Γ a E).e σ H fun y H2=>bL (SU K Γ E ks as) σ H2 fun ps H3=>Q ((V.str k,y)::ps) H3)=(wp K Γ a E).e σ H fun x H1=>(wp K Γ as E).a σ H1 fun xs H2=>Q ((V.str k,x)::(ks.map V.str).zip xs) H2;congr 1;funext y H2;exact UQ ks as vals h1 h2 (WJ hl)
theorem snd{G:Glob}:∀(p:PX) {X:Cx}{S:SC}{E:XK}(ok:OkX X S G E) {e:Expr},VB p S e=true->SA G p->Snd X G.ev E p e:=by
 intro p;induction p with
 |var i =>
  intro X S E ok e h _;obtain⟨x,pos,rfl,h⟩:=xB h;obtain⟨h1,h2,h3,h4⟩:=FO h;have base:=BJ (pos:=pos) (show X.N[i]?=some x by rw[ok.N];exact h1) (show Kk X.env.scope x by rw[ok.sc];exact h2) h3 h4;have pe:PE X (.Name x pos) (wp X.K G.ev (.var i) E).e:=dC base fun σ H Q q=>by
   have q:(match σ[i]? with|some (some v)=>Q v H|_=>False):=q;cases hs:σ[i]? with
   |none=>rw[hs]at q;exact q.elim
   |some o =>
    rw[hs]at q;cases o with
    |none=>exact q.elim
    |some v=>exact⟨v,hs,q⟩
  exact Snd.of pe (UB pe fun _=>rfl) (fun _ _ _ z=>by cases z) rfl
 |int i=>intro X S E ok e h _;obtain⟨c,k,pos,rfl,h⟩:=BD h;obtain⟨j,rfl,h⟩:=ug h;cases Qd h;exact Snd.of aZ (UB (ta:=fun _ H Q=>Q (.int i) H) aZ fun _=>rfl) (fun _ _ _ z=>by cases z) rfl
 |str x=>intro X S E ok e h _;obtain⟨c,k,pos,rfl,h⟩:=BD h;obtain⟨j,rfl,h⟩:=ZU h;cases Qd h;exact Snd.lit VL rfl (fun _ _ _ z=>by cases z) rfl
 |bl b=>intro X S E ok e h _;obtain⟨c,k,pos,rfl,h⟩:=BD h;obtain⟨j,rfl,h⟩:=L8 h;cases Qd h;exact Snd.of G9 (UB (ta:=fun _ H Q=>Q (.bl b) H) G9 fun _=>rfl) (fun _ _ _ z=>by cases z) rfl
 |non=>intro X S E ok e h _;obtain⟨c,k,pos,rfl,h⟩:=BD h;cases G8 h;exact Snd.of sZ (UB (ta:=fun _ H Q=>Q .non H) sZ fun _=>rfl) (fun _ _ _ z=>by cases z) rfl
 |glo x=>intro X S E ok e h nd;obtain⟨y,pos,rfl,h⟩:=xB h;have h:=jA h;cases Qd h.1;obtain⟨u,hm,r⟩:=ok.val x nd;have pe:=zT (pos:=pos) ok.sc h.2 hm r;exact Snd.of pe (UB pe fun _=>rfl) (fun _ _ _ z=>by cases z) rfl
 |bty x n=>intro X S E ok e h nd;obtain⟨y,pos,rfl,h⟩:=xB h;have h:=jA h;cases Qd h.1;obtain⟨g1,g2,g3⟩:=aC h.2;exact Snd.lit (u7 (show X.env.scope.names.lookup x=some .globalImplicit by rw[ok.sc];exact g1) (ok.no x nd.1) nd.2 rfl g3 g2) rfl (fun _ _ _ z=>by cases z) rfl
 |bin op a b iha ihb=>intro X S E ok e h nd;obtain⟨l,o,r,pos,rfl,h⟩:=tV h;have h1:=jA h;have h2:=jA h1.2;cases Qd h1.1;have pe:=D9 (pos:=pos) (Pe op) (iha ok h2.1 nd.1).pe (ihb ok h2.2 nd.2).pe;exact Snd.of pe (UB pe fun _=>rfl) (fun _ _ _ z=>by cases z) rfl
 |cmp op a b iha ihb=>intro X S E ok e h nd;obtain⟨l,os,rs,pos,rfl,h⟩:=dP h;obtain⟨o,rfl,h⟩:=oB h;obtain⟨r,rfl,h⟩:=oB h;have h1:=jA h;have h2:=jA h1.2;have h3:=jA h2.2;cases Qd h1.1;have pa:=(iha ok h3.1 nd.1).pe;have pb:=(ihb ok h3.2 nd.2).pe;refine Snd.of (j7 (pos:=pos) (FJ ok.un op) pa pb (xI h2.1)) (fun pins s σ H Q I q=>U6 (pos:=pos) (FJ ok.un op) pa pb (xI h2.1) pins s σ H Q I ?_) (fun _ _ _ z=>by cases z) rfl;show nh _ _ _ σ H (fun(x:V) (H1:Hp)=>∃k,x=.bl k/\Q k H1);rw[<- pJ Q];exact q
 |chn o p a b c iha ihb ihc =>
  intro X S E ok e h nd;obtain⟨l,os,rs,pos,rfl,h⟩:=dP h;obtain⟨o',p',rfl,h⟩:=mK h;obtain⟨r,q',rfl,h⟩:=mK h;have h1:=jA h;have h2:=jA h1.2;have h3:=jA h2.2;have h4:=jA h3.2;have h5:=jA h4.2;cases Qd h1.1;cases Qd h2.1;have pa:=(iha ok h4.1 nd.1).pe;have pb:=(ihb ok h5.1 nd.2.1).pe;have pc:=(ihc ok h5.2 nd.2.2).pe;have lm:lastMarks [o,p] [r,q']=false:=xI h3.1;have eq:∀(Q:VK) (σ:St) (y:V),(fun(z:V) (H3:Hp)=>∃k,z=.bl k/\(if k=true then(wp X.K G.ev c E).e σ H3 fun w' H4=>XH X.K p y w' H4 Q else Q (.bl false) H3)) =
    fun(z:V) (H3:Hp)=>lQ z H3 fun k H4=>if k=true then(wp X.K G.ev c E).e σ H4 fun w' H5=>XH X.K p y w' H5 Q else Q (.bl false) H4:=fun Q σ y=>(pJ _).symm
  have pe:PE X (.Compare l [o,p] [r,q'] pos) (wp X.K G.ev (.chn o p a b c) E).e:=fun pins s σ H Q I q=>YZ (pos:=pos) (FJ ok.un o) (FJ ok.un p) pa pb pc lm pins s σ H Q I (by show(wp X.K G.ev a E).e σ H fun x H1=>(wp X.K G.ev b E).e σ H1 fun y H2=>XH X.K o x y H2 ((fun(y:V) (z:V) (H3:Hp)=>∃k,z=.bl k/\(if k=true then(wp X.K G.ev c E).e σ H3 fun w' H4=>XH X.K p y w' H4 Q else Q (.bl false) H3)) y);simp only[eq];exact q);refine Snd.of pe (fun pins s σ H Q I q=>fZ (pos:=pos) (FJ ok.un o) (FJ ok.un p) pa pb pc lm pins s σ H Q I ?_) (fun _ _ _ z=>by cases z) rfl;show FS _ _ _ _ _ σ H (fun(x:V) (H1:Hp)=>∃k,x=.bl k/\Q k H1);rw[<- pJ Q];show(wp X.K G.ev a E).e σ H fun x H1=>(wp X.K G.ev b E).e σ H1 fun y H2=>XH X.K o x y H2 ((fun(y:V) (z:V) (H3:Hp)=>∃k,z=.bl k/\(if k=true then(wp X.K G.ev c E).e σ H3 fun w' H4=>XH X.K p y w' H4 (fun(x:V) (H1:Hp)=>lQ x H1 Q) else(fun(x:V) (H1:Hp)=>lQ x H1 Q) (.bl false) H3)) y);simp only[eq];exact q
 |and a b iha ihb =>
  intro X S E ok e h nd;obtain⟨o,es,pos,rfl,h⟩:=CQ h;have h1:=jA h;cases Qd h1.1;obtain⟨l,t,rfl,h2⟩:=jJ h1.2;obtain⟨r,t,rfl,h3⟩:=jJ h2;have h4:=jA h3;have sa:=iha ok h4.1 nd.1;have sb:=ihb ok h4.2 nd.2;have eqA:∀(σ:St) (Q:VK),(fun(x:V) (H1:Hp)=>∃c,x=.bl c/\if c=true then(wp X.K G.ev b E).e σ H1 Q else Q (.bl false) H1)=fun(x:V) (H1:Hp)=>lQ x H1 fun c H2=>if c=true then(wp X.K G.ev b E).e σ H2 Q else Q (.bl false) H2:=fun σ Q=>(pJ _).symm
  have key:PW X (.BoolOp .And (l::r::t) pos) (wp X.K G.ev (.and a b) E).t/\PE X (.BoolOp .And (l::r::t) pos) (fun σ H Q=>(wp X.K G.ev a E).e σ H fun x H1=>∃c,x=.bl c/\if c=true then(wp X.K G.ev b E).e σ H1 Q else Q (.bl false) H1):=by
   cases t with
   |nil=>exact⟨bZ sa.pt (X6 sb.pt),KZ (pos:=pos) sa.pe (rZ sb.pe)⟩
   |cons q t=>exact⟨bZ sa.pt (sb.pw _ _ _ rfl),KZ (pos:=pos) sa.pe sb.pe⟩
  refine⟨dC key.2 fun σ H Q q=>?_,key.1.pt,fun _ _ _ _=>key.1,fun _ _ z=>(by cases z),fun _ _ z=>trivial⟩;rw[eqA];exact q
 |or a b iha ihb =>
  intro X S E ok e h nd;obtain⟨o,es,pos,rfl,h⟩:=CQ h;have h1:=jA h;cases Qd h1.1;obtain⟨l,t,rfl,h2⟩:=jJ h1.2;obtain⟨r,t,rfl,h3⟩:=jJ h2;have h4:=jA h3;have sa:=iha ok h4.1 nd.1;have sb:=ihb ok h4.2 nd.2;have eqA:∀(σ:St) (Q:VK),(fun(x:V) (H1:Hp)=>∃c,x=.bl c/\if c=true then Q (.bl true) H1 else(wp X.K G.ev b E).e σ H1 Q)=fun(x:V) (H1:Hp)=>lQ x H1 fun c H2=>if c=true then Q (.bl true) H2 else(wp X.K G.ev b E).e σ H2 Q:=fun σ Q=>(pJ _).symm
  have key:PW X (.BoolOp .Or (l::r::t) pos) (wp X.K G.ev (.or a b) E).t/\PE X (.BoolOp .Or (l::r::t) pos) (fun σ H Q=>(wp X.K G.ev a E).e σ H fun x H1=>∃c,x=.bl c/\if c=true then Q (.bl true) H1 else(wp X.K G.ev b E).e σ H1 Q):=by
   cases t with
   |nil=>exact⟨B9 sa.pt (ue sb.pt),C9 (pos:=pos) sa.pe (rZ sb.pe)⟩
   |cons q t=>exact⟨B9 sa.pt (sb.pw _ _ _ rfl),C9 (pos:=pos) sa.pe sb.pe⟩
  refine⟨dC key.2 fun σ H Q q=>?_,key.1.pt,fun _ _ _ _=>key.1,fun _ _ z=>(by cases z),fun _ _ z=>trivial⟩;rw[eqA];exact q
 |not a iha=>intro X S E ok e h nd;obtain⟨o,x,pos,rfl,h⟩:=GZ h;have h1:=jA h;cases Qd h1.1;have sa:=iha ok h1.2 nd;refine Snd.of (fun pins s σ H Q I q=>?_) (be sa.pt) (fun _ _ _ z=>by cases z) rfl;refine UnaryOp_ (EA (sa.pe pins s σ H _ I q) fun v s1 ⟨x,H1,I1,r1,q1⟩=>?_);have q1:fE X.K x H1 (fun c H2=>Q (.bl (!c)) H2):=q1;rw[RU]at q1;refine not_of (EA (KY pins s1 σ H1 x v _ I1 r1 q1) fun c s2 ⟨H2,I2,q2⟩=>?_);exact⟨.bl (!c),H2,I2,rfl,q2⟩
 |ife c a b ihc iha ihb=>intro X S E ok e h nd;obtain⟨t,l,r,pos,rfl,h⟩:=Te h;have h1:=jA h;have h2:=jA h1.2;exact Snd.lit (iZ (pos:=pos) (ihc ok h1.1 nd.1).pt (iha ok h2.1 nd.2.1).pe (ihb ok h2.2 nd.2.2).pe) rfl (fun _ _ _ z=>by cases z) rfl
 |call f as ih =>
  intro X S E ok e h nd;obtain⟨p,es,ks,pos,rfl,hg,h⟩:=TC h;have h1:=jA h;cases Qp.mp h1.1;obtain⟨g1,g2,g3⟩:=aC hg;have hg:Gl X f:=show X.env.scope.names.lookup f=some .globalImplicit by rw[ok.sc];exact g1
  obtain⟨CX,k,a,fd,ps,F,hr,hm,hk,hb,hx,_⟩:=ok.fn f nd.1;have pa:=(ih ok h1.2 nd.2).pa es pos rfl;have st:=MB as h1.2;have pe:PE X (.Call (.Name f p) es [] pos) (wp X.K G.ev (.call f as) E).e:=by
   cases es with
   |nil=>exact dC (ZZ (pos:=pos) (p:=p) F hr hg hm hk hb .nil hx g2) fun σ H Q q=>fY as h1.2 q
   |cons e1 es1=>have st:=jA st;refine dC (v7 (pos:=pos) (p:=p) F hr hg hm hk hb .nil hx pa g2 (gA _ st.1) (rC st.2)) fun σ H Q q=>?_;show(wp X.K G.ev as E).a σ H fun vs H1=>G.ev.sp f (vs++[]) H1 Q E;simp only[Q7];exact q
  exact Snd.of pe (UB pe fun _=>rfl) (fun _ _ _ z=>by cases z) rfl
 |idx a b iha ihb=>intro X S E ok e h nd;obtain⟨v,i,pos,rfl,h⟩:=lH h;have h1:=jA h;have h2:=jA h1.2;have pe:=F9 (pos:=pos) Df (iha ok h2.1 nd.1).pe (ihb ok h2.2 nd.2).pe (jP h1.1);exact Snd.of pe (UB pe fun _=>rfl) (fun _ _ _ z=>by cases z) rfl
 |dsp ks vs ih =>
  intro X S E ok e h nd;obtain⟨keys,vals,pos,rfl,h⟩:=NZ h;have h1:=jA h;have h2:=jA h1.2;have h3:=jA h2.2;have h4:=jA h3.2;obtain⟨l0,l1⟩:=of_decide_eq_true h1.1;have pas:=(ih ok h4.2 nd).pas _ pos rfl;obtain⟨d1,d2⟩:=O3 ks keys h2.1;have hl:keys.length=vals.length:=of_decide_eq_true h3.1;have pe:PE X (.Dict keys vals pos) (wp X.K G.ev (.dsp ks vs) E).e:=by refine dC (T6 (pos:=pos) (mZ (S:=S) ks vs keys vals h2.1 h4.1 h4.2 hl pas) d2 hl (fun z=>by rw[z]at d1;exact absurd l0 (by rw[<- d1];exact qi _)) (by rw[d1];exact l1)) fun σ H Q q=>?_;intro p hp;rw[UQ (S:=S) (pos:=pos) ks vs vals h4.1 h4.2 (d1.symm.trans hl)];exact q p hp
  exact Snd.lit pe rfl (fun _ _ _ z=>by cases z) rfl
 |nop=>intro X S E ok e h nd;exact(QD h).elim
 |lst as ih=>intro X S E ok e h nd;obtain⟨es,pos,rfl,h⟩:=ML h;have pa:=(ih ok h nd).pa es pos rfl;exact⟨Ue pa,JL,fun _ _ _ z=>(by cases z),fun _ _ z=>BQ,fun _ _ z=>trivial⟩
 |tup as ih=>intro X S E ok e h nd;obtain⟨es,k,pos,rfl,h⟩:=J7 h;exact Snd.lit (Ve ((ih ok h nd).pa es pos rfl)) rfl (fun _ _ _ z=>by cases z) rfl
 |nr=>intro X S E ok e h nd;obtain⟨es,pos,rfl,h⟩:=ML h;cases Qp.mp h;exact Snd.args BL trivial rfl rfl
 |nq a as iha ih=>intro X S E ok e h nd;obtain⟨es,pos,rfl,h⟩:=ML h;obtain⟨e1,es1,rfl,h⟩:=jJ h;have h1:=jA h;have h2:=jA h1.2;have sa:=(iha ok h2.1 nd.1).pe;have ss:=ih ok h2.2 nd.2;exact Snd.args (JD sa (ss.pa es1 pos rfl) (gA _ h1.1)) ⟨sa,ss.pas es1 pos rfl⟩ rfl rfl
 |bi f as ih =>
  intro X S E ok e h nd;obtain⟨p,es,ks,pos,rfl,hg,h⟩:=TC h;have h1:=jA h;cases Qp.mp h1.1;obtain⟨e1,es1,rfl,h3⟩:=jJ h1.2;obtain⟨g1,g2,g3⟩:=aC hg;have hg:Gl X f.nm:=show X.env.scope.names.lookup f.nm=some .globalImplicit by rw[ok.sc];exact g1
  have pa:=(ih ok h3 nd.2).pa _ pos rfl;have st:=jA (MB as h3);have pe:PE X (.Call (.Name f.nm p) (e1::es1) [] pos) (wp X.K G.ev (.bi f as) E).e:=by
   rcases dk ok.calm f with⟨id,hb,hc⟩| ⟨T,hb,hc⟩
   exact RI (pos:=pos) (p:=p) hc hg (ok.no _ nd.1) hb pa g3 g2 (gA _ st.1) (rC st.2);exact EW (pos:=pos) (p:=p) hc hg (ok.no _ nd.1) hb pa g3 g2 (gA _ st.1) (rC st.2)
  exact Snd.of pe (UB pe fun _=>rfl) (fun _ _ _ z=>by cases z) rfl
 |prm o as ih =>
  intro X S E ok e h nd;have h0:=jA h;cases o with
  |dget x =>
   obtain⟨v,ap,es,cp,rfl,hl,h1⟩:=JV h0.2;obtain⟨y,p,rfl,h2⟩:=xB h1;have h3:=jA h2;have h4:=jA h3.2;cases Qd h3.1;obtain⟨a,rfl,h5⟩:=oB h4.2;obtain⟨ad,kvs,hm,hd,D⟩:=ok.dic x nd.1;have po:PE X (.Name x p) (fun _ H Q=>Q (.ref ad) H):=zT (pos:=p) ok.sc h4.1 hm rfl;have st:=MB as h5;have pas:=(ih ok h5 nd.2).pas _ cp rfl;obtain⟨a1,rfl⟩:=TD as h0.1 h5;have base:=z7 (apos:=ap) (cpos:=cp) D po pas.1 rfl (by rw[LM st];rfl) hl (gA _ (jA st).1);have pe:PE X (.Call (.Attribute (.Name x p) "get" ap) [a] [] cp) (wp X.K G.ev (.prm (.dget x) (.nq a1 .nr)) E).e:=by
    refine dC base fun σ H Q q=>?_;have e:(fun(y:V) (H1:Hp)=>∃z,y=.str z/\Q ((kvs.lookup z).getD .non) H1)=fun(y:V) (H1:Hp)=>lZ X.K G.ev (.dget x) [y] H1 Q:=by
     funext y H1;apply propext;constructor;rintro⟨z,rfl,q⟩;exact⟨kvs,hd,q⟩;intro q;cases y with
     |str z=>obtain⟨k2,e2,q⟩:=q;rw[hd]at e2;cases e2;exact⟨z,rfl,q⟩
     |_=>exact q.elim
    rw[e];exact q
   exact Snd.of pe (UB pe fun _=>rfl) (fun _ _ _ z=>by cases z) rfl
  |dix x =>
   obtain⟨v,i,pos,rfl,h1⟩:=lH h0.2;obtain⟨y,p,rfl,h2⟩:=xB h1;have h3:=jA h2;have h4:=jA h3.2;have h5:=jA h4.2;cases Qd h3.1;obtain⟨ad,kvs,hm,hd,D⟩:=ok.dic x nd.1;have po:PE X (.Name x p) (fun _ H Q=>Q (.ref ad) H):=zT (pos:=p) ok.sc h4.1 hm rfl;have pas:=(ih ok h5.2 nd.2).pas _ pos rfl;obtain⟨a1,rfl⟩:=TD as h0.1 h5.2;have base:=F9 (pos:=pos) (O1 D) po pas.1 (jP h5.1);have pe:PE X (.Subscript (.Name x p) i pos) (wp X.K G.ev (.prm (.dix x) (.nq a1 .nr)) E).e:=by
    refine dC base fun σ H Q q=>?_;have e:(fun(y:V) (H1:Hp)=>∃z v,(V.ref ad)=.ref ad/\y=.str z/\kvs.lookup z=some v/\Q v H1)=fun(y:V) (H1:Hp)=>lZ X.K G.ev (.dix x) [y] H1 Q:=by
     funext y H1;apply propext;constructor;rintro⟨z,v,_,rfl,l,q⟩;exact⟨kvs,v,hd,l,q⟩;intro q;cases y with
     |str z=>obtain⟨k2,v,e2,l,q⟩:=q;rw[hd]at e2;cases e2;exact⟨z,v,rfl,rfl,l,q⟩
     |_=>exact q.elim
    show(wp X.K G.ev a1 E).e σ H (fun(y:V) (H1:Hp)=>∃z v,(V.ref ad)=.ref ad/\y=.str z/\kvs.lookup z=some v/\Q v H1);rw[e];exact q
   exact Snd.of pe (UB pe fun _=>rfl) (fun _ _ _ z=>by cases z) rfl
  |din neg =>
   obtain⟨l,os,rs,p,rfl,h1⟩:=dP h0.2;obtain⟨o,rfl,h2⟩:=oB h1;obtain⟨r,rfl,h3⟩:=oB h2;have h4:=jA h3;have h5:=jA h4.2;have pas:=(ih ok h5.2 nd.2).pas _ L6 rfl;obtain⟨a1,b1,rfl⟩:=rJ as h0.1 h5.2;have hu:X.A.units+1<cLine:=by have:=ok.un;omega
   have pe:PE X (.Compare l [o] [r] p) (wp X.K G.ev (.prm (.din neg) (.nq a1 (.nq b1 .nr))) E).e:=by
    have eo:=Qd h4.1;subst eo;cases neg with
    |false=>exact JZ (pos:=p) (VZ hu pas.1 pas.2.1) (xI h5.1)
    |true=>exact JZ (pos:=p) (MN hu pas.1 pas.2.1) (xI h5.1)
   have pt:PT X (.Compare l [o] [r] p) (wp X.K G.ev (.prm (.din neg) (.nq a1 (.nq b1 .nr))) E).t:=by
    have eo:=Qd h4.1;subst eo;intro pins s σ H Q I q;have ee:∀y:V,(fun(x:V) (H2:Hp)=>uZ neg y x H2 fun x H1=>fE X.K x H1 Q)=fun(x:V) (H2:Hp)=>uZ neg y x H2 fun x H1=>∃k,x=.bl k/\Q k H1:=fun y=>funext fun x=>funext fun H2=>propext ⟨fun⟨a,o,e,g,q⟩=>⟨a,o,e,g,_,rfl,q⟩,fun⟨a,o,e,g,_,ek,q⟩=>⟨a,o,e,g,by cases ek;exact q⟩⟩;have q:(wp X.K G.ev a1 E).e σ H fun y H1=>(wp X.K G.ev b1 E).e σ H1 fun x H2=>uZ neg y x H2 fun x H1=>fE X.K x H1 Q:=q;have q:(wp X.K G.ev a1 E).e σ H fun y H1=>(wp X.K G.ev b1 E).e σ H1 fun x H2=>uZ neg y x H2 fun x H1=>∃k,x=.bl k/\Q k H1:=by simp only[ee]at q;exact q
    cases neg with
    |false=>exact dZ (pos:=p) (VZ hu pas.1 pas.2.1) (xI h5.1) pins s σ H Q I q
    |true=>exact dZ (pos:=p) (MN hu pas.1 pas.2.1) (xI h5.1) pins s σ H Q I q
   exact Snd.of pe pt (fun _ _ _ z=>by cases z) rfl
  |dgt =>
   obtain⟨v,i,p,rfl,h1⟩:=lH h0.2;have h2:=jA h1;have pas:=(ih ok h2.2 nd.2).pas _ p rfl;obtain⟨a1,b1,rfl⟩:=rJ as h0.1 h2.2;have hu:X.A.units+1<cLine:=by have:=ok.un;omega
   have pe:PE X (.Subscript v i p) (wp X.K G.ev (.prm .dgt (.nq a1 (.nq b1 .nr))) E).e:=A6 (pos:=p) hu pas.1 pas.2.1 (jP h2.1);exact Snd.of pe (UB pe fun _=>rfl) (fun _ _ _ z=>by cases z) rfl
  |ngt=>obtain⟨o,v,ap,rfl,h1⟩:=GZ h0.2;have h2:=jA h1;cases(show o=.USub by cases o<;>first|rfl|cases h2.1);have h4:=jA h2.2;have pas:=(ih ok h4.2 nd.2).pas _ L6 rfl;obtain⟨a1,rfl⟩:=TD as h0.1 h4.2;have pe:PE X (.UnaryOp .USub v ap) (wp X.K G.ev (.prm .ngt (.nq a1 .nr)) E).e:=dC (Zi (pos:=ap) yd pas.1) fun σ H Q q=>q;exact Snd.of pe (UB pe fun _=>rfl) (fun _ _ _ z=>by cases z) rfl
  |plc=>obtain⟨v,n,ap,rfl,h1⟩:=DQ h0.2;have h2:=jA h1;cases Qd h2.1;have h3:=jA h2.2;have h4:=jA h3.2;have pas:=(ih ok h4.2 nd.2).pas _ ap rfl;obtain⟨a1,rfl⟩:=TD as h0.1 h4.2;have pe:PE X (.Attribute v "place" ap) (wp X.K G.ev (.prm .plc (.nq a1 .nr)) E).e:=dC (Xe (pos:=ap) pas.1 (U0 h3.1)) fun σ H Q q=>q;exact Snd.of pe (UB pe fun _=>rfl) (fun _ _ _ z=>by cases z) rfl
  |isC =>
   obtain⟨p,es,ks,pos,rfl,hg,h1⟩:=TC h0.2;have h2:=jA h1;cases Qp.mp h2.1;obtain⟨a,b,rfl,h3⟩:=mK h2.2;obtain⟨g1,g2,g3⟩:=aC hg;have hg:Gl X "isinstance":=show X.env.scope.names.lookup ("isinstance":Str)=some .globalImplicit by rw[ok.sc];exact g1
   have pa:=(ih ok h3 nd.2).pa _ pos rfl;have st:=MB as h3;obtain⟨a1,b1,rfl⟩:=rJ as h0.1 h3;have pe:PE X (.Call (.Name "isinstance" p) [a,b] [] pos) (wp X.K G.ev (.prm .isC (.nq a1 (.nq b1 .nr))) E).e :=
    dC (RI (pos:=pos) (p:=p) zS hg (ok.no _ nd.1) (by kernel_rfl) pa g3 g2 (gA _ (jA st).1) (rC (jA st).2)) fun σ H Q q=>q
   exact Snd.of pe (UB pe fun _=>rfl) (fun _ _ _ z=>by cases z) rfl
  |isT x m =>
   obtain⟨p,es,ks,pos,rfl,hg,h1⟩:=TC h0.2;have h2:=jA h1;cases Qp.mp h2.1;obtain⟨a,b,rfl,h3⟩:=mK h2.2;have h4:=jA h3;have h5:=jA h4.2;obtain⟨y,yp,rfl,h6⟩:=xB h5.1;have h7:=jA h6;cases Qd h7.1;obtain⟨g1,g2,g3⟩:=aC hg;have hg:Gl X "isinstance":=show X.env.scope.names.lookup ("isinstance":Str)=some .globalImplicit by rw[ok.sc];exact g1
   have pas:=(ih ok h5.2 nd.2).pas _ pos rfl;have st:=MB as h5.2;obtain⟨a1,rfl⟩:=TD as h0.1 h5.2;have pt:PE X (.Name x yp) (tC (.ty m)):=by
    obtain⟨t1,t2,t3⟩:=aC h7.2;have hg:Gl X x:=show X.env.scope.names.lookup x=some .globalImplicit by rw[ok.sc];exact t1
    exact fun _ _ _ H _ I h=>NG I hg (ok.no _ nd.1.2.1) nd.1.2.2 ⟨.ty m,H,I,rfl,h⟩ t3 t2
   have pe:PE X (.Call (.Name "isinstance" p) [a,.Name x yp] [] pos) (wp X.K G.ev (.prm (.isT x m) (.nq a1 .nr)) E).e :=
    dC (RI (pos:=pos) (p:=p) zS hg (ok.no _ nd.1.1) (by kernel_rfl) (JD pas.1 (JD pt BL (gA _ h4.1)) (gA _ (jA st).1)) g3 g2 (gA _ (jA st).1) (rC (by rw[Qw,h4.1];rfl))) fun σ H Q q=>q
   exact Snd.of pe (UB pe fun _=>rfl) (fun _ _ _ z=>by cases z) rfl
  |tmul=>obtain⟨l,o,r,pos,rfl,h1⟩:=tV h0.2;have h2:=jA h1;cases Qd h2.1;have pas:=(ih ok h2.2 nd.2).pas _ pos rfl;obtain⟨a1,b1,rfl⟩:=rJ as h0.1 h2.2;have pe:PE X (.BinOp l .Mult r pos) (wp X.K G.ev (.prm .tmul (.nq a1 (.nq b1 .nr))) E).e:=D9 f7 pas.1 pas.2.1;exact Snd.of pe (UB pe fun _=>rfl) (fun _ _ _ z=>by cases z) rfl
 |isi a c iha ihc =>
  intro X S E ok e h nd;obtain⟨p,es,ks,pos,rfl,hg,h⟩:=TC h;have h1:=jA h;cases Qp.mp h1.1;obtain⟨l,r,rfl,h2⟩:=mK h1.2;have h3:=jA h2;have h4:=jA h3.2;have h5:=jA h4.2;obtain⟨g1,g2,g3⟩:=aC hg;have hg:Gl X "isinstance":=show X.env.scope.names.lookup ("isinstance":Str)=some .globalImplicit by rw[ok.sc];exact g1
  have pe:PE X (.Call (.Name "isinstance" p) [l,r] [] pos) (wp X.K G.ev (.isi a c) E).e :=
   RI (pos:=pos) (p:=p) kS hg (ok.no _ nd.1) (by kernel_rfl) (JD (iha ok h5.1 nd.2.1).pe (JD (ihc ok h5.2 nd.2.2).pe BL (gA _ h4.1)) (gA _ h3.1)) g3 g2 (gA _ h3.1) (rC (by rw[Qw,h4.1];rfl))
  exact Snd.of pe (UB pe fun _=>rfl) (fun _ _ _ z=>by cases z) rfl
 |mt m o as iho ih =>
  intro X S E ok e h nd;obtain⟨v,ap,es,pos,rfl,h2,h⟩:=JV h;have h0:=jA h;have h1:=jA h0.2;have h3:=jA h1.2;have h4:=jA h3.2;have po:=(iho ok h4.1 nd.1).pe;have pa:=(ih ok h4.2 nd.2).pa _ pos rfl;have st:=MB as h4.2;obtain⟨id,pat,sl,ty,mr⟩:=xj (X:=X) m;have pe:PE X (.Call (.Attribute v m.nm ap) es [] pos) (wp X.K G.ev (.mt m o as) E).e:=by
   cases es with
   |nil =>
    refine dC (Fe (apos:=ap) (cpos:=pos) pat sl ty mr po (U0 h1.1) h2) fun σ H Q q=>?_;have e:(fun(x:V) (H1:Hp)=>iY X.K m.ty x H1/\z8 X.K m x [] H1 Q)=fun(x:V) (H1:Hp)=>iY X.K m.ty x H1/\(wp X.K G.ev as E).a σ H1 fun vs H2=>z8 X.K m x vs H2 Q:=by funext x H1;rw[propext (uS as h0.1 h4.2)]
    show(wp X.K G.ev o E).e σ H (fun(x:V) (H1:Hp)=>iY X.K m.ty x H1/\z8 X.K m x [] H1 Q);rw[e];exact q
   |cons e1 es1=>have s2:=jA st;refine Ki (apos:=ap) (cpos:=pos) pat sl ty mr po pa (U0 h1.1) ?_ h2 (gA _ s2.1) (rC s2.2);rw[LM st];have hl':(e1::es1).length<20:=of_decide_eq_true h3.1;show(true&&true&&decide ((e1::es1).length+0+0<30))=true;rw[dT (Qg hl' (by decide:20<=30):(e1::es1).length+0+0<30)];rfl
  exact Snd.of pe (UB pe fun _=>rfl) (fun _ _ _ z=>by cases z) rfl
 |slc a lo hi iha ihl ihh =>
  intro X S E ok e h nd;obtain⟨v,sl,pos,rfl,h⟩:=lH h;obtain⟨l,u,st,p2,rfl,h⟩:=zX h;have h1:=jA h;have h2:=jA h1.2;have h3:=jA h2.2;have part:∀(q:PX) (w:Option Expr),(∀{e:Expr},VB q S e=true->PE X e (wp X.K G.ev q E).e)->Pl w (isNop q) (fun e=>!isNop q&&VB q S e)=true ->
    PO X w (fun σ H R=>(if isNop q=true then fun(R:Option Int->Hp->Prop)=>R none H else fun R=>(wp X.K G.ev q E).e σ H fun l H2=>UL l H2 R) R):=by
   intro q w ihq hq;cases w with
   |none=>have e:isNop q=true:=hq;simp only[e,if_true];exact N6
   |some e' =>
    have q1:=jA hq;have e:isNop q=false:=(wQ _).mp q1.1;simp only[e,Qi,if_false];intro pins s σ H Q I w;refine M6 (ihq q1.2) pins s σ H Q I ?_;show(wp X.K G.ev q E).e σ H (fun(x:V) (H1:Hp)=>∃i,x=.int i/\Q (some i) H1);have e2:(fun(x:V) (H1:Hp)=>∃i,x=.int i/\Q (some i) H1)=fun(x:V) (H1:Hp)=>UL x H1 Q:=by funext x H1;exact(UZ x H1 Q).symm
    rw[e2];exact w
  cases Option.isNone_iff_eq_none.mp h1.1;exact Snd.lit (pZ (pos:=pos) (p2:=p2) Gd (iha ok h2.1 nd.1).pe (part lo l (fun hc=>(ihl ok hc nd.2.1).pe) h3.1) (part hi u (fun hc=>(ihh ok hc nd.2.2).pe) h3.2)) rfl (fun _ _ _ z=>by cases z) rfl
 |comp mask tgs tg ik its cond elt ihi ihc ihe =>
  intro X S E ok e h nd;obtain⟨e,gens,scope,pos,rfl,h⟩:=uT h;obtain⟨⟨t,it,ifs,asy⟩,rfl,h⟩:=oB h;have h0:=jA h;have h1:=jA h0.2;have h2:=jA h1.2;have h3:=jA h2.2;have h4:=jA h3.2;have h5:=jA h4.2;have ea:asy=0:=Qd h0.1;cases ea;have C:CompSt X.N X.env.scope scope tgs mask:=by rw[ok.N,ok.sc];exact GR h1.1
  obtain⟨n1,n2,n3,n4⟩:=nd;have pi:PI X t it (tW fun σ H R=>(wp X.K G.ev its E).a σ H fun vs H1=>HD X.K ik vs H1 R):=yT ok h4.1 n1 fun es p q=>ihi ok q n2;refine Snd.lit (E6 (pos:=pos) (g:=uF X.K tg) (tc:=if isNop cond=true then fun _ H Q=>Q true H else(wp X.K G.ev cond (fun _ _ _=>False)).t) (te:=(wp X.K G.ev elt (fun _ _ _=>False)).e) ok.calm pi C (fun s H ex=>?_) (fun x=>UT h3.1 x)) rfl (fun _ _ _ z=>by cases z) rfl;have okc:=ok.comp scope tgs mask s H ex;refine⟨oV okc C.nd h2.1,?_,(ihe okc h5.2 n4).pe⟩;have hif:=h5.1;cases ifs with
  |nil=>have e:isNop cond=true:=hif;simp only[e,if_true];exact nV
  |cons c r=>have q1:=jA hif;have q2:=jA q1.2;cases Qp.mp q1.1;have e:isNop cond=false:=(wQ _).mp q2.1;simp only[e,Qi,if_false];exact mV (ihc okc q2.2 n3).pt
end L2.L3
namespace L2.L3
open PySem PySem.Spec PyProof.Rows
set_option genSizeOf false in
set_option genInjectivity false in
inductive PT where
 |nil|seq (s r:PT)
 |set (i:Nat) (e:PX)
 |expr (e:PX)|ret (e:PX)
 |ife (c:PX) (a b:PT)
 |for_ (tg:Tg) (ik:ItK) (its:PX) (body:PT)
 |own (i:Nat) (e:PX)|rse (x:Str) (m:Option Nat) (e:PX)|tryC (i:Option Nat) (f:Str) (as:PX) (x:Str) (j k:Nat)|setT (is:List Nat) (e:PX)|six (j:Nat) (i e:PX)
def jn(J:It)(g:TG)(tb:TS)(D:Ends)(σ:St)(H1:Hp):Prop:=∃W:Nat->Nat->St->Hp->Prop,(∃m,W 0 m σ H1)/\∀i m σ H,W i m σ H ->
 (J.stop i H/\D.nx σ H)∨(J.go i H/\∃N:St->Hp->Prop,(∀σ' H',N σ' H'->∃m',m' < m/\W (i+1) m' σ' H')/\∀x H',J.yld i H x H'->g x σ H' fun σ2 H2=>tb { D with nx:=N,ct:=N,bk:=D.nx } σ2 H2)
def Mg(K:QC)(xs:List Item)(st:Hp->Prop)(tg:Tg)(tb:TS)(D:Ends)(σ:St)(H:Hp):Prop:=∀J,Yields J xs st->jn J (uF K tg) tb D σ H
def Nm(m:Option Nat)(σ:St):Prop:=match m with
 |none=>True
 |some j=>∃p,σ[j]?=some (some (.int p))/\p.natAbs.log2<1920
noncomputable def setO(i:Option Nat)(v:V)(σ:St):St:=match i with
 |none=>σ
 |some i=>σ.set i (some v)
noncomputable def gQ(K:QC)(Γ:Ev)(E:XK):PT->TS
 | .nil=>fun D σ H=>D.nx σ H
 | .seq s r=>fun D σ H=>gQ K Γ E s { D with nx:=fun σ H=>gQ K Γ E r D σ H } σ H
 | .set i e=>fun D σ H=>(wp K Γ e E).e σ H fun x H1=>D.nx (σ.set i (some x)) H1
 | .own i e=>fun D σ H=>(wp K Γ e E).e σ H fun x H1=>D.nx (σ.set i (some x)) H1
 | .setT is e=>fun D σ H=>(wp K Γ e E).e σ H fun v H1=>uF K (.tp is) v σ H1 fun σ2 H2=>D.nx σ2 H2
 | .expr e=>fun D σ H=>(wp K Γ e E).e σ H fun _ H1=>D.nx σ H1
 | .ret e=>fun D σ H=>(wp K Γ e E).e σ H D.rt
 | .ife c a b=>fun D σ H=>(wp K Γ c E).t σ H fun k H1=>if k=true then gQ K Γ E a D σ H1 else gQ K Γ E b D σ H1
 | .for_ tg ik its body=>fun D σ H=>(wp K Γ its E).a σ H fun vs H1=>HD K ik vs H1 fun xs st H2=>Mg K xs st tg (gQ K Γ E body) D σ H2
 | .rse x m e=>fun D σ H=>Nm m σ/\∃C nm,Γ.va x=.ref C/\ExC K C nm/\(wp K Γ e E).e σ H fun v H1=>∃p,v=.int p/\∀ea dx,H1 ea=none->H1 dx=none->dx≠ea->E .none (some ea) (FA (FA H1 dx (.xd (OI p))) ea (.ext (KH C ea dx)))
 | .tryC i f as x j k=>fun D σ H=>(∃C,Γ.va x=.ref C/\ExC K C "WorldError")/\(wp K Γ as (fun _ _ _=>False)).a σ H fun vs H1=>Γ.sp f vs H1 (fun v H2=>D.nx (setO i v σ) H2) fun _ a H2=>∃e,a=some e/\D.nx ((σ.set j (some (.ref e))).set k none) H2
 | .six j i e=>fun D σ H=>(wp K Γ e E).e σ H fun v H1=>(wp K Γ (.var j) E).e σ H1 fun ov H2=>(wp K Γ i E).e σ H2 fun iv H3=>bV ov iv v H3 fun H4=>D.nx σ H4
noncomputable def uI(G:Glob):PT->Prop
 | .nil=>True
 | .rse x _ e=>G.val x/\G.no "raise"/\SA G e
 | .tryC _ f as x _ _=>G.fn f/\SA G as/\G.val x
 | .six _ i e=>SA G i/\SA G e
 | .seq s r=>uI G s/\uI G r
 | .set _ e=>SA G e
 | .own _ e=>SA G e
 | .expr e=>SA G e
 | .setT _ e=>SA G e
 | .ret e=>SA G e
 | .ife c a b=>SA G c/\uI G a/\uI G b
 | .for_ _ ik its body=>Al G ik/\SA G its/\uI G body
noncomputable def BF:Expr->Bool
 | .ListComp _ _ _ _ | .SetComp _ _ _ _ | .DictComp _ _ _ _ _=>false
 |_=>true
noncomputable def MO(S:SC)(i:Nat)(x:Str):Bool:=S.N[i]?==some x&&(S.sc.names.lookup x==some .local||S.sc.names.lookup x==some .cell)
noncomputable def D2:PT->Bool
 | .nil=>false
 | .seq _ _=>false
 |_=>true
noncomputable def OL(s:Stmt)(f:List Expr->Expr->Bool):Bool:=match s with | .Assign ts v _=>f ts v|_=>false
noncomputable def Ae(s:Stmt)(f:Expr->Bool):Bool:=match s with | .Expr v _=>f v|_=>false
noncomputable def R9(s:Stmt)(f:Option Expr->Bool):Bool:=match s with | .Return v _=>f v|_=>false
noncomputable def S9(s:Stmt)(f:Expr->List Stmt->List Stmt->Bool):Bool:=match s with | .If t x y _=>f t x y|_=>false
noncomputable def A9(s:Stmt)(f:Expr->Expr->List Stmt->List Stmt->Pos->Bool):Bool:=match s with | .For t it x y p=>f t it x y p|_=>false
noncomputable def P9(s:Stmt)(f:Expr->Bool):Bool:=match s with | .Raise (some e) none _=>f e|_=>false
noncomputable def O9(s:Stmt)(f:List Stmt->List ExceptHandler->Bool):Bool:=match s with | .Try b hs [] [] _=>f b hs|_=>false
noncomputable def T9(h:ExceptHandler)(f:Expr->Str->List Stmt->Bool):Bool:=match h with | .ExceptHandler (some t) (some n) b _=>f t n b|_=>false
noncomputable def Pi(e:Expr)(f:Expr->Bool):Bool:=match e with | .FormattedValue v c s _=>c==-1&&(s.isNone&&f v)|_=>false
noncomputable def LZ(e:Expr)(f:Expr->Expr->Expr->Bool):Bool:=match e with | .JoinedStr vs _=>Lm vs fun a m b=>Pi m fun v=>f a v b|_=>false
theorem mH{s:Stmt}{f:List Expr->Expr->Bool}(h:OL s f=true):∃ts v p,s=.Assign ts v p/\f ts v=true:=by
 cases s with
 |Assign ts v p=>exact⟨ts,v,p,rfl,h⟩
 |_=>exact(QD h).elim
theorem MZ{s:Stmt}{f:Expr->Bool}(h:Ae s f=true):∃v p,s=.Expr v p/\f v=true:=by
 cases s with
 |Expr v p=>exact⟨v,p,rfl,h⟩
 |_=>exact(QD h).elim
theorem K7{s:Stmt}{f:Option Expr->Bool}(h:R9 s f=true):∃v p,s=.Return v p/\f v=true:=by
 cases s with
 |Return v p=>exact⟨v,p,rfl,h⟩
 |_=>exact(QD h).elim
theorem V7{s:Stmt}{f:Expr->List Stmt->List Stmt->Bool}(h:S9 s f=true):∃t x y p,s=.If t x y p/\f t x y=true:=by
 cases s with
 |If t x y p=>exact⟨t,x,y,p,rfl,h⟩
 |_=>exact(QD h).elim
theorem U7{s:Stmt}{f:Expr->Expr->List Stmt->List Stmt->Pos->Bool}(h:A9 s f=true):∃t it x y p,s=.For t it x y p/\f t it x y p=true:=by
 cases s with
 |For t it x y p=>exact⟨t,it,x,y,p,rfl,h⟩
 |_=>exact(QD h).elim
theorem Z7{s:Stmt}{f:Expr->Bool}(h:P9 s f=true):∃e p,s=.Raise (some e) none p/\f e=true:=by
 cases s with
 |Raise e c p =>
  cases e with
  |none=>exact(QD h).elim
  |some e=>cases c with
   |none=>exact⟨e,p,rfl,h⟩
   |some c=>exact(QD h).elim
 |_=>exact(QD h).elim
theorem Y7{s:Stmt}{f:List Stmt->List ExceptHandler->Bool}(h:O9 s f=true):∃b hs p,s=.Try b hs [] [] p/\f b hs=true:=by
 cases s with
 |Try b hs o n p =>
  cases o with
  |nil=>cases n with
   |nil=>exact⟨b,hs,p,rfl,h⟩
   |cons _ _=>exact(QD h).elim
  |cons _ _=>exact(QD h).elim
 |_=>exact(QD h).elim
theorem X7{s:ExceptHandler}{f:Expr->Str->List Stmt->Bool}(h:T9 s f=true):∃t n b p,s=.ExceptHandler (some t) (some n) b p/\f t n b=true:=by
 cases s with
 |ExceptHandler t n b p =>
  cases t with
  |none=>exact(QD h).elim
  |some t=>cases n with
   |none=>exact(QD h).elim
   |some n=>exact⟨t,n,b,p,rfl,h⟩
theorem HZ{e:Expr}{f:Expr->Expr->Expr->Bool}(h:LZ e f=true):∃a v b fp p,e=.JoinedStr [a,.FormattedValue v (-1) none fp,b] p/\f a v b=true:=by
 cases e with
 |JoinedStr vs p =>
  obtain⟨a,m,b,rfl,h⟩:=E9 (l:=vs) h;cases m with
  |FormattedValue v c s fp =>
   have h1:=jA h;have h2:=jA h1.2;cases s with
   |none=>exact⟨a,v,b,fp,p,by rw[Qd h1.1],h2.2⟩
   |some _=>exact(QD h2.1).elim
  |_=>exact(QD h).elim
 |_=>exact(QD h).elim
noncomputable def j6(e:Expr):Bool:=UF e fun c=>F8 c fun z=>decide (z.length<=1000)
theorem GS{e:Expr}(h:j6 e=true):∃z k p,e=.Constant (.str z) k p/\z.length<=1000:=by obtain⟨c,k,p,rfl,h1⟩:=BD h;obtain⟨z,rfl,h2⟩:=ZU h1;exact⟨z,k,p,rfl,of_decide_eq_true h2⟩
noncomputable def Om(S:SC)(m:Option Nat)(e:Expr):Bool:=match m with
 |none=>j6 e
 |some j=>LZ e fun a v b=>j6 a&&(j6 b&&nC v fun y _=>sY S j y)
noncomputable def Y4(S:SC)(f:Str)(as:PX)(e:Expr):Bool:=MH S f e fun es ks p=>ks.isEmpty&&U5 es fun x t=>jB x&&VB as S (.List (x::t) p)
noncomputable def Am(S:SC)(x:Str)(j k:Nat)(h:ExceptHandler):Bool:=T9 h fun t n b=>nC t fun y _=>x==y&&(SJ S y&&(pN S k n&&(sY S k n&&(j != k&&GJ b fun st=>OL st fun ts v=>GJ ts fun g=>nC g fun z _=>pN S j z&&nC v fun u _=>u==n))))
noncomputable def setB(S:SC)(i:Nat)(c:Expr->Bool)(l:List Stmt):Bool:=GJ l fun st=>OL st fun ts v=>GJ ts fun t=>nC t fun x _=>MO S i x&&((BF v||S.sc.names.lookup x==some .cell)&&c v)
noncomputable def G2:PX->Bool
 | .comp _ _ _ _ _ _ _=>true
 |_=>false
noncomputable def Fl:PX->PX
 |a=>a
noncomputable def vV(S:SC)(i:Nat)(e:PX)(l:List Stmt):Bool:=GJ l fun st=>OL st fun ts v=>GJ ts fun t=>nC t fun x px=>Se v fun el gs sc cp=>pN S i x&&(S.sc.kind==.function&&(px.line==cp.line&&(!(sc.names.any fun(n,k)=>n==x&&(k==.local||k==.cell))&&(G2 (Fl e)&&VB (Fl e) S (.ListComp el gs sc cp)))))
noncomputable def Mj(v:Expr):Bool:=(LL v fun _ _ _=>true)||(NL v fun _ _ _ _=>true)
noncomputable def tU:PT->SC->List Stmt->Bool
 | .nil,_,l=>l.isEmpty
 | .seq s r,S,l=>U5 l fun st l=>D2 s&&(tU s S [st]&&tU r S l)
 | .set i e,S,l=>setB S i (VB e S) l||vV S i e l
 | .own i e,S,l=>setB S i (VB e S) l||vV S i e l
 | .setT is e,S,l=>GJ l fun st=>OL st fun ts v=>GJ ts fun t=>KP t&&(dh S (.tp is) t&&(Mj v&&VB e S v))
 | .expr e,S,l=>GJ l fun st=>Ae st fun v=>BF v&&VB e S v
 | .ret e,S,l=>GJ l fun st=>R9 st fun v=>Pl v false (VB e S)
 | .ife c a b,S,l=>GJ l fun st=>S9 st fun t x y=>VB c S t&&(tU a S x&&tU b S y)
 | .for_ tg ik its body,S,l=>GJ l fun st=>A9 st fun t it x y pos=>y.isEmpty&&(dh S tg t&&(TL it&&(Rm (VC its) S ik (fun es p=>VB its S (.List es p)) t it pos&&tU body S x)))
 | .six j i e,S,l=>GJ l fun st=>OL st fun ts v=>GJ ts fun t=>LL t fun ov iv _=>yJ iv&&(BF v&&(VB e S v&&(VB (.var j) S ov&&VB i S iv)))
 | .rse x m e,S,l=>GJ l fun st=>P9 st fun ex=>NL ex fun g es ks _=>nC g fun y _=>x==y&&(SJ S y&&(ks.isEmpty&&ja es fun a b=>Om S m a&&(jB a&&(jB b&&VB e S b))))
 | .tryC i f as x j k,S,l=>GJ l fun st=>O9 st fun b hs=>GJ hs (Am S x j k)&&GJ b fun st2=>match i with
  |none=>Ae st2 fun v=>Y4 S f as v
  |some i=>OL st2 fun ts v=>GJ ts fun g=>nC g fun z _=>pN S i z&&Y4 S f as v
structure OkS(X:Cx)(S:SC)(G:Glob)(E:XK):Prop extends OkX X S G E where
 po:PassesOwn (model X.prog X.w) X.A X.env X.xe
 nd:X.N.Nodup
 cel:∀x,X.fn x=true
 rs:BU X (wOf X.K) (iOf X.K) E
 er:G.no "raise"->∃k fd,FnOk X.prog X.w X.K X.mg X.base i5 k (iOf X.K) fd ["self","words","place"] (DN X.K (wOf X.K) (iOf X.K))/\Room (k+1) X.A/\AD X.K fd ["self","words","place"] []
 cx:∀f,G.fn f->∃(k:Nat) (a:Addr) (fd:FuncData) (ps:List Str),FnOk X.prog X.w X.K X.mg X.base (z9 X.prog X.w X.K (wOf X.K) (iOf X.K)) k a fd ps (G.ev.sp f)/\Room k X.A/\X.mg f=some (.ref a)/\qU X.K (.ref a)=true/\AD X.K fd ps []
 st:X.stack=X.env::X.outer
 fr:X.env.frame=some X.env.locals
section
variable{X:Cx}{S:SC}{G:Glob}{E:XK}
theorem LJ{e:Expr}{t:Option Expr}{n:Nat}{env:Env}(h:BF e=true):swapsWith e t n env=pure false:=by cases e<;>first|rfl|cases h
theorem VW{i:Nat}{x:Str}(ok:OkX X S G E)(h:MO S i x=true):X.N[i]?=some x/\gl X.env.scope x:=by simp only[MO,QN,qq,beq_iff_eq]at h;rw[ok.N,ok.sc];exact⟨h.1,h.2⟩
theorem AW(ok:OkS X S G E){i:Nat}{x:Str}{e:PX}{v:Expr}{px pos:Pos}(h1:MO S i x=true)(h2:(BF v||S.sc.names.lookup x==some .cell)=true)(pe:PE X v (wp X.K G.ev e E).e) :
  PS X (.Assign [.Name x px] v pos) (gQ X.K G.ev E (.set i e)):=by
 obtain⟨g1,g2⟩:=VW ok.toOkX h1;refine gZ (pos':=px) ok.nd g1 g2 pe ?_ (.inl (ok.cel x));cases hn:BF v with
 |true=>exact LJ hn
 |false =>
  rw[hn,QAj,beq_iff_eq,<- ok.sc]at h2;have hk:X.env.kindOf x=some .cell:=h2;have key:∀(b c:Bool) (p1 p2:Nat),(pure (b&&X.env.kindOf x==some .local&&p1==p2&&!c):Sem Bool)=pure false:=fun b c p1 p2=>by
   rw[hk];have:(b&&(some NameKind.cell==some NameKind.local)&&p1==p2&&!c)=false:=by cases b<;>rfl
   rw[this]
  cases v with
  |ListComp el gs sc cp=>exact key _ _ _ _
  |SetComp el gs sc cp=>exact key _ _ _ _
  |DictComp k v gs sc cp=>exact key _ _ _ _
  |_=>cases hn
theorem c8{e:PX}(h:G2 e=true):∃a b c d f g k,e=.comp a b c d f g k:=by
 cases e with
 |comp a b c d f g k=>exact⟨a,b,c,d,f,g,k,rfl⟩
 |_=>exact(QD h).elim
theorem me(ok:OkS X S G E){i:Nat}{e:PX}{l:List Stmt}(h:vV S i e l=true)(nd:SA G e):∃st,l=[st]/\PS X st (gQ X.K G.ev E (.set i e)):=by
 have nd:SA G (Fl e):=by cases e<;>exact nd
 have ew:gQ X.K G.ev E (.set i e)=gQ X.K G.ev E (.set i (Fl e)):=by cases e<;>rfl
 rw[ew];obtain⟨st,e1,q1⟩:=oB h;obtain⟨ts,v,p,e2,q2⟩:=mH q1;obtain⟨t,e3,q3⟩:=oB q2;obtain⟨x,px,e4,q4⟩:=xB q3;obtain⟨el,gs,sc,cp,e5,q5⟩:=uT q4;subst e1 e2 e3 e4 e5;have h1:=jA q5;have h2:=jA h1.2;have h3:=jA h2.2;have h4:=jA h3.2;have h5:=jA h4.2;obtain⟨mask,tgs,tg,ik,its,cond,elt,ee⟩:=c8 h5.1;rw[ee]at nd h5 ⊢;refine⟨_,rfl,?_⟩;have h6:=h5.2;obtain⟨el',gens,scope,pos,ee,g⟩:=uT h6;cases ee;obtain⟨⟨t,it,ifs,asy⟩,rfl,g⟩:=oB g;have g0:=jA g;have g1:=jA g0.2;have g2:=jA g1.2;have g3:=jA g2.2;have g4:=jA g3.2;have g5:=jA g4.2;have ea:asy=0:=Qd g0.1;cases ea;have C:CompSt X.N X.env.scope sc tgs mask:=by rw[ok.N,ok.sc];exact GR g1.1
 obtain⟨n1,n2,n3,n4⟩:=nd;obtain⟨l1,l2⟩:=oH h1.1;have l2':X.env.scope.names.lookup x=some .local:=by rw[ok.sc];exact l2
 refine C6 (g:=uF X.K tg) (tc:=if isNop cond=true then fun _ H Q=>Q true H else(wp X.K G.ev cond (fun _ _ _=>False)).t) (te:=(wp X.K G.ev elt (fun _ _ _=>False)).e) ok.calm ok.nd (by rw[ok.N];exact l1) l2' (yT ok.toOkX (pos:=cp) g4.1 n1 fun es p q=>snd its ok.toOkX q n2) C (fun s H ex=>?_) (fun x=>UT g3.1 x) ?_;have okc:=ok.toOkX.comp sc tgs mask s H ex;refine⟨oV okc C.nd g2.1,?_,(snd elt okc g5.2 n4).pe⟩;have hif:=g5.1;cases ifs with
 |nil=>have e:isNop cond=true:=hif;simp only[e,if_true];exact nV
 |cons c r=>have p1:=jA hif;have p2:=jA p1.2;cases Qp.mp p1.1;have e:isNop cond=false:=(wQ _).mp p2.1;simp only[e,Qi,if_false];exact mV (snd cond okc p2.2 n3).pt
 have k1:X.env.scope.kind=.function:=by rw[ok.sc];exact Qd h2.1
 have k2:(X.env.blockKind==.function)=true:=by simp[Env.blockKind,k1,ScopeKind.isAnnotationScope]
 have k3:(X.env.kindOf x==some .local)=true:=by show(X.env.scope.names.lookup x==some .local)=true;rw[l2'];rfl
 show(pure (X.env.blockKind==.function&&X.env.kindOf x==some .local&&px.line==cp.line&&!(sc.names.any fun(n,k)=>n==x&&(k==.local||k==.cell))):Sem Bool)=pure true;rw[k2,k3,h3.1,h4.1];rfl
theorem OkX.mute(ok:OkX X S G E)(E':NB):OkX (X.wish E') S G (fun _ _ _=>False) where
 N:=ok.N
 sc:=ok.sc
 calm:=ok.calm
 un:=ok.un
 fn:=fun f h=>by obtain⟨CX,k,a,fd,ps,h1,h2,h3,h4,h5,h6,h7⟩:=ok.fn f h;exact⟨CX,k,a,fd,ps,h1,h2,h3,h4,h5,fun _ _ _ _ _ _ _ z=>(h7 _ _ _ _ _ z).elim,h7⟩
 val:=ok.val
 no:=ok.no
 dic:=ok.dic
theorem TV(ok:OkS X S G E){f:Str}{as:PX}{v:Expr}{pins:ZB}{σ:St}{H:Hp}{s:Shared}{Q:VK}{EK:XK}{E':NB}(h:Y4 S f as v=true)(nf:G.fn f)(na:SA G as)(I:Inv X pins σ H s)
  (hE:∀H1 s1 u s',Inv X pins σ H1 s1->z9 X.prog X.w X.K (wOf X.K) (iOf X.K) X.stack H1 s1 EK u s'->E' u s') (q:(wp X.K G.ev as (fun _ _ _=>False)).a σ H fun vs H1=>G.ev.sp f vs H1 Q EK) :
  wpAny (model X.prog X.w) X.A (eval v X.env) (EP X pins σ Q) E' s:=by
 obtain⟨p,es,ks,pos,rfl,hg,h1⟩:=TC h;have h2:=jA h1;cases Qp.mp h2.1;obtain⟨e1,es1,rfl,h3⟩:=jJ h2.2;have h4:=jA h3;obtain⟨g1,g2,g3⟩:=aC hg;have hg:Gl X f:=show X.env.scope.names.lookup f=some .globalImplicit by rw[ok.sc];exact g1
 obtain⟨k,a,fd,ps,F,hr,hm,hk,hb⟩:=ok.cx f nf;have pa:=(snd as (ok.toOkX.mute E') h4.2 na).pa _ pos rfl;have st:=jA (MB as h4.2);refine wD (zJ I hg hm ?_ g2);refine QAG (h₀:=X.base) I.ok.mod.kin hk (EA (pa pos pins s σ H _ (I.wish E') q) fun us s1 ⟨vs,H1,I1,r,q1⟩=>?_) (gA _ st.1) (rC st.2);have I1:Inv X pins σ H1 s1:=I1.unwish;refine⟨I1.kIn,QBD (Wg (F.run X.A X.stack s1 H1 ⟨us,[]⟩ us vs Q EK hr I1.env0 ?_ r q1) fun rr s' hq'=>?_)⟩;have hl:(us++[]).length=ps.length:=by rw[Q7,<- r.length];exact F.len _ _ _ _ q1
 have b:=hb s1 us I1.kIn hl;rw[Q7]at b;exact b;cases rr with
 |error e=>exact hE H1 s1 e s' I1 hq'
 |ok fl =>
  cases fl with
  |ret u=>exact I1.after hq'
  |next=>exact QR hq'
  |brk=>exact QR hq'
  |cont=>exact QR hq'
theorem Yd{t a b:Expr}{p:Pos}{env:Env}:swappedStores [t] (.Subscript a b p) env=pure none:=by cases t<;>rfl
theorem T5{t f:Expr}{as:List Expr}{ks:List Keyword}{p:Pos}{env:Env}:swappedStores [t] (.Call f as ks p) env=pure none:=by cases t<;>rfl
theorem Kh{v a b:Expr}{p:Pos}{env:Env}:swappedStores [.Subscript a b p] v env=pure none:=by cases v<;>rfl
theorem N3{t:Expr}{env:Env}(h:KP t=true):(assignEach [t] env).map (·.2)=[assign t env]:=by cases t<;>first|rfl|exact(QD h).elim
theorem Km:∀(p:PT) {l:List Stmt},OkS X S G E->tU p S l=true->uI G p->gW X l (gQ X.K G.ev E p)/\(D2 p=true->∀st,l=[st]->PS X st (gQ X.K G.ev E p)):=by
 intro p;have one:∀{p:PT}{st:Stmt},PS X st (gQ X.K G.ev E p)->gW X [st] (gQ X.K G.ev E p)/\(D2 p=true->∀st',[st]=[st']->PS X st' (gQ X.K G.ev E p)):=fun h=>⟨B6 h,fun _ st' e=>by cases e;exact h⟩
 have stor:∀{i:Nat}{e:PX}{l:List Stmt},OkS X S G E->(setB S i (VB e S) l||vV S i e l)=true->SA G e->∃st,l=[st]/\PS X st (gQ X.K G.ev E (.set i e)):=fun {i e l} ok h nd=>by
  rcases(qq _ _).mp h with h|h
  rotate_left
  exact me ok h nd;obtain⟨st,e1,q1⟩:=oB h;obtain⟨ts,v,p,e2,q2⟩:=mH q1;obtain⟨t,e3,q3⟩:=oB q2;obtain⟨x,px,e4,q4⟩:=xB q3;subst e1 e2 e3 e4;have h1:=jA q4;have h2:=jA h1.2;exact⟨_,rfl,AW ok h1.1 h2.1 (snd e ok.toOkX h2.2 nd).pe⟩
 induction p with
 |nil=>intro l ok h nd;cases Qp.mp h;exact⟨hV,fun h=>(QD h).elim⟩
 |seq s r ihs ihr=>intro l ok h nd;obtain⟨st,l,rfl,h⟩:=jJ h;have h1:=jA h;have h2:=jA h1.2;exact⟨YL ((ihs ok h2.1 nd.1).2 h1.1 st rfl) (ihr ok h2.2 nd.2).1,fun h=>(QD h).elim⟩
 |set i e=>intro l ok h nd;obtain⟨st,rfl,q⟩:=stor ok h nd;exact one q
 |own i e=>intro l ok h nd;obtain⟨st,rfl,q⟩:=stor ok h nd;exact one q
 |setT is e =>
  intro l ok h nd;obtain⟨st,e1,q1⟩:=oB h;obtain⟨ts,v,p,e2,q2⟩:=mH q1;obtain⟨t,e3,h⟩:=oB q2;subst e1 e2 e3;have h1:=jA h;have h2:=jA h1.2;have h3:=jA h2.2;have nc:BF v=true/\∀env,swappedStores [t] v env=pure none:=by rcases(qq _ _).mp h3.1 with z|z;obtain⟨_,_,_,rfl,_⟩:=lH z;exact⟨rfl,fun env=>Yd⟩;obtain⟨_,_,_,_,rfl,_⟩:=II z;exact⟨rfl,fun env=>T5⟩
  refine one (hZ (snd e ok.toOkX h3.2 nd).pe (oV ok.toOkX ok.nd h2.1) (LJ nc.1) (nc.2 _) ?_);exact N3 h1.1
 |expr e=>intro l ok h nd;obtain⟨st,rfl,h⟩:=oB h;obtain⟨v,p,rfl,h⟩:=MZ h;have h1:=jA h;exact one (lV (snd e ok.toOkX h1.2 nd).pe (LJ h1.1))
 |ret e =>
  intro l ok h nd;obtain⟨st,rfl,h⟩:=oB h;obtain⟨v,p,rfl,h⟩:=K7 h;cases v with
  |none=>exact(QD h).elim
  |some v=>exact one (de (snd e ok.toOkX h nd).pe)
 |ife c a b iha ihb=>intro l ok h nd;obtain⟨st,rfl,h⟩:=oB h;obtain⟨t,x,y,p,rfl,h⟩:=V7 h;have h1:=jA h;have h2:=jA h1.2;exact one (ei (snd c ok.toOkX h1.1 nd.1).pt (iha ok h2.1 nd.2.1).1 (ihb ok h2.2 nd.2.2).1)
 |for_ tg ik its body ih=>intro l ok h nd;obtain⟨st,rfl,h⟩:=oB h;obtain⟨t,it,x,y,p,rfl,h⟩:=U7 h;have h0:=jA h;have h1:=jA h0.2;have h2:=jA h1.2;have h3:=jA h2.2;cases Qp.mp h0.1;exact one (ge ok.po ok.calm (yT ok.toOkX h3.1 nd.1 fun es p q=>snd its ok.toOkX q nd.2.1) (oV ok.toOkX ok.nd h1.1) (ih ok h3.2 nd.2.2).1 fun x=>UT h2.1 x)
 |six j i e =>
  intro l ok h nd;obtain⟨st,e1,q1⟩:=oB h;obtain⟨ts,v,p,e2,q2⟩:=mH q1;obtain⟨t,e3,h⟩:=oB q2;subst e1 e2 e3;obtain⟨ov,iv,pp,e4,q4⟩:=lH h;subst e4;have h1:=jA q4;have h2:=jA h1.2;have h3:=jA h2.2;have h4:=jA h3.2;refine one (hZ (snd e ok.toOkX h3.1 nd.2).pe (Ke (pos:=pp) (snd (.var j) ok.toOkX h4.1 trivial).pe (snd i ok.toOkX h4.2 nd.1).pe FY ?_) ?_ ?_ ?_);intro w;have z:=h1.1;clear h4 h3 h2 h1 q4 h;cases iv<;>first|rfl|exact(QD z).elim
  show swapsWith v (some (.Subscript ov iv pp)) p.line X.env=pure false;exact LJ h2.1;exact Kh;rfl
 |rse x m e =>
  intro l ok h nd;obtain⟨st,rfl,h⟩:=oB h;obtain⟨ex,p,rfl,h⟩:=Z7 h;obtain⟨g,es,ks,cp,rfl,h⟩:=II h;obtain⟨y,np,rfl,h⟩:=xB h;have h1:=jA h;cases Qd h1.1;have h2:=jA h1.2;have h3:=jA h2.2;cases Qp.mp h3.1;obtain⟨a,b,rfl,h4⟩:=mK h3.2;have h5:=jA h4;have h6:=jA h5.2;have h7:=jA h6.2;obtain⟨u,hm,ru⟩:=ok.val x nd.1;obtain⟨kI,fd,FI,hr,hb⟩:=ok.er nd.2.1;obtain⟨g1,g2,g3⟩:=aC h2.1;have hg:Gl X x:=show X.env.scope.names.lookup x=some .globalImplicit by rw[ok.sc];exact g1
  refine one fun pins s σ H D I hq=>?_;obtain⟨hmsg,C,nm,eC,Y,q⟩:=hq;rw[eC]at ru;obtain rfl:u=Value.ref C:=ru;have pb:PE X b (fun σ H Q=>∃Qq:VK,(wp X.K G.ev e E).e σ H Qq/\∀v H1,Qq v H1->Q v H1):=fun pins s σ H Q I ⟨Qq,h,k⟩=>EA ((snd e ok.toOkX h7.2 nd.2.2).pe pins s σ H Qq I h) fun u s1 ⟨x,H1,I1,r,q⟩=>⟨x,H1,I1,r,k _ _ q⟩
  have fin:∀{tm:TE},PE X a tm->(∀Q:VK,(∀z,Q z H)->tm σ H Q)->wpAny (model X.prog X.w) X.A (exec (.Raise (some (.Call (.Name x np) [a,b] [] cp)) none p) X.env) (SP X pins D) X.xe s:=fun {tm} pm hm'=>by
   refine ce (EK:=E) Y.ex ok.rs ok.calm (De (pos:=cp) (p:=np) Y.ex FI hr hb hg hm (JD pm (JD pb BL (gA _ h7.1)) (gA _ h6.1)) g2 (gA _ h6.1) (rC (by rw[Qw,h7.1];rfl))) pins s σ H D I ?_;refine hm' _ fun z=>⟨_,q,fun v H1 ⟨p,ev,k⟩=>⟨z,p,by rw[ev],fun e dx n1 n2 n3=>⟨e,dx,rfl,dA,⟨_,by rw[vA n3];exact dA⟩,?_⟩⟩⟩
   rw[N5];exact k e dx n1 n2 n3
  cases m with
  |none=>obtain⟨z,k1,p1,rfl,_⟩:=GS h5.1;exact fin VL fun Q q=>q _
  |some jj=>obtain⟨a1,v,b1,fp,jp,rfl,m1⟩:=HZ h5.1;have m2:=jA m1;have m3:=jA m2.2;obtain⟨z1,k1,p1,rfl,l1⟩:=GS m2.1;obtain⟨z2,k2,p2,rfl,l2⟩:=GS m3.1;obtain⟨y,yp,rfl,m4⟩:=xB m3.2;obtain⟨v1,v2,v3,v4⟩:=FO m4;obtain⟨p0,e0,l0⟩:=hmsg;exact fin (Ce (BJ (by rw[ok.N];exact v1) (by rw[ok.sc];exact v2) v3 v4) l1 l2) fun Q q=>⟨p0,e0,l0,fun z=>q _⟩
 |tryC i f as x jj kk =>
  intro l ok h nd;obtain⟨st,rfl,h⟩:=oB h;obtain⟨b,hs,p,rfl,h⟩:=Y7 h;have h1:=jA h;obtain⟨hd,rfl,hh⟩:=oB h1.1;obtain⟨st2,rfl,hb⟩:=oB h1.2;obtain⟨t,n,bb,hp,rfl,k1⟩:=X7 hh;obtain⟨y,np,rfl,k1⟩:=xB k1;have k2:=jA k1;cases Qd k2.1;have k3:=jA k2.2;have k4:=jA k3.2;have k5:=jA k4.2;have k6:=jA k5.2;obtain⟨sb,rfl,k7⟩:=oB k6.2;obtain⟨ts,v,ap,rfl,k8⟩:=mH k7;obtain⟨g,rfl,k9⟩:=oB k8;obtain⟨z,zp,rfl,k10⟩:=xB k9;have k11:=jA k10;obtain⟨u,up,rfl,k12⟩:=xB k11.2;cases Qd k12;obtain⟨C0,hm,ru⟩:=ok.val x nd.2.2;obtain⟨g1,g2,g3⟩:=aC k3.1;have hg:Gl X x:=show X.env.scope.names.lookup x=some .globalImplicit by rw[ok.sc];exact g1
  obtain⟨a1,a2⟩:=oH k4.1;obtain⟨b1,b2⟩:=oH k11.1;obtain⟨_,_,v3,v4⟩:=FO k5.1;rw[<- ok.N]at a1 b1;rw[<- ok.sc]at a2 b2;have hik:jj≠kk:=by simpa using k6.1
  refine one fun pins s σ H D I hq=>?_;obtain⟨⟨C,eC,Y⟩,q⟩:=hq;rw[eC]at ru;obtain rfl:C0=Value.ref C:=ru;have YE:=Y.ex;have hm:=hm;rw[Y.w]at hm YE;refine wpAny_Try_except ?_;have hE:∀H1 s1 u s',Inv X pins σ H1 s1->z9 X.prog X.w X.K (wOf X.K) (iOf X.K) X.stack H1 s1 (fun _ a H2=>∃e,a=some e/\D.nx ((σ.set jj (some (.ref e))).set kk none) H2) u s'->_:=fun H1 s1 u s' I1 hc =>
   lh (rest:=[]) (np:=np) (yp:=zp) (ep:=up) (ap:=ap) (hpos:=hp) (D:=D) I1 hc ok.st ok.fr ok.nd YE hg hm g2 b1 b2 a1 a2 v3 v4 hik fun e H' ⟨e',ee,q⟩=>by cases ee;exact q
  have nxt:∀{s1:Shared}{σ1:St}{H1:Hp}{E1:NB},Inv X pins σ1 H1 s1->D.nx σ1 H1->wpAny (model X.prog X.w) X.A (execs [] X.env) (fun f s₁=>match f with | .next=>wpAny (model X.prog X.w) X.A (execs [] X.env) (SP X pins D) X.xe s₁|f=>SP X pins D f s₁) E1 s1:=fun I1 q1=>we (we ⟨_,_,I1,q1⟩);cases i with
  |none =>
   obtain⟨v,vp,rfl,hb⟩:=MZ hb;have nc:BF v=true:=by obtain⟨_,_,_,_,rfl,_⟩:=TC hb;rfl
   exact WF (wpAny_Expr_any (EA (TV ok hb nd.1 nd.2.1 I hE q) fun u s1 ⟨x,H1,I1,r,q1⟩=>nxt I1 q1) I.quiet (LJ nc))
  |some i =>
   obtain⟨ts,v,vp,rfl,hb⟩:=mH hb;obtain⟨g,rfl,hb⟩:=oB hb;obtain⟨y,yp,rfl,hb⟩:=xB hb;have hb2:=jA hb;have nc:BF v=true:=by obtain⟨_,_,_,_,rfl,_⟩:=TC hb2.2;rfl
   obtain⟨c1,c2⟩:=oH hb2.1;rw[<- ok.N]at c1;rw[<- ok.sc]at c2;exact WF (QBs (EA (TV ok hb2.2 nd.1 nd.2.1 I hE q) fun u s1 ⟨x,H1,I1,r,q1⟩=>GI I1 ok.nd c1 (.inl c2) r (fun s2 I2=>nxt I2 q1) (.inr c2)) (LJ nc))
end
noncomputable abbrev D:=PyData
set_option genInjectivity true in
inductive T where
 |d (x:D)|lst (ts:List T)|tup (ts:List T)|dct (ks:List D) (ts:List T)
mutual
noncomputable def T.er:T->D
 | .d x=>x
 | .lst ts=>.list (ersT ts)
 | .tup ts=>.tuple (ersT ts)
 | .dct ks ts=>.dict (ks.zip (ersT ts))
noncomputable def ersT:List T->List D
 |[]=>[]
 |t::r=>t.er::ersT r
end
theorem oC(ds:List D):ersT (ds.map T.d)=ds:=by
 induction ds with
 |nil=>rfl
 |cons d r ih=>simp only[QV,ersT,ih,T.er]
theorem XR:∀(ts:List T),(ersT ts).length=ts.length
 |[]=>rfl
 |t::r=>by simp only[ersT,QH,XR r]
noncomputable def T.isD:T->Bool
 | .d _=>true
 |_=>false
set_option genInjectivity true in
inductive Sl where
 |own (t:T)|nv (t:T)
noncomputable abbrev zA:=List (Option Sl)
noncomputable def AK(t:T)(n:Bool):Bool:=n||t.isD
noncomputable def fA(t:T):Bool->T
 |true=>.d t.er
 |false=>t
theorem yA(x:D)(n:Bool):fA (.d x) n=.d x:=by cases n<;>rfl
theorem xJ(t:T)(n:Bool):(fA t n).er=t.er:=by cases n<;>rfl
noncomputable def fG:List T->Option (List D)
 |[]=>some []
 | .d x::r=>(fG r).map (x::·)
 |_::_=>none
theorem HA(ds:List D):fG (ds.map T.d)=some ds:=by
 induction ds with
 |nil=>rfl
 |cons d r ih=>simp only[QV,fG,ih,Q5]
theorem uL:∀{ts:List T}{ds:List D},fG ts=some ds->ts=ds.map T.d
 |[],ds,h=>by simp only[fG,Qj]at h;subst h;rfl
 | .d x::r,ds,h=>by
  simp only[fG]at h;cases e:fG r with
  |none=>rw[e]at h;cases h
  |some es=>rw[e]at h;cases h;rw[QV,uL e]
 | .lst _::_,_,h=>by simp[fG]at h
 | .tup _::_,_,h=>by simp[fG]at h
 | .dct _ _::_,_,h=>by simp[fG]at h
set_option genInjectivity true in
inductive Vw where
 |sc (x:D)|ls (ts:List T)|tp (ts:List T)|dc (ks:List D) (ts:List T)
noncomputable def T.vw:T->Vw
 | .lst ts=>.ls ts
 | .tup ts=>.tp ts
 | .dct ks ts=>.dc ks ts
 | .d x=>match x with
  | .list ds=>.ls (ds.map T.d)
  | .tuple ds=>.tp (ds.map T.d)
  | .dict kvs=>.dc (kvs.map (·.1)) (kvs.map fun p=>T.d p.2)
  | .none=>.sc .none
  | .bool b=>.sc (.bool b)
  | .int i=>.sc (.int i)
  | .str s=>.sc (.str s)
noncomputable def oK(ts:List T):T:=match fG ts with
 |some ds=>.d (.tuple ds)
 |none=>.tup ts
noncomputable abbrev XD:=Str×Int
noncomputable def HF(x:Str)(p:Int):D:=.dict [(.none,.list [.str x,.int p])]
noncomputable def IJ(x:Str):D:=.dict [(.none,.str x)]
noncomputable abbrev XE:=XD->Prop
noncomputable abbrev TK:=T->Bool->zA->Prop
inductive Md where
 |nz|kq|nv|chg
 deriving DecidableEq
structure PSp where
 md:List Md
 run:List T->(T->List T->Prop)->XE->Prop
 mono:∀{ts:List T}{Q Q':T->List T->Prop}{E E':XE},(∀t os,Q t os->Q' t os)->(∀x,E x->E' x)->run ts Q E->run ts Q' E'
structure PEv where
 sp:Str->PSp
 va:Str->Option D
 dc:Str->Option (List (Str×D))
def binT(op:Operator)(x y:Vw)(Q:T->Bool->Prop):Prop:=match op with
 | .Add=>(∃i j,x=.sc (.int i)/\y=.sc (.int j)/\Q (.d (.int (i+j))) false)∨(∃a b,x=.sc (.str a)/\y=.sc (.str b)/\a.length+b.length<=sizeLine/\Q (.d (.str (a++b))) false) ∨
  (∃xs ys ds es,x=.ls xs/\y=.ls ys/\fG xs=some ds/\fG ys=some es/\ds.length+es.length<=sizeLine/\Q (.lst ((ds++es).map T.d)) true) ∨
  (∃xs ys ds es,x=.tp xs/\y=.tp ys/\fG xs=some ds/\fG ys=some es/\ds≠[]/\es≠[]/\ds.length+es.length<=sizeLine/\Q (.d (.tuple (ds++es))) false)
 | .Sub=>∃i j,x=.sc (.int i)/\y=.sc (.int j)/\Q (.d (.int (i - j))) false
 | .Mult=>(∃i j,x=.sc (.int i)/\y=.sc (.int j)/\IntMulOk i j/\Q (.d (.int (i * j))) false)∨(∃a k,x=.sc (.str a)/\y=.sc (.int k)/\(-(2 ^ 31)<=k/\k<2 ^ 31/\a.length * k.toNat<=sizeLine)/\Q (.d (.str (gG a k))) false)∨(∃ts k,∃ds:List D,x=.ls ts/\y=.sc (.int k)/\fG ts=some ds/\(-(2 ^ 31)<=k/\k<2 ^ 31/\ds.length * k.toNat<=sizeLine)/\Q (.lst ((QI k.toNat ds).flatten.map T.d)) true)
 | .FloorDiv=>∃i j,x=.sc (.int i)/\y=.sc (.int j)/\(0<j/\j<2 ^ 200)/\Q (.d (.int (i / j))) false
 | .Mod=>∃i j,x=.sc (.int i)/\y=.sc (.int j)/\0<j/\Q (.d (.int (i % j))) false
 | .Pow=>∃i j,x=.sc (.int i)/\y=.sc (.int j)/\J5 i j/\Q (.d (.int (i ^ j.toNat))) false
 |_=>False
section
variable{Q:T->Bool->Prop}
theorem Zg(i j:Int):binT .Add (.sc (.int i)) (.sc (.int j)) Q=Q (.d (.int (i+j))) false:=by simp[binT]
theorem Yg(a b:Str):binT .Add (.sc (.str a)) (.sc (.str b)) Q=(a.length+b.length<=sizeLine/\Q (.d (.str (a++b))) false):=by simp[binT]
theorem B4(xs ys:List T):binT .Add (.ls xs) (.ls ys) Q=∃ds es,fG xs=some ds/\fG ys=some es/\ds.length+es.length<=sizeLine/\Q (.lst ((ds++es).map T.d)) true:=by simp[binT]
theorem Jg(xs ys:List T):binT .Add (.tp xs) (.tp ys) Q=∃ds es,fG xs=some ds/\fG ys=some es/\ds≠[]/\es≠[]/\ds.length+es.length<=sizeLine/\Q (.d (.tuple (ds++es))) false:=by simp[binT]
theorem ig(i j:Int):binT .Sub (.sc (.int i)) (.sc (.int j)) Q=Q (.d (.int (i - j))) false:=by simp[binT]
theorem og(i j:Int):binT .Mult (.sc (.int i)) (.sc (.int j)) Q=(IntMulOk i j/\Q (.d (.int (i * j))) false):=by simp[binT]
theorem ng(a:Str)(k:Int):binT .Mult (.sc (.str a)) (.sc (.int k)) Q=((-(2 ^ 31)<=k/\k<2 ^ 31/\a.length * k.toNat<=sizeLine)/\Q (.d (.str (gG a k))) false):=by simp[binT]
theorem lg(i j:Int):binT .FloorDiv (.sc (.int i)) (.sc (.int j)) Q=((0<j/\j<2 ^ 200)/\Q (.d (.int (i / j))) false):=by simp[binT]
theorem fg(i j:Int):binT .Mod (.sc (.int i)) (.sc (.int j)) Q=(0<j/\Q (.d (.int (i % j))) false):=by simp[binT]
theorem N8(i j:Int):binT .Pow (.sc (.int i)) (.sc (.int j)) Q=(J5 i j/\Q (.d (.int (i ^ j.toNat))) false):=by simp[binT]
end
noncomputable def Il:D->D->(Bool->Prop)->Prop
 | .int i,.int j,Q=>Q (decide (i=j))
 | .str x,.str y,Q=>Q (decide (x=y))
 | .bool x,.bool y,Q=>Q (decide (x=y))
 |a,b,Q=>NE a/\NE b/\Q (Qo a b)
noncomputable def YB:D->Bool
 | .none | .bool _ | .int _ | .str _=>true
 |_=>false
noncomputable def Tl:D->D->(Bool->Prop)->Prop
 | .str x,.str y,Q=>Q (inStr y x)
 |a,.list ds,Q|a,.tuple ds,Q=>((YB a=true/\ds.all YB=true)∨(NE a/\NE (.list ds)))/\Q (ds.any fun y=>Qo y a)
 |_,_,_=>False
noncomputable def IW(f:Int->Int->Bool):D->D->(Bool->Prop)->Prop
 | .int i,.int j,Q=>Q (f i j)
 |_,_,_=>False
noncomputable def XA:D->Bool
 | .none=>true
 |_=>false
noncomputable def JX:D->D->(Bool->Prop)->Prop
 |a,.none,Q=>Q (XA a)
 |_,_,_=>False
noncomputable def HR:CmpOp->D->D->(Bool->Prop)->Prop
 | .Eq,a,b,Q=>Il a b Q
 | .NotEq,a,b,Q=>Il a b fun k=>Q (!k)
 | .Lt,a,b,Q=>IW (fun i j=>decide (i<j)) a b Q
 | .LtE,a,b,Q=>IW (fun i j=>decide (i<=j)) a b Q
 | .Gt,a,b,Q=>IW (fun i j=>decide (j<i)) a b Q
 | .GtE,a,b,Q=>IW (fun i j=>decide (j<=i)) a b Q
 | .In,a,b,Q=>Tl a b Q
 | .NotIn,a,b,Q=>Tl a b fun k=>Q (!k)
 | .Is,a,b,Q=>JX a b Q
 | .IsNot,a,b,Q=>JX a b fun k=>Q (!k)
noncomputable def AH:D->(Bool->Prop)->Prop
 | .bool b,Q=>Q b
 | .int i,Q=>Q (i != 0)
 | .none,Q=>Q false
 | .str z,Q=>z.length<=sizeLine/\Q ((z.length:Int) != 0)
 | .list ds,Q=>Q (!ds.isEmpty)
 | .tuple ds,Q=>Q (!ds.isEmpty)
 |_,_=>False
noncomputable def Ug:D->(Bool->Prop)->Prop
 | .bool b,Q=>Q b
 |_,_=>False
def sN(x y:Vw)(Q:T->Prop):Prop:=(∃z i c,x=.sc (.str z)/\y=.sc (.int i)/\z.length<=sizeLine/\mC z.cps.toList i=some c/\Q (.d (.str ⟨#[c]⟩))) ∨
 (∃ts i t,x=.ls ts/\y=.sc (.int i)/\mC ts i=some t/\Q t)∨(∃ts i t,x=.tp ts/\y=.sc (.int i)/\mC ts i=some t/\Q t)
theorem Of{Q:T->Prop}(z:Str)(i:Int):sN (.sc (.str z)) (.sc (.int i)) Q=(z.length<=sizeLine/\∃c,mC z.cps.toList i=some c/\Q (.d (.str ⟨#[c]⟩))):=by simp[sN]
theorem T2{Q:T->Prop}(ts:List T)(i:Int):sN (.ls ts) (.sc (.int i)) Q=∃t,mC ts i=some t/\Q t:=by simp[sN]
theorem Nf{Q:T->Prop}(ts:List T)(i:Int):sN (.tp ts) (.sc (.int i)) Q=∃t,mC ts i=some t/\Q t:=by simp[sN]
noncomputable def eM{α:Type}(xs:List α)(lo hi:Option Int):List α:=(xs.drop (HT.sIx xs.length 0 lo)).take (HT.sIx xs.length xs.length hi - HT.sIx xs.length 0 lo)
def tG(x:Vw)(lo hi:Option Int)(Q:T->Bool->Prop):Prop:=(∃z,x=.sc (.str z)/\z.length<=sizeLine/\Q (.d (.str (qS z lo hi))) false)∨(∃ts ds,x=.ls ts/\fG ts=some ds/\Q (.lst ((eM ds lo hi).map T.d)) true) ∨
 (∃ts ds,x=.tp ts/\fG ts=some ds/\¬ (HT.sIx ds.length 0 lo=0/\HT.sIx ds.length ds.length hi=ds.length)/\Q (.d (.tuple (eM ds lo hi))) false)
section
variable{Q:T->Bool->Prop}{lo hi:Option Int}
theorem Dd(z:Str):tG (.sc (.str z)) lo hi Q=(z.length<=sizeLine/\Q (.d (.str (qS z lo hi))) false):=by simp[tG]
theorem Cd(ts:List T):tG (.ls ts) lo hi Q=∃ds,fG ts=some ds/\Q (.lst ((eM ds lo hi).map T.d)) true:=by simp[tG]
end
noncomputable def CG:D->(Option Int->Prop)->Prop
 | .int i,Q=>Q (some i)
 |_,_=>False
noncomputable def isD(n:String):D->Option Bool
 | .none=>some false
 | .bool _=>some (n == "bool" || n == "int")
 | .int _=>some (n == "int")
 | .str _=>some (n == "str")
 | .list _=>some (n == "list")
 | .tuple _=>some (n == "tuple")
 | .dict _=>none
noncomputable def bO(n:String):Bool:=n == "bool" || n == "int" || n == "str" || n == "list" || n == "tuple" || n == "ValueError"
def KN(f:Bi)(vs:List Vw)(Q:T->Bool->Prop):Prop:=match f with
 | .len=>(∃z,vs=[.sc (.str z)]/\z.length<=sizeLine/\Q (.d (.int z.length)) false)∨(∃ts,vs=[.ls ts]/\Q (.d (.int ts.length)) false)∨(∃ts,vs=[.tp ts]/\Q (.d (.int ts.length)) false)
 | .all=>∃ts,∃bs:List Bool,vs=[.ls ts]/\fG ts=some (bs.map PyData.bool)/\Q (.d (.bool (bs.all id))) false
 | .int=>(∃i,vs=[.sc (.int i)]/\Q (.d (.int i)) false)∨(∃b,vs=[.sc (.bool b)]/\Q (.d (.int (if b then 1 else 0))) false)∨(∃z n,vs=[.sc (.str z)]/\z.length<=640/\intText? z=some n/\Q (.d (.int n)) false)
 | .str=>(∃i,vs=[.sc (.int i)]/\i.natAbs.log2<1920/\Q (.d (.str (toString i))) false)∨(∃z,vs=[.sc (.str z)]/\Q (.d (.str z)) false)
 | .list=>(∃ts ds,vs=[.ls ts]/\fG ts=some ds/\Q (.lst (ds.map T.d)) true)∨(∃ts ds,vs=[.tp ts]/\fG ts=some ds/\Q (.lst (ds.map T.d)) true)
 | .max=>∃i j,vs=[.sc (.int i),.sc (.int j)]/\Q (.d (.int (if j > i then j else i))) false
section
variable{Q:T->Bool->Prop}
theorem Yk(z:Str):KN .len [.sc (.str z)] Q=(z.length<=sizeLine/\Q (.d (.int z.length)) false):=by simp[KN]
theorem xb(ts:List T):KN .len [.ls ts] Q=Q (.d (.int ts.length)) false:=by simp[KN]
theorem Jk(ts:List T):KN .len [.tp ts] Q=Q (.d (.int ts.length)) false:=by simp[KN]
theorem ak(ts:List T):KN .all [.ls ts] Q=∃bs:List Bool,fG ts=some (bs.map PyData.bool)/\Q (.d (.bool (bs.all id))) false:=by simp[KN]
theorem pk(b:Bool):KN .int [.sc (.bool b)] Q=Q (.d (.int (if b then 1 else 0))) false:=by simp[KN]
theorem nk(z:Str):KN .int [.sc (.str z)] Q=(z.length<=640/\∃n,intText? z=some n/\Q (.d (.int n)) false):=by simp[KN]
theorem gk(i:Int):KN .str [.sc (.int i)] Q=(i.natAbs.log2<1920/\Q (.d (.str (toString i))) false):=by simp[KN]
theorem fk(z:Str):KN .str [.sc (.str z)] Q=Q (.d (.str z)) false:=by simp[KN]
theorem Vg(i j:Int):KN .max [.sc (.int i),.sc (.int j)] Q=Q (.d (.int (if j > i then j else i))) false:=propext ⟨fun⟨_,_,e,h⟩=>by cases e;exact h,fun h=>⟨_,_,rfl,h⟩⟩
end
def da(m:Mt)(x:Vw)(vs:List Vw)(Q:T->Bool->Prop):Prop:=match m with
 | .split=>∃z y,x=.sc (.str z)/\vs=[.sc (.str y)]/\z.length<=sizeLine/\0<y.length/\(wP z y).length<=sizeLine/\Q (.lst (((wP z y).map PyData.str).map T.d)) true
 | .rstrip=>∃z,x=.sc (.str z)/\vs=[]/\z.length<=sizeLine/\Q (.d (.str (wu z))) false
 | .find=>∃z y,x=.sc (.str z)/\vs=[.sc (.str y)]/\Q (.d (.int (QCY z y))) false
 |_=>False
theorem cj{Q:T->Bool->Prop}(z y:Str):da .split (.sc (.str z)) [.sc (.str y)] Q=(z.length<=sizeLine/\0<y.length/\(wP z y).length<=sizeLine/\Q (.lst (((wP z y).map PyData.str).map T.d)) true):=by simp[da]
theorem bj{Q:T->Bool->Prop}(z:Str):da .rstrip (.sc (.str z)) [] Q=(z.length<=sizeLine/\Q (.d (.str (wu z))) false):=by simp[da]
noncomputable def Vw.isS:Vw->Bool
 | .sc (.str _)=>true
 |_=>false
noncomputable def isMut:Mt->Bool
 | .insert=>true
 | .pop=>true
 |_=>false
noncomputable def jM(m:Mt)(x:Vw):Bool:=x.isS&&!isMut m
def AT(m:Mt)(s:T)(us:List T)(N:T->T->Prop):Prop:=match m with
 | .pop=>∃ts i k t,s=.lst ts/\us=[.d (.int i)]/\vO ts.length i=some k/\ts[k]?=some t/\N t (.lst (ts.eraseIdx k))
 | .insert=>∃ts i t,s=.lst ts/\us=[.d (.int i),t]/\(0<=i/\i<=ts.length)/\ts.length<sizeLine/\N (.d .none) (.lst (bG ts i.toNat t))
 |_=>False
theorem Y1{N:T->T->Prop}(ts:List T)(i:Int)(t:T):AT .insert (.lst ts) [.d (.int i),t] N=((0<=i/\i<=ts.length)/\ts.length<sizeLine/\N (.d .none) (.lst (bG ts i.toNat t))):=propext ⟨fun⟨_,_,_,e1,e2,h⟩=>by cases e1;cases e2;exact h,fun h=>⟨_,_,_,rfl,rfl,h⟩⟩
noncomputable def nK(m:Mt):T->Bool
 | .lst _=>isMut m
 |_=>false
noncomputable def Vw.seq:Vw->Option (List T)
 | .ls ts=>some ts
 | .tp ts=>some ts
 | .sc (.str z)=>if z.cps.all (· < 128) then some (z.cps.toList.map fun c=>.d (.str ⟨#[c]⟩)) else none
 |_=>none
def vD(ik:ItK)(vs:List Vw)(R:List T->Prop):Prop:=match ik with
 | .val=>(∃z,vs=[.sc (.str z)]/\R (z.cps.toList.map fun c=>.d (.str ⟨#[c]⟩)))∨(∃ts,vs=[.ls ts]/\R ts)∨(∃ts,vs=[.tp ts]/\R ts)
 | .rng1=>∃j,vs=[.sc (.int j)]/\(-(2 ^ 62)<=j/\j<2 ^ 62)/\R ((qK j.toNat).map fun(i:Nat)=>.d (.int (i:Int)))
 | .rng3=>∃i j k,vs=[.sc (.int i),.sc (.int j),.sc (.int k)]/\(-(2 ^ 62)<=i/\i<2 ^ 62/\-(2 ^ 62)<=j/\j<2 ^ 62/\0<k/\k<1000)/\R ((qK (VQ i j k)).map fun(m:Nat)=>.d (.int (i+(m:Int) * k)))
 | .zip2=>∃x y ts us ds es,vs=[x,y]/\x.seq=some ts/\y.seq=some us/\fG ts=some ds/\fG us=some es/\R ((ds.zip es).map fun p=>.d (.tuple [p.1,p.2]))
section
variable{R:List T->Prop}
theorem V2(z:Str):vD .val [.sc (.str z)] R=R (z.cps.toList.map fun c=>.d (.str ⟨#[c]⟩)):=by simp[vD]
theorem nR(ts:List T):vD .val [.ls ts] R=R ts:=by simp[vD]
theorem K2(j:Int):vD .rng1 [.sc (.int j)] R=((-(2 ^ 62)<=j/\j<2 ^ 62)/\R ((qK j.toNat).map fun(i:Nat)=>.d (.int (i:Int)))):=by simp[vD]
theorem Y2(i j k:Int):vD .rng3 [.sc (.int i),.sc (.int j),.sc (.int k)] R=((-(2 ^ 62)<=i/\i<2 ^ 62/\-(2 ^ 62)<=j/\j<2 ^ 62/\0<k/\k<1000)/\R ((qK (VQ i j k)).map fun(m:Nat)=>.d (.int (i+(m:Int) * k)))):=by apply propext;constructor;rintro⟨_,_,_,⟨⟩,h⟩;exact h;exact fun h=>⟨_,_,_,rfl,h⟩
theorem A1(x y:Vw):vD .zip2 [x,y] R=∃ts us ds es,x.seq=some ts/\y.seq=some us/\fG ts=some ds/\fG us=some es/\R ((ds.zip es).map fun p=>.d (.tuple [p.1,p.2])):=by apply propext;constructor;rintro⟨_,_,ts,us,ds,es,⟨⟩,h⟩;exact⟨ts,us,ds,es,h⟩;rintro⟨ts,us,ds,es,h⟩;exact⟨_,_,ts,us,ds,es,rfl,h⟩
end
noncomputable def PB:List Nat->List T->zA->Option zA
 |[],[],ρ=>some ρ
 |i::is,t::ts,ρ=>PB is ts (ρ.set i (some (.nv t)))
 |_,_,_=>none
noncomputable def sK:Tg->T->zA->(zA->Prop)->Prop
 | .nm i,t,ρ,Q=>Q (ρ.set i (some (.nv t)))
 | .tp is,t,ρ,Q=>match t.vw with
  | .tp ts=>∃ρ',PB is ts ρ=some ρ'/\Q ρ'
  |_=>False
noncomputable def Tg.ix:Tg->List Nat
 | .nm i=>[i]
 | .tp is=>is
noncomputable def EY:PX->Option Nat
 | .var i=>some i
 |_=>none
noncomputable def MG:Option Sl->Option Sl
 |some (.own t)=>some (.nv t)
 |s=>s
noncomputable def lockA(ρ:zA):zA:=ρ.map MG
noncomputable def lock:List Nat->zA->zA
 |[],ρ=>ρ
 |i::is,ρ=>lock is (ρ.modify i MG)
noncomputable def lR:Option Sl->Option Sl
 |some (.nv t)=>if t.isD=true then some (.nv t) else none
 |s=>s
noncomputable def kill:List Nat->zA->zA
 |[],ρ=>ρ
 |i::is,ρ=>kill is (ρ.modify i lR)
noncomputable def clear:List Nat->zA->zA
 |[],ρ=>ρ
 |i::is,ρ=>clear is (ρ.set i none)
noncomputable def KC:List Nat->zA->Option (List T)
 |[],_=>some []
 |i::is,ρ=>match ρ[i]? with
  |some (some (.own t))=>(KC is ρ).map (t::·)
  |_=>none
noncomputable def iD:List Nat->List T->zA->Option zA
 |[],[],ρ=>some ρ
 |i::is,t::ts,ρ=>iD is ts (ρ.set i (some (.own t)))
 |_,_,_=>none
noncomputable def DH:List Bool->zA->zA
 |b::m,v::ρ=>(if b then none else v)::DH m ρ
 |_,ρ=>ρ
noncomputable def aN(k:Nat)(mask:List Bool)(ρ:zA):zA:=QI k none++DH mask ρ
def sq{α:Type}(x:T)(ρ:zA)(b:zA->(α->zA->Prop)->Prop)(K:α->zA->Prop):Prop :=
 if x.isD=true then b ρ K else b (lockA ρ) fun y _=>K y ρ
noncomputable def cu(f:zA->TK->Prop):zA->(T×Bool->zA->Prop)->Prop:=fun ρ K=>f ρ fun x n ρ'=>K (x,n) ρ'
noncomputable def ED:List (T×Bool)->List T
 |[]=>[]
 |p::r=>p.1::ED r
noncomputable def xD:List (T×Bool)->List T
 |[]=>[]
 |p::r=>fA p.1 p.2::xD r
noncomputable def aB:List (T×Bool)->List Vw
 |[]=>[]
 |p::r=>(fA p.1 p.2).vw::aB r
noncomputable def LF:List (T×Bool)->Bool
 |[]=>true
 |p::r=>AK p.1 p.2&&LF r
noncomputable def MM:List (T×Bool)->Bool
 |[]=>true
 |p::r=>AK p.1 p.2&&MM r
noncomputable def AE(t:T):Option T:=match t.vw with
 | .ls ts=>(fG ts).map fun ds=>.lst (ds.map T.d)
 |_=>if t.isD=true then some t else none
noncomputable def uB:List Md->List (T×Bool)->List T->Option (List T)
 |_,[],[]=>some []
 |_,[],_::_=>none
 |md,(x,n)::xs,os=>match md.headD .nz with
  | .nz=>match fA x n with
   | .d d=>(uB md.tail xs os).map (.d d::·)
   |_=>none
  | .kq=>match AE (fA x n) with
   |some t=>(uB md.tail xs os).map (t::·)
   |none=>none
  | .nv=>(uB md.tail xs os).map (fA x n::·)
  | .chg=>match os with
   |o::os=>(uB md.tail xs os).map (o::·)
   |[]=>none
noncomputable def TB:List Md->List T->List T
 |_,[]=>[]
 |md,t::ts=>match md.headD .nz with
  | .chg=>t::TB md.tail ts
  |_=>TB md.tail ts
noncomputable def nA:List Md->PX->List Nat
 | .chg::md,.nq (.var j) as=>j::nA md as
 |_::md,.nq _ as=>nA md as
 |_,_=>[]
noncomputable def Md.isMut:Md->Bool
 | .chg=>true
 |_=>false
def IO(Ψ:PEv)(o:Prm)(ts:List T)(Q:T->Bool->Prop):Prop:=match o with
 | .dget x=>∃z kds,ts=[.d (.str z)]/\Ψ.dc x=some kds/\Q (.d ((kds.lookup z).getD .none)) false
 | .dix x=>∃z kds d,ts=[.d (.str z)]/\Ψ.dc x=some kds/\kds.lookup z=some d/\Q (.d d) false
 | .tmul=>∃ds k,ts=[.d (.tuple ds),.d (.int k)]/\ds≠[]/\(1<=k/\k<2 ^ 31/\ds.length * k.toNat<=sizeLine)/\Q (.d (.tuple (QI k.toNat ds).flatten)) false
 | .plc=>∃x p,ts=[.d (HF x p)]/\Q (.d (.int p)) false
 | .ngt=>∃i,ts=[.d (.int i)]/\Q (.d (.int (-i))) false
 | .din neg=>∃z ks ds,ts=[.d (.str z),.d (.dict (mG ks ds))]/\(ks≠[]/\ks.length=ds.length)/\Q (.d (.bool (cond neg (!((ks.zip ds).lookup z).isSome) ((ks.zip ds).lookup z).isSome))) false
 | .dgt=>∃z ks ds d,ts=[.d (.dict (mG ks ds)),.d (.str z)]/\(ks≠[]/\ks.length=ds.length)/\(ks.zip ds).lookup z=some d/\Q (.d d) false
 | .isC=>∃x p z,ts=[.d (HF x p),.d (IJ z)]/\Q (.d (.bool (decide (z=x∨z="WorldError")))) false
 | .isT _ m=>m="ValueError"/\∃x p,ts=[.d (HF x p)]/\Q (.d (.bool (cN.contains (.type m)))) false
theorem Je{Ψ:PEv}{Q:T->Bool->Prop}(x z:Str):IO Ψ (.dget x) [.d (.str z)] Q=∃kds,Ψ.dc x=some kds/\Q (.d ((kds.lookup z).getD .none)) false:=by simp[IO]
theorem ae{Ψ:PEv}{Q:T->Bool->Prop}(x z:Str):IO Ψ (.dix x) [.d (.str z)] Q=∃kds d,Ψ.dc x=some kds/\kds.lookup z=some d/\Q (.d d) false:=by simp[IO]
theorem re{Ψ:PEv}{Q:T->Bool->Prop}(ds:List D)(k:Int):IO Ψ .tmul [.d (.tuple ds),.d (.int k)] Q=(ds≠[]/\(1<=k/\k<2 ^ 31/\ds.length * k.toNat<=sizeLine)/\Q (.d (.tuple (QI k.toNat ds).flatten)) false):=propext ⟨fun⟨_,_,e,h⟩=>by cases e;exact h,fun h=>⟨_,_,rfl,h⟩⟩
structure D3 where
 e:zA->TK->Prop
 t:zA->(Bool->zA->Prop)->Prop
 a:List Md->zA->(List (T×Bool)->zA->Prop)->Prop
noncomputable def zF:D3:=⟨fun _ _=>False,fun _ _=>False,fun _ _ _=>False⟩
noncomputable def AC(body:T->(Option T->Prop)->Prop):List T->List T->(List T->Prop)->Prop
 |[],acc,Q=>acc.length<=sizeLine/\Q acc
 |x::xs,acc,Q=>body x fun
  |some y=>acc.length<sizeLine/\AC body xs (acc++[y]) Q
  |none=>AC body xs acc Q
def AG(tg:Tg)(ρ0:zA)(c:zA->(Bool->zA->Prop)->Prop)(e:zA->TK->Prop)(x:T)(R:Option T->Prop):Prop :=
 sK tg x ρ0 fun ρ1=>c ρ1 fun b ρ2=>if b=true then e ρ2 fun y n _=>AK y n=true/\R (some y) else R none
noncomputable def Gf:PX->D->(Bool->Prop)->Prop
 | .bty _ n,d,Q=>∃b,isD n d=some b/\bO n=true/\Q b
 |_,_,_=>False
noncomputable def Ol:Option (Option Sl)->(T->Prop)->Prop
 |some (some (.own t)),Q=>Q t
 |some (some (.nv t)),Q=>Q t
 |some none,_=>False
 |none,_=>False
noncomputable def EI:Option (Option Sl)->(T->Prop)->Prop
 |some (some (.own t)),Q=>Q t
 |some (some (.nv _)),_=>False
 |some none,_=>False
 |none,_=>False
noncomputable def e9:Option Nat->(Nat->Prop)->Prop
 |none,_=>False
 |some j,Q=>Q j
noncomputable def U2:PX->Bool
 | .var _=>true
 |_=>false
noncomputable def pe(Ψ:PEv):PX->XE->D3
 | .var i,_=>let e:zA->TK->Prop:=fun ρ Q=>Ol ρ[i]? fun t=>Q t false ρ
  ⟨e,fun ρ Q=>e ρ fun t _ ρ1=>AH t.er fun b=>Q b ρ1,zF.a⟩
 | .int i,_=>⟨fun ρ Q=>Q (.d (.int i)) false ρ,fun ρ Q=>Q (i != 0) ρ,zF.a⟩
 | .str x,_=>⟨fun ρ Q=>Q (.d (.str x)) false ρ,zF.t,zF.a⟩
 | .bl b,_=>⟨fun ρ Q=>Q (.d (.bool b)) false ρ,fun ρ Q=>Q b ρ,zF.a⟩
 | .non,_=>⟨fun ρ Q=>Q (.d .none) false ρ,fun ρ Q=>Q false ρ,zF.a⟩
 | .glo x,_=>let e:zA->TK->Prop:=fun ρ Q=>match Ψ.va x with
   |some d=>Q (.d d) false ρ
   |none=>False
  ⟨e,fun ρ Q=>e ρ fun t _ ρ1=>AH t.er fun b=>Q b ρ1,zF.a⟩
 | .bty _ _,_=>zF
 | .bin op a b,E=>let e:zA->TK->Prop:=fun ρ Q=>(pe Ψ a E).e ρ fun x n ρ1=>sq (fA x n) ρ1 (cu (pe Ψ b E).e) fun y ρ2=>binT op (fA x n).vw (fA y.1 y.2).vw fun z k=>Q z k ρ2
  ⟨e,fun ρ Q=>e ρ fun t _ ρ1=>AH t.er fun b=>Q b ρ1,zF.a⟩
 | .cmp op a b,E=>let t:zA->(Bool->zA->Prop)->Prop:=fun ρ Q=>(pe Ψ a E).e ρ fun x n ρ1=>sq (fA x n) ρ1 (cu (pe Ψ b E).e) fun y ρ2=>HR op x.er y.1.er fun k=>Q k ρ2
  ⟨fun ρ Q=>t ρ fun k ρ1=>Q (.d (.bool k)) false ρ1,t,zF.a⟩
 | .chn o p a b c,E=>let t:zA->(Bool->zA->Prop)->Prop:=fun ρ Q=>(pe Ψ a E).e ρ fun x n ρ1=>sq (fA x n) ρ1 (cu (pe Ψ b E).e) fun y ρ2=>HR o x.er y.1.er fun k=>if k=true then sq (fA y.1 y.2) ρ2 (cu (pe Ψ c E).e) fun z ρ3=>HR p y.1.er z.1.er fun k=>Q k ρ3 else Q false ρ2
  ⟨fun ρ Q=>t ρ fun k ρ1=>Q (.d (.bool k)) false ρ1,t,zF.a⟩
 | .and a b,E=>⟨fun ρ Q=>(pe Ψ a E).e ρ fun x _ ρ1=>Ug x.er fun c=>if c=true then(pe Ψ b E).e ρ1 Q else Q (.d (.bool false)) false ρ1,
   fun ρ Q=>(pe Ψ a E).t ρ fun c ρ1=>if c=true then(pe Ψ b E).t ρ1 Q else Q false ρ1,zF.a⟩
 | .or a b,E=>⟨fun ρ Q=>(pe Ψ a E).e ρ fun x _ ρ1=>Ug x.er fun c=>if c=true then Q (.d (.bool true)) false ρ1 else(pe Ψ b E).e ρ1 Q,
   fun ρ Q=>(pe Ψ a E).t ρ fun c ρ1=>if c=true then Q true ρ1 else(pe Ψ b E).t ρ1 Q,zF.a⟩
 | .not a,E=>⟨fun ρ Q=>(pe Ψ a E).e ρ fun x _ ρ1=>AH x.er fun c=>Q (.d (.bool (!c))) false ρ1,fun ρ Q=>(pe Ψ a E).t ρ fun c ρ1=>Q (!c) ρ1,zF.a⟩
 | .ife c a b,E=>⟨fun ρ Q=>(pe Ψ c E).t ρ fun k ρ1=>if k=true then(pe Ψ a E).e ρ1 Q else(pe Ψ b E).e ρ1 Q,zF.t,zF.a⟩
 | .call f as,E=>let e:zA->TK->Prop:=fun ρ Q=>∃os,KC (nA (Ψ.sp f).md as) ρ=some os/\(nA (Ψ.sp f).md as).Nodup/\(pe Ψ as E).a (Ψ.sp f).md (clear (nA (Ψ.sp f).md as) ρ) fun xs ρ1=>∃ts,uB (Ψ.sp f).md xs os=some ts/\(Ψ.sp f).run ts (fun r os'=>∃ρ2,iD (nA (Ψ.sp f).md as) os' ρ1=some ρ2/\Q r true ρ2) E
  ⟨e,fun ρ Q=>e ρ fun t _ ρ1=>AH t.er fun b=>Q b ρ1,zF.a⟩
 | .isi a c,E=>let t:zA->(Bool->zA->Prop)->Prop:=fun ρ Q=>(pe Ψ a E).e ρ fun x _ ρ1=>Gf c x.er fun b=>Q b ρ1
  ⟨fun ρ Q=>t ρ fun k ρ1=>Q (.d (.bool k)) false ρ1,t,zF.a⟩
 | .bi f as,E=>let e:zA->TK->Prop:=fun ρ Q=>(pe Ψ as E).a [] ρ fun xs ρ1=>KN f (aB xs) fun z k=>Q z k ρ1
  ⟨e,fun ρ Q=>e ρ fun t _ ρ1=>AH t.er fun b=>Q b ρ1,zF.a⟩
 | .prm o as,E=>let e:zA->TK->Prop:=fun ρ Q=>(pe Ψ as E).a [] ρ fun xs ρ1=>IO Ψ o (xD xs) fun z k=>Q z k ρ1
  ⟨e,fun ρ Q=>e ρ fun t _ ρ1=>AH t.er fun b=>Q b ρ1,zF.a⟩
 | .mt m o as,E=>let e:zA->TK->Prop:=fun ρ Q=>if isMut m=true then e9 (EY o) fun j=>EI ρ[j]? fun t=>nK m t=true/\(pe Ψ as E).a [] (ρ.set j (some (.nv t))) fun xs ρ2=>LF xs=true/\ρ2[j]?=some (some (.nv t))/\AT m t (ED xs) fun r s'=>Q r true (ρ2.set j (some (.own s'))) else(pe Ψ o E).e ρ fun x n ρ1=>jM m (fA x n).vw=true/\sq (fA x n) ρ1 ((pe Ψ as E).a []) fun xs ρ2=>da m (fA x n).vw (aB xs) fun z k=>Q z k ρ2
  ⟨e,fun ρ Q=>e ρ fun t _ ρ1=>AH t.er fun b=>Q b ρ1,zF.a⟩
 | .idx a b,E=>let e:zA->TK->Prop:=fun ρ Q=>(pe Ψ a E).e ρ fun x n ρ1=>sq (fA x n) ρ1 (cu (pe Ψ b E).e) fun y ρ2=>sN (fA x n).vw (fA y.1 y.2).vw fun z=>Q z false ρ2
  ⟨e,fun ρ Q=>e ρ fun t _ ρ1=>AH t.er fun b=>Q b ρ1,zF.a⟩
 | .slc a lo hi,E=>⟨fun ρ Q=>(pe Ψ a E).e ρ fun x n ρ1 =>
   sq (α:=Option Int) (fA x n) ρ1 (if isNop lo=true then fun ρ (R:Option Int->zA->Prop)=>R none ρ else fun ρ R=>(pe Ψ lo E).e ρ fun l _ ρ2=>CG l.er fun o=>R o ρ2) fun l ρ2 =>
   sq (α:=Option Int) (fA x n) ρ2 (if isNop hi=true then fun ρ (R:Option Int->zA->Prop)=>R none ρ else fun ρ R=>(pe Ψ hi E).e ρ fun u _ ρ3=>CG u.er fun o=>R o ρ3) fun u ρ3=>tG (fA x n).vw l u fun z k=>Q z k ρ3,zF.t,zF.a⟩
 | .nop,_=>zF
 | .lst as,E=>⟨fun ρ Q=>(pe Ψ as E).a [] ρ fun xs ρ1=>LF xs=true/\xs.length<=sizeLine/\Q (.lst (ED xs)) true ρ1,zF.t,zF.a⟩
 | .tup as,E=>⟨fun ρ Q=>(pe Ψ as E).a [] ρ fun xs ρ1=>LF xs=true/\xs.length<=sizeLine/\Q (oK (ED xs)) true ρ1,zF.t,zF.a⟩
 | .comp mask tgs tg ik its cond elt,E=>⟨fun ρ Q=>(pe Ψ its E).a [] ρ fun xs ρ1=>vD ik (aB xs) fun items =>
   AC (AG tg (aN tgs.length mask (lockA ρ1)) (if isNop cond=true then fun ρ R=>R true ρ else(pe Ψ cond (fun _=>False)).t) (pe Ψ elt (fun _=>False)).e) items [] fun ys=>Q (.lst ys) true ρ1,zF.t,zF.a⟩
 | .dsp ks as,E=>⟨fun ρ Q=>(pe Ψ as E).a [] ρ fun xs ρ1=>(ks.Nodup/\ks.length<=15/\ks.length=xs.length/\MM xs=true)/\Q (.d (.dict (mG ks (ersT (ED xs))))) false ρ1,zF.t,zF.a⟩
 | .nr,_=>⟨zF.e,zF.t,fun _ ρ Q=>Q [] ρ⟩
 | .nq a as,E=>⟨zF.e,zF.t,fun md ρ Q=>if(md.headD .nz).isMut=true then U2 a=true/\(pe Ψ as E).a md.tail ρ fun xs ρ1=>Q ((.d .none,true)::xs) ρ1
   else(pe Ψ a E).e ρ fun x n ρ1=>sq (α:=List (T×Bool)) (if n=true then .d .none else x) ρ1 ((pe Ψ as E).a md.tail) fun xs ρ2=>Q ((x,n)::xs) ρ2⟩
structure PEnds where
 nx:zA->Prop
 rt:T->zA->Prop
 bk:zA->Prop:=fun _=>False
 ct:zA->Prop:=fun _=>False
noncomputable def JH:PX->List Nat
 | .var i=>[i]
 | .idx a _=>JH a
 | .ife _ a b=>JH a++JH b
 | .and a b | .or a b=>JH a++JH b
 | .nq a as=>JH a++JH as
 |_=>[]
noncomputable def FL:Option (Option Sl)->Bool
 |some (some (.own _))=>true
 |some (some (.nv _))=>false
 |some none=>false
 |none=>false
noncomputable def MC(ρ:zA):List Nat->List Nat
 |[]=>[]
 |i::is=>if FL ρ[i]?=true then i::MC ρ is else MC ρ is
noncomputable def LC:List Nat->zA->zA->zA
 |[],_,ρ=>ρ
 |i::L,ρ0,ρ=>LC L ρ0 (ρ.set i (ρ0[i]?.getD none))
def US(J L:List Nat)(ρ0:zA)(N:zA->Prop)(ρ:zA):Prop:=(∀i∈L,i∉J/\ρ[i]?=ρ0[i]?.map MG)/\N (LC L ρ0 ρ)
noncomputable def ZH(body:PEnds->zA->Prop)(tg:Tg)(Z:PEnds):List T->zA->Prop
 |[],ρ=>Z.nx ρ
 |x::xs,ρ=>sK tg x ρ fun ρ1=>body { Z with nx:=fun ρ2=>ZH body tg Z xs ρ2,ct:=fun ρ2=>ZH body tg Z xs ρ2,bk:=Z.nx } ρ1
noncomputable def Bm(ρ:zA)(i:Nat)(R:T->zA->Prop):Option (Option Sl)->Prop
 |some (some (.own t))=>R t (ρ.set i none)
 |some (some (.nv t))=>t.isD=true/\R t ρ
 |some none=>False
 |none=>False
noncomputable def mD(Ψ:PEv)(E:XE)(Rt:T->zA->Prop):PX->zA->Prop
 | .var i,ρ=>Bm ρ i Rt ρ[i]?
 | .ife c a b,ρ=>(pe Ψ c E).t ρ fun k ρ1=>if k=true then mD Ψ E Rt a ρ1 else mD Ψ E Rt b ρ1
 |e,ρ=>(pe Ψ e E).e ρ fun x n ρ1=>AK x n=true/\Rt x ρ1
def Kd(t:T)(y x:D)(Q:T->Prop):Prop:=∃ts i n,t=.lst ts/\y=.int i/\vO ts.length i=some n/\Q (.lst (ts.set n (.d x)))
def cf(m:Option Nat)(ρ:zA):Prop:=match m with
 |none=>True
 |some j=>∃p,ρ[j]?=some (some (.nv (.d (.int p))))/\p.natAbs.log2<1920
noncomputable def Od(i:Option Nat)(t:T)(ρ:zA):zA:=match i with
 |none=>ρ
 |some i=>ρ.set i (some (.nv (.d t.er)))
noncomputable def YA(Ψ:PEv)(E:XE):PT->PEnds->zA->Prop
 | .nil,Z,ρ=>Z.nx ρ
 | .seq s r,Z,ρ=>YA Ψ E s { Z with nx:=fun ρ'=>YA Ψ E r Z ρ' } ρ
 | .set i e,Z,ρ=>(pe Ψ e E).e ρ fun x n ρ1=>AK x n=true/\Z.nx (ρ1.set i (some (.nv (.d x.er))))
 | .setT is e,Z,ρ=>(pe Ψ e E).e ρ fun x n ρ1=>AK x n=true/\sK (.tp is) (.d x.er) ρ1 Z.nx
 | .expr e,Z,ρ=>(pe Ψ e E).e ρ fun _ _ ρ1=>Z.nx ρ1
 | .ret e,Z,ρ=>mD Ψ E Z.rt e ρ
 | .ife c a b,Z,ρ=>(pe Ψ c E).t ρ fun k ρ1=>if k=true then YA Ψ E a Z ρ1 else YA Ψ E b Z ρ1
 | .for_ tg ik its body,Z,ρ=>(pe Ψ its E).a [] ρ fun xs ρ1=>vD ik (aB xs) fun items =>
   if MM xs=true then ZH (YA Ψ E body) tg { Z with nx:=fun ρ2=>Z.nx (kill tg.ix ρ2) } items ρ1
   else ZH (YA Ψ E body) tg { Z with nx:=fun ρ2=>US tg.ix (MC ρ1 (JH its)) ρ1 Z.nx (kill tg.ix ρ2) } items (lock (MC ρ1 (JH its)) ρ1)
 | .own i e,Z,ρ=>(pe Ψ e E).e ρ fun x n ρ1=>AK x n=true/\Z.nx (ρ1.set i (some (.own x)))
 | .rse x m e,_,ρ=>cf m ρ/\∃y,Ψ.va x=some (IJ y)/\(pe Ψ e E).e ρ fun v _ _=>∃p,v=.d (.int p)/\E (y,p)
 | .tryC i f as x j k,Z,ρ=>(j≠k/\ρ[k]?=some none)/\Ψ.va x=some (IJ "WorldError")/\nA (Ψ.sp f).md as=[]/\(pe Ψ as (fun _=>False)).a (Ψ.sp f).md ρ fun xs ρ1=>ρ1=ρ/\∃ts,uB (Ψ.sp f).md xs []=some ts /\
   (Ψ.sp f).run ts (fun r _=>Z.nx (Od i r ρ)) fun y=>Z.nx (ρ.set j (some (.nv (.d (HF y.1 y.2)))))
 | .six j i e,Z,ρ=>EI ρ[j]? fun t=>(pe Ψ e E).e (ρ.set j (some (.nv t))) fun x n ρ1=>AK x n=true/\(pe Ψ i E).e ρ1 fun y m ρ2=>AK y m=true/\ρ2[j]?=some (some (.nv t))/\Kd t y.er x.er fun t'=>Z.nx (ρ2.set j (some (.own t')))
theorem _root_.L2.Same.rd{H H':Hp}(e:Same H H'){a:Addr}{u:HO}(h:Rd H a u):Rd H' a u:=by
 rcases h with h|⟨o,h⟩
 exact .inl (e _ _ h);exact .inr ⟨o,e _ _ h⟩
theorem _root_.L2.Same.tupl{K:QC}{H H':Hp}{a:Addr}{xs:List V}(e:Same H H')(h:LE K H a xs):LE K H' a xs:=by rcases h with h|h;exact .inl (e.rd h);exact .inr h
mutual
theorem Rep.mono{K:QC}{H H':Hp}(e:Same H H'):∀{v:V}{d:D},Rep K H v d->Rep K H' v d
 |_,_,.non=>.non
 |_,_,.bl b=>.bl b
 |_,_,.int i=>.int i
 |_,_,.str x=>.str x
 |_,_,.lst h r=>.lst (e.seq h) (Reps.mono e r)
 |_,_,.tup h r=>.tup (e.tupl h) (Reps.mono e r)
 |_,_,.exc h1 h2 h3=>.exc (e _ _ h1) (e _ _ h2) h3
 |_,_,.cls h=>.cls h
 |_,_,.dct h1 h2 r=>.dct (e _ _ h1) h2 (Reps.mono e r)
theorem Reps.mono{K:QC}{H H':Hp}(e:Same H H'):∀{vs:List V}{ds:List D},Reps K H vs ds->Reps K H' vs ds
 |_,_,.nil=>.nil
 |_,_,.cons h t=>.cons (Rep.mono e h) (Reps.mono e t)
end
theorem Reps.append{K:QC}{H:Hp}:∀{vs ws:List V}{ds es:List D},Reps K H vs ds->Reps K H ws es->Reps K H (vs++ws) (ds++es)
 |_,_,_,_,.nil,r=>r
 |_,_,_,_,.cons h t,r=>.cons h (Reps.append t r)
theorem Reps.drop{K:QC}{H:Hp}:∀{vs:List V}{ds:List D}(n:Nat),Reps K H vs ds->Reps K H (vs.drop n) (ds.drop n)
 |_,_,0,r=>r
 |_,_,_+1,.nil=>.nil
 |_,_,n+1,.cons _ t=>Reps.drop n t
theorem Reps.take{K:QC}{H:Hp}:∀{vs:List V}{ds:List D}(n:Nat),Reps K H vs ds->Reps K H (vs.take n) (ds.take n)
 |_,_,0,_=>.nil
 |_,_,_+1,.nil=>.nil
 |_,_,n+1,.cons h t=>.cons h (Reps.take n t)
theorem Reps.map_str{K:QC}{H:Hp}:∀(xs:List Str),Reps K H (xs.map V.str) (xs.map PyData.str)
 |[]=>.nil
 |x::r=>.cons (.str x) (Reps.map_str r)
theorem Reps.bools{K:QC}{H:Hp}:∀{vs:List V}{bs:List Bool},Reps K H vs (bs.map PyData.bool)->vs=bs.map V.bl
 |_,[],.nil=>rfl
 |_,b::bs,.cons h t=>by cases h;rw[QV,Reps.bools t]
theorem FB{H:Hp}{p:Addr}{o:HO}(h:H p=none):Same H (FA H p o):=fun b u q=>by rw[vA (KA q h)];exact q
mutual
inductive Tr(K:QC)(F H:Hp):Bool->V->T->(Addr->Prop)->Prop where
 |d {st:Bool}{v:V}{x:D}{S:ZA}:Rep K F v x->(∀b,¬ S b)->Tr K F H st v (.d x) S
 |lst {st:Bool}{a:Addr}{vs:List V}{ts:List T}{S S':ZA}:H a=some (.lst vs)->F a=none->Trs K F H st vs ts S'->¬ S' a->(∀b,S b↔b=a∨S' b)->Tr K F H st (.ref a) (.lst ts) S
 |tup {st:Bool}{a:Addr}{vs:List V}{ts:List T}{S S':ZA}:H a=some (.tup vs)->F a=none->Trs K F H st vs ts S'->¬ S' a->(∀b,S b↔b=a∨S' b)->Tr K F H st (.ref a) (.tup ts) S
 |lstF {a:Addr}{vs:List V}{ds:List D}{S:ZA}:ID K F a vs->Reps K F vs ds->(∀b,¬ S b)->Tr K F H false (.ref a) (.lst (ds.map T.d)) S
inductive Trs(K:QC)(F H:Hp):Bool->List V->List T->(Addr->Prop)->Prop where
 |nil {st:Bool}{S:ZA}:(∀b,¬ S b)->Trs K F H st [] [] S
 |cons {st:Bool}{v:V}{t:T}{vs:List V}{ts:List T}{S S1 S2:ZA}:Tr K F H st v t S1->Trs K F H st vs ts S2->(∀b,S1 b->¬ S2 b)->(∀b,S b↔S1 b∨S2 b)->Trs K F H st (v::vs) (t::ts) S
end
section
variable{K:QC}{F H F' H':Hp}
mutual
theorem Tr.mono(e:Same F F'):∀{st:Bool}{v:V}{t:T}{S:ZA},Tr K F H st v t S->(∀b,S b->H' b=H b/\F' b=none)->Tr K F' H' st v t S
 |_,_,_,_,.d r n,_=>.d (r.mono e) n
 |_,_,_,S,.lst (a:=a) h f r n q,k=>.lst ((k a ((q a).mpr (.inl rfl))).1.trans h) (k a ((q a).mpr (.inl rfl))).2 (Trs.mono e r fun b hb=>k b ((q b).mpr (.inr hb))) n q
 |_,_,_,S,.tup (a:=a) h f r n q,k=>.tup ((k a ((q a).mpr (.inl rfl))).1.trans h) (k a ((q a).mpr (.inl rfl))).2 (Trs.mono e r fun b hb=>k b ((q b).mpr (.inr hb))) n q
 |_,_,_,_,.lstF h r n,_=>.lstF (e.seq h) (r.mono e) n
theorem Trs.mono(e:Same F F'):∀{st:Bool}{vs:List V}{ts:List T}{S:ZA},Trs K F H st vs ts S->(∀b,S b->H' b=H b/\F' b=none)->Trs K F' H' st vs ts S
 |_,_,_,_,.nil n,_=>.nil n
 |_,_,_,_,.cons h t n q,k=>.cons (Tr.mono e h fun b hb=>k b ((q b).mpr (.inl hb))) (Trs.mono e t fun b hb=>k b ((q b).mpr (.inr hb))) n q
end
mutual
theorem Tr.weak:∀{st:Bool}{v:V}{t:T}{S:ZA},Tr K F H st v t S->Tr K F H false v t S
 |_,_,_,_,.d r n=>.d r n
 |_,_,_,_,.lst h f r n q=>.lst h f (Trs.weak r) n q
 |_,_,_,_,.tup h f r n q=>.tup h f (Trs.weak r) n q
 |_,_,_,_,.lstF h r n=>.lstF h r n
theorem Trs.weak:∀{st:Bool}{vs:List V}{ts:List T}{S:ZA},Trs K F H st vs ts S->Trs K F H false vs ts S
 |_,_,_,_,.nil n=>.nil n
 |_,_,_,_,.cons h t n q=>.cons (Tr.weak h) (Trs.weak t) n q
end
mutual
theorem Tr.dom:∀{st:Bool}{v:V}{t:T}{S:ZA},Tr K F H st v t S->∀b,S b->H b≠none/\F b=none
 |_,_,_,_,.d r n=>fun b hb=>absurd hb (n b)
 |_,_,_,_,.lst h f r n q=>fun b hb=>by rcases(q b).mp hb with e|e;subst e;exact⟨by rw[h];simp,f⟩;exact Trs.dom r b e
 |_,_,_,_,.tup h f r n q=>fun b hb=>by rcases(q b).mp hb with e|e;subst e;exact⟨by rw[h];simp,f⟩;exact Trs.dom r b e
 |_,_,_,_,.lstF h r n=>fun b hb=>absurd hb (n b)
theorem Trs.dom:∀{st:Bool}{vs:List V}{ts:List T}{S:ZA},Trs K F H st vs ts S->∀b,S b->H b≠none/\F b=none
 |_,_,_,_,.nil n=>fun b hb=>absurd hb (n b)
 |_,_,_,_,.cons h t n q=>fun b hb=>by rcases(q b).mp hb with e|e;exact Tr.dom h b e;exact Trs.dom t b e
end
mutual
theorem Tr.rep(f:Same F H):∀{st:Bool}{v:V}{t:T}{S:ZA},Tr K F H st v t S->Rep K H v t.er
 |_,_,_,_,.d r n=>r.mono f
 |_,_,_,_,.lst h _ r n q=>by unfold T.er;exact .lst (ID.of h) (Trs.reps f r)
 |_,_,_,_,.tup h _ r n q=>by unfold T.er;exact .tup (LE.of h) (Trs.reps f r)
 |_,_,_,_,.lstF h r n=>by unfold T.er;rw[oC];exact .lst (f.seq h) (r.mono f)
theorem Trs.reps(f:Same F H):∀{st:Bool}{vs:List V}{ts:List T}{S:ZA},Trs K F H st vs ts S->Reps K H vs (ersT ts)
 |_,_,_,_,.nil n=>.nil
 |_,_,_,_,.cons h t n q=>.cons (Tr.rep f h) (Trs.reps f t)
end
mutual
theorem Tr.kept(e:Same F F'):∀{st:Bool}{v:V}{t:T}{S:ZA},Tr K F H st v t S->(∀b u,S b->H b=some u->F' b=some u)->Rep K F' v t.er
 |_,_,_,_,.d r n,_=>r.mono e
 |_,_,_,_,.lst (a:=a) h f r n q,k=>by unfold T.er;exact .lst (ID.of (k a _ ((q a).mpr (.inl rfl)) h)) (Trs.kept e r fun b u hb=>k b u ((q b).mpr (.inr hb)))
 |_,_,_,_,.tup (a:=a) h f r n q,k=>by unfold T.er;exact .tup (LE.of (k a _ ((q a).mpr (.inl rfl)) h)) (Trs.kept e r fun b u hb=>k b u ((q b).mpr (.inr hb)))
 |_,_,_,_,.lstF h r n,_=>by unfold T.er;rw[oC];exact .lst (e.seq h) (r.mono e)
theorem Trs.kept(e:Same F F'):∀{st:Bool}{vs:List V}{ts:List T}{S:ZA},Trs K F H st vs ts S->(∀b u,S b->H b=some u->F' b=some u)->Reps K F' vs (ersT ts)
 |_,_,_,_,.nil n,_=>.nil
 |_,_,_,_,.cons h t n q,k=>.cons (Tr.kept e h fun b u hb=>k b u ((q b).mpr (.inl hb))) (Trs.kept e t fun b u hb=>k b u ((q b).mpr (.inr hb)))
end
theorem Trs.length:∀{st:Bool}{vs:List V}{ts:List T}{S:ZA},Trs K F H st vs ts S->vs.length=ts.length
 |_,_,_,_,.nil n=>rfl
 |_,_,_,_,.cons h t n q=>by rw[QH,QH,Trs.length t]
theorem Trs.of_reps{st:Bool}:∀{vs:List V}{ds:List D},Reps K F vs ds->Trs K F H st vs (ds.map T.d) (fun _=>False)
 |_,_,.nil=>.nil fun _ z=>z
 |_,_,.cons h t=>.cons (.d h fun _ z=>z) (Trs.of_reps t) (fun _ z=>z.elim) fun b=>by simp
theorem Trs.un:∀{st:Bool}{vs:List V}{ts:List T}{S:ZA}{ds:List D},Trs K F H st vs ts S->fG ts=some ds->Reps K F vs ds/\∀b,¬ S b
 |_,_,_,_,_,.nil n,e=>by simp only[fG,Qj]at e;subst e;exact⟨.nil,n⟩
 |st,_,_,S,ds,.cons h t n q,e=>by
  have ed:=uL e;cases ds with
  |nil=>cases ed
  |cons d r =>
   rw[QV]at ed;injection ed with e1 e2;subst e1;have e3:=congrArg fG e2;rw[HA]at e3;obtain⟨h1,h2⟩:=Trs.un t e3;cases h with
   |d rep m=>refine⟨.cons rep h1,fun b hb=>?_⟩;rcases(q b).mp hb with z|z;exact m b z;exact h2 b z
theorem Trs.get:∀{st:Bool}{vs:List V}{ts:List T}{S:ZA}{i:Nat}{t:T},Trs K F H st vs ts S->ts[i]?=some t->∃v S1,vs[i]?=some v/\Tr K F H st v t S1/\∀b,S1 b->S b
 |_,_,_,_,i,_,.nil n,e=>by simp at e
 |_,_,_,_,0,_,.cons h t n q,e=>by simp at e;subst e;exact⟨_,_,rfl,h,fun b hb=>(q b).mpr (.inl hb)⟩
 |_,_,_,_,i+1,_,.cons h t n q,e=>by obtain⟨v,S1,h1,h2,h3⟩:=Trs.get (i:=i) t (by simpa using e);exact⟨v,S1,by simpa using h1,h2,fun b hb=>(q b).mpr (.inr (h3 b hb))⟩
theorem Trs.at{st:Bool}{vs:List V}{ts:List T}{S:ZA}{i:Int}{t:T}(r:Trs K F H st vs ts S)(h:mC ts i=some t):∃v S1,mC vs i=some v/\Tr K F H st v t S1/\∀b,S1 b->S b:=by
 unfold mC at h ⊢;rw[r.length];cases e:vO ts.length i with
 |none=>rw[e]at h;cases h
 |some j=>rw[e]at h;exact r.get h
theorem Trs.append:∀{st:Bool}{vs ws:List V}{ts us:List T}{S1 S2:ZA},Trs K F H st vs ts S1->Trs K F H st ws us S2->(∀b,S1 b->¬ S2 b)->Trs K F H st (vs++ws) (ts++us) (fun b=>S1 b∨S2 b)
 |_,_,_,_,_,_,_,.nil n,r,k=>by
  cases r with
  |nil m=>exact .nil fun b hb=>hb.elim (n b) (m b)
  |cons h t m q=>exact .cons h t m fun b=>by rw[<- q b];simp[n b]
 |_,_,_,_,_,_,_,.cons (S1:=P1) (S2:=P2) h t n q,r,k=>by
  refine .cons h (Trs.append t r fun b hb=>k b ((q b).mpr (.inr hb))) (fun b hb z=>?_) fun b=>by rw[q b,or_assoc]
  rcases z with z|z;exact n b hb z;exact k b ((q b).mpr (.inl hb)) z
theorem Trs.one{st:Bool}{v:V}{t:T}{S:ZA}(h:Tr K F H st v t S):Trs K F H st [v] [t] S:=.cons h (.nil (S:=fun _=>False) fun _ z=>z) (fun _ _ z=>z) fun b=>by simp
theorem Tr.ls{st:Bool}{v:V}{t:T}{S:ZA}{ts:List T}(f:Same F H)(h:Tr K F H st v t S)(e:t.vw=.ls ts):∃a vs S',v=.ref a/\ID K H a vs/\Trs K F H false vs ts S'/\∀b,S' b->S b:=by
 cases h with
 |d r n =>
  cases r with
  |lst q r=>injection e with e;subst e;exact⟨_,_,_,rfl,f.seq q,Trs.of_reps r,fun b hb=>hb.elim⟩
  |_=>cases e
 |lst h _ r n q=>injection e with e;subst e;exact⟨_,_,_,rfl,ID.of h,r.weak,fun b hb=>(q b).mpr (.inr hb)⟩
 |tup=>cases e
 |lstF h r n=>injection e with e;subst e;exact⟨_,_,_,rfl,f.seq h,Trs.of_reps r,fun b hb=>hb.elim⟩
theorem Tr.tp{st:Bool}{v:V}{t:T}{S:ZA}{ts:List T}(f:Same F H)(h:Tr K F H st v t S)(e:t.vw=.tp ts):∃a vs S',v=.ref a/\LE K H a vs/\Trs K F H false vs ts S'/\∀b,S' b->S b:=by
 cases h with
 |d r n =>
  cases r with
  |tup q r=>injection e with e;subst e;exact⟨_,_,_,rfl,f.tupl q,Trs.of_reps r,fun b hb=>hb.elim⟩
  |_=>cases e
 |tup h _ r n q=>injection e with e;subst e;exact⟨_,_,_,rfl,LE.of h,r.weak,fun b hb=>(q b).mpr (.inr hb)⟩
 |lst=>cases e
 |lstF=>cases e
theorem Tr.sc{st:Bool}{v:V}{t:T}{S:ZA}{x:D}(h:Tr K F H st v t S)(e:t.vw=.sc x):t=.d x/\Rep K F v x:=by
 cases h with
 |@d _ _ y _ r n =>
  cases y with
  |list ds=>cases e
  |tuple ds=>cases e
  |dict ds=>cases e
  |_=>injection e with e;subst e;exact⟨rfl,r⟩
 |tup=>cases e
 |lst=>cases e
 |lstF=>cases e
theorem Tr.int{st:Bool}{v:V}{t:T}{S:ZA}{i:Int}(h:Tr K F H st v t S)(e:t.vw=.sc (.int i)):v=.int i:=by obtain⟨_,r⟩:=h.sc e;cases r;rfl
theorem Tr.str{st:Bool}{v:V}{t:T}{S:ZA}{i:Str}(h:Tr K F H st v t S)(e:t.vw=.sc (.str i)):v=.str i:=by obtain⟨_,r⟩:=h.sc e;cases r;rfl
theorem Tr.bool{st:Bool}{v:V}{t:T}{S:ZA}{i:Bool}(h:Tr K F H st v t S)(e:t.vw=.sc (.bool i)):v=.bl i:=by obtain⟨_,r⟩:=h.sc e;cases r;rfl
end
theorem Reps.reps{K:QC}{H:Hp}{vs:List V}{ds:List D}(h:Reps K H vs ds):∀m:Nat,Reps K H (QI m vs).flatten (QI m ds).flatten
 |0=>.nil
 |m+1=>by rw[Qf,Qf,qB,qB];exact h.append (h.reps m)
noncomputable def Sl.t:Sl->T
 | .own t=>t
 | .nv t=>t
noncomputable def Sl.st:Sl->Bool
 | .own _=>true
 | .nv _=>false
noncomputable abbrev Ft:=Nat->Addr->Prop
structure Rl(K:QC)(F H:Hp)(S:Ft)(ρ:zA)(σ:St):Prop where
 fh:Same F H
 len:ρ.length=σ.length
 sl:∀(i:Nat) s,ρ[i]?=some (some s)->∃v,σ[i]?=some (some v)/\Tr K F H s.st v s.t (S i)
 dj:∀(i j:Nat) t s,i≠j->ρ[i]?=some (some (.own t))->ρ[j]?=some (some s)->∀b,S i b->¬ S j b
def U(ρ:zA)(S:Ft)(b:Addr):Prop:=∃(i:Nat) (t:T),ρ[i]?=some (some (.own t))/\S i b
structure Stp(F H:Hp)(S:Ft)(ρ:zA)(F' H':Hp)(S':Ft)(ρ':zA):Prop where
 ff:Same F F'
 hh:∀b u,H b=some u->¬ U ρ S b->H' b=some u
 dm:∀b,H' b=none->H b=none
 fn:∀b,F b=none->F' b≠none->U ρ S b∨H b=none
 uu:∀b,U ρ' S' b->U ρ S b∨H b=none
 bo:∀(j:Nat) t,ρ'[j]?=some (some (.nv t))->t.isD=false->ρ[j]?=some (some (.nv t))/\S' j=S j
structure Ste(F H:Hp)(S:Ft)(ρ:zA)(F' H':Hp)(S':Ft)(ρ':zA):Prop extends Stp F H S ρ F' H' S' ρ' where
 ow:∀(j:Nat) t,ρ'[j]?=some (some (.own t))->∃t0,ρ[j]?=some (some (.own t0))
section
variable{K:QC}{F H F1 H1 F2 H2:Hp}{S S1 S2:Ft}{ρ ρ1 ρ2:zA}{σ:St}
theorem Stp.refl:Stp F H S ρ F H S ρ:=⟨.refl _,fun _ _ h _=>h,fun _ h=>h,fun b h z=>absurd h z,fun _ h=>.inl h,fun _ _ h _=>⟨h,rfl⟩⟩
theorem Ste.refl:Ste F H S ρ F H S ρ:=⟨Stp.refl,fun _ t h=>⟨t,h⟩⟩
theorem Stp.trans(a:Stp F H S ρ F1 H1 S1 ρ1)(b:Stp F1 H1 S1 ρ1 F2 H2 S2 ρ2):Stp F H S ρ F2 H2 S2 ρ2 where
 ff:=a.ff.trans b.ff
 hh:=fun x u h n=>b.hh x u (a.hh x u h n) fun z=>by rcases a.uu x z with q|q;exact n q;rw[q]at h;cases h
 dm:=fun x h=>a.dm x (b.dm x h)
 fn:=fun x h z=>by
  by_cases q:F1 x=none;rcases b.fn x q z with w|w
  ·exact a.uu x w
  exact .inr (a.dm x w);exact a.fn x h q
 uu:=fun x h=>by rcases b.uu x h with w|w;exact a.uu x w;exact .inr (a.dm x w)
 bo:=fun j t h n=>by obtain⟨h1,h2⟩:=b.bo j t h n;obtain⟨h3,h4⟩:=a.bo j t h1 n;exact⟨h3,h2.trans h4⟩
theorem Ste.trans(a:Ste F H S ρ F1 H1 S1 ρ1)(b:Ste F1 H1 S1 ρ1 F2 H2 S2 ρ2):Ste F H S ρ F2 H2 S2 ρ2:=⟨a.toStp.trans b.toStp,fun j t h=>by obtain⟨t1,h1⟩:=b.ow j t h;exact a.ow j t1 h1⟩
theorem Stp.keep(s:Stp F H S ρ F1 H1 S1 ρ1){st:Bool}{v:V}{t:T}{Z:ZA}(h:Tr K F H st v t Z)(n:∀b,Z b->¬ U ρ S b):Tr K F1 H1 st v t Z :=
 h.mono s.ff fun b hb=>by
  obtain⟨h1,h2⟩:=h.dom b hb;refine⟨?_,?_⟩;cases e:H b with
  |none=>exact absurd e h1
  |some u=>exact s.hh b u e (n b hb)
  by_cases q:F1 b=none
  ·exact q
  rcases s.fn b h2 q with z|z
  ·exact absurd z (n b hb)
  exact absurd z h1
theorem Rl.dom(I:Rl K F H S ρ σ){i:Nat}{s:Sl}(h:ρ[i]?=some (some s)){b:Addr}(hb:S i b):H b≠none/\F b=none:=by obtain⟨v,_,r⟩:=I.sl i s h;exact r.dom b hb
theorem Rl.isD(I:Rl K F H S ρ σ){i:Nat}{s:Sl}(h:ρ[i]?=some (some s))(hd:s.t.isD=true){b:Addr}:¬ S i b:=by
 obtain⟨v,_,r⟩:=I.sl i s h;generalize s.t=t at r hd;generalize s.st=st at r;cases r with
 |d r n=>exact n b
 |_=>cases hd
structure Held(F H:Hp)(S:Ft)(ρ:zA)(Z:ZA):Prop where
 dom:∀b,Z b->H b≠none/\F b=none
 nw:∀(i:Nat) s,ρ[i]?=some (some s)->∀b,Z b->¬ S i b
theorem Held.nu{Z:ZA}(h:Held F H S ρ Z):∀b,Z b->¬ U ρ S b:=fun b hb ⟨i,t,h1,h2⟩=>h.nw i _ h1 b hb h2
theorem Held.step{Z:ZA}(h:Held F H S ρ Z)(s:Stp F H S ρ F1 H1 S1 ρ1)(I1:Rl K F1 H1 S1 ρ1 σ):Held F1 H1 S1 ρ1 Z where
 dom:=fun b hb=>by
  obtain⟨h1,h2⟩:=h.dom b hb;refine⟨fun z=>h1 (s.dm b z),?_⟩;by_cases q:F1 b=none;exact q;rcases s.fn b h2 q with z|z
  ·exact absurd z (h.nu b hb)
  exact absurd z h1
 nw:=fun i sl e b hb z=>by
  cases sl with
  |own t=>rcases s.uu b ⟨i,t,e,z⟩ with q|q;exact h.nu b hb q;exact(h.dom b hb).1 q
  |nv t =>
   cases hd:t.isD with
   |true=>exact I1.isD e hd z
   |false=>obtain⟨e1,e2⟩:=s.bo i t e hd;rw[e2]at z;exact h.nw i _ e1 b hb z
theorem Held.none:Held F H S ρ fun _=>False:=⟨fun _ z=>z.elim,fun _ _ _ _ z=>z.elim⟩
noncomputable def TJ(F H:Hp)(W:ZA):Hp:=open Classical in fun b=>if W b then H b else F b
theorem uJ{W:ZA}{b:Addr}(h:W b):TJ F H W b=H b:=if_pos h
theorem NC{W:ZA}{b:Addr}(h:¬ W b):TJ F H W b=F b:=if_neg h
theorem rH{W:ZA}(h:∀b,W b->F b=none):Same F (TJ F H W):=fun b u e=>by rw[NC fun z=>by rw[h b z]at e;cases e];exact e
theorem r8{W:ZA}(f:Same F H):Same (TJ F H W) H:=fun b u e=>by by_cases hb:W b;rw[uJ hb]at e;exact e;rw[NC hb]at e;exact f b u e
theorem Rl.frz(I:Rl K F H S ρ σ){W:ZA}(hw:Held F H S ρ W):Rl K (TJ F H W) H S ρ σ where
 fh:=r8 I.fh
 len:=I.len
 sl:=fun i s e=>by obtain⟨v,h1,h2⟩:=I.sl i s e;refine⟨v,h1,h2.mono (rH fun b hb=>(hw.dom b hb).2) fun b hb=>⟨rfl,?_⟩⟩;rw[NC fun z=>hw.nw i s e b z hb];exact(h2.dom b hb).2
 dj:=I.dj
theorem Stp.frz(s:Stp F H S ρ F1 H1 S1 ρ1){W:ZA}(hw:∀b,W b->F1 b=none)(fr:∀b,W b->H b=none∨U ρ S b):Stp F H S ρ (TJ F1 H1 W) H1 S1 ρ1 :=
 ⟨s.ff.trans (rH hw),s.hh,s.dm,fun b h z=>by by_cases q:W b;exact(fr b q).symm;rw[NC q]at z;exact s.fn b h z,s.uu,s.bo⟩
theorem Ste.frz(s:Ste F H S ρ F1 H1 S1 ρ1){W:ZA}(hw:∀b,W b->F1 b=none)(fr:∀b,W b->H b=none∨U ρ S b):Ste F H S ρ (TJ F1 H1 W) H1 S1 ρ1:=⟨s.toStp.frz hw fr,s.ow⟩
theorem Stp.new(s:Stp F H S ρ F1 H1 S1 ρ1){p:Addr}(h:H1 p=none)(o:HO):Stp F H S ρ F1 (FA H1 p o) S1 ρ1 :=
 ⟨s.ff,fun b u e n=>FB h b u (s.hh b u e n),fun b e=>by by_cases hb:b=p;rw[hb,dA]at e;cases e;rw[vA hb]at e;exact s.dm b e,s.fn,s.uu,s.bo⟩
theorem Ste.new(s:Ste F H S ρ F1 H1 S1 ρ1){p:Addr}(h:H1 p=none)(o:HO):Ste F H S ρ F1 (FA H1 p o) S1 ρ1:=⟨s.toStp.new h o,s.ow⟩
theorem Rl.same(I:Rl K F H S ρ σ)(h:Same H H1):Rl K F H1 S ρ σ where
 fh:=I.fh.trans h
 len:=I.len
 sl:=fun i s e=>by
  obtain⟨v,h1,h2⟩:=I.sl i s e;refine⟨v,h1,h2.mono (.refl _) fun b hb=>⟨?_,(h2.dom b hb).2⟩⟩;cases e:H b with
  |none=>exact absurd e (h2.dom b hb).1
  |some u=>exact h b u e
 dj:=I.dj
theorem Rl.new(I:Rl K F H S ρ σ){p:Addr}(h:H p=none)(o:HO):Rl K F (FA H p o) S ρ σ:=I.same (FB h)
theorem Stp.newT(s:Stp F H S ρ F1 H1 S1 ρ1){p:Addr}(h:H1 p=none)(hf:F1 p=none)(o:HO):Stp F H S ρ (FA F1 p o) (FA H1 p o) S1 ρ1 :=
 let s':=s.new h o
 ⟨s.ff.trans (FB hf),s'.hh,s'.dm,fun b e z=>by by_cases hb:b=p;rw[hb];exact .inr (s.dm p h);rw[vA hb]at z;exact s.fn b e z,s.uu,s.bo⟩
theorem Ste.newT(s:Ste F H S ρ F1 H1 S1 ρ1){p:Addr}(h:H1 p=none)(hf:F1 p=none)(o:HO):Ste F H S ρ (FA F1 p o) (FA H1 p o) S1 ρ1:=⟨s.toStp.newT h hf o,s.ow⟩
theorem Rl.newT(I:Rl K F H S ρ σ){p:Addr}(h:H p=none)(o:HO):Rl K (FA F p o) (FA H p o) S ρ σ where
 fh:=fun b u e=>by by_cases hb:b=p;rw[hb,dA]at e ⊢;exact e;rw[vA hb]at e ⊢;exact I.fh b u e
 len:=I.len
 sl:=fun i s e=>by obtain⟨v,h1,h2⟩:=I.sl i s e;refine⟨v,h1,h2.mono (FB (I.fh.free h)) fun b hb=>?_⟩;have hn:b≠p:=fun z=>(h2.dom b hb).1 (by rw[z];exact h);rw[vA hn,vA hn];exact⟨rfl,(h2.dom b hb).2⟩
 dj:=I.dj
theorem rX(ρ:zA)(i:Nat):(lockA ρ)[i]?=ρ[i]?.map MG:=by unfold lockA;rw[Qv]
theorem CB{ρ:zA}{i:Nat}{s:Sl}(h:(lockA ρ)[i]?=some (some s)):∃s0,ρ[i]?=some (some s0)/\s=.nv s0.t:=by
 rw[rX]at h;cases e:ρ[i]? with
 |none=>rw[e]at h;cases h
 |some o =>
  rw[e]at h;cases o with
  |none=>cases h
  |some s0 =>
   cases s0 with
   |own t=>injection h with h;injection h with h;subst h;exact⟨_,rfl,rfl⟩
   |nv t=>injection h with h;injection h with h;subst h;exact⟨_,rfl,rfl⟩
theorem YD(b:Addr):¬ U (lockA ρ) S b:=fun⟨i,t,h,_⟩=>by obtain⟨s0,_,e⟩:=CB h;cases e
theorem Rl.lockA(I:Rl K F H S ρ σ):Rl K F H S (lockA ρ) σ where
 fh:=I.fh
 len:=by unfold L3.lockA;rw[QJ];exact I.len
 sl:=fun i s e=>by obtain⟨s0,h,rfl⟩:=CB e;obtain⟨v,h1,h2⟩:=I.sl i s0 h;exact⟨v,h1,h2.weak⟩
 dj:=fun i j t s _ h=>by obtain⟨s0,_,e⟩:=CB h;cases e
theorem Stp.unlockA(s:Stp F H S (L3.lockA ρ) F1 H1 S1 ρ1):Stp F H S ρ F1 H1 S ρ :=
 ⟨s.ff,fun b u e _=>s.hh b u e (YD b),s.dm,fun b h z=>(s.fn b h z).elim (fun q=>absurd q (YD b)) .inr,fun _ h=>.inl h,fun _ _ h _=>⟨h,rfl⟩⟩
theorem Rl.unlockA(I:Rl K F H S ρ σ)(s:Stp F H S (L3.lockA ρ) F1 H1 S1 ρ1)(f:Same F1 H1):Rl K F1 H1 S ρ σ where
 fh:=f
 len:=I.len
 sl:=fun i sl e=>by obtain⟨v,h1,h2⟩:=I.sl i sl e;exact⟨v,h1,s.keep h2 fun b _=>YD b⟩
 dj:=I.dj
structure VR(K:QC)(vs:List Nat)(H0:Hp)(S0:Ft)(ρ0:zA)(F H:Hp)(S:Ft)(ρ:zA)(v:V)(t:T)(n:Bool)(Z:ZA):Prop where
 tr:Tr K F H n v t Z
 fr:n=true->∀b,Z b->H0 b=none∨U ρ0 S0 b
 tm:n=false->∀b,Z b->∃(i:Nat) (s:Sl),i∈vs/\ρ[i]?=some (some s)/\S i b
 nw:n=true->∀(i:Nat) s,ρ[i]?=some (some s)->∀b,Z b->¬ S i b
theorem VR.d{vs:List Nat}{H0:Hp}{S0:Ft}{ρ0:zA}{v:V}{x:D}(n:Bool)(r:Rep K F v x):VR K vs H0 S0 ρ0 F H S ρ v (.d x) n (fun _=>False) :=
 ⟨.d r fun _ z=>z,fun _ _ z=>z.elim,fun _ _ z=>z.elim,fun _ _ _ _ _ z=>z.elim⟩
theorem VR.held{vs:List Nat}{H0:Hp}{S0:Ft}{ρ0:zA}{v:V}{t:T}{Z:ZA}(h:VR K vs H0 S0 ρ0 F H S ρ v t true Z):Held F H S ρ Z:=⟨fun b hb=>h.tr.dom b hb,h.nw rfl⟩
theorem VR.vars{vs ws:List Nat}{H0:Hp}{S0:Ft}{ρ0:zA}{v:V}{t:T}{n:Bool}{Z:ZA}(h:VR K vs H0 S0 ρ0 F H S ρ v t n Z)(k:∀i∈vs,i∈ws):VR K ws H0 S0 ρ0 F H S ρ v t n Z :=
 ⟨h.tr,h.fr,fun e b hb=>let⟨i,s,h1,h2⟩:=h.tm e b hb;⟨i,s,k i h1,h2⟩,h.nw⟩
theorem VR.from{vs:List Nat}{v:V}{t:T}{n:Bool}{Z:ZA}(s:Stp F H S ρ F1 H1 S1 ρ1)(h:VR K vs H1 S1 ρ1 F2 H2 S2 ρ2 v t n Z):VR K vs H S ρ F2 H2 S2 ρ2 v t n Z :=
 ⟨h.tr,fun e b hb=>by rcases h.fr e b hb with q|q;exact .inl (s.dm b q);exact(s.uu b q).symm,h.tm,h.nw⟩
theorem VR.frz{vs:List Nat}{v:V}{t:T}{n:Bool}{Z:ZA}(s:Ste F H S ρ F1 H1 S1 ρ1)(I:Rl K F1 H1 S1 ρ1 σ)(h:VR K vs H S ρ F1 H1 S1 ρ1 v t n Z) :
  ∃F2 Z2,Ste F H S ρ F2 H1 S1 ρ1/\Rl K F2 H1 S1 ρ1 σ/\Tr K F2 H1 false v (fA t n) Z2/\(AK t n=true->Rep K F2 v t.er)/\(∀b,Z2 b->∃(i:Nat) (s:Sl),i∈vs/\ρ1[i]?=some (some s)/\S1 i b) /\
   ∀st v' t' Z',Tr K F1 H1 st v' t' Z'->(∀b,Z' b->∃(i:Nat) (s:Sl),ρ1[i]?=some (some s)/\S1 i b)->Tr K F2 H1 st v' t' Z':=by
 cases n with
 |true =>
  have hw:=h.held;have ff:=rH (H:=H1) fun b hb=>(hw.dom b hb).2;have kp:=h.tr.kept ff fun b u hb e=>by rw[uJ hb];exact e
  refine⟨TJ F1 H1 Z,fun _=>False,s.frz (fun b hb=>(hw.dom b hb).2) (h.fr rfl),I.frz hw,.d kp fun _ z=>z,fun _=>kp,fun b z=>z.elim,fun st v' t' Z' r hz=>r.mono ff fun b hb=>⟨rfl,?_⟩⟩;obtain⟨i,sl,h1,h2⟩:=hz b hb;rw[NC fun z=>hw.nw i sl h1 b z h2];exact(r.dom b hb).2
 |false =>
  refine⟨F1,Z,s,I,h.tr,?_,h.tm rfl,fun _ _ _ _ r _=>r⟩;intro e;have tr:=h.tr;cases t with
  |d x=>cases tr with|d r n=>exact r
  |_=>cases e
end
noncomputable abbrev rB(K:QC)(vs:List Nat)(F H:Hp)(S:Ft)(ρ:zA)(σ:St)(Q:TK)(R:VK):Prop :=
 ∀v F' H' S' ρ' t n Z,Ste F H S ρ F' H' S' ρ'->Rl K F' H' S' ρ' σ->VR K vs H S ρ F' H' S' ρ' v t n Z->Q t n ρ'->R v H'
noncomputable abbrev SH(K:QC)(F H:Hp)(S:Ft)(ρ:zA)(σ:St)(Q:Bool->zA->Prop)(R:Bool->Hp->Prop):Prop :=
 ∀b F' H' S' ρ',Ste F H S ρ F' H' S' ρ'->Rl K F' H' S' ρ' σ->Q b ρ'->R b H'
section
variable{K:QC}{ws:List Nat}{F H F1 H1:Hp}{S S1:Ft}{ρ ρ1:zA}{σ:St}{v w:V}{a b:T}{Za Zb:ZA}{Q:TK}{R:VK}{sa sb:Bool}
theorem rB.from{F2 H2:Hp}{S2:Ft}{ρ2:zA}(k:rB K ws F H S ρ σ Q R)(s:Ste F H S ρ F2 H2 S2 ρ2):rB K ws F2 H2 S2 ρ2 σ Q R:=fun v F' H' S' ρ' t n Z s' I' r q=>k v F' H' S' ρ' t n Z (s.trans s') I' (r.from s.toStp) q
theorem SH.from{F2 H2:Hp}{S2:Ft}{ρ2:zA}{Q:Bool->zA->Prop}{R:Bool->Hp->Prop}(k:SH K F H S ρ σ Q R)(s:Ste F H S ρ F2 H2 S2 ρ2):SH K F2 H2 S2 ρ2 σ Q R:=fun b F' H' S' ρ' s' I' q=>k b F' H' S' ρ' (s.trans s') I' q
theorem rB.vars{us:List Nat}(k:rB K ws F H S ρ σ Q R)(h:∀i∈us,i∈ws):rB K us F H S ρ σ Q R:=fun v F' H' S' ρ' t n Z s I r q=>k v F' H' S' ρ' t n Z s I (r.vars h) q
theorem rB.d(k:rB K ws F H S ρ σ Q R)(s:Ste F H S ρ F1 H1 S1 ρ1)(I:Rl K F1 H1 S1 ρ1 σ){x:D}{n:Bool}(r:Rep K F1 v x)(q:Q (.d x) n ρ1):R v H1:=k v F1 H1 S1 ρ1 _ n _ s I (VR.d n r) q
theorem rB.list(k:rB K ws F H S ρ σ Q R)(s:Ste F H S ρ F1 H1 S1 ρ1)(I:Rl K F1 H1 S1 ρ1 σ){p:Addr}(hp:H1 p=none){vs:List V}{ts:List T}{W:ZA}(r:Trs K F1 H1 true vs ts W)
  (fr:∀b,W b->H b=none∨U ρ S b) (hw:Held F1 H1 S1 ρ1 W) (q:Q (.lst ts) true ρ1):R (.ref p) (FA H1 p (.lst vs)):=by
 have np:∀b,H1 b≠none->b≠p:=fun b h z=>h (by rw[z];exact hp);refine k _ F1 _ S1 ρ1 _ true (fun b=>b=p∨W b) (s.new hp _) (I.new hp _) ⟨.lst dA (I.fh.free hp) (r.mono (.refl _) fun b hb=>⟨?_,(hw.dom b hb).2⟩) (fun z=>(hw.dom p z).1 hp) (fun b=>QAP),fun _ b hb=>?_,fun z=>(by cases z),fun _ i sl e b hb z=>?_⟩ q;rw[vA (np b (hw.dom b hb).1)];rcases hb with rfl|hb
 ·exact .inl (s.dm _ hp)
 exact fr b hb;rcases hb with rfl|hb
 ·exact(I.dom e z).1 hp
 exact hw.nw i sl e b hb z
theorem rB.listD(k:rB K ws F H S ρ σ Q R)(s:Ste F H S ρ F1 H1 S1 ρ1)(I:Rl K F1 H1 S1 ρ1 σ){p:Addr}(hp:H1 p=none){vs:List V}{ds:List D}(r:Reps K F1 vs ds)(q:Q (.lst (ds.map T.d)) true ρ1):R (.ref p) (FA H1 p (.lst vs)) :=
 k.list s I hp (Trs.of_reps r) (fun b z=>z.elim) .none q
theorem rB.tupD(k:rB K ws F H S ρ σ Q R)(s:Ste F H S ρ F1 H1 S1 ρ1)(I:Rl K F1 H1 S1 ρ1 σ){p:Addr}(hp:H1 p=none){vs:List V}{ds:List D}{n:Bool}(r:Reps K F1 vs ds)(q:Q (.d (.tuple ds)) n ρ1):R (.ref p) (FA H1 p (.tup vs)) :=
 rB.d k (s.newT hp (I.fh.free hp) _) (I.newT hp _) (.tup (LE.of dA) (r.mono (FB (I.fh.free hp)))) q
theorem rB.tup(k:rB K ws F H S ρ σ Q R)(s:Ste F H S ρ F1 H1 S1 ρ1)(I:Rl K F1 H1 S1 ρ1 σ){p:Addr}(hp:H1 p=none){vs:List V}{ts:List T}{W:ZA}(r:Trs K F1 H1 true vs ts W)
  (fr:∀b,W b->H b=none∨U ρ S b) (hw:Held F1 H1 S1 ρ1 W) (q:Q (oK ts) true ρ1):R (.ref p) (FA H1 p (.tup vs)):=by
 unfold oK at q;cases e:fG ts with
 |some ds=>rw[e]at q;exact k.tupD s I hp (r.un e).1 q
 |none =>
  rw[e]at q;have np:∀b,H1 b≠none->b≠p:=fun b h z=>h (by rw[z];exact hp);refine k _ F1 _ S1 ρ1 _ true (fun b=>b=p∨W b) (s.new hp _) (I.new hp _) ⟨.tup dA (I.fh.free hp) (r.mono (.refl _) fun b hb=>⟨?_,(hw.dom b hb).2⟩) (fun z=>(hw.dom p z).1 hp) (fun b=>QAP),fun _ b hb=>?_,fun z=>(by cases z),fun _ i sl e b hb z=>?_⟩ q;rw[vA (np b (hw.dom b hb).1)];rcases hb with rfl|hb
  ·exact .inl (s.dm _ hp)
  exact fr b hb;rcases hb with rfl|hb
  ·exact(I.dom e z).1 hp
  exact hw.nw i sl e b hb z
theorem dg{op:Operator}(s:Ste F H S ρ F1 H1 S1 ρ1)(I:Rl K F1 H1 S1 ρ1 σ)(ra:Tr K F1 H1 sa v a Za)(rb:Tr K F1 H1 sb w b Zb)(h:binT op a.vw b.vw fun z n=>Q z n ρ1)(k:rB K ws F H S ρ σ Q R):O8 K op v w H1 R:=by
 have ii:∀{i j:Int},a.vw=.sc (.int i)->b.vw=.sc (.int j)->v=.int i/\w=.int j:=fun ea eb=>⟨ra.int ea,rb.int eb⟩
 cases op with
 |Add =>
  rcases h with⟨i,j,ea,eb,h⟩| ⟨x,y,ea,eb,h⟩| ⟨xs0,ys0,ds,es,ea,eb,e1,e2,hl,q⟩| ⟨xs0,ys0,ds,es,ea,eb,e1,e2,hn,hn2,hl,q⟩
  obtain⟨rfl,rfl⟩:=ii ea eb;exact k.d s I (.int _) h;obtain rfl:=ra.str ea;obtain rfl:=rb.str eb;exact⟨h.1,k.d s I (.str _) h.2⟩;obtain⟨p,xs,_,rfl,hp,rp,_⟩:=ra.ls I.fh ea;obtain⟨p2,ys,_,rfl,hq,rq,_⟩:=rb.ls I.fh eb;have r1:=(rp.un e1).1;have r2:=(rq.un e2).1;exact .inl ⟨xs,ys,hp,hq,by rw[r1.length,r2.length];exact hl,fun l hl=>k.listD s I hl (r1.append r2) q⟩;obtain⟨p,xs,_,rfl,hp,rp,_⟩:=ra.tp I.fh ea;obtain⟨p2,ys,_,rfl,hq,rq,_⟩:=rb.tp I.fh eb;have r1:=(rp.un e1).1;have r2:=(rq.un e2).1;refine .inr ⟨p,p2,xs,ys,rfl,rfl,hp,hq,?_,by rw[r1.length,r2.length];exact hl,fun z=>?_,fun _ l hl=>?_⟩;intro z;subst z;cases r1;exact hn rfl;subst z;cases r2;exact absurd rfl hn2;exact k.tupD s I hl (r1.append r2) q
 |Sub=>obtain⟨i,j,ea,eb,h⟩:=h;obtain⟨rfl,rfl⟩:=ii ea eb;exact k.d s I (.int _) h
 |Mult =>
  rcases h with⟨i,j,ea,eb,h⟩| ⟨x,y,ea,eb,h⟩| ⟨ts,m,ds,ea,eb,e,⟨b1,b2,b3⟩,q⟩
  obtain⟨rfl,rfl⟩:=ii ea eb;exact⟨h.1,k.d s I (.int _) h.2⟩
  rotate_left
  obtain⟨p,xs,_,rfl,hp,rp,_⟩:=ra.ls I.fh ea;obtain rfl:=rb.int eb;have rr:=(rp.un e).1;exact⟨xs,hp,⟨b1,b2,by rw[rr.length];exact b3⟩,fun l hl=>k.listD s I hl (rr.reps m.toNat) q⟩;obtain rfl:=ra.str ea;obtain rfl:=rb.int eb;exact⟨h.1,k.d s I (.str _) h.2⟩
 |FloorDiv=>obtain⟨i,j,ea,eb,h⟩:=h;obtain⟨rfl,rfl⟩:=ii ea eb;exact⟨h.1,k.d s I (.int _) h.2⟩
 |Mod=>obtain⟨i,j,ea,eb,h⟩:=h;obtain⟨rfl,rfl⟩:=ii ea eb;exact⟨h.1,k.d s I (.int _) h.2⟩
 |Pow=>obtain⟨i,j,ea,eb,h⟩:=h;obtain⟨rfl,rfl⟩:=ii ea eb;exact⟨h.1,k.d s I (.int _) h.2⟩
 |_=>exact h.elim
theorem Xa{x y:D}{QB:Bool->Prop}(neg:Bool)(ra:Rep K H1 v x)(rb:Rep K H1 w y)(h:Il x y fun k=>QB (if neg then !k else k))(k:∀c,QB c->R (.bl c) H1):rEq K neg v w H1 R:=by
 have gen:NE x/\NE y/\QB (if neg then !PyData.eqv x y else Qo x y)->(∃dx dy,Rep K H1 v dx/\Rep K H1 w dy/\NE dx/\NE dy/\R (.bl (if neg then !PyData.eqv dx dy else Qo dx dy)) H1):=fun⟨o1,o2,q⟩ =>
  ⟨x,y,ra,rb,o1,o2,k _ q⟩
 unfold Il at h;split at h;cases ra;cases rb;exact k _ h;cases ra;cases rb;exact k _ h;cases ra;cases rb;exact k _ h;have g:=gen h;rename_i n1 n2 n3;cases ra with
 |int i =>
  cases rb with
  |int j=>exact absurd rfl (n1 i j rfl)
  |_=>exact g
 |str i =>
  cases rb with
  |str j=>exact absurd rfl (n2 i j rfl)
  |_=>exact g
 |bl i =>
  cases rb with
  |bl j=>exact absurd rfl (n3 i j rfl)
  |_=>exact g
 |_=>exact g
theorem V3{F:Hp}{v w:V}{a b:D}(ra:Rep K F v a)(rb:Rep K F w b)(fa:YB a=true)(fb:YB b=true):B5 v w=Qo a b:=by cases ra<;>cases rb<;>first|exact absurd (show false=true from fa) QD|exact absurd (show false=true from fb) QD | (simp only[B5,Qo])
theorem cU{F:Hp}{v:V}{a:D}(ra:Rep K F v a)(fa:YB a=true):LH v=true:=by cases ra<;>first|rfl|exact absurd (show false=true from fa) QD
theorem rM{F:Hp}:∀{vs:List V}{ds:List D},Reps K F vs ds->ds.all YB=true->vs.all LH=true
 |_,_,.nil,_=>rfl
 |_,_,.cons h t,f=>by rw[Qw,QN]at f ⊢;exact⟨cU h f.1,rM t f.2⟩
theorem pM{F:Hp}{v:V}{a:D}(ra:Rep K F v a)(fa:YB a=true):∀{vs:List V}{ds:List D},Reps K F vs ds->ds.all YB=true->inV v vs=ds.any fun y=>Qo y a
 |_,_,.nil,_=>rfl
 |_,_,.cons h t,f=>by rw[Qw,QN]at f;have e:=pM ra fa t f.2;unfold inV at e ⊢;rw[qG,qG,V3 h ra f.1 fa,e]
theorem Ja{x y:D}{QB:Bool->Prop}(neg:Bool)(ra:Rep K H1 v x)(rb:Rep K H1 w y)(h:Tl x y fun k=>QB (if neg then !k else k))(k:∀c,QB c->R (.bl c) H1):ES K neg v w H1 R:=by
 unfold Tl at h;split at h;cases ra;cases rb;exact k _ h;rename_i ds;have rb':=rb;cases rb with
 |lst hp rp =>
  rcases h.1 with⟨fa,fs⟩| ⟨o1,o2⟩
  refine .inl ⟨_,_,rfl,.inl hp,cU ra fa,rM rp fs,?_⟩;rw[pM ra fa rp fs];exact k _ h.2;exact .inr ⟨_,ds,ra,.inl rb',o1,o2,k _ h.2⟩
 rename_i ds;have rb':=rb;cases rb with
 |tup hp rp =>
  rcases h.1 with⟨fa,fs⟩| ⟨o1,o2⟩
  refine .inl ⟨_,_,rfl,.inr hp,cU ra fa,rM rp fs,?_⟩;rw[pM ra fa rp fs];exact k _ h.2;exact .inr ⟨_,ds,ra,.inr rb',o1,o2,k _ h.2⟩
 exact h.elim
theorem kP{x y:D}{QB:Bool->Prop}{g:Int->Int->Bool}(ra:Rep K H1 v x)(rb:Rep K H1 w y)(h:IW g x y QB)(k:∀c,QB c->R (.bl c) H1):TW g v w H1 R:=by unfold IW at h;split at h;cases ra;cases rb;exact k _ h;exact h.elim
theorem Rep.non_iff{x:D}(h:Rep K H1 v x):decide (v=.non)=XA x:=by cases h<;>rfl
theorem pU{x y:D}{op:CmpOp}{QB:Bool->Prop}(ra:Rep K H1 v x)(rb:Rep K H1 w y)(h:HR op x y QB)(k:∀c,QB c->R (.bl c) H1):XH K op v w H1 R:=by
 cases op with
 |Eq=>exact Xa false ra rb h k
 |NotEq=>exact Xa true ra rb h k
 |Lt=>exact kP ra rb h k
 |LtE=>exact kP ra rb h k
 |Gt=>exact kP ra rb h k
 |GtE=>exact kP ra rb h k
 |In=>exact Ja false ra rb h k
 |NotIn=>exact Ja true ra rb h k
 |Is=>have h':JX x y QB:=h;unfold JX at h';split at h';cases rb;have e:=ra.non_iff;show R (.bl (decide (v=.non))) H1;rw[e];exact k _ h';exact h'.elim
 |IsNot=>have h':JX x y fun k=>QB (!k):=h;unfold JX at h';split at h';cases rb;have e:=ra.non_iff;show R (.bl (!decide (v=.non))) H1;rw[e];exact k _ h';exact h'.elim
theorem vJ{xs:List V}{ds:List D}(r:Reps K F xs ds):(!ds.isEmpty)=!xs.isEmpty:=by cases r<;>rfl
theorem PU{x:D}{QB:Bool->Prop}{RB:Bool->Hp->Prop}(ra:Rep K H1 v x)(h:AH x QB)(k:∀c,QB c->RB c H1):fE K v H1 RB:=by
 unfold AH at h;split at h;cases ra;exact k _ h;cases ra;exact k _ h;cases ra;exact k _ h;cases ra;exact⟨h.1,k _ h.2⟩;cases ra with
 |lst hp rp=>rw[vJ rp]at h;exact⟨_,.inl ⟨_,hp,rfl⟩,k _ h⟩
 cases ra with
 |tup hp rp=>rw[vJ rp]at h;exact⟨_,.inr (.inl ⟨_,hp,rfl⟩),k _ h⟩
 exact h.elim
theorem D4{x:D}{QB:Bool->Prop}{RB:Bool->Hp->Prop}(ra:Rep K H1 v x)(h:Ug x QB)(k:∀c,QB c->RB c H1):lQ v H1 RB:=by unfold Ug at h;split at h;cases ra;exact k _ h;exact h.elim
theorem Mf(s:Ste F H S ρ F1 H1 S1 ρ1)(I:Rl K F1 H1 S1 ρ1 σ)(ra:Tr K F1 H1 sa v a Za)(za:∀b,Za b->∃(i:Nat) (s:Sl),i∈ws/\ρ1[i]?=some (some s)/\S1 i b)(rb:Tr K F1 H1 sb w b Zb)(h:sN a.vw b.vw fun z=>Q z false ρ1)(k:rB K ws F H S ρ σ Q R):J6 K v w H1 R:=by
 rcases h with⟨z,i,c,ea,eb,h1,h2,q⟩| ⟨ts,i,d,ea,eb,h1,q⟩| ⟨ts,i,d,ea,eb,h1,q⟩
 obtain rfl:=ra.str ea;obtain rfl:=rb.int eb;exact⟨h1,c,h2,k.d s I (.str _) q⟩;obtain⟨p,xs,Z',rfl,hp,rp,hz⟩:=ra.ls I.fh ea;obtain rfl:=rb.int eb;obtain⟨x,Z,h2,r,hz2⟩:=rp.at h1;exact⟨xs,x,.inl hp,h2,k _ F1 H1 S1 ρ1 _ false Z s I ⟨r,fun z=>(by cases z),fun _ b hb=>za b (hz b (hz2 b hb)),fun z=>(by cases z)⟩ q⟩;obtain⟨p,xs,Z',rfl,hp,rp,hz⟩:=ra.tp I.fh ea;obtain rfl:=rb.int eb;obtain⟨x,Z,h2,r,hz2⟩:=rp.at h1;exact⟨xs,x,.inr hp,h2,k _ F1 H1 S1 ρ1 _ false Z s I ⟨r,fun z=>(by cases z),fun _ b hb=>za b (hz b (hz2 b hb)),fun z=>(by cases z)⟩ q⟩
theorem Reps.cut{xs:List V}{ds:List D}(r:Reps K F xs ds)(lo hi:Option Int):Reps K F (DR xs lo hi) (eM ds lo hi):=by unfold DR eM;rw[r.length];exact(r.drop _).take _
theorem Ud{lo hi:Option Int}(s:Ste F H S ρ F1 H1 S1 ρ1)(I:Rl K F1 H1 S1 ρ1 σ)(ra:Tr K F1 H1 sa v a Za)(h:tG a.vw lo hi fun z n=>Q z n ρ1)(k:rB K ws F H S ρ σ Q R):Cm K v lo hi H1 R:=by
 rcases h with⟨z,ea,h⟩| ⟨ts,ds,ea,e,q⟩| ⟨ts,ds,ea,e,n,q⟩
 obtain rfl:=ra.str ea;exact⟨h.1,k.d s I (.str _) h.2⟩;obtain⟨p,xs,_,rfl,hp,rp,_⟩:=ra.ls I.fh ea;exact .inl ⟨p,xs,rfl,hp,fun l hl=>k.listD s I hl ((rp.un e).1.cut _ _) q⟩;obtain⟨p,xs,_,rfl,hp,rp,_⟩:=ra.tp I.fh ea;refine .inr (.inl ⟨p,xs,rfl,hp,by rw[(rp.un e).1.length];exact n,fun l hl=>k.tupD s I hl ((rp.un e).1.cut _ _) q⟩)
theorem c7{x:D}{P:Option Int->Prop}{RP:Option Int->Hp->Prop}(ra:Rep K H1 v x)(h:CG x P)(k:∀o,P o->RP o H1):UL v H1 RP:=by unfold CG at h;split at h;cases ra;exact k _ h;exact h.elim
noncomputable def Hl:D->Value
 | .none=>.type "NoneType"
 | .bool _=>.type "bool"
 | .int _=>.type "int"
 | .str _=>.type "str"
 | .list _=>.type "list"
 | .tuple _=>.type "tuple"
 | .dict _=>.type "dict"
theorem Rep.ty{x:D}{n:String}{k:Bool}(ra:Rep K H1 v x)(h:isD n x=some k):TyOf K H1 v (Hl x)∨jo K H1 v (Hl x):=by
 cases ra with
 |exc _ _ _=>cases h
 |cls _=>cases h
 |dct _ _ _=>cases h
 |non=>exact .inl .non
 |bl b=>exact .inl (.bl _)
 |int b=>exact .inl (.int _)
 |str b=>exact .inl (.str _)
 |lst hp rp=>exact .inr (.inl ⟨_,_,rfl,hp,rfl⟩)
 |tup hp rp=>exact .inr (.inr ⟨_,_,rfl,hp,rfl⟩)
theorem Jf{x:D}{n:String}{k:Bool}(h:isD n x=some k)(ht:bO n=true):WC K (Hl x) (.type n)=some k:=by simp only[bO,qq,beq_iff_eq]at ht;rcases ht with((((rfl|rfl)|rfl)|rfl)|rfl)|rfl<;>cases x<;>simp[isD]at h<;>subst h<;>rfl
theorem Ff{x:D}{n:String}{k:Bool}(ra:Rep K H1 v x)(h:isD n x=some k)(ht:bO n=true)(q:R (.bl k) H1):Y6 K [v,.ty n] H1 R :=
 ⟨Hl x,.type n,k,ra.ty h,rfl,Jf h ht,q⟩
inductive Tn(K:QC)(F H:Hp)(Y:ZA):List V->List T->Prop where
 |nil:Tn K F H Y [] []
 |cons {v:V}{t:T}{vs:List V}{ts:List T}{Z:ZA}:Tr K F H false v t Z->(∀b,Z b->Y b)->Tn K F H Y vs ts->Tn K F H Y (v::vs) (t::ts)
theorem zL(ts:List T):∀{xs:List (T×Bool)},xD xs=ts->aB xs=ts.map T.vw
 |[],h=>by subst h;rfl
 |p::r,h=>by subst h;simp only[aB,xD,QV,zL _ rfl]
theorem Tn.one{Y:ZA}{vs:List V}{ts:List T}{x:Vw}(h:Tn K F H Y vs ts)(e:ts.map T.vw=[x]):∃v t Z,vs=[v]/\ts=[t]/\t.vw=x/\Tr K F H false v t Z/\∀b,Z b->Y b:=by
 cases h with
 |nil=>cases e
 |cons r z t =>
  simp only[QV,wk]at e;cases t with
  |nil=>exact⟨_,_,_,rfl,rfl,e.1,r,z⟩
  |cons _ _ _=>simp at e
theorem Tn.two{Y:ZA}{vs:List V}{ts:List T}{x y:Vw}(h:Tn K F H Y vs ts)(e:ts.map T.vw=[x,y]):∃v w t u Z Z',vs=[v,w]/\ts=[t,u]/\t.vw=x/\u.vw=y/\Tr K F H false v t Z/\Tr K F H false w u Z'/\(∀b,Z b->Y b)/\(∀b,Z' b->Y b):=by
 cases h with
 |nil=>cases e
 |cons r z t=>simp only[QV,wk]at e;obtain⟨v,u,Z',rfl,rfl,h1,h2,h3⟩:=t.one e.2;exact⟨_,_,_,_,_,_,rfl,rfl,e.1,h1,r,h2,z,h3⟩
theorem Tn.nil'{Y:ZA}{vs:List V}{ts:List T}(h:Tn K F H Y vs ts)(e:ts.map T.vw=[]):vs=[]:=by
 cases h with
 |nil=>rfl
 |cons _ _ _=>cases e
theorem Kg{bi:Bi}{Y:ZA}{vs:List V}{ts:List T}(s:Ste F H S ρ F1 H1 S1 ρ1)(I:Rl K F1 H1 S1 ρ1 σ)(ra:Tn K F1 H1 Y vs ts)(h:KN bi (ts.map T.vw) fun z n=>Q z n ρ1)(k:rB K ws F H S ρ σ Q R):Zk K bi vs H1 R:=by
 cases bi with
 |len =>
  rcases h with⟨z,e,h⟩| ⟨us,e,h⟩| ⟨us,e,h⟩
  obtain⟨v,t,Z,rfl,rfl,e,r,_⟩:=ra.one e;obtain rfl:=r.str e;exact⟨h.1,k.d s I (.int _) h.2⟩;obtain⟨v,t,Z,rfl,rfl,e,r,_⟩:=ra.one e;obtain⟨p,xs,_,rfl,hp,rp,_⟩:=r.ls I.fh e;exact .inl ⟨xs,hp,by rw[rp.length];exact k.d s I (.int _) h⟩;obtain⟨v,t,Z,rfl,rfl,e,r,_⟩:=ra.one e;obtain⟨p,xs,_,rfl,hp,rp,_⟩:=r.tp I.fh e;exact .inr ⟨xs,hp,by rw[rp.length];exact k.d s I (.int _) h⟩
 |all=>obtain⟨us,bs,e,hb,q⟩:=h;obtain⟨v,t,Z,rfl,rfl,e,r,_⟩:=ra.one e;obtain⟨p,xs,_,rfl,hp,rp,_⟩:=r.ls I.fh e;obtain rfl:=(rp.un hb).1.bools;exact⟨bs,hp,k.d s I (.bl _) q⟩
 |int =>
  rcases h with⟨i,e,h⟩| ⟨b,e,h⟩| ⟨z,n,e,h1,h2,q⟩
  obtain⟨v,t,Z,rfl,rfl,e,r,_⟩:=ra.one e;obtain rfl:=r.int e;exact k.d s I (.int _) h;obtain⟨v,t,Z,rfl,rfl,e,r,_⟩:=ra.one e;obtain rfl:=r.bool e;exact k.d s I (.int _) h;obtain⟨v,t,Z,rfl,rfl,e,r,_⟩:=ra.one e;obtain rfl:=r.str e;exact⟨h1,n,h2,k.d s I (.int _) q⟩
 |str =>
  rcases h with⟨i,e,h⟩| ⟨z,e,h⟩
  obtain⟨v,t,Z,rfl,rfl,e,r,_⟩:=ra.one e;obtain rfl:=r.int e;exact⟨h.1,k.d s I (.str _) h.2⟩;obtain⟨v,t,Z,rfl,rfl,e,r,_⟩:=ra.one e;obtain rfl:=r.str e;exact k.d s I (.str _) h
 |list =>
  rcases h with⟨us,ds,e,hb,q⟩| ⟨us,ds,e,hb,q⟩
  obtain⟨v,t,Z,rfl,rfl,e,r,_⟩:=ra.one e;obtain⟨p,xs,_,rfl,hp,rp,_⟩:=r.ls I.fh e;exact⟨_,xs,rfl,.inl hp,fun l hl=>k.listD s I hl (rp.un hb).1 q⟩;obtain⟨v,t,Z,rfl,rfl,e,r,_⟩:=ra.one e;obtain⟨p,xs,_,rfl,hp,rp,_⟩:=r.tp I.fh e;exact⟨_,xs,rfl,.inr hp,fun l hl=>k.listD s I hl (rp.un hb).1 q⟩
 |max=>obtain⟨i,j,e,h⟩:=h;obtain⟨v,w,t,u,Z,Z',rfl,rfl,e1,e2,r1,r2,_,_⟩:=ra.two e;obtain rfl:=r1.int e1;obtain rfl:=r2.int e2;exact k.d s I (.int _) h
theorem bf{m:Mt}{Y:ZA}{vs:List V}{ts:List T}(s:Ste F H S ρ F1 H1 S1 ρ1)(I:Rl K F1 H1 S1 ρ1 σ)(rv:Tr K F1 H1 sa v a Za)(ra:Tn K F1 H1 Y vs ts)(h:da m a.vw (ts.map T.vw) fun z n=>Q z n ρ1)(k:rB K ws F H S ρ σ Q R):z8 K m v vs H1 R:=by
 cases m with
 |split=>obtain⟨z,y,ea,e,h⟩:=h;obtain⟨w,t,Z,rfl,rfl,e,r,_⟩:=ra.one e;obtain rfl:=rv.str ea;obtain rfl:=r.str e;exact⟨h.1,h.2.1,h.2.2.1,fun p hp=>k.listD s I hp (Reps.map_str _) h.2.2.2⟩
 |find=>obtain⟨z,y,ea,e,h⟩:=h;obtain⟨w,t,Z,rfl,rfl,e,r,_⟩:=ra.one e;obtain rfl:=rv.str ea;obtain rfl:=r.str e;exact⟨z,y,rfl,rfl,k.d s I (.int _) h⟩
 |rstrip=>obtain⟨z,ea,e,h⟩:=h;obtain rfl:=ra.nil' e;obtain rfl:=rv.str ea;exact⟨h.1,k.d s I (.str _) h.2⟩
 |_=>exact h.elim
theorem Zj{x:Vw}(h:x.isS=true):∃z,x=.sc (.str z):=by
 cases x with
 |sc d=>cases d with
  |str z=>exact⟨z,rfl⟩
  |_=>exact(QD h).elim
 |_=>exact(QD h).elim
theorem vj{m:Mt}(rv:Tr K F1 H1 sa v a Za)(h:jM m a.vw=true):iY K m.ty v H1:=by
 have h:=jA h;obtain⟨z,ea⟩:=Zj h.1;obtain rfl:=rv.str ea;cases m with
 |split=>rfl
 |rstrip=>rfl
 |find=>rfl
 |_=>exact(QD h.2).elim
end
inductive AV(K:QC)(F H:Hp):List Md->List V->List (T×Bool)->(Addr->Prop)->(Addr->Prop)->Prop where
 |nil {md:List Md}{W Y:ZA}:(∀b,¬ W b)->AV K F H md [] [] W Y
 |chg {md:List Md}{v:V}{vs:List V}{x:T}{xs:List (T×Bool)}{W Y:ZA}:(md.headD .nz).isMut=true->AV K F H md.tail vs xs W Y->AV K F H md (v::vs) ((x,true)::xs) W Y
 |new {md:List Md}{v:V}{vs:List V}{x:T}{xs:List (T×Bool)}{Z W W' Y:ZA}:(md.headD .nz).isMut=false->Tr K F H true v x Z->AV K F H md.tail vs xs W' Y->(∀b,Z b->¬ W' b)->(∀b,W b↔Z b∨W' b) ->
   AV K F H md (v::vs) ((x,true)::xs) W Y
 |tmp {md:List Md}{v:V}{vs:List V}{x:T}{xs:List (T×Bool)}{Z W Y:ZA}:(md.headD .nz).isMut=false->Tr K F H false v x Z->(∀b,Z b->Y b)->AV K F H md.tail vs xs W Y ->
   AV K F H md (v::vs) ((x,false)::xs) W Y
section
variable{K:QC}{F H F1 H1:Hp}{S S1:Ft}{ρ ρ1:zA}{σ:St}
theorem AV.sub{Y Y':ZA}{md:List Md}{vs:List V}{xs:List (T×Bool)}{W:ZA}(h:AV K F H md vs xs W Y)(k:∀b,Y b->Y' b):AV K F H md vs xs W Y':=by
 induction h with
 |nil h=>exact .nil h
 |chg h t ih=>exact .chg h (ih k)
 |new h r t n q ih=>exact .new h r (ih k) n q
 |tmp h r z t ih=>exact .tmp h r (fun b hb=>k b (z b hb)) (ih k)
theorem AV.dom{Y:ZA}{md:List Md}{vs:List V}{xs:List (T×Bool)}{W:ZA}(h:AV K F H md vs xs W Y):∀b,W b->H b≠none/\F b=none:=by
 induction h with
 |nil h=>exact fun b hb=>absurd hb (h b)
 |chg h t ih=>exact ih
 |new h r t n q ih=>exact fun b hb=>((q b).mp hb).elim (r.dom b) (ih b)
 |tmp h r z t ih=>exact ih
theorem AV.length{Y:ZA}{md:List Md}{vs:List V}{xs:List (T×Bool)}{W:ZA}(h:AV K F H md vs xs W Y):vs.length=xs.length:=by
 induction h with
 |nil h=>rfl
 |chg h t ih=>simp[ih]
 |new h r t n q ih=>simp[ih]
 |tmp h r z t ih=>simp[ih]
theorem pQ:∀(xs:List (T×Bool)),(ED xs).length=xs.length
 |[]=>rfl
 |_::r=>congrArg (·+1) (pQ r)
theorem AV.trs{Y:ZA}{md:List Md}{vs:List V}{xs:List (T×Bool)}{W:ZA}(h:AV K F H md vs xs W Y):(∀(i:Nat),(md.getD i .nz).isMut=false)->LF xs=true->Trs K F H true vs (ED xs) W:=by
 induction h with
 |nil h=>exact fun _ _=>.nil h
 |@chg md _ _ _ _ _ _ h t ih =>
  intro m;have:=m 0;cases md with
  |nil=>cases h
  |cons a r=>exact absurd h (by simpa using this)
 |@new md v vs x xs Z W W' Y h r t n q ih =>
  intro m e;simp only[LF,QN]at e;exact .cons r (ih (fun i=>by cases md with
   |nil=>exact m i
   |cons a md=>exact m (i+1)) e.2) n q
 |@tmp md v vs x xs Z W Y h r z t ih =>
  intro m e;simp only[LF,QN]at e;refine .cons (S1:=fun _=>False) ?_ (ih (fun i=>by cases md with
   |nil=>exact m i
   |cons a md=>exact m (i+1)) e.2) (fun _ z=>z.elim) fun b=>by simp
  cases x with
  |d x=>cases r with|d r n=>exact .d r fun _ z=>z
  |_=>exact absurd e.1 (by simp[AK,T.isD])
theorem vf(i:Nat):((([]:List Md).getD i .nz).isMut)=false:=rfl
theorem AV.tn{Y:ZA}{md:List Md}{vs:List V}{xs:List (T×Bool)}{W:ZA}(h:AV K F H md vs xs W Y)(e:Same F F1)(k:∀b,W b->F1 b=H b)(k2:∀b,Y b->F b=none->F1 b=none)(hm:md=[]):Tn K F1 H Y vs (xD xs):=by
 induction h with
 |nil h=>exact .nil
 |chg h t ih=>subst hm;cases h
 |@new md v vs x xs Z W W' Y h r t n q ih=>subst hm;refine .cons (Z:=fun _=>False) ?_ (fun b z=>z.elim) (ih (fun b hb=>k b ((q b).mpr (.inr hb))) k2 rfl);exact .d (r.kept e fun b u hb eu=>by rw[k b ((q b).mpr (.inl hb))];exact eu) fun _ z=>z
 |@tmp md v vs x xs Z W Y h r z t ih=>subst hm;exact .cons (r.mono e fun b hb=>⟨rfl,k2 b (z b hb) (r.dom b hb).2⟩) z (ih k k2 rfl)
structure AR(K:QC)(ws:List Nat)(md:List Md)(H0:Hp)(S0:Ft)(ρ0:zA)(F H:Hp)(S:Ft)(ρ:zA)(vs:List V)(xs:List (T×Bool))(W Y:ZA):Prop where
 av:AV K F H md vs xs W Y
 fr:∀b,W b->H0 b=none∨U ρ0 S0 b
 tm:∀b,Y b->∃(i:Nat) (s:Sl),i∈ws/\ρ[i]?=some (some s)/\S i b
 nw:∀(i:Nat) s,ρ[i]?=some (some s)->∀b,W b->¬ S i b
theorem AR.held{ws:List Nat}{md:List Md}{H0:Hp}{S0:Ft}{ρ0:zA}{vs:List V}{xs:List (T×Bool)}{W Y:ZA}(h:AR K ws md H0 S0 ρ0 F H S ρ vs xs W Y):Held F H S ρ W:=⟨h.av.dom,h.nw⟩
theorem AR.from{ws:List Nat}{md:List Md}{F2 H2:Hp}{S2:Ft}{ρ2:zA}{vs:List V}{xs:List (T×Bool)}{W Y:ZA}(s:Stp F H S ρ F1 H1 S1 ρ1)(h:AR K ws md H1 S1 ρ1 F2 H2 S2 ρ2 vs xs W Y):AR K ws md H S ρ F2 H2 S2 ρ2 vs xs W Y :=
 ⟨h.av,fun b hb=>by rcases h.fr b hb with q|q;exact .inl (s.dm b q);exact(s.uu b q).symm,h.tm,h.nw⟩
theorem AR.vars{ws us:List Nat}{md:List Md}{H0:Hp}{S0:Ft}{ρ0:zA}{vs:List V}{xs:List (T×Bool)}{W Y:ZA}(h:AR K ws md H0 S0 ρ0 F H S ρ vs xs W Y)(k:∀i∈ws,i∈us):AR K us md H0 S0 ρ0 F H S ρ vs xs W Y :=
 ⟨h.av,h.fr,fun b hb=>let⟨i,s,h1,h2⟩:=h.tm b hb;⟨i,s,k i h1,h2⟩,h.nw⟩
theorem AR.frz{ws:List Nat}{vs:List V}{xs:List (T×Bool)}{W Y:ZA}(s:Ste F H S ρ F1 H1 S1 ρ1)(I:Rl K F1 H1 S1 ρ1 σ)(h:AR K ws [] H S ρ F1 H1 S1 ρ1 vs xs W Y) :
  ∃F2,Ste F H S ρ F2 H1 S1 ρ1/\Rl K F2 H1 S1 ρ1 σ/\Tn K F2 H1 Y vs (xD xs) /\
   ∀st v' t' Z',Tr K F1 H1 st v' t' Z'->(∀b,Z' b->∃(i:Nat) (s:Sl),ρ1[i]?=some (some s)/\S1 i b)->Tr K F2 H1 st v' t' Z':=by
 have hw:=h.held;have ff:=rH (H:=H1) fun b hb=>(hw.dom b hb).2;refine⟨TJ F1 H1 W,s.frz (fun b hb=>(hw.dom b hb).2) h.fr,I.frz hw,h.av.tn ff (fun b hb=>uJ hb) (fun b hy hf=>?_) rfl,fun st v' t' Z' r hz=>r.mono ff fun b hb=>⟨rfl,?_⟩⟩;obtain⟨i,sl,_,h2,h3⟩:=h.tm b hy;rw[NC fun z=>h.nw i sl h2 b z h3];exact hf;obtain⟨i,sl,h1,h2⟩:=hz b hb;rw[NC fun z=>hw.nw i sl h1 b z h2];exact(r.dom b hb).2
noncomputable def dB:List Md->List V->List V
 |_,[]=>[]
 |md,v::vs=>match md.headD .nz with
  | .chg=>v::dB md.tail vs
  |_=>dB md.tail vs
noncomputable abbrev ol(K:QC)(p:PX)(md:List Md)(F H:Hp)(S:Ft)(ρ:zA)(σ:St)(Q:List (T×Bool)->zA->Prop)(R:List V->Hp->Prop):Prop :=
 ∀vs F' H' S' ρ' xs W Y,Ste F H S ρ F' H' S' ρ'->Rl K F' H' S' ρ' σ->AR K (JH p) md H S ρ F' H' S' ρ' vs xs W Y->(dB md vs).map (fun v=>some (some v))=(nA md p).map (fun j=>σ[j]?)->Q xs ρ'->R vs H'
def Dg(K:QC)(F _H:Hp)(x:XD)(dx:Option Addr):Prop:=∃a,dx=some a/\Rep K F (.ref a) (HF x.1 x.2)
def bF(K:QC)(F H:Hp)(S:Ft)(ρ:zA)(E:XE)(EK:XK):Prop:=∀x dx F' H' S' ρ',Stp F H S ρ F' H' S' ρ'->Same F' H'->Dg K F' H' x dx->E x->EK .none dx H'
theorem bF.from{E:XE}{EK:XK}(h:bF K F H S ρ E EK)(s:Stp F H S ρ F1 H1 S1 ρ1):bF K F1 H1 S1 ρ1 E EK:=fun x dx F2 H2 S2 ρ2 s2 f r q=>h x dx F2 H2 S2 ρ2 (s.trans s2) f r q
theorem bF.never:bF K F H S ρ (fun _=>False) (fun _ _ _=>False):=fun _ _ _ _ _ _ _ _ _ z=>z
inductive ArgsR(K:QC)(F H:Hp)(Y:ZA):List Md->List V->List T->Prop where
 |nil {md:List Md}:ArgsR K F H Y md [] []
 |chg {md:List Md}{v:V}{vs:List V}{t:T}{ts:List T}:md.headD .nz=.chg->ArgsR K F H Y md.tail vs ts->ArgsR K F H Y md (v::vs) (t::ts)
 |rd {md:List Md}{v:V}{vs:List V}{t:T}{ts:List T}{Z:ZA}:md.headD .nz≠.chg->Tr K F H false v t Z->(∀b,Z b->Y b)->ArgsR K F H Y md.tail vs ts->ArgsR K F H Y md (v::vs) (t::ts)
structure Frm(M:ZA)(F H F' H':Hp):Prop where
 ff:Same F F'
 fh:Same F' H'
 hh:∀b u,H b=some u->¬ M b->H' b=some u
 dm:∀b,H' b=none->H b=none
 fn:∀b,F b=none->F' b≠none->M b∨H b=none
noncomputable def lift(K:QC)(P:PSp):Sp:=fun vs H Q E=>∃(F:Hp) (ts:List T) (M Y:ZA),Same F H/\ArgsR K F H Y P.md vs ts/\Trs K F H true (dB P.md vs) (TB P.md ts) M/\(∀b,Y b->¬ M b) /\
 P.run ts (fun r os=>∀v F' H' Z M',Frm M F H F' H'->Tr K F' H' true v r Z->Trs K F' H' true (dB P.md vs) os M'->(∀b,Z b->¬ M' b)->(∀b,Z b∨M' b->M b∨H b=none)->Q v H')
  (fun x=>∀dx F' H',Frm M F H F' H'->Dg K F' H' x dx->E .none dx H')
structure GOk(K:QC)(Γ:Ev)(Ψ:PEv):Prop where
 sp:∀f vs H Q E,lift K (Ψ.sp f) vs H Q E->Γ.sp f vs H Q E
 va:∀x d,Ψ.va x=some d->∀F,Rep K F (Γ.va x) d
 dc:∀x kds,Ψ.dc x=some kds->∃kvs,Γ.dc x=some kvs/\Paired (fun(p:Str×V) (q:Str×D)=>p.1=q.1/\∀F,Rep K F p.2 q.2) kvs kds
structure PSnd(K:QC)(Γ:Ev)(Ψ:PEv)(p:PX):Prop where
 e:∀{E:XE}{EK:XK}{F H:Hp}{S:Ft}{ρ:zA}{σ:St}{Q:TK}{R:VK},Rl K F H S ρ σ->bF K F H S ρ E EK->(pe Ψ p E).e ρ Q->rB K (JH p) F H S ρ σ Q R->(wp K Γ p EK).e σ H R
 t:∀{E:XE}{EK:XK}{F H:Hp}{S:Ft}{ρ:zA}{σ:St}{Q:Bool->zA->Prop}{R:Bool->Hp->Prop},Rl K F H S ρ σ->bF K F H S ρ E EK->(pe Ψ p E).t ρ Q->SH K F H S ρ σ Q R->(wp K Γ p EK).t σ H R
 a:∀{E:XE}{EK:XK}{F H:Hp}{S:Ft}{ρ:zA}{σ:St}{md:List Md}{Q:List (T×Bool)->zA->Prop}{R:List V->Hp->Prop},Rl K F H S ρ σ->bF K F H S ρ E EK->(∀j∈nA md p,∃v,σ[j]?=some (some v))->(pe Ψ p E).a md ρ Q->ol K p md F H S ρ σ Q R->(wp K Γ p EK).a σ H R
end
section
variable{K:QC}{Γ:Ev}{Ψ:PEv}{E:XE}{EK:XK}{F H F1 H1:Hp}{S S1:Ft}{ρ ρ1:zA}{σ:St}
theorem Vd{b:PX}(ib:PSnd K Γ Ψ b)(I:Rl K F H S ρ σ)(X:bF K F H S ρ E EK){x:T}{P:T×Bool->zA->Prop}{RR:VK}(h:sq x ρ (cu (pe Ψ b E).e) P)
  (kk:∀w F' H' S' ρ' y m Z,Ste F H S ρ F' H' S' ρ'->Rl K F' H' S' ρ' σ->(∀st v Zx,Tr K F H st v x Zx->Tr K F' H' st v x Zx)->(x.isD=false->ρ'=ρ/\S'=S)->VR K (JH b) H S ρ F' H' S' ρ' w y m Z->P (y,m) ρ'->RR w H') :
  (wp K Γ b EK).e σ H RR:=by
 unfold sq at h;cases hd:x.isD with
 |true =>
  rw[hd,if_pos rfl]at h;refine ib.e I X h fun w F' H' S' ρ' y m Z s I' r q=>kk w F' H' S' ρ' y m Z s I' (fun st v Zx rx=>?_) (fun z=>(by rw[hd]at z;cases z)) r q;cases x with
  |d x=>cases rx with|d r n=>exact .d (r.mono s.ff) n
  |_=>cases hd
 |false =>
  rw[hd,if_neg (by simp)]at h;have X':bF K F H S (lockA ρ) E EK:=fun x dx F2 H2 S2 ρ2 s2 f r q=>X x dx F2 H2 S ρ s2.unlockA f r q;refine ib.e I.lockA X' h fun w F' H' S' ρ' y m Z s I' r q=>?_;have kp:∀st v t Zx,Tr K F H st v t Zx->Tr K F' H' st v t Zx:=fun st v t Zx rx=>s.keep rx fun b _=>YD b;refine kk w F' H' S ρ y m Z ⟨s.unlockA,fun j t h=>⟨t,h⟩⟩ (I.unlockA s.toStp I'.fh) (fun st v Zx rx=>kp st v _ Zx rx) (fun _=>⟨rfl,rfl⟩) ⟨r.tr,fun e b hb=>?_,fun e b hb=>?_,fun e i sl hi b hb z=>?_⟩ q;exact .inl ((r.fr e b hb).elim id fun z=>absurd z (YD b));obtain⟨i,sl,h1,h2,h3⟩:=r.tm e b hb;cases sl with
  |own t=>obtain⟨t0,h0⟩:=s.ow i t h2;obtain⟨_,_,e0⟩:=CB h0;cases e0
  |nv t =>
   cases hd:t.isD with
   |true=>exact absurd h3 (I'.isD h2 hd)
   |false=>obtain⟨g1,g2⟩:=s.bo i t h2 hd;obtain⟨s0,g3,_⟩:=CB g1;rw[g2]at h3;exact⟨i,s0,h1,g3,h3⟩
  rcases r.fr e b hb with q|q
  ·exact(I.dom hi z).1 q
  exact absurd q (YD b)
theorem Uh{b:PX}{md:List Md}(ib:PSnd K Γ Ψ b)(I:Rl K F H S ρ σ)(X:bF K F H S ρ E EK)(hm:∀j∈nA md b,∃v,σ[j]?=some (some v)){x:T}{P:List (T×Bool)->zA->Prop}{RR:List V->Hp->Prop}(h:sq x ρ ((pe Ψ b E).a md) P)
  (kk:∀ws F' H' S' ρ' ys W Y,Ste F H S ρ F' H' S' ρ'->Rl K F' H' S' ρ' σ->(∀st v Zx,Tr K F H st v x Zx->Tr K F' H' st v x Zx)->(x.isD=false->ρ'=ρ/\S'=S)->AR K (JH b) md H S ρ F' H' S' ρ' ws ys W Y->(dB md ws).map (fun v=>some (some v))=(nA md b).map (fun j=>σ[j]?)->P ys ρ'->RR ws H') :
  (wp K Γ b EK).a σ H RR:=by
 unfold sq at h;cases hd:x.isD with
 |true =>
  rw[hd,if_pos rfl]at h;refine ib.a I X hm h fun w F' H' S' ρ' y W Y s I' r mv q=>kk w F' H' S' ρ' y W Y s I' (fun st v Zx rx=>?_) (fun z=>(by rw[hd]at z;cases z)) r mv q;cases x with
  |d x=>cases rx with|d r n=>exact .d (r.mono s.ff) n
  |_=>cases hd
 |false =>
  rw[hd,if_neg (by simp)]at h;have X':bF K F H S (lockA ρ) E EK:=fun x dx F2 H2 S2 ρ2 s2 f r q=>X x dx F2 H2 S ρ s2.unlockA f r q;refine ib.a I.lockA X' hm h fun w F' H' S' ρ' y W Y s I' r mv q=>?_;have kp:∀st v t Zx,Tr K F H st v t Zx->Tr K F' H' st v t Zx:=fun st v t Zx rx=>s.keep rx fun b _=>YD b;refine kk w F' H' S ρ y W Y ⟨s.unlockA,fun j t h=>⟨t,h⟩⟩ (I.unlockA s.toStp I'.fh) (fun st v Zx rx=>kp st v _ Zx rx) (fun _=>⟨rfl,rfl⟩) ⟨r.av,fun b hb=>?_,fun b hb=>?_,fun i sl hi b hb z=>?_⟩ mv q;exact .inl ((r.fr b hb).elim id fun z=>absurd z (YD b));obtain⟨i,sl,h1,h2,h3⟩:=r.tm b hb;cases sl with
  |own t=>obtain⟨t0,h0⟩:=s.ow i t h2;obtain⟨_,_,e0⟩:=CB h0;cases e0
  |nv t =>
   cases hd:t.isD with
   |true=>exact absurd h3 (I'.isD h2 hd)
   |false=>obtain⟨g1,g2⟩:=s.bo i t h2 hd;obtain⟨s0,g3,_⟩:=CB g1;rw[g2]at h3;exact⟨i,s0,h1,g3,h3⟩
  rcases r.fr b hb with q|q
  ·exact(I.dom hi z).1 q
  exact absurd q (YD b)
theorem HL{a:PX}(ia:PSnd K Γ Ψ a)(I:Rl K F H S ρ σ)(X:bF K F H S ρ E EK){P:TK}{RR:VK}(h:(pe Ψ a E).e ρ P)
  (kk:∀v F' H' S' ρ' x n Z,Ste F H S ρ F' H' S' ρ'->Rl K F' H' S' ρ' σ->bF K F' H' S' ρ' E EK->Tr K F' H' false v (fA x n) Z->(AK x n=true->Rep K F' v x.er)->(∀b,Z b->∃(i:Nat) (s:Sl),i∈JH a/\ρ'[i]?=some (some s)/\S' i b)->P x n ρ'->RR v H') :
  (wp K Γ a EK).e σ H RR:=by
 refine ia.e I X h fun v F' H' S' ρ' x n Z s I' r q=>?_;obtain⟨F2,Z2,s2,I2,r2,e2,z2,_⟩:=r.frz s I';exact kk v F2 H' S' ρ' x n Z2 s2 I2 (X.from s2.toStp) r2 e2 z2 q
theorem NU{a b:PX}(ia:PSnd K Γ Ψ a)(ib:PSnd K Γ Ψ b)(I:Rl K F H S ρ σ)(X:bF K F H S ρ E EK){P:T->Bool->T->Bool->zA->Prop}{RR:V->V->Hp->Prop}
  (h:(pe Ψ a E).e ρ fun x n ρ1=>sq (fA x n) ρ1 (cu (pe Ψ b E).e) fun y ρ2=>P x n y.1 y.2 ρ2)
  (kk:∀v w F' H' S' ρ' x n y m Za Zb,Ste F H S ρ F' H' S' ρ'->Rl K F' H' S' ρ' σ->bF K F' H' S' ρ' E EK->Tr K F' H' false v (fA x n) Za->(∀b,Za b->∃(i:Nat) (s:Sl),i∈JH a/\ρ'[i]?=some (some s)/\S' i b)->Tr K F' H' false w (fA y m) Zb ->
   P x n y m ρ'->RR v w H'):(wp K Γ a EK).e σ H fun v H1=>(wp K Γ b EK).e σ H1 fun w H2=>RR v w H2:=by
 refine HL ia I X h fun v F1 H1 S1 ρ1 x n Za s1 I1 X1 r1 _ z1 q1=>?_;refine Vd ib I1 X1 q1 fun w F2 H2 S2 ρ2 y m Z s2 I2 kp hs r2 q2=>?_;obtain⟨F3,Z3,s3,I3,r3,_,_,k3⟩:=r2.frz s2 I2;have za:∀b,Za b->∃(i:Nat) (s:Sl),i∈JH a/\ρ2[i]?=some (some s)/\S2 i b:=by
  cases hd:(fA x n).isD with
  |true =>
   intro b hb;exfalso;generalize fA x n=t at r1 hd;cases r1 with
   |d r n=>exact n b hb
   |_=>cases hd
  |false=>obtain⟨e1,e2⟩:=hs hd;rw[e1,e2];exact z1
 have s13:=s1.trans s3;exact kk v w F3 H2 S2 ρ2 x n y m Za Z3 s13 I3 (X.from s13.toStp) (k3 _ _ _ _ (kp _ _ _ r1) fun b hb=>let⟨i,s,_,h2⟩:=za b hb;⟨i,s,h2⟩) za r3 q2
theorem HM{as:PX}(ia:PSnd K Γ Ψ as)(I:Rl K F H S ρ σ)(X:bF K F H S ρ E EK){P:List (T×Bool)->zA->Prop}{RR:List V->Hp->Prop}(h:(pe Ψ as E).a [] ρ P)
  (kk:∀vs F' H' S' ρ' xs Y,Ste F H S ρ F' H' S' ρ'->Rl K F' H' S' ρ' σ->bF K F' H' S' ρ' E EK->Tn K F' H' Y vs (xD xs)->(∀b,Y b->∃(i:Nat) (s:Sl),i∈JH as/\ρ'[i]?=some (some s)/\S' i b)->P xs ρ'->RR vs H'):(wp K Γ as EK).a σ H RR:=by
 refine ia.a (md:=[]) I X (fun j hj=>by cases as<;>cases hj) h fun vs F' H' S' ρ' xs W Y s I' r _ q=>?_;obtain⟨F2,s2,I2,t,_⟩:=r.frz s I';exact kk vs F2 H' S' ρ' xs Y s2 I2 (X.from s2.toStp) t r.tm q
theorem bh{a as:PX}(ia:PSnd K Γ Ψ a)(ib:PSnd K Γ Ψ as)(I:Rl K F H S ρ σ)(X:bF K F H S ρ E EK){P1:T->Bool->Prop}{P:T->Bool->List (T×Bool)->zA->Prop}{R1:V->Hp->Prop}{RR:V->List V->Hp->Prop}
  (h:(pe Ψ a E).e ρ fun x n ρ1=>P1 x n/\sq (fA x n) ρ1 ((pe Ψ as E).a []) fun xs ρ2=>P x n xs ρ2)
  (k1:∀v F' H' x n Za,Tr K F' H' false v (fA x n) Za->P1 x n->R1 v H')
  (kk:∀v vs F' H' S' ρ' x n xs Za Y,Ste F H S ρ F' H' S' ρ'->Rl K F' H' S' ρ' σ->bF K F' H' S' ρ' E EK->Tr K F' H' false v (fA x n) Za->(∀b,Za b->∃(i:Nat) (s:Sl),i∈JH a/\ρ'[i]?=some (some s)/\S' i b)->Tn K F' H' Y vs (xD xs) ->
   P x n xs ρ'->RR v vs H'):(wp K Γ a EK).e σ H fun v H1=>R1 v H1/\(wp K Γ as EK).a σ H1 fun vs H2=>RR v vs H2:=by
 refine HL ia I X h fun v F1 H1 S1 ρ1 x n Za s1 I1 X1 r1 _ z1 ⟨p1,q1⟩=>⟨k1 v F1 H1 x n Za r1 p1,?_⟩
 refine Uh ib I1 X1 (fun j hj=>by cases as<;>cases hj) q1 fun vs F2 H2 S2 ρ2 xs W Y s2 I2 kp hs r2 _ q2=>?_;obtain⟨F3,s3,I3,tn,k3⟩:=r2.frz s2 I2;have za:∀b,Za b->∃(i:Nat) (s:Sl),i∈JH a/\ρ2[i]?=some (some s)/\S2 i b:=by
  cases hd:(fA x n).isD with
  |true =>
   intro b hb;exfalso;generalize fA x n=t at r1 hd;cases r1 with
   |d r n=>exact n b hb
   |_=>cases hd
  |false=>obtain⟨e1,e2⟩:=hs hd;rw[e1,e2];exact z1
 have s13:=s1.trans s3;exact kk v vs F3 H2 S2 ρ2 x n xs Za Y s13 I3 (X.from s13.toStp) (k3 _ _ _ _ (kp _ _ _ r1) fun b hb=>let⟨i,s,_,h2⟩:=za b hb;⟨i,s,h2⟩) za tn q2
noncomputable def D5(K:QC)(F H:Hp)(Y:ZA):Item->T->Prop
 | .one v,t=>∃Z,Tr K F H false v t Z/\∀b,Z b->Y b
 | .tup vs,t=>∃ds,t=.d (.tuple ds)/\Reps K F vs ds
theorem D5.mono{Y:ZA}{it:Item}{t:T}(h:D5 K F H Y it t)(e:Same F F1)(k:∀b,Y b->H1 b=H b/\F1 b=none):D5 K F1 H1 Y it t:=by
 cases it with
 |one v=>obtain⟨Z,r,z⟩:=h;exact⟨Z,r.mono e fun b hb=>k b (z b hb),z⟩
 |tup vs=>obtain⟨ts,e1,r⟩:=h;exact⟨ts,e1,r.mono e⟩
theorem vU{Y:ZA}{st:Bool}:∀{xs:List V}{ts:List T}{Z:ZA},Trs K F H st xs ts Z->(∀b,Z b->Y b)->Paired (D5 K F H Y) (xs.map .one) ts
 |_,_,_,.nil _,_=>.nil
 |_,_,_,.cons h t n q,z=>.cons ⟨_,h.weak,fun b hb=>z b ((q b).mpr (.inl hb))⟩ (vU t fun b hb=>z b ((q b).mpr (.inr hb)))
theorem OK{Y:ZA}{α:Type}(f:α->V)(g:α->D)(h:∀x,Rep K F (f x) (g x)):∀(l:List α),Paired (D5 K F H Y) (l.map fun x=>.one (f x)) (l.map fun x=>T.d (g x))
 |[]=>.nil
 |x::r=>.cons ⟨fun _=>False,.d (h x) fun _ z=>z,fun _ z=>z.elim⟩ (OK f g h r)
theorem Tr.lsS{st:Bool}{v:V}{t:T}{Z:ZA}{ts:List T}(f:Same F H)(h:Tr K F H st v t Z)(e:t.vw=.ls ts):∃a vs S',v=.ref a/\ID K H a vs/\Trs K F H false vs ts S'/\(∀b,S' b->Z b)/\∀F' H',Same F F'->Same F' H'->(∀b,Z b->H' b=H b)->ID K H' a vs:=by
 cases h with
 |d r n =>
  cases r with
  |lst q r=>injection e with e;subst e;exact⟨_,_,_,rfl,f.seq q,Trs.of_reps r,fun b hb=>hb.elim,fun F' H' e1 e2 _=>(e1.trans e2).seq q⟩
  |_=>cases e
 |lst h _ r n q=>injection e with e;subst e;exact⟨_,_,_,rfl,ID.of h,r.weak,fun b hb=>(q b).mpr (.inr hb),fun F' H' _ _ k=>ID.of ((k _ ((q _).mpr (.inl rfl))).trans h)⟩
 |tup=>cases e
 |lstF h r n=>injection e with e;subst e;exact⟨_,_,_,rfl,f.seq h,Trs.of_reps r,fun b hb=>hb.elim,fun F' H' e1 e2 _=>(e1.trans e2).seq h⟩
theorem Tr.tpS{st:Bool}{v:V}{t:T}{Z:ZA}{ts:List T}(f:Same F H)(h:Tr K F H st v t Z)(e:t.vw=.tp ts):∃a vs S',v=.ref a/\LE K H a vs/\Trs K F H false vs ts S'/\(∀b,S' b->Z b)/\∀F' H',Same F F'->Same F' H'->(∀b,Z b->H' b=H b)->LE K H' a vs:=by
 cases h with
 |d r n =>
  cases r with
  |tup q r=>injection e with e;subst e;exact⟨_,_,_,rfl,f.tupl q,Trs.of_reps r,fun b hb=>hb.elim,fun F' H' e1 e2 _=>(e1.trans e2).tupl q⟩
  |_=>cases e
 |tup h _ r n q=>injection e with e;subst e;exact⟨_,_,_,rfl,LE.of h,r.weak,fun b hb=>(q b).mpr (.inr hb),fun F' H' _ _ k=>LE.of ((k _ ((q _).mpr (.inl rfl))).trans h)⟩
 |lst=>cases e
 |lstF=>cases e
theorem kd:∀cs:List Nat,Trs K F H false (cs.map fun c=>V.str ⟨#[c]⟩) (cs.map fun c=>T.d (.str ⟨#[c]⟩)) (fun _=>False):=fun cs=>by
 have h:Reps K F (cs.map fun c=>V.str ⟨#[c]⟩) (cs.map fun c=>PyData.str ⟨#[c]⟩):=by
  induction cs with
  |nil=>exact .nil
  |cons c cs ih=>exact .cons (.str _) ih
 have:=Trs.of_reps (H:=H) (st:=false) h
 rwa [qp]at this
theorem Tr.seqS{st:Bool}{v:V}{t:T}{Z:ZA}{ts:List T}(f:Same F H)(h:Tr K F H st v t Z)(e:t.vw.seq=some ts):∃vs sz,v=Src.v sz/\fQ K H sz vs/\(∃S',Trs K F H false vs ts S')/\∀F' H',Same F F'->Same F' H'->(∀b,Z b->H' b=H b)->fQ K H' sz vs:=by
 generalize ev:t.vw=w at e;cases w with
 |ls us=>cases e;obtain⟨a,vs,S',rfl,hq,rp,_,hs⟩:=h.lsS f ev;exact⟨vs,.l a,rfl,hq,⟨S',rp⟩,hs⟩
 |tp us=>cases e;obtain⟨a,vs,S',rfl,hq,rp,_,hs⟩:=h.tpS f ev;exact⟨vs,.t a,rfl,hq,⟨S',rp⟩,hs⟩
 |sc d =>
  cases d with
  |str z=>obtain rfl:=h.str ev;have e':(if z.cps.all (· < 128) then some (z.cps.toList.map fun c=>T.d (.str ⟨#[c]⟩)) else none)=some ts:=e;split at e';rename_i ha;cases e';exact⟨_,.s z 0,rfl,⟨ha,rfl⟩,⟨_,kd _⟩,fun _ _ _ _ _=>⟨ha,rfl⟩⟩;cases e'
  |_=>cases e
 |_=>cases e
theorem BV{Y:ZA}:∀{xs ys:List V}{ds es:List D},Reps K F xs ds->Reps K F ys es->Paired (D5 K F H Y) ((xs.zip ys).map fun p=>.tup [p.1,p.2]) ((ds.zip es).map fun p=>T.d (.tuple [p.1,p.2]))
 |_,_,_,_,.nil,_=>by simp only[QB5,wf];exact .nil
 |_,_,_,_,.cons _ _,.nil=>by simp only[List.zip_nil_right,wf];exact .nil
 |_,_,_,_,.cons h t,.cons h' t'=>by simp only[WS,QV];exact .cons ⟨[_,_],rfl,.cons h (.cons h' .nil)⟩ (BV t t')
theorem PJ{ik:ItK}{Y:ZA}{vs:List V}{ts:List T}{RD:List T->Prop}{RR:List Item->(Hp->Prop)->Hp->Prop}(f:Same F H)(ra:Tn K F H Y vs ts)(h:vD ik (ts.map T.vw) RD)
  (k:∀xs ys st,Paired (D5 K F H Y) xs ys->(∀F' H',Same F F'->Same F' H'->(∀b,Y b->H' b=H b)->st H')->RD ys->RR xs st H):HD K ik vs H RR:=by
 cases ik with
 |val =>
  rcases h with⟨z,e,h⟩| ⟨us,e,h⟩| ⟨us,e,h⟩
  obtain⟨v,t,Z,rfl,rfl,e,r,_⟩:=ra.one e;obtain rfl:=r.str e;exact k _ _ _ (OK (fun c=>.str ⟨#[c]⟩) (fun c=>.str ⟨#[c]⟩) (fun c=>.str _) _) (fun _ _ _ _ _=>trivial) h;obtain⟨v,t,Z,rfl,rfl,e,r,z⟩:=ra.one e;obtain⟨p,xs,S',rfl,hp,rp,z2,hs⟩:=r.lsS f e;exact .inl ⟨xs,hp,k _ _ _ (vU rp fun b hb=>z b (z2 b hb)) (fun F' H' e1 e2 q=>hs F' H' e1 e2 fun b hb=>q b (z b hb)) h⟩;obtain⟨v,t,Z,rfl,rfl,e,r,z⟩:=ra.one e;obtain⟨p,xs,S',rfl,hp,rp,z2,hs⟩:=r.tpS f e;exact .inr ⟨xs,hp,k _ _ _ (vU rp fun b hb=>z b (z2 b hb)) (fun F' H' e1 e2 q=>hs F' H' e1 e2 fun b hb=>q b (z b hb)) h⟩
 |rng1=>obtain⟨j,e,h⟩:=h;obtain⟨v,t,Z,rfl,rfl,e,r,_⟩:=ra.one e;obtain rfl:=r.int e;exact⟨h.1,k _ _ _ (OK (fun(i:Nat)=>.int (i:Int)) (fun(i:Nat)=>.int (i:Int)) (fun c=>.int _) _) (fun _ _ _ _ _=>trivial) h.2⟩
 |rng3 =>
  obtain⟨i,j,l,e,h⟩:=h;cases ra with
  |nil=>cases e
  |cons r1 z1 t1=>have e:=QAq e;obtain⟨v2,w2,t2,u2,Z2,Z3,rfl,rfl,e2,e3,r2,r3,_,_⟩:=t1.two e.2;obtain rfl:=r1.int e.1;obtain rfl:=r2.int e2;obtain rfl:=r3.int e3;exact⟨h.1,k _ _ _ (OK (fun(c:Nat)=>.int (_+(c:Int) * _)) (fun(c:Nat)=>.int (_+(c:Int) * _)) (fun c=>.int _) _) (fun _ _ _ _ _=>trivial) h.2⟩
 |zip2=>obtain⟨x,y,us,ws,ds,es,e,g1,g2,g3,g4,q⟩:=h;obtain⟨v,w,t,u,Z,Z',rfl,rfl,e1,e2,r1,r2,y1,y2⟩:=ra.two e;obtain⟨xs,sz,rfl,hq,⟨_,rp⟩,hs⟩:=r1.seqS f (by rw[e1];exact g1);obtain⟨ys,sz2,rfl,hq2,⟨_,rp2⟩,hs2⟩:=r2.seqS f (by rw[e2];exact g2);exact⟨sz,sz2,xs,ys,rfl,rfl,hq,hq2,k _ _ _ (BV (rp.un g3).1 (rp2.un g4).1) (fun F' H' e1 e2 q=>⟨hs F' H' e1 e2 fun b hb=>q b (y1 b hb),hs2 F' H' e1 e2 fun b hb=>q b (y2 b hb)⟩) q⟩
end
noncomputable def DI(S:Ft)(i:Nat)(Z:ZA):Ft:=fun j=>if j=i then Z else S j
theorem kB{S:Ft}{i:Nat}{Z:ZA}:DI S i Z i=Z:=if_pos rfl
theorem VA{S:Ft}{i j:Nat}{Z:ZA}(h:j≠i):DI S i Z j=S j:=if_neg h
theorem lA{α:Type}{l:List α}{i j:Nat}{x y:α}(h:(l.set i x)[j]?=some y):(i=j/\y=x/\i<l.length)∨(i≠j/\l[j]?=some y):=by rw[Wb]at h;by_cases e:i=j;subst e;rw[if_pos rfl]at h;by_cases hl:i<l.length;rw[if_pos hl]at h;cases h;exact .inl ⟨rfl,rfl,hl⟩;rw[if_neg hl]at h;cases h;rw[if_neg e]at h;exact .inr ⟨e,h⟩
theorem zV{α:Type}{l:List α}{i:Nat}{x:α}(h:i<l.length):(l.set i x)[i]?=some x:=by rw[Wb,if_pos rfl,if_pos h]
theorem lE{α:Type}{l:List α}{i j:Nat}{x:α}(h:i≠j):(l.set i x)[j]?=l[j]?:=by rw[Wb,if_neg h]
section
variable{K:QC}{Γ:Ev}{Ψ:PEv}{E:XE}{EK:XK}{F H F1 H1:Hp}{S S1:Ft}{ρ ρ1:zA}{σ:St}
theorem Rl.setB(I:Rl K F H S ρ σ)(i:Nat){v:V}{t:T}{Z:ZA}(r:Tr K F H false v t Z)(hz:∀(j:Nat) u,j≠i->ρ[j]?=some (some (.own u))->∀b,Z b->¬ S j b):Rl K F H (DI S i Z) (ρ.set i (some (.nv t))) (σ.set i (some v)) where
 fh:=I.fh
 len:=by simpa using I.len
 sl:=fun j s h=>by
  rcases lA h with⟨rfl,e,hl⟩| ⟨hn,h⟩
  cases e;exact⟨v,zV (by rw[<- I.len];exact hl),by rw[kB];exact r⟩;rw[lE hn,VA (Qu hn)];exact I.sl j s h
 dj:=fun j k t' s n h1 h2 b hb hk=>by
  rcases lA h1 with⟨_,e,_⟩| ⟨n1,h1⟩
  cases e;rw[VA (Qu n1)]at hb;rcases lA h2 with⟨e,_,_⟩| ⟨n2,h2⟩
  subst e;rw[kB]at hk;exact hz j t' n h1 b hk hb;rw[VA (Qu n2)]at hk;exact I.dj j k t' s n h1 h2 b hb hk
structure Bd(J:List Nat)(F H:Hp)(S:Ft)(ρ:zA)(σ:St)(F' H':Hp)(S':Ft)(ρ':zA)(σ':St):Prop where
 ff:Same F F'
 hh:Same H H'
 fn:∀b,F b=none->F' b≠none->H b=none
 out:∀j,j∉J->ρ'[j]?=ρ[j]?/\S' j=S j/\σ'[j]?=σ[j]?
 inn:∀j t,j∈J->ρ'[j]?≠some (some (.own t))
theorem Bd.U{J:List Nat}{F' H':Hp}{S':Ft}{ρ':zA}{σ':St}(h:Bd J F H S ρ σ F' H' S' ρ' σ'){b:Addr}(u:U ρ' S' b):L3.U ρ S b:=by obtain⟨i,t,h1,h2⟩:=u;by_cases hi:i∈J;exact absurd h1 (h.inn i t hi);obtain⟨e1,e2,_⟩:=h.out i hi;rw[e1]at h1;rw[e2]at h2;exact⟨i,t,h1,h2⟩
theorem Bd.dm{J:List Nat}{F' H':Hp}{S':Ft}{ρ':zA}{σ':St}(h:Bd J F H S ρ σ F' H' S' ρ' σ')(b:Addr)(e:H' b=none):H b=none:=h.hh.free e
theorem xV{Y:ZA}(hy:∀b,Y b->¬ U ρ S b):∀(is:List Nat) {vs:List V}{ts:List T}{S1:Ft}{ρ1 ρ':zA}{σ1:St}{J:List Nat},(∀i∈is,i∈J)->Rl K F H S1 ρ1 σ1->(∀b,U ρ1 S1 b->U ρ S b)->Tn K F H Y vs ts->PB is ts ρ1=some ρ' ->
  ∃σ' S',bB is vs σ1=some σ'/\Rl K F H S' ρ' σ'/\(∀j,j∉J->ρ'[j]?=ρ1[j]?/\S' j=S1 j/\σ'[j]?=σ1[j]?)/\(∀j t,ρ'[j]?=some (some (.own t))->j∉is/\ρ1[j]?=some (some (.own t)))
 |[],_,_,S1,ρ1,ρ',σ1,J,hJ,I,hu,.nil,h=>by simp only[PB,Qj]at h;subst h;exact⟨σ1,S1,rfl,I,fun _ _=>⟨rfl,rfl,rfl⟩,fun j t h=>⟨(by simp),h⟩⟩
 |[],_,_,_,_,_,_,_,_,_,_,.cons _ _ _,h=>by simp[PB]at h
 |_::_,_,_,_,_,_,_,_,_,_,_,.nil,h=>by simp[PB]at h
 |i::is,_,_,S1,ρ1,ρ',σ1,J,hJ,I,hu,.cons (v:=v) (t:=t) (Z:=Z) r z tl,h=>by
  simp only[PB]at h;have nu:∀b,Z b->¬ U ρ1 S1 b:=fun b hb u=>hy b (z b hb) (hu b u);have I2:=I.setB i r fun j u _ hj b hb hs=>nu b hb ⟨j,u,hj,hs⟩;have hu2:∀b,U (ρ1.set i (some (.nv t))) (DI S1 i Z) b->U ρ S b:=fun b ⟨j,u,h1,h2⟩=>by
   rcases lA h1 with⟨_,e,_⟩| ⟨n,h1⟩
   cases e;rw[VA (Qu n)]at h2;exact hu b ⟨j,u,h1,h2⟩
  obtain⟨σ',S',g1,g2,g3,g4⟩:=xV hy is (fun j hj=>hJ j (QG _ hj)) I2 hu2 tl h;refine⟨σ',S',g1,g2,fun j hj=>?_,fun j u hj=>?_⟩;obtain⟨e1,e2,e3⟩:=g3 j hj;have n:i≠j:=fun e=>hj (e▸hJ i QK);rw[lE n]at e1 e3;rw[VA (Qu n)]at e2;exact⟨e1,e2,e3⟩;obtain⟨e1,e2⟩:=g4 j u hj;rcases lA e2 with⟨_,e,_⟩| ⟨n,e2⟩
  cases e;exact⟨fun m=>(QL.mp m).elim (fun e=>n e.symm) e1,e2⟩
theorem Tn.of_trs{Y:ZA}{st:Bool}:∀{vs:List V}{ts:List T}{Z:ZA},Trs K F H st vs ts Z->(∀b,Z b->Y b)->Tn K F H Y vs ts
 |_,_,_,.nil _,_=>.nil
 |_,_,_,.cons h t n q,z=>.cons h.weak (fun b hb=>z b ((q b).mpr (.inl hb))) (Tn.of_trs t fun b hb=>z b ((q b).mpr (.inr hb)))
theorem KM{Y:ZA}{tg:Tg}{it:Item}{t:T}{QP:zA->Prop}{RP:St->Hp->Prop}(I:Rl K F H S ρ σ)(hy:∀b,Y b->¬ U ρ S b)(r:D5 K F H Y it t)(h:sK tg t ρ QP)
  (k:∀ρ2 σ2 F2 H2 S2,Bd tg.ix F H S ρ σ F2 H2 S2 ρ2 σ2->Rl K F2 H2 S2 ρ2 σ2->QP ρ2->RP σ2 H2):bindI K tg it σ H RP:=by
 have nm:∀(i:Nat) {v:V}{t:T}{Z:ZA}{F2 H2:Hp}{S2:Ft},Same F F2->Same H H2->(∀b,F b=none->F2 b≠none->H b=none)->Rl K F2 H2 S2 ρ σ->S2=S->Tr K F2 H2 false v t Z->(∀b,Z b->¬ U ρ S b)->QP (ρ.set i (some (.nv t)))->tg=.nm i->RP (σ.set i (some v)) H2:=by
  intro i v t Z F2 H2 S2 e1 e2 e3 I2 hS r hz q ht;subst hS ht;refine k _ _ F2 H2 (DI S2 i Z) ⟨e1,e2,e3,fun j hj=>?_,fun j u hj hu=>?_⟩ (I2.setB i r fun j u _ hj b hb hs=>hz b hb ⟨j,u,hj,hs⟩) q;have n:i≠j:=fun e=>hj (by subst e;exact qJ.mpr rfl);exact⟨lE n,VA (Qu n),lE n⟩;have e:j=i:=qJ.mp hj;subst e;rcases lA hu with⟨_,e,_⟩| ⟨n,_⟩
  cases e;exact n rfl
 have tp:∀(is:List Nat) {vs:List V}{ts:List T}{H2:Hp}{ρ':zA},Same H H2->tg=.tp is->Tn K F H2 Y vs ts->PB is ts ρ=some ρ'->QP ρ'->∃σ',bB is vs σ=some σ'/\RP σ' H2:=by intro is vs ts H2 ρ' e2 ht r e q;subst ht;obtain⟨σ',S',g1,g2,g3,g4⟩:=xV hy is (J:=is) (fun i hi=>hi) (I.same e2) (fun b u=>u) r e;exact⟨σ',g1,k _ _ F H2 S' ⟨.refl _,e2,fun b h z=>absurd h z,g3,fun j u hj hu=>(g4 j u hu).1 hj⟩ g2 q⟩
 cases it with
 |one v =>
  obtain⟨Z,r,z⟩:=r;cases tg with
  |nm i=>exact nm i (.refl _) (.refl _) (fun b h z=>absurd h z) I rfl r (fun b hb=>hy b (z b hb)) h rfl
  |tp is=>have h2:(match t.vw with | .tp ts=>∃ρ',PB is ts ρ=some ρ'/\QP ρ'|_=>False):=h;split at h2;rename_i ts e;obtain⟨ρ',e1,q⟩:=h2;obtain⟨a,vs,S',rfl,hp,rp,z2⟩:=r.tp I.fh e;obtain⟨σ',g1,g2⟩:=tp is (.refl _) rfl (Tn.of_trs rp fun b hb=>z b (z2 b hb)) e1 q;exact⟨vs,σ',hp,g1,g2⟩;exact h2.elim
 |tup vs =>
  obtain⟨ds,rfl,rd⟩:=r;cases tg with
  |nm i=>intro p hp;refine nm i (FB (I.fh.free hp)) (FB hp) (fun b h1 h2=>?_) (I.newT hp (.tup vs)) rfl (.d (S:=fun _=>False) (.tup (LE.of dA) (rd.mono (FB (I.fh.free hp)))) fun _ z=>z) (fun b z=>z.elim) h rfl;by_cases hb:b=p;rw[hb];exact hp;rw[vA hb]at h2;exact absurd h1 h2
  |tp is=>intro H' s;obtain⟨ρ',e1,q⟩:=h;exact tp is s rfl (Tn.of_trs (Trs.of_reps (st:=false) rd) fun b hb=>hb.elim) e1 q
noncomputable def V8(k:Nat)(S:Ft):Ft:=fun i=>if i<k then fun _=>False else S (i - k)
theorem IN:∀(m:List Bool) (ρ:zA) (i:Nat) s,(DH m ρ)[i]?=some (some s)->ρ[i]?=some (some s)/\m.getD i false=false
 |[],ρ,i,s,h=>by
  have e:DH [] ρ=ρ:=by cases ρ<;>rfl
  rw[e]at h;exact⟨h,rfl⟩
 |b::m,[],i,s,h=>by simp[DH]at h
 |b::m,v::ρ,0,s,h=>by
  cases b with
  |true=>simp[DH]at h
  |false=>simp[DH]at h;simp[h]
 |b::m,v::ρ,i+1,s,h=>by simp only[DH,Q9]at h;obtain⟨h1,h2⟩:=IN m ρ i s h;exact⟨by simpa using h1,by simpa using h2⟩
theorem AN:∀(m:List Bool) (σ:St) (i:Nat) v,σ[i]?=some (some v)->m.getD i false=false->(cD m σ)[i]?=some (some v)
 |[],σ,i,v,h,_=>by
  have e:cD [] σ=σ:=by cases σ<;>rfl
  rw[e];exact h
 |b::m,[],i,v,h,_=>by simp at h
 |b::m,w::σ,0,v,h,hb=>by
  have:b=false:=by simpa using hb
  subst this;simpa[cD]using h
 |b::m,w::σ,i+1,v,h,hb=>by simp only[cD,Q9];exact AN m σ i v (by simpa using h) (by simpa using hb)
theorem EN:∀(m:List Bool) (ρ:zA),(DH m ρ).length=ρ.length
 |[],ρ=>by cases ρ<;>rfl
 |_::_,[]=>rfl
 |b::m,v::ρ=>by simp[DH,EN m ρ]
theorem SG{k:Nat}{mask:List Bool}{ρ:zA}{i:Nat}{s:Sl}(h:(aN k mask ρ)[i]?=some (some s)):k<=i/\ρ[i - k]?=some (some s)/\mask.getD (i - k) false=false:=by unfold aN at h;rcases QA7 i k with z|z;rw[qL (by simpa using z),wV]at h;split at h<;>cases h;rw[qH (by simpa using z)]at h;simp only[qF]at h;obtain⟨h1,h2⟩:=IN mask ρ _ s h;exact⟨z,h1,h2⟩
theorem Rl.ent(I:Rl K F H S ρ σ)(k:Nat)(mask:List Bool):Rl K F H (V8 k S) (aN k mask ρ) (cJ k mask σ) where
 fh:=I.fh
 len:=by simp[aN,cJ,EN,MJ,I.len]
 sl:=fun i s h=>by obtain⟨h0,h1,h2⟩:=SG h;obtain⟨v,g1,g2⟩:=I.sl _ s h1;refine⟨v,?_,?_⟩;unfold cJ;rw[qH (by simpa using h0)];simp only[qF];exact AN mask σ _ v g1 h2;unfold V8;rw[if_neg (by omega)];exact g2
 dj:=fun i j t s n h1 h2 b hb hj=>by obtain⟨a0,a1,_⟩:=SG h1;obtain⟨b0,b1,_⟩:=SG h2;unfold V8 at hb hj;rw[if_neg (by omega)]at hb hj;exact I.dj (i - k) (j - k) t s (by omega) a1 b1 b hb hj
theorem IV{k:Nat}{mask:List Bool}{S':Ft}(b:Addr):¬ U (aN k mask (lockA ρ)) S' b:=fun⟨i,t,h,_⟩=>by obtain⟨_,h1,_⟩:=SG h;obtain⟨_,_,e⟩:=CB h1;cases e
theorem Paired.get_of{α β:Type}{R:α->β->Prop}{xs:List α}{ys:List β}(h:Paired R xs ys):∀{i:Nat}{x:α},xs[i]?=some x->∃y,ys.drop i=y::ys.drop (i+1)/\R x y:=by
 induction h with
 |nil=>intro i x e;simp at e
 |@cons x y xs ys h t ih =>
  intro i z e;cases i with
  |zero=>simp at e;subst e;exact⟨y,by simp,h⟩
  |succ i=>obtain⟨y',h1,h2⟩:=ih (i:=i) (by simpa using e);exact⟨y',by simpa using h1,h2⟩
structure Pur(F H F' H':Hp):Prop where
 ff:Same F F'
 hh:Same H H'
 fn:∀b,F b=none->F' b≠none->H b=none
theorem Pur.trans{F2 H2:Hp}(a:Pur F H F1 H1)(b:Pur F1 H1 F2 H2):Pur F H F2 H2:=⟨a.ff.trans b.ff,a.hh.trans b.hh,fun x h z=>by by_cases q:F1 x=none;exact a.hh.free (b.fn x q z);exact a.fn x h q⟩
theorem Pur.ste(p:Pur F H F1 H1):Ste F H S ρ F1 H1 S ρ:=⟨⟨p.ff,fun b u h _=>p.hh b u h,fun b h=>p.hh.free h,fun b h z=>.inr (p.fn b h z),fun b h=>.inl h,fun _ _ h _=>⟨h,rfl⟩⟩,fun _ t h=>⟨t,h⟩⟩
theorem Pur.rl(p:Pur F H F1 H1)(f:Same F1 H1)(I:Rl K F H S ρ σ):Rl K F1 H1 S ρ σ:=⟨f,I.len,fun i s e=>by
 obtain⟨v,h1,h2⟩:=I.sl i s e;exact⟨v,h1,h2.mono p.ff fun b hb=>by
  obtain⟨d1,d2⟩:=h2.dom b hb;refine⟨?_,?_⟩;cases e:H b with
  |none=>exact absurd e d1
  |some u=>exact p.hh b u e
  by_cases q:F1 b=none
  ·exact q
  exact absurd (p.fn b d2 q) d1⟩,I.dj⟩
theorem Stp.pur{S':Ft}{ρ':zA}(s:Stp F H S ρ F1 H1 S' ρ')(n:∀b,¬ U ρ S b):Pur F H F1 H1:=⟨s.ff,fun b u h=>s.hh b u h (n b),fun b h z=>(s.fn b h z).elim (fun q=>absurd q (n b)) id⟩
theorem Pur.trs(p:Pur F H F1 H1){st:Bool}{v:List V}{t:List T}{Z:ZA}(h:Trs K F H st v t Z):Trs K F1 H1 st v t Z:=h.mono p.ff fun b hb=>by
  obtain⟨d1,d2⟩:=h.dom b hb;refine⟨?_,?_⟩;cases e:H b with
  |none=>exact absurd e d1
  |some u=>exact p.hh b u e
  by_cases q:F1 b=none
  ·exact q
  exact absurd (p.fn b d2 q) d1
theorem E3{ws:List Nat}{mask:List Bool}{k0:Nat}{tg:Tg}{c:zA->(Bool->zA->Prop)->Prop}{e:zA->TK->Prop}{tc:TT}{te:TE}{us:List Nat}
  (ic:∀{F H:Hp}{S:Ft}{ρ:zA}{σ:St}{Q:Bool->zA->Prop}{R:Bool->Hp->Prop},Rl K F H S ρ σ->c ρ Q->SH K F H S ρ σ Q R->tc σ H R)
  (ie:∀{F H:Hp}{S:Ft}{ρ:zA}{σ:St}{Q:TK}{R:VK},Rl K F H S ρ σ->e ρ Q->rB K us F H S ρ σ Q R->te σ H R)
  {F0 H0:Hp}{S0:Ft}{ρ0:zA}(s:Ste F0 H0 S0 ρ0 F H S ρ) (I:Rl K F H S ρ σ) {Y:ZA}{xs:List Item}{ys:List T}{st:Hp->Prop}(pr:Paired (D5 K F H Y) xs ys) (hyd:∀b,Y b->H b≠none/\F b=none) (hst:∀F' H',Same F F'->Same F' H'->(∀b,Y b->H' b=H b)->st H') {Q:TK}{R:VK}
  (h:AC (AG tg (aN k0 mask (lockA ρ)) c e) ys [] fun ys=>Q (.lst ys) true ρ) (k:rB K ws F0 H0 S0 ρ0 σ Q R) :
  nW K xs st tg tc te (cJ k0 mask σ) H R:=by
 refine j4 ?_;have len:=Ws pr;have yk:∀{F' H':Hp},Pur F H F' H'->∀b,Y b->H' b=H b/\F' b=none:=fun {F' H'} p b hb=>by
  obtain⟨d1,d2⟩:=hyd b hb;refine⟨?_,?_⟩;cases e:H b with
  |none=>exact absurd e d1
  |some u=>exact p.hh b u e
  by_cases q:F' b=none
  ·exact q
  exact absurd (p.fn b d2 q) d1
 refine⟨fun i acc H'=>∃F' dacc W,Pur F H F' H'/\Same F' H'/\Trs K F' H' true acc dacc W/\(∀b,W b->H b=none)/\AC (AG tg (aN k0 mask (lockA ρ)) c e) (ys.drop i) dacc fun ys=>Q (.lst ys) true ρ,
  ⟨F,[],fun _=>False,⟨.refl _,.refl _,fun b h z=>absurd h z⟩,I.fh,.nil fun _ z=>z,fun _ z=>z.elim,by simpa using h⟩,?_,?_,?_⟩
 rintro i acc H' _ ⟨F',dacc,W,p,f,_,_,_⟩;exact hst F' H' p.ff f fun b hb=>(yk p b hb).1;rintro i x acc H1 hx ⟨F1,dacc,W,p1,f1,ra,hw,hc⟩;obtain⟨y,hd,ry⟩:=Paired.get_of pr hx;rw[hd]at hc;unfold AC at hc;unfold AG at hc;have I1:Rl K F1 H1 (V8 k0 S) (aN k0 mask (lockA ρ)) (cJ k0 mask σ):=((p1.rl f1 I).lockA).ent k0 mask;refine KM I1 (fun b _=>IV b) (ry.mono p1.ff (yk p1)) hc fun ρ2 σ2 F2 H2 S2 bd I2 hc=>?_;have p2:Pur F1 H1 F2 H2:=⟨bd.ff,bd.hh,bd.fn⟩
 have nu2:∀b,¬ U ρ2 S2 b:=fun b u=>IV b (bd.U u);refine ic I2 hc fun b F3 H3 S3 ρ3 s3 I3 q=>?_;have p3:Pur F2 H2 F3 H3:=s3.toStp.pur nu2;have nu3:∀b,¬ U ρ3 S3 b:=fun b ⟨j,t,h1,_⟩=>by obtain⟨t0,h0⟩:=s3.ow j t h1;by_cases hj:j∈tg.ix;exact bd.inn j t0 hj h0;rw[(bd.out j hj).1]at h0;obtain⟨_,h1,_⟩:=SG h0;obtain⟨_,_,e⟩:=CB h1;cases e
 have p123:=p1.trans (p2.trans p3);cases b with
 |false=>exact⟨F3,dacc,W,p123,I3.fh,p3.trs (p2.trs ra),hw,q⟩
 |true =>
  refine ie I3 q fun v F4 H4 S4 ρ4 z n Z s4 I4 r4 ⟨hk,hl,hc⟩=>?_;have p4:Pur F3 H3 F4 H4:=s4.toStp.pur nu3;have ra4:=p4.trs (p3.trs (p2.trs ra));have rz:∃Z',Tr K F4 H4 true v z Z'/\∀b,Z' b->H3 b=none:=by
   cases n with
   |true=>exact⟨Z,r4.tr,fun b hb=>(r4.fr rfl b hb).elim id fun u=>absurd u (nu3 b)⟩
   |false =>
    cases z with
    |d x =>
     have tr:=r4.tr;cases tr with
     |d r n=>exact⟨fun _=>False,.d r fun _ z=>z,fun _ z=>z.elim⟩
    |_=>exact absurd hk (by simp[AK,T.isD])
  obtain⟨Z',rz,fz⟩:=rz;refine⟨by rw[ra.length];exact hl,F4,_,fun b=>W b∨Z' b,p123.trans p4,I4.fh,ra4.append (Trs.one rz) fun b hb hz=>?_,fun b hb=>?_,hc⟩;have q1:=(ra.dom b hb).1;exact q1 ((p2.trans p3).hh.free (fz b hz));rcases hb with hb|hb
  ·exact hw b hb
  exact p123.hh.free (fz b hb)
 rintro acc H' ⟨F',dacc,W,p,f,ra,hw,hc⟩;rw[len,List.drop_length]at hc;unfold AC at hc;have I':=p.rl f I;refine⟨by rw[ra.length];exact hc.1,fun q hq=>?_⟩;refine rB.list (k.from s) (p.ste) I' hq ra (fun b hb=>.inl (hw b hb)) ⟨ra.dom,fun i sl hi b hb z=>?_⟩ hc.2;exact(I.dom hi z).1 (hw b hb)
end
section
variable{K:QC}{Γ:Ev}{Ψ:PEv}{E:XE}{EK:XK}{F H F1 H1:Hp}{S S1:Ft}{ρ ρ1:zA}{σ:St}
theorem Tr.kq{v:V}{u t:T}{Z:ZA}(h:Tr K F H false v u Z)(e:AE u=some t):Tr K F H false v t Z:=by
 unfold AE at e;split at e;rename_i ts ev;cases ed:fG ts with
 |none=>rw[ed]at e;cases e
 |some ds =>
  rw[ed]at e;injection e with e;subst e;cases h with
  |d r n =>
   cases r with
   |lst q r=>injection ev with ev;subst ev;rw[HA]at ed;injection ed with ed;subst ed;exact .lstF q r n
   |_=>cases ev
  |lst h1 h2 h3 h4 h5=>injection ev with ev;subst ev;show Tr K F H false _ (.lst (ds.map T.d)) Z;rw[<- uL ed];exact .lst h1 h2 h3 h4 h5
  |tup=>cases ev
  |lstF h1 h2 h3=>injection ev with ev;subst ev;rw[HA]at ed;injection ed with ed;subst ed;exact .lstF h1 h2 h3
 split at e
 ·injection e with e;subst e;exact h
 cases e
theorem AV.pass{Y:ZA}{md:List Md}{vs:List V}{xs:List (T×Bool)}{W:ZA}(h:AV K F H md vs xs W Y)(e:Same F F1)(k:∀b,W b->F1 b=H b)(k2:∀b,Y b->F b=none->F1 b=none) :
  ∀{os ts:List T},uB md xs os=some ts->ArgsR K F1 H Y md vs ts/\TB md ts=os:=by
 induction h with
 |nil h =>
  intro os ts hp;cases os with
  |nil=>simp only[uB,Qj]at hp;subst hp;exact⟨.nil,rfl⟩
  |cons _ _=>simp[uB]at hp
 |@chg md v vs x xs W Y h t ih =>
  intro os ts hp;have hm:md.headD .nz=.chg:=by generalize md.headD .nz=m at h;cases m<;>first|rfl|cases h
  unfold uB at hp;rw[hm]at hp;cases os with
  |nil=>cases hp
  |cons o os =>
   cases ep:uB md.tail xs os with
   |none=>simp only[ep,wR]at hp;cases hp
   |some us=>simp only[ep,Q5,Qj]at hp;subst hp;obtain⟨h1,h2⟩:=ih k k2 ep;refine⟨.chg hm h1,?_⟩;unfold TB;rw[hm];simp only[h2]
 |@new md v vs x xs Z W W' Y h r t n q ih =>
  intro os ts hp;have r':Tr K F1 H false v (.d x.er) (fun _=>False):=.d (r.kept e fun b u hb eu=>by rw[k b ((q b).mpr (.inl hb))];exact eu) fun _ z=>z;have ihk:=@ih (fun b hb=>k b ((q b).mpr (.inr hb))) k2;unfold uB at hp;cases hm:md.headD .nz with
  |chg=>rw[hm]at h;cases h
  |nz =>
   simp only[hm,fA]at hp;cases ep:uB md.tail xs os with
   |none=>simp only[ep,wR]at hp;cases hp
   |some us=>simp only[ep,Q5,Qj]at hp;subst hp;obtain⟨h1,h2⟩:=ihk ep;exact⟨.rd (by rw[hm];simp) r' (fun _ z=>z.elim) h1,by unfold TB;rw[hm];exact h2⟩
  |kq =>
   simp only[hm,fA]at hp;cases es:AE (.d x.er) with
   |none=>simp only[es]at hp;cases hp
   |some u =>
    simp only[es]at hp;cases ep:uB md.tail xs os with
    |none=>simp only[ep,wR]at hp;cases hp
    |some us=>simp only[ep,Q5,Qj]at hp;subst hp;obtain⟨h1,h2⟩:=ihk ep;exact⟨.rd (by rw[hm];simp) (r'.kq es) (fun _ z=>z.elim) h1,by unfold TB;rw[hm];exact h2⟩
  |nv =>
   simp only[hm,fA]at hp;cases ep:uB md.tail xs os with
   |none=>simp only[ep,wR]at hp;cases hp
   |some us=>simp only[ep,Q5,Qj]at hp;subst hp;obtain⟨h1,h2⟩:=ihk ep;exact⟨.rd (by rw[hm];simp) r' (fun _ z=>z.elim) h1,by unfold TB;rw[hm];exact h2⟩
 |@tmp md v vs x xs Z W Y h r z t ih =>
  intro os ts hp;have r':Tr K F1 H false v x Z:=r.mono e fun b hb=>⟨rfl,k2 b (z b hb) (r.dom b hb).2⟩
  have ihk:=@ih k k2;unfold uB at hp;cases hm:md.headD .nz with
  |chg=>rw[hm]at h;cases h
  |nz =>
   simp only[hm,fA]at hp;cases x with
   |d x =>
    cases ep:uB md.tail xs os with
    |none=>simp only[ep,wR]at hp;cases hp
    |some us=>simp only[ep,Q5,Qj]at hp;subst hp;obtain⟨h1,h2⟩:=ihk ep;exact⟨.rd (by rw[hm];simp) r' z h1,by unfold TB;rw[hm];exact h2⟩
   |_=>cases hp
  |kq =>
   simp only[hm,fA]at hp;cases es:AE x with
   |none=>simp only[es]at hp;cases hp
   |some u =>
    simp only[es]at hp;cases ep:uB md.tail xs os with
    |none=>simp only[ep,wR]at hp;cases hp
    |some us=>simp only[ep,Q5,Qj]at hp;subst hp;obtain⟨h1,h2⟩:=ihk ep;exact⟨.rd (by rw[hm];simp) (r'.kq es) z h1,by unfold TB;rw[hm];exact h2⟩
  |nv =>
   simp only[hm,fA]at hp;cases ep:uB md.tail xs os with
   |none=>simp only[ep,wR]at hp;cases hp
   |some us=>simp only[ep,Q5,Qj]at hp;subst hp;obtain⟨h1,h2⟩:=ihk ep;exact⟨.rd (by rw[hm];simp) r' z h1,by unfold TB;rw[hm];exact h2⟩
theorem CD:∀(J:List Nat) (ρ:zA) (i:Nat) s,(clear J ρ)[i]?=some (some s)->i∉J/\ρ[i]?=some (some s)
 |[],ρ,i,s,h=>⟨(by simp),h⟩
 |j::J,ρ,i,s,h=>by
  unfold clear at h;obtain⟨h1,h2⟩:=CD J _ i s h;rcases lA h2 with⟨_,e,_⟩| ⟨n,h3⟩
  cases e;exact⟨fun m=>(QL.mp m).elim (fun e=>n e.symm) h1,h3⟩
theorem oO:∀(J:List Nat) (ρ:zA),(clear J ρ).length=ρ.length
 |[],_=>rfl
 |j::J,ρ=>by unfold clear;rw[oO J];simp
theorem Rl.drop(I:Rl K F H S ρ σ)(hl:ρ1.length=ρ.length)(h:∀(i:Nat) s,ρ1[i]?=some (some s)->ρ[i]?=some (some s)):Rl K F H S ρ1 σ :=
 ⟨I.fh,hl.trans I.len,fun i s e=>I.sl i s (h i s e),fun i j t s n e1 e2=>I.dj i j t s n (h i _ e1) (h j _ e2)⟩
theorem kE:∀{J:List Nat}{ρ:zA}{os:List T},KC J ρ=some os->os.length=J.length/\∀(i:Nat) j,J[i]?=some j->∃t,os[i]?=some t/\ρ[j]?=some (some (.own t))
 |[],ρ,os,h=>by simp only[KC,Qj]at h;subst h;exact⟨rfl,fun i j e=>by simp at e⟩
 |j::J,ρ,os,h=>by
  unfold KC at h;split at h;rename_i t e;cases eo:KC J ρ with
  |none=>rw[eo]at h;cases h
  |some us =>
   rw[eo]at h;injection h with h;subst h;obtain⟨h1,h2⟩:=kE eo;refine⟨by simp[h1],fun i k hk=>?_⟩;cases i with
   |zero=>simp at hk;subst hk;exact⟨t,rfl,e⟩
   |succ i=>obtain⟨u,g1,g2⟩:=h2 i k (by simpa using hk);exact⟨u,by simpa using g1,g2⟩
  cases h
theorem Rl.trs(I:Rl K F H S ρ σ):∀{J:List Nat}{os:List T}{vs:List V},J.Nodup->KC J ρ=some os->vs.map (fun v=>some (some v))=J.map (fun j=>σ[j]?)->Trs K F H true vs os (fun b=>∃j∈J,S j b)
 |[],os,vs,_,h,hv=>by
  simp only[KC,Qj]at h;subst h;cases vs with
  |nil=>exact .nil fun b ⟨j,hj,_⟩=>by simp at hj
  |cons _ _=>simp at hv
 |j::J,os,vs,nd,h,hv=>by
  unfold KC at h;split at h;rename_i t e;cases eo:KC J ρ with
  |none=>rw[eo]at h;cases h
  |some us =>
   rw[eo]at h;injection h with h;subst h;cases vs with
   |nil=>simp at hv
   |cons v vs =>
    simp only[QV,wk]at hv;obtain⟨v',g1,g2⟩:=I.sl j _ e;rw[g1]at hv;have:v=v':=by simpa using hv.1
    subst this;have nd':=qk.mp nd;refine .cons g2 (Rl.trs I nd'.2 eo hv.2) (fun b hb ⟨k,hk,z⟩=>?_) fun b=>?_;obtain⟨i,hi⟩:=Wj.mp hk;obtain⟨u,_,hu⟩:=(kE eo).2 i k hi;exact I.dj j k t _ (fun z=>nd'.1 (z▸hk)) e hu b hb z;constructor
    ·rintro⟨k,hk,z⟩
     rcases QL.mp hk with e|e;subst e;exact .inl z;exact .inr ⟨k,e,z⟩
    rintro(z|⟨k,hk,z⟩)
    ·exact⟨j,QK,z⟩
    exact⟨k,QG _ hk,z⟩
  cases h
theorem Rl.setO(I:Rl K F H S ρ σ)(i:Nat){v:V}{t:T}{Z:ZA}(hv:σ[i]?=some (some v))(r:Tr K F H true v t Z)(hz:∀(j:Nat) s,j≠i->ρ[j]?=some (some s)->∀b,Z b->¬ S j b):Rl K F H (DI S i Z) (ρ.set i (some (.own t))) σ where
 fh:=I.fh
 len:=by simpa using I.len
 sl:=fun j s h=>by
  rcases lA h with⟨rfl,e,hl⟩| ⟨hn,h⟩
  cases e;exact⟨v,hv,by rw[kB];exact r⟩;rw[VA (Qu hn)];exact I.sl j s h
 dj:=fun j k t' s n h1 h2 b hb hk=>by
  rcases lA h1 with⟨e,_,_⟩| ⟨n1,h1⟩
  subst e;rw[kB]at hb;rcases lA h2 with⟨e,_,_⟩| ⟨n2,h2⟩
  exact n e;rw[VA (Qu n2)]at hk;exact hz k s (Qu n2) h2 b hb hk;rw[VA (Qu n1)]at hb;rcases lA h2 with⟨e,_,_⟩| ⟨n2,h2⟩
  subst e;rw[kB]at hk;exact hz j _ n h1 b hk hb;rw[VA (Qu n2)]at hk;exact I.dj j k t' s n h1 h2 b hb hk
theorem eL:∀{J:List Nat}{os:List T}{vs:List V}{M:ZA}{S1:Ft}{ρ1 ρ2:zA},J.Nodup->Rl K F H S1 ρ1 σ->Trs K F H true vs os M->vs.map (fun v=>some (some v))=J.map (fun j=>σ[j]?)->Held F H S1 ρ1 M->iD J os ρ1=some ρ2 ->
  ∃S2,Rl K F H S2 ρ2 σ/\(∀i,i∉J->ρ2[i]?=ρ1[i]?/\S2 i=S1 i)/\∀i∈J,∀s,ρ2[i]?=some (some s)->(∃t,s=.own t)/\∀b,S2 i b->M b
 |[],os,vs,M,S1,ρ1,ρ2,nd,I,r,hv,hm,h=>by
  cases os with
  |nil=>simp only[iD,Qj]at h;subst h;exact⟨S1,I,fun _ _=>⟨rfl,rfl⟩,fun i hi=>by simp at hi⟩
  |cons _ _=>simp[iD]at h
 |j::J,os,vs,M,S1,ρ1,ρ2,nd,I,r,hv,hm,h=>by
  cases r with
  |nil _=>simp[iD]at h
  |@cons _ v t vs ts _ Z M' r1 r2 n q =>
   simp only[iD]at h;simp only[QV,wk]at hv;have nd':=qk.mp nd;have I2:=I.setO j hv.1.symm r1 fun k s _ hk b hb=>hm.nw k s hk b ((q b).mpr (.inl hb));have hm2:Held F H (DI S1 j Z) (ρ1.set j (some (.own t))) M':=⟨fun b hb=>hm.dom b ((q b).mpr (.inr hb)),fun i s hi b hb z=>by
    rcases lA hi with⟨rfl,_,_⟩| ⟨ne,hi⟩
    rw[kB]at z;exact n b z hb;rw[VA (Qu ne)]at z;exact hm.nw i s hi b ((q b).mpr (.inr hb)) z⟩
   obtain⟨S2,g1,g2,g3⟩:=eL nd'.2 I2 r2 hv.2 hm2 h;refine⟨S2,g1,fun i hi=>?_,fun i hi s hs=>?_⟩;have ni:j≠i:=fun e=>hi (e▸QK);obtain⟨e1,e2⟩:=g2 i fun m=>hi (QG _ m);rw[lE ni]at e1;rw[VA (Qu ni)]at e2;exact⟨e1,e2⟩;rcases QL.mp hi with e|e
   ·subst e
    obtain⟨e1,e2⟩:=g2 i nd'.1;rw[e1]at hs;rcases lA hs with⟨_,e,_⟩| ⟨ne,_⟩
    injection e with e;refine⟨⟨t,e⟩,fun b hb=>?_⟩;rw[e2,kB]at hb;exact(q b).mpr (.inl hb);exact absurd rfl ne
   obtain⟨h1,h2⟩:=g3 i e s hs;exact⟨h1,fun b hb=>(q b).mpr (.inr (h2 b hb))⟩
theorem C8{f:Str}{as:PX}(g:GOk K Γ Ψ)(ia:PSnd K Γ Ψ as)(I:Rl K F H S ρ σ)(X:bF K F H S ρ E EK){Q:TK}{R:VK}{ws:List Nat}(h:(pe Ψ (.call f as) E).e ρ Q)(k:rB K ws F H S ρ σ Q R):(wp K Γ (.call f as) EK).e σ H R:=by
 obtain⟨os,ho,nd,h⟩:=h;generalize hJ:nA (Ψ.sp f).md as=J at ho nd h;have own:∀j∈J,∃t,ρ[j]?=some (some (.own t)):=fun j hj=>by obtain⟨i,hi⟩:=Wj.mp hj;obtain⟨t,_,e⟩:=(kE ho).2 i j hi;exact⟨t,e⟩
 have I0:Rl K F H S (clear J ρ) σ:=I.drop (oO J ρ) fun i s e=>(CD J ρ i s e).2;have u0:∀b,U (clear J ρ) S b->U ρ S b:=fun b ⟨i,t,h1,h2⟩=>⟨i,t,(CD J ρ i _ h1).2,h2⟩
 have X0:bF K F H S (clear J ρ) E EK:=fun x dx F2 H2 S2 ρ2 s2 ff r q=>X x dx F2 H2 (fun _ _=>False) [] ⟨s2.ff,fun b u e n=>s2.hh b u e fun z=>n (u0 b z),s2.dm,fun b e z=>(s2.fn b e z).imp (u0 b) id,fun b ⟨i,t,e,_⟩=>by simp at e,fun j t e=>by simp at e⟩ ff r q;have hm:∀j∈nA (Ψ.sp f).md as,∃v,σ[j]?=some (some v):=fun j hj=>by obtain⟨t,e⟩:=own j (hJ▸hj);obtain⟨v,h1,_⟩:=I.sl j _ e;exact⟨v,h1⟩
 show(wp K Γ as EK).a σ H fun vs H1=>Γ.sp f vs H1 R EK;refine ia.a I0 X0 hm h fun vs F1 H1 S1 ρ1 xs W Y s1 I1 r1 mv q1=>?_;rw[hJ]at mv;obtain⟨ts,hp,q1⟩:=q1;have hw:=r1.held;have s2:=s1.frz (fun b hb=>(hw.dom b hb).2) r1.fr;have I2:=I1.frz hw;have yk:∀b,Y b->F1 b=none->TJ F1 H1 W b=none:=fun b hy hf=>by obtain⟨i,sl,_,h2,h3⟩:=r1.tm b hy;rw[NC fun z=>r1.nw i sl h2 b z h3];exact hf
 obtain⟨ar,mt⟩:=r1.av.pass (rH fun b hb=>(hw.dom b hb).2) (fun b hb=>uJ hb) yk hp;generalize TJ F1 H1 W=F2 at s2 I2 yk ar;have M0:=I.trs nd ho mv;have hM:Held F H S (clear J ρ) (fun b=>∃j∈J,S j b):=⟨fun b ⟨j,hj,hb⟩=>let⟨t,e⟩:=own j hj;I.dom e hb,fun i s e b ⟨j,hj,hb⟩ z=>by obtain⟨e1,e2⟩:=CD J ρ i s e;obtain⟨t,et⟩:=own j hj;exact I.dj j i t s (fun q=>e1 (q▸hj)) et e2 b hb z⟩
 have hM2:=hM.step s2.toStp I2;have M2:Trs K F2 H1 true (dB (Ψ.sp f).md vs) (TB (Ψ.sp f).md ts) (fun b=>∃j∈J,S j b):=by
  rw[mt];refine M0.mono s2.ff fun b hb=>?_;refine⟨?_,(hM2.dom b hb).2⟩;cases e:H b with
  |none=>exact absurd e (hM.dom b hb).1
  |some u=>exact s2.hh b u e (hM.nu b hb)
 refine g.sp f vs H1 R EK ⟨F2,ts,_,Y,I2.fh,ar,M2,fun b hy hb=>?_,?_⟩;obtain⟨i,sl,_,h2,h3⟩:=r1.tm b hy;exact hM2.nw i sl h2 b hb h3
 ·have up:∀b,(∃j∈J,S j b)->U ρ S b:=fun b ⟨j,hj,hb⟩=>let⟨t,e⟩:=own j hj;⟨j,t,e,hb⟩
  have lk:∀b,(∃j∈J,S j b)∨H1 b=none->U ρ S b∨H b=none:=fun b hb=>hb.imp (up b) (s2.dm b);refine(Ψ.sp f).mono ?_ ?_ q1
  rotate_left
  rintro x qx dx F' H' fm xr;refine X x dx F' H' (fun _ _=>False) [] ⟨s2.ff.trans fm.ff,fun b u e n=>fm.hh b u (s2.hh b u e fun z=>n (u0 b z)) fun z=>n (up b z),fun b e=>s2.dm b (fm.dm b e),fun b e z=>?_,fun b ⟨i,t,e,_⟩=>by simp at e,fun j t e=>by simp at e⟩ fm.fh xr qx;by_cases q:F2 b=none;exact lk b (fm.fn b q z);exact(s2.fn b e q).imp (u0 b) id;rintro r os' ⟨ρ2,hput,q⟩ v F' H' Z M' fm tr trs dz hf;have I3:Rl K F' H' S1 ρ1 σ:=⟨fm.fh,I2.len,fun i s e=>by
   obtain⟨w,g1,g2⟩:=I2.sl i s e;refine⟨w,g1,g2.mono fm.ff fun b hb=>?_⟩;obtain⟨d1,d2⟩:=g2.dom b hb;have nM:¬ ∃j∈J,S j b:=fun z=>hM2.nw i s e b z hb;refine⟨?_,?_⟩;cases e:H1 b with
   |none=>exact absurd e d1
   |some u=>exact fm.hh b u e nM
   by_cases z:F' b=none
   ·exact z
   exact((fm.fn b d2 z).elim nM d1).elim,I2.dj⟩
  have nw3:∀b,(∃j∈J,S j b)∨H1 b=none->∀(i:Nat) s,ρ1[i]?=some (some s)->¬ S1 i b:=fun b hb i s e z=>by rcases hb with hb|hb;exact hM2.nw i s e b hb z;exact(I2.dom e z).1 hb
  have hM':Held F' H' S1 ρ1 M':=⟨trs.dom,fun i s e b hb=>nw3 b (hf b (.inr hb)) i s e⟩
  obtain⟨S2,I4,g2,g3⟩:=eL nd I3 trs mv hM' hput;have inJ:∀i s,ρ2[i]?=some (some s)->(i∈J/\(∃t,s=.own t)/\∀b,S2 i b->M' b)∨(i∉J/\ρ1[i]?=some (some s)/\S2 i=S1 i):=fun i s e=>by by_cases hi:i∈J;exact .inl ⟨hi,g3 i hi s e⟩;obtain⟨e1,e2⟩:=g2 i hi;exact .inr ⟨hi,e1▸e,e2⟩
  have st:Ste F H S ρ F' H' S2 ρ2:=⟨⟨s2.ff.trans fm.ff,fun b u e n=>fm.hh b u (s2.hh b u e fun z=>n (u0 b z)) fun z=>n (up b z),fun b e=>s2.dm b (fm.dm b e),fun b e z=>by
    by_cases q:F2 b=none;exact lk b (fm.fn b q z);exact(s2.fn b e q).imp (u0 b) id,
   fun b ⟨i,t,h1,h2⟩=>by
    rcases inJ i _ h1 with⟨_,_,e⟩| ⟨_,e1,e2⟩
    exact lk b (hf b (.inr (e b h2)));rw[e2]at h2;exact(s2.uu b ⟨i,t,e1,h2⟩).imp (u0 b) id,
   fun j t e hd=>by
    rcases inJ j _ e with⟨_,⟨t',z⟩,_⟩| ⟨_,e1,e2⟩
    cases z;obtain⟨b1,b2⟩:=s2.bo j t e1 hd;exact⟨(CD J ρ j _ b1).2,e2.trans b2⟩⟩,
   fun j t e=>by
    rcases inJ j _ e with⟨hj,_,_⟩| ⟨_,e1,e2⟩
    exact own j hj;obtain⟨t0,e0⟩:=s2.ow j t e1;exact⟨t0,(CD J ρ j _ e0).2⟩⟩
  refine k v F' H' S2 ρ2 r true Z st I4 ⟨tr,fun _ b hb=>?_,fun z=>(by cases z),fun _ i s e b hb z=>?_⟩ q;exact(lk b (hf b (.inl hb))).symm;rcases inJ i s e with⟨_,_,e2⟩| ⟨_,e1,e2⟩
  ·exact dz b hb (e2 b z)
  rw[e2]at z;exact nw3 b (hf b (.inl hb)) i s e1 z
theorem d4{f:Str}{as:PX}(g:GOk K Γ Ψ)(ia:PSnd K Γ Ψ as)(I:Rl K F H S ρ σ)(hJ:nA (Ψ.sp f).md as=[]){Q:T->Prop}{E2:XE}{R:VK}{EK2:XK}
  (h:(pe Ψ as (fun _=>False)).a (Ψ.sp f).md ρ fun xs ρ1=>ρ1=ρ/\∃ts,uB (Ψ.sp f).md xs []=some ts/\(Ψ.sp f).run ts (fun r _=>Q r) E2)
  (kn:∀v F' H' S' r Z,Ste F H S ρ F' H' S' ρ->Rl K F' H' S' ρ σ->VR K [] H S ρ F' H' S' ρ v r true Z->Q r->R v H')
  (kx:∀x dx F' H' S',Ste F H S ρ F' H' S' ρ->Rl K F' H' S' ρ σ->Dg K F' H' x dx->E2 x->EK2 .none dx H'):(wp K Γ as (fun _ _ _=>False)).a σ H fun vs H1=>Γ.sp f vs H1 R EK2:=by
 refine ia.a I (fun _ _ _ _ _ _ _ _ _ z=>z.elim) (by rw[hJ];exact fun j z=>absurd z (by simp)) h fun vs F1 H1 S1 ρ1 xs W Y s1 I1 r1 mv q1=>?_;rw[hJ]at mv;obtain⟨er,ts,hp,q1⟩:=q1;subst er;have hw:=r1.held;have s2:=s1.frz (fun b hb=>(hw.dom b hb).2) r1.fr;have I2:=I1.frz hw;have yk:∀b,Y b->F1 b=none->TJ F1 H1 W b=none:=fun b hy hf=>by obtain⟨i,sl,_,h2,h3⟩:=r1.tm b hy;rw[NC fun z=>r1.nw i sl h2 b z h3];exact hf
 obtain⟨ar,mt⟩:=r1.av.pass (rH fun b hb=>(hw.dom b hb).2) (fun b hb=>uJ hb) yk hp;generalize TJ F1 H1 W=F2 at s2 I2 yk ar;have mn:dB (Ψ.sp f).md vs=[]:=by simpa using mv
 have M2:Trs K F2 H1 true (dB (Ψ.sp f).md vs) (TB (Ψ.sp f).md ts) (fun _=>False):=by rw[mt,mn];exact .nil fun _ z=>z
 have go:∀{F' H':Hp},Frm (fun _=>False) F2 H1 F' H'->Ste F H S ρ1 F' H' S1 ρ1/\Rl K F' H' S1 ρ1 σ:=fun {F' H'} fm=>by
  refine⟨⟨⟨s2.ff.trans fm.ff,fun b u e n=>fm.hh b u (s2.hh b u e n) (fun z=>z),fun b e=>s2.dm b (fm.dm b e),fun b e z=>?_,s2.uu,s2.bo⟩,s2.ow⟩,fm.fh,I2.len,fun i s e=>?_,I2.dj⟩;by_cases q:F2 b=none
  ·rcases fm.fn b q z with z|z
   ·exact z.elim
   exact .inr (s2.dm b z)
  exact s2.fn b e q;obtain⟨w,g1,g2⟩:=I2.sl i s e;refine⟨w,g1,g2.mono fm.ff fun b hb=>?_⟩;obtain⟨d1,d2⟩:=g2.dom b hb;refine⟨?_,?_⟩;cases e:H1 b with
  |none=>exact absurd e d1
  |some u=>exact fm.hh b u e fun z=>z
  by_cases z:F' b=none
  ·exact z
  exact((fm.fn b d2 z).elim (fun z=>z) d1).elim
 refine g.sp f vs H1 R EK2 ⟨F2,ts,_,Y,I2.fh,ar,M2,fun b hy z=>z,?_⟩;refine(Ψ.sp f).mono ?_ ?_ q1;intro r os' q v F' H' Z M' fm tr trs dz hf;obtain⟨st,I3⟩:=go fm;refine kn v F' H' S1 r Z st I3 ⟨tr,fun _ b hb=>?_,fun z=>(by cases z),fun _ i s e b hb z=>?_⟩ q;rcases hf b (.inl hb) with q|q
 ·exact q.elim
 exact .inl (s2.dm b q);rcases hf b (.inl hb) with q|q
 ·exact q.elim
 exact(I2.dom e z).1 q;intro x qx dx F' H' fm xr;obtain⟨st,I3⟩:=go fm;exact kx x dx F' H' S1 st I3 xr qx
end
section
variable{K:QC}{Γ:Ev}{Ψ:PEv}{E:XE}{EK:XK}{F H F1 H1:Hp}{S S1:Ft}{ρ ρ1:zA}{σ:St}
theorem GC{j:Nat}{t:T}(hj:ρ[j]?=some (some (.own t))){i:Nat}{s:Sl}(h:(ρ.set j (some (.nv t)))[i]?=some (some s)):(i=j/\s=.nv t)∨(i≠j/\ρ[i]?=some (some s)):=by
 rcases lA h with⟨rfl,e,_⟩| ⟨n,h⟩
 injection e with e;exact .inl ⟨rfl,e⟩;exact .inr ⟨Qu n,h⟩
theorem Rl.lock1(I:Rl K F H S ρ σ){j:Nat}{t:T}(hj:ρ[j]?=some (some (.own t))):Rl K F H S (ρ.set j (some (.nv t))) σ where
 fh:=I.fh
 len:=by simpa using I.len
 sl:=fun i s e=>by
  rcases GC hj e with⟨rfl,rfl⟩| ⟨_,e⟩
  obtain⟨v,h1,h2⟩:=I.sl i _ hj;exact⟨v,h1,h2.weak⟩;exact I.sl i s e
 dj:=fun i k t' s n e1 e2=>by
  rcases GC hj e1 with⟨_,z⟩| ⟨n1,g1⟩
  cases z;rcases GC hj e2 with⟨q,_⟩| ⟨_,g2⟩
  ·exact I.dj i k t' _ n g1 (q▸hj)
  exact I.dj i k t' s n g1 g2
theorem Rl.lock1U(I:Rl K F H S ρ σ){j:Nat}{t:T}(hj:ρ[j]?=some (some (.own t)))(b:Addr)(hb:S j b):¬ U (ρ.set j (some (.nv t))) S b:=fun⟨i,u,h1,h2⟩=>by
 rcases GC hj h1 with⟨_,z⟩| ⟨n,h1⟩
 cases z;exact I.dj i j u _ n h1 hj b h2 hb
theorem lock1U{j:Nat}{t:T}(hj:ρ[j]?=some (some (.own t))){b:Addr}(h:U (ρ.set j (some (.nv t))) S b):U ρ S b:=by
 obtain⟨i,u,h1,h2⟩:=h;rcases GC hj h1 with⟨_,z⟩| ⟨n,h1⟩
 cases z;exact⟨i,u,h1,h2⟩
theorem bF.lock1{j:Nat}{t:T}(X:bF K F H S ρ E EK)(hj:ρ[j]?=some (some (.own t))):bF K F H S (ρ.set j (some (.nv t))) E EK:=fun x dx F2 H2 S2 ρ2 s2 f r q =>
 X x dx F2 H2 (fun _ _=>False) [] ⟨s2.ff,fun b u e n=>s2.hh b u e fun z=>n (lock1U hj z),s2.dm,fun b e z=>(s2.fn b e z).imp (lock1U hj) id,fun b ⟨i,t,e,_⟩=>by simp at e,fun j t e=>by simp at e⟩ f r q
theorem dR{j:Nat}{t:T}{F2 H2:Hp}{S2:Ft}{ρ2:zA}(I:Rl K F H S ρ σ)(hj:ρ[j]?=some (some (.own t)))(s:Ste F H S (ρ.set j (some (.nv t))) F2 H2 S2 ρ2)(I2:Rl K F2 H2 S2 ρ2 σ){b:Addr}(hb:S j b) :
  ∀(i:Nat) sl,i≠j->ρ2[i]?=some (some sl)->¬ S2 i b:=fun i sl n e z=>by
 cases sl with
 |own u=>rcases s.uu b ⟨i,u,e,z⟩ with q|q;exact I.lock1U hj b hb q;exact(I.dom hj hb).1 q
 |nv u =>
  cases hd:u.isD with
  |true=>exact I2.isD e hd z
  |false =>
   obtain⟨e1,e2⟩:=s.bo i u e hd;rw[e2]at z;rcases GC hj e1 with⟨q,_⟩| ⟨_,e1⟩
   exact n q;exact I.dj j i t _ (Qu n) hj e1 b hb z
theorem XQ{j:Nat}{t t':T}{v0:V}{F2 H2 H3:Hp}{S2:Ft}{ρ2:zA}{W Z':ZA}(I:Rl K F H S ρ σ)(hj:ρ[j]?=some (some (.own t)))(hv:σ[j]?=some (some v0))(s:Ste F H S (ρ.set j (some (.nv t))) F2 H2 S2 ρ2)(I2:Rl K F2 H2 S2 ρ2 σ)
  (hH:∀b u,H2 b=some u->¬ S j b->H3 b=some u) (dm:∀b,H3 b=none->H2 b=none) (r:Tr K F2 H3 true v0 t' Z') (hz:∀b,Z' b->S j b∨W b∨H2 b=none) (hw:Held F2 H2 S2 ρ2 W) (frW:∀b,W b->H b=none∨U (ρ.set j (some (.nv t))) S b) :
  Ste F H S ρ F2 H3 (DI S2 j Z') (ρ2.set j (some (.own t')))/\Rl K F2 H3 (DI S2 j Z') (ρ2.set j (some (.own t'))) σ/\∀b,S j b∨W b∨H2 b=none->∀(i:Nat) sl,i≠j->ρ2[i]?=some (some sl)->¬ S2 i b:=by
 have nw:∀b,S j b∨W b∨H2 b=none->∀(i:Nat) sl,i≠j->ρ2[i]?=some (some sl)->¬ S2 i b:=fun b hb i sl n e z=>by rcases hb with hb|hb|hb;exact dR I hj s I2 hb i sl n e z;exact hw.nw i sl e b hb z;exact(I2.dom e z).1 hb
 have uj:∀b,S j b->U ρ S b:=fun b hb=>⟨j,t,hj,hb⟩
 have lk:∀b,S j b∨W b∨H2 b=none->U ρ S b∨H b=none:=fun b hb=>by rcases hb with hb|hb|hb;exact .inl (uj b hb);exact(frW b hb).symm.imp (lock1U hj) id;exact .inr (s.dm b hb)
 have fS:∀b,S j b->F2 b=none:=fun b hb=>by
  by_cases q:F2 b=none;exact q;rcases s.fn b (I.dom hj hb).2 q with z|z
  ·exact absurd z (I.lock1U hj b hb)
  exact absurd z (I.dom hj hb).1
 have fh:Same F2 H3:=fun b u e=>hH b u (I2.fh b u e) fun z=>by rw[fS b z]at e;cases e
 have I3:Rl K F2 H3 S2 (ρ2.set j none) σ:=⟨fh,by simpa using I2.len,fun i sl e=>by
   rcases lA e with⟨_,z,_⟩| ⟨n,e⟩
   cases z;obtain⟨v,h1,h2⟩:=I2.sl i sl e;refine⟨v,h1,h2.mono (.refl _) fun b hb=>⟨?_,(h2.dom b hb).2⟩⟩;cases eb:H2 b with
   |none=>exact absurd eb (h2.dom b hb).1
   |some u=>exact hH b u eb fun z=>dR I hj s I2 z i sl (Qu n) e hb,
  fun i k u sl n e1 e2=>by
   rcases lA e1 with⟨_,z,_⟩| ⟨_,e1⟩
   cases z;rcases lA e2 with⟨_,z,_⟩| ⟨_,e2⟩
   ·cases z
   exact I2.dj i k u sl n e1 e2⟩
 have I4:=I3.setO j hv r fun i sl n e b hb=>by
  rcases lA e with⟨_,z,_⟩| ⟨_,e⟩
  cases z;exact nw b (hz b hb) i sl n e
 have es:(ρ2.set j none).set j (some (.own t'))=ρ2.set j (some (.own t')):=by simp
 rw[es]at I4;refine⟨⟨⟨s.ff,fun b u e n=>hH b u (s.hh b u e fun z=>n (lock1U hj z)) fun z=>n (uj b z),fun b e=>s.dm b (dm b e),fun b e z=>(s.fn b e z).imp (lock1U hj) id,fun b ⟨i,u,h1,h2⟩=>?_,fun i u e hd=>?_⟩,fun i u e=>?_⟩,I4,nw⟩;rcases lA h1 with⟨rfl,_,_⟩| ⟨n,h1⟩
 ·rw[kB]at h2
  exact lk b (hz b h2)
 rw[VA (Qu n)]at h2;exact(s.uu b ⟨i,u,h1,h2⟩).imp (lock1U hj) id;rcases lA e with⟨rfl,z,_⟩| ⟨n,e⟩
 ·cases z
 obtain⟨e1,e2⟩:=s.bo i u e hd;rcases GC hj e1 with⟨z,_⟩| ⟨_,e1⟩
 exact absurd z.symm n;exact⟨e1,by rw[VA (Qu n)];exact e2⟩;rcases lA e with⟨rfl,_,_⟩| ⟨n,e⟩
 ·exact⟨t,hj⟩
 obtain⟨t0,e0⟩:=s.ow i u e;rcases GC hj e0 with⟨_,z⟩| ⟨_,e0⟩
 cases z;exact⟨t0,e0⟩
theorem Trs.erase:∀{st:Bool}{vs:List V}{ts:List T}{S:ZA}{k:Nat}{t:T},Trs K F H st vs ts S->ts[k]?=some t->∃v P1 P2,vs[k]?=some v/\Tr K F H st v t P1/\Trs K F H st (vs.eraseIdx k) (ts.eraseIdx k) P2/\(∀b,P1 b->¬ P2 b)/\∀b,P1 b∨P2 b->S b
 |_,_,_,_,k,_,.nil n,e=>by simp at e
 |_,_,_,_,0,_,.cons h t n q,e=>by simp at e;subst e;exact⟨_,_,_,rfl,h,t,n,fun b hb=>(q b).mpr hb⟩
 |_,_,_,_,k+1,_,.cons (S1:=P0) h t n q,e=>by
  obtain⟨v,P1,P2,h1,h2,h3,h4,h5⟩:=Trs.erase (k:=k) t (by simpa using e);refine⟨v,P1,fun b=>P0 b∨P2 b,by simpa using h1,h2,.cons h h3 (fun b hb z=>n b hb (h5 b (.inr z))) fun b=>QAP,fun b hb z=>?_,fun b hb=>?_⟩;rcases z with z|z
  ·exact n b z (h5 b (.inl hb))
  exact h4 b hb z;rcases hb with hb|hb|hb
  ·exact(q b).mpr (.inr (h5 b (.inl hb)))
  exact(q b).mpr (.inl hb);exact(q b).mpr (.inr (h5 b (.inr hb)))
theorem GP{a:Addr}{ys:List V}{us:List T}{P:ZA}(fa:F a=none)(r:Trs K F H true ys us P)(n:¬ P a):Tr K F (FA H a (.lst ys)) true (.ref a) (.lst us) fun b=>b=a∨P b :=
 .lst (S':=P) dA fa (r.mono (.refl _) fun b hb=>⟨vA fun z=>n (z▸hb),(r.dom b hb).2⟩) n fun b=>QAP
theorem JJ{a:Addr}{u0:HO}{Sp:ZA}(ha:Sp a)(b:Addr)(u:HO)(e:H b=some u)(hb:¬ Sp b):FA H a u0 b=some u:=by have hn:b≠a:=fun z=>hb (by rw[z];exact ha);rw[vA hn];exact e
theorem kL{a:Addr}{u0:HO}(b:Addr)(e:FA H a u0 b=none):H b=none:=by by_cases hb:b=a;rw[hb,dA]at e;cases e;rw[vA hb]at e;exact e
theorem Trs.cutT:∀{vs:List V}{ts:List T}{Z:ZA}(n:Nat),Trs K F H true vs ts Z->∃P1 P2,Trs K F H true (vs.take n) (ts.take n) P1/\Trs K F H true (vs.drop n) (ts.drop n) P2/\(∀b,P1 b->¬ P2 b)/\∀b,P1 b∨P2 b->Z b
 |_,_,_,0,h=>⟨fun _=>False,_,.nil fun _ z=>z,h,fun _ z=>z.elim,fun _ z=>z.elim QR id⟩
 |[],_,_,n+1,h=>by cases h;exact⟨fun _=>False,fun _=>False,.nil fun _ z=>z,.nil fun _ z=>z,fun _ z=>z.elim,fun _ z=>z.elim QR QR⟩
 |v::vs,_,_,n+1,h=>by
  cases h with
  |@cons _ _ _ _ _ _ S1 S2 r rs nn q=>obtain⟨P1,P2,p1,p2,p3,p4⟩:=Trs.cutT n rs;exact⟨fun b=>S1 b∨P1 b,P2,.cons r p1 (fun b hb z=>nn b hb (p4 b (.inl z))) fun b=>QAP,p2,fun b hb z=>hb.elim (fun y=>nn b y (p4 b (.inr z))) fun y=>p3 b y z,fun b hb=>(q b).mpr (hb.elim (fun y=>y.elim .inl fun y=>.inr (p4 b (.inl y))) fun y=>.inr (p4 b (.inr y)))⟩
theorem T7{m:Mt}{v:V}{s:T}{Sp W:ZA}{vs:List V}{ts:List T}{N:T->T->Prop}{R:VK}(f:Same F H)(r:Tr K F H true v s Sp)(rv:Trs K F H true vs ts W)(dj:∀b,Sp b->¬ W b)(h:AT m s ts N)
  (k:∀w r s' H' S1 Zr,(∀b u,H b=some u->¬ Sp b->H' b=some u)->(∀b,H' b=none->H b=none)->Tr K F H' true v s' S1->Tr K F H' true w r Zr->(∀b,Zr b->¬ S1 b)->(∀b,S1 b∨Zr b->Sp b∨W b∨H b=none)->N r s'->R w H'):z8 K m v vs H R:=by
 cases m with
 |pop =>
  obtain⟨us0,i,j,t0,rfl,rfl,hi,ht,q⟩:=h;cases r with
  |@lst _ a xs _ _ S' h1 h2 h3 h4 h5 =>
   have ha:Sp a:=(h5 a).mpr (.inl rfl);obtain⟨w,P1,P2,g1,g2,g3,g4,g5⟩:=h3.erase ht;have na:¬ P1 a:=fun z=>h4 (g5 a (.inl z));have nb:¬ P2 a:=fun z=>h4 (g5 a (.inr z));cases rv with
   |cons r1 r2 n q2 =>
    cases r2;cases r1 with
    |d r1 n1 =>
     cases r1;refine⟨a,i,xs,j,w,rfl,rfl,h1,by rw[h3.length];exact hi,g1,k w t0 _ _ _ P1 (JJ ha) kL (GP h2 g3 nb) (g2.mono (.refl _) fun b hb=>⟨vA fun z=>na (z▸hb),(g2.dom b hb).2⟩) (fun b hb z=>?_) (fun b hb=>?_) q⟩;rcases z with z|z
     ·exact na (z▸hb)
     exact g4 b hb z;rcases hb with(hb|hb)|hb
     ·exact .inl (hb▸ha)
     exact .inl ((h5 b).mpr (.inr (g5 b (.inr hb))));exact .inl ((h5 b).mpr (.inr (g5 b (.inl hb))))
 |insert =>
  obtain⟨us0,i,t0,rfl,rfl,hi,hl,h⟩:=h;cases r with
  |@lst _ a xs _ _ S' h1 h2 h3 h4 h5 =>
   have ha:Sp a:=(h5 a).mpr (.inl rfl);cases rv with
   |@cons _ w t ws us _ W1 W2 r1 r2 n q =>
    cases r1 with
    |d r1 n1 =>
     cases r1;cases r2 with
     |@cons _ w2 _ ws2 _ _ W3 W4 r3 r4 n3 q3 =>
      cases r4 with
      |nil n4 =>
       have hW:∀b,W b↔W3 b:=fun b=>by rw[q b,q3 b];simp[n1 b,n4 b]
       obtain⟨P1,P2,p1,p2,p3,p4⟩:=Trs.cutT i.toNat h3;have e3:=h3.length;refine⟨a,i,w2,xs,rfl,rfl,h1,by omega,by omega,k .non (.d .none) _ _ _ (fun _=>False) (JJ ha) kL (GP h2 (Trs.append p1 (.cons r3 p2 (fun b hb hw=>dj b ((h5 b).mpr (.inr (p4 b (.inr hw)))) ((hW b).mpr hb)) fun b=>QAP) fun b hb hw=>hw.elim (fun z=>dj b ((h5 b).mpr (.inr (p4 b (.inl hb)))) ((hW b).mpr z)) (p3 b hb)) fun z=>?_) (.d .non fun _ z=>z) (fun _ z=>z.elim) (fun b hb=>?_) h⟩;rcases z with z|z|z
       ·exact h4 (p4 a (.inl z))
       exact dj a ha ((hW a).mpr z);exact h4 (p4 a (.inr z));rcases hb with(hb|hb|hb|hb)|hb
       ·exact .inl (hb▸ha)
       exact .inl ((h5 b).mpr (.inr (p4 b (.inl hb))));exact .inr (.inl ((hW b).mpr hb));exact .inl ((h5 b).mpr (.inr (p4 b (.inr hb))));exact hb.elim
 |_=>exact h.elim
theorem Trs.setD{x:D}{xv:V}(rx:Rep K F xv x):∀{vs:List V}{ts:List T}{Z:ZA}(n:Nat),Trs K F H true vs ts Z->∃P,Trs K F H true (vs.set n xv) (ts.set n (.d x)) P/\∀b,P b->Z b
 |[],_,_,n,h=>by cases h;exact⟨fun _=>False,.nil fun _ z=>z,fun _ z=>z.elim⟩
 |v::vs,_,_,n,h=>by
  cases h with
  |@cons _ _ _ _ _ _ S1 S2 r rs nn q =>
   cases n with
   |zero=>exact⟨fun b=>False∨S2 b,.cons (.d rx fun _ z=>z) rs (fun _ z=>z.elim) fun b=>QAP,fun b hb=>(q b).mpr (.inr (hb.elim QR id))⟩
   |succ n=>obtain⟨P,p1,p2⟩:=Trs.setD rx n rs;exact⟨fun b=>S1 b∨P b,.cons r p1 (fun b hb z=>nn b hb (p2 b z)) fun b=>QAP,fun b hb=>(q b).mpr (hb.imp id (p2 b))⟩
theorem Zd{t:T}{y x:D}{v iv xv:V}{Sp:ZA}{N:T->Prop}{R:Hp->Prop}(r:Tr K F H true v t Sp)(ry:Rep K F iv y)(rx:Rep K F xv x)(h:Kd t y x N)
  (k:∀t' H' S1,(∀b u,H b=some u->¬ Sp b->H' b=some u)->(∀b,H' b=none->H b=none)->Tr K F H' true v t' S1->(∀b,S1 b->Sp b)->N t'->R H'):bV v iv xv H R:=by
 obtain⟨ts,i,n,rfl,rfl,hi,q⟩:=h;cases ry;cases r with
 |@lst _ a xs _ _ S' h1 h2 h3 h4 h5=>have ha:Sp a:=(h5 a).mpr (.inl rfl);obtain⟨P,p1,p2⟩:=h3.setD rx n;refine⟨a,xs,i,n,rfl,rfl,h1,by rw[h3.length];exact hi,k _ _ _ (JJ ha) kL (GP h2 p1 fun z=>h4 (p2 a z)) (fun b hb=>?_) q⟩;rcases hb with hb|hb;exact hb▸ha;exact(h5 b).mpr (.inr (p2 b hb))
end
section
variable{K:QC}{Γ:Ev}{Ψ:PEv}
noncomputable abbrev gY(K:QC)(Γ:Ev)(Ψ:PEv)(p:PX):Prop:=∀{E:XE}{EK:XK}{F H:Hp}{S:Ft}{ρ:zA}{σ:St}{Q:TK}{R:VK},Rl K F H S ρ σ->bF K F H S ρ E EK->(pe Ψ p E).e ρ Q->rB K (JH p) F H S ρ σ Q R->(wp K Γ p EK).e σ H R
theorem DS{p:PX}(he:gY K Γ Ψ p){E:XE}{EK:XK}{F H:Hp}{S:Ft}{ρ:zA}{σ:St}{Q:Bool->zA->Prop}{R:Bool->Hp->Prop}(I:Rl K F H S ρ σ)(X:bF K F H S ρ E EK)(h:(pe Ψ p E).e ρ fun t _ ρ1=>AH t.er fun b=>Q b ρ1)(k:SH K F H S ρ σ Q R) :
  (wp K Γ p EK).e σ H fun x H1=>fE K x H1 R :=
 he I X h fun v F' H' S' ρ' t n Z s I' r q=>PU (r.tr.rep I'.fh) q fun c qc=>k c F' H' S' ρ' s I' qc
theorem PSnd.of_e{p:PX}(ht:∀E ρ Q,(pe Ψ p E).t ρ Q=(pe Ψ p E).e ρ fun t _ ρ1=>AH t.er fun b=>Q b ρ1)(ht':∀EK σ H R,(wp K Γ p EK).t σ H R=(wp K Γ p EK).e σ H fun x H1=>fE K x H1 R)(ha:∀E,(pe Ψ p E).a=zF.a)(he:gY K Γ Ψ p):PSnd K Γ Ψ p where
 e:=he
 t:=fun I X h k=>by rw[ht]at h;rw[ht'];exact DS he I X h k
 a:=fun I X _ h k=>by rw[ha]at h;exact h.elim
theorem PSnd.of_0{p:PX}(ht:∀E,(pe Ψ p E).t=zF.t)(ha:∀E,(pe Ψ p E).a=zF.a)(he:gY K Γ Ψ p):PSnd K Γ Ψ p where
 e:=he
 t:=fun I X h k=>by rw[ht]at h;exact h.elim
 a:=fun I X _ h k=>by rw[ha]at h;exact h.elim
theorem PSnd.of_t{p:PX}(ht:∀E ρ Q,(pe Ψ p E).e ρ Q=(pe Ψ p E).t ρ fun b ρ1=>Q (.d (.bool b)) false ρ1)(ht':∀EK σ H R,(wp K Γ p EK).t σ H R=(wp K Γ p EK).e σ H fun x H1=>lQ x H1 R)(ha:∀E,(pe Ψ p E).a=zF.a)
  (he:∀{E:XE}{EK:XK}{F H:Hp}{S:Ft}{ρ:zA}{σ:St}{Q:Bool->zA->Prop}{R:VK},Rl K F H S ρ σ->bF K F H S ρ E EK->(pe Ψ p E).t ρ Q->SH K F H S ρ σ Q (fun b=>R (.bl b))->(wp K Γ p EK).e σ H R):PSnd K Γ Ψ p where
 e:=fun I X h k=>by rw[ht]at h;exact he I X h fun b F' H' S' ρ' s I' q=>rB.d k s I' (.bl b) q
 t:=fun I X h k=>by rw[ht'];exact he I X h fun b F' H' S' ρ' s I' q=>k b F' H' S' ρ' s I' q
 a:=fun I X _ h k=>by rw[ha]at h;exact h.elim
theorem x9(i:Nat):gY K Γ Ψ (.var i):=by
 intro E EK F H S ρ σ Q R I X h k;have h2:Ol ρ[i]? fun t=>Q t false ρ:=h;show(match σ[i]? with|some (some v)=>R v H|_=>False);have key:∀s,ρ[i]?=some (some s)->Q s.t false ρ->(match σ[i]? with|some (some v)=>R v H|_=>False):=fun s e q=>by obtain⟨v,h1,h3⟩:=I.sl i _ e;rw[h1];exact k v F H S ρ s.t false (S i) .refl I ⟨h3.weak,fun z=>(by cases z),fun _ b hb=>⟨i,s,qJ.mpr rfl,e,hb⟩,fun z=>(by cases z)⟩ q
 unfold Ol at h2;split at h2;rename_i e;exact key _ e h2;rename_i e;exact key _ e h2;exact h2.elim;exact h2.elim
theorem uf{m:Mt}{v:V}{s:T}{H F:Hp}{Z:ZA}(h:isMut m=true)(ht:nK m s=true)(r:Tr K F H true v s Z):iY K m.ty v H:=by
 unfold nK at ht;split at ht;cases r with
 |lst h1 _ _ _ _ =>
  refine .inl ⟨?_,_,ID.of h1⟩;cases m with
  |insert=>rfl
  |pop=>rfl
  |_=>cases h
 cases ht
theorem Mm{m:Mt}{o as:PX}(io:PSnd K Γ Ψ o)(ia:PSnd K Γ Ψ as):gY K Γ Ψ (.mt m o as):=by
 intro E EK F H S ρ σ Q R I X h k;show(wp K Γ o EK).e σ H fun x H1=>iY K m.ty x H1/\(wp K Γ as EK).a σ H1 fun vs H2=>z8 K m x vs H2 R;cases hm:isMut m with
 |false =>
  have h:(pe Ψ o E).e ρ fun x n ρ1=>jM m (fA x n).vw=true/\sq (fA x n) ρ1 ((pe Ψ as E).a []) fun xs ρ2=>da m (fA x n).vw (aB xs) fun z k=>Q z k ρ2:=by have h2:(if isMut m=true then _ else _):=h;rw[hm,if_neg (by simp)]at h2;exact h2
  refine bh (P1:=fun x n=>jM m (fA x n).vw=true) (R1:=fun v H1=>iY K m.ty v H1) (RR:=fun v vs H2=>z8 K m v vs H2 R) io ia I X h (fun v F' H' x n Za r p=>vj r p) fun v vs F' H' S' ρ' x n xs Za Y s I' X' r _ tn q=>?_;rw[zL _ rfl]at q;exact bf s I' r tn q k
 |true =>
  have h:e9 (EY o) fun j=>EI ρ[j]? fun t=>nK m t=true/\(pe Ψ as E).a [] (ρ.set j (some (.nv t))) fun xs ρ2=>LF xs=true/\ρ2[j]?=some (some (.nv t))/\AT m t (ED xs) fun r s'=>Q r true (ρ2.set j (some (.own s'))):=by have h2:(if isMut m=true then _ else _):=h;rw[hm,if_pos rfl]at h2;exact h2
  cases o with
  |var j =>
   have h:EI ρ[j]? _:=h;unfold EI at h;split at h;rename_i t hj;obtain⟨ht,q1⟩:=h;obtain⟨v0,hv,r0⟩:=I.sl j _ hj;have IL:=I.lock1 hj;have n0:=I.lock1U hj;have r0:Tr K F H true v0 t (S j):=r0;have XL:=X.lock1 hj;show(match σ[j]? with|some (some v)=>_|_=>False);rw[hv];refine⟨uf hm ht r0,?_⟩;refine ia.a (md:=[]) IL XL (fun j hj=>by cases as<;>cases hj) q1 fun vs F2 H2 S2 ρ2 xs W Y s2 I2 ar _ q2=>?_;obtain⟨he,hj2,q2⟩:=q2;have r2:Tr K F2 H2 true v0 t (S j):=s2.toStp.keep r0 n0;have hw:=ar.held;have trs:=ar.av.trs vf he;have wS:∀b,S j b->¬ W b:=fun b hb hb2=>by rcases ar.fr b hb2 with q|q;exact(r0.dom b hb).1 q;exact n0 b hb q
   refine T7 I2.fh r2 trs wS q2 fun w r s' H3 S3 Zr hh dm rs' rr dz hf q=>?_;obtain⟨st,I3,nw⟩:=XQ I hj hv s2 I2 hh dm rs' (fun b hb=>hf b (.inl hb)) hw ar.fr;have zr:∀b,Zr b->S j b∨W b∨H2 b=none:=fun b hb=>hf b (.inr hb);refine k w F2 H3 _ _ r true Zr st I3 ⟨rr,fun _ b hb=>?_,fun z=>(by cases z),fun _ i sl e b hb z=>?_⟩ q;rcases zr b hb with q|q|q
   ·exact .inr ⟨j,t,hj,q⟩
   exact(ar.fr b q).imp id (lock1U hj);exact .inl (s2.dm b q);rcases lA e with⟨rfl,_,_⟩| ⟨n,e⟩
   ·rw[kB]at z
    exact dz b hb z
   rw[VA (Qu n)]at z;exact nw b (zr b hb) i sl (Qu n) e z
   all_goals exact h.elim
  |_=>exact h.elim
theorem PN{kvs:List (Str×V)}{kds:List (Str×D)}(h:Paired (fun(p:Str×V) (q:Str×D)=>p.1=q.1/\∀F,Rep K F p.2 q.2) kvs kds)(z:Str)(F:Hp) :
  (∀d,kds.lookup z=some d->∃v,kvs.lookup z=some v/\Rep K F v d)/\Rep K F ((kvs.lookup z).getD .non) ((kds.lookup z).getD .none):=by
 induction h with
 |nil=>exact⟨fun d e=>(by simp at e),.non⟩
 |@cons p q ps qs h t ih =>
  obtain⟨p1,p2⟩:=p;obtain⟨q1,q2⟩:=q;obtain⟨h1,h2⟩:=h;have h1:p1=q1:=h1;subst h1;rw[Qe,Qe];cases e:z==p1 with
  |true=>exact⟨fun d e=>by cases e;exact⟨p2,rfl,h2 F⟩,h2 F⟩
  |false=>exact ih
theorem Tn.one1{Y:ZA}{vs:List V}{x:D}(h:Tn K F H Y vs [.d x]):∃v,vs=[v]/\Rep K F v x:=by
 cases h with
 |cons r _ t =>
  cases t;cases r with
  |d r _=>exact⟨_,rfl,r⟩
theorem Tn.two1{Y:ZA}{vs:List V}{x y:D}(h:Tn K F H Y vs [.d x,.d y]):∃v w,vs=[v,w]/\Rep K F v x/\Rep K F w y:=by
 cases h with
 |cons r _ t =>
  obtain⟨w,rfl,r2⟩:=t.one1;cases r with
  |d r _=>exact⟨_,w,rfl,r,r2⟩
theorem Reps.rep{vs:List V}{ds:List D}(h:Reps K F vs ds):∀(k:Nat),Reps K F (QI k vs).flatten (QI k ds).flatten
 |0=>.nil
 |k+1=>by rw[Qf,Qf,qB,qB];exact h.append (Reps.rep h k)
theorem Rep.exc_i{K:QC}{F:Hp}{v:V}{x:Str}{p:Int}(h:Rep K F v (HF x p)):∃a C dx,v=.ref a/\F a=some (.ext (KH C a dx))/\F dx=some (.xd (OI p))/\ExC K C x:=by
 unfold HF at h;generalize hd:PyData.dict [(.none,.list [.str x,.int p])]=d at h;cases h with
 |exc h1 h2 h3=>cases hd;exact⟨_,_,_,rfl,h1,h2,h3⟩
 |cls h=>cases hd
 |@dct a ks xs ds _ _ _ =>
  cases ks with
  |nil=>cases hd
  |cons k r=>cases ds with
   |nil=>cases hd
   |cons d ds=>cases hd
 |_=>cases hd
theorem Rep.cls_i{K:QC}{F:Hp}{v:V}{x:Str}(h:Rep K F v (IJ x)):∃C,v=.ref C/\ExC K C x:=by
 unfold IJ at h;generalize hd:PyData.dict [(.none,.str x)]=d at h;cases h with
 |exc h1 h2 h3=>cases hd
 |cls h=>cases hd;exact⟨_,rfl,h⟩
 |@dct a ks xs ds _ _ _ =>
  cases ks with
  |nil=>cases hd
  |cons k r=>cases ds with
   |nil=>cases hd
   |cons d ds=>cases hd
 |_=>cases hd
theorem P3:∀{ks ls:List Str}{ds es:List D},ks.length=ds.length->ls.length=es.length->mG ks ds=mG ls es->ks=ls/\ds=es
 |[],[],[],[],_,_,_=>⟨rfl,rfl⟩
 |[],_::_,[],_::_,_,_,h=>by cases h
 |_::_,[],_::_,[],_,_,h=>by cases h
 |k::ks,l::ls,d::ds,e::es,h1,h2,h=>by obtain⟨a,b⟩:=QAq h;obtain⟨a1,a2⟩:=WH a;obtain⟨b1,b2⟩:=P3 (ks:=ks) (ls:=ls) (WJ h1) (WJ h2) b;exact⟨by rw[PyData.str.inj a1,b1],by rw[a2,b2]⟩
theorem Rep.dct_i{K:QC}{F:Hp}{v:V}{ks:List Str}{ds:List D}(h:Rep K F v (.dict (mG ks ds)))(hn:ks≠[])(hl:ks.length=ds.length):∃a xs,v=.ref a/\F a=some (.dK (kF ks xs))/\Reps K F xs ds:=by
 cases ks with
 |nil=>exact absurd rfl hn
 |cons k ks=>cases ds with
  |nil=>cases hl
  |cons d ds =>
   generalize hd:PyData.dict (mG (k::ks) (d::ds))=y at h;cases h with
   |exc h1 h2 h3=>cases hd
   |cls h=>cases hd
   |@dct a ls xs es h1 h2 r=>obtain⟨rfl,rfl⟩:=P3 hl (h2.trans r.length) (PyData.dict.inj hd);exact⟨a,xs,rfl,h1,r⟩
   |_=>cases hd
theorem FP{K:QC}{F:Hp}(z:Str):∀{ks:List Str}{xs:List V}{ds:List D},Reps K F xs ds->(∀d,(ks.zip ds).lookup z=some d->∃v,DD (kF ks xs) (.inr z)=some v/\Rep K F v d)/\((ks.zip ds).lookup z=none->DD (kF ks xs) (.inr z)=none)
 |[],_,_,_=>⟨fun d h=>(by cases h),fun _=>rfl⟩
 |_::_,_,_,.nil=>⟨fun d h=>(by cases h),fun _=>rfl⟩
 |k::ks,x::xs,d::ds,.cons r t=>by
  have ih:(∀d,(ks.zip ds).lookup z=some d->∃v,DD (kF ks xs) (.inr z)=some v/\Rep K F v d)/\((ks.zip ds).lookup z=none->DD (kF ks xs) (.inr z)=none):=FP z t;obtain⟨a,b⟩:=ih;by_cases e:z=k;subst e;have h1:(((z::ks).zip (d::ds)).lookup z)=some d:=by simp[Qe]
  have h2:DD (kF (z::ks) (x::xs)) (.inr z)=some x:=UI rfl;exact⟨fun d' h=>⟨x,h2,by rw[h1]at h;cases h;exact r⟩,fun h=>by rw[h1]at h;cases h⟩;have ne:(z==k)=false:=by simpa using e
  have h1:(((k::ks).zip (d::ds)).lookup z)=(ks.zip ds).lookup z:=by show qO z ((k,d)::ks.zip ds)=_;rw[Qe,ne]
  have h2:DD (kF (k::ks) (x::xs)) (.inr z)=DD (kF ks xs) (.inr z):=CI fun q=>e (QCZ q).symm;rw[h1,h2];exact⟨a,b⟩
theorem D6{o:Prm}{Y:ZA}{vs:List V}{ts:List T}{F H F1 H1:Hp}{S S1:Ft}{ρ ρ1:zA}{σ:St}{Q:TK}{R:VK}{ws:List Nat}(g:GOk K Γ Ψ)(s:Ste F H S ρ F1 H1 S1 ρ1)(I:Rl K F1 H1 S1 ρ1 σ)(ra:Tn K F1 H1 Y vs ts)(h:IO Ψ o ts fun z n=>Q z n ρ1)(k:rB K ws F H S ρ σ Q R):lZ K Γ o vs H1 R:=by
 cases o with
 |dget x=>obtain⟨z,kds,rfl,e,q⟩:=h;obtain⟨v,rfl,r⟩:=ra.one1;cases r;obtain⟨kvs,e2,p⟩:=g.dc _ _ e;exact⟨kvs,e2,k.d s I (PN p _ F1).2 q⟩
 |dix x=>obtain⟨z,kds,d,rfl,e,l,q⟩:=h;obtain⟨v,rfl,r⟩:=ra.one1;cases r;obtain⟨kvs,e2,p⟩:=g.dc _ _ e;obtain⟨v,l2,r2⟩:=(PN p _ F1).1 d l;exact⟨kvs,v,e2,l2,k.d s I r2 q⟩
 |din neg =>
  obtain⟨z,ks,ds,rfl,⟨hn,hl⟩,q⟩:=h;obtain⟨v,w,rfl,r1,r2⟩:=ra.two1;cases r1;obtain⟨a,xs,rfl,ha,rs⟩:=r2.dct_i hn hl;refine⟨a,DD (kF ks xs) (.inr z),rfl,.inl ⟨_,.inr z,.inl (I.fh _ _ ha),rfl,rfl⟩,?_⟩;have e:(DD (kF ks xs) (.inr z)).isSome=((ks.zip ds).lookup z).isSome:=by
   obtain⟨k1,k2⟩:=FP (ks:=ks) z rs;cases hh:(ks.zip ds).lookup z with
   |none=>rw[k2 hh];rfl
   |some d=>obtain⟨v,e,_⟩:=k1 d hh;rw[e];rfl
  rw[e];exact k.d s I (.bl _) q
 |dgt=>obtain⟨z,ks,ds,d,rfl,⟨hn,hl⟩,hd,q⟩:=h;obtain⟨v,w,rfl,r1,r2⟩:=ra.two1;cases r2;obtain⟨a,xs,rfl,ha,rs⟩:=r1.dct_i hn hl;obtain⟨v,ev,rv⟩:=(FP (ks:=ks) z rs).1 d hd;exact⟨a,v,rfl,.inl ⟨_,.inr z,.inl (I.fh _ _ ha),rfl,ev.symm⟩,k.d s I rv q⟩
 |ngt=>obtain⟨i,rfl,q⟩:=h;obtain⟨v,rfl,r⟩:=ra.one1;cases r;exact⟨i,rfl,k.d s I (.int _) q⟩
 |plc=>obtain⟨x,p,rfl,q⟩:=h;obtain⟨v,rfl,r⟩:=ra.one1;obtain⟨a,C,dx,rfl,h1,h2,h3⟩:=r.exc_i;exact⟨a,C,dx,p,rfl,I.fh _ _ h1,I.fh _ _ h2,h3.ex,k.d s I (.int _) q⟩
 |isC =>
  obtain⟨x,p,z,rfl,q⟩:=h;obtain⟨v,w,rfl,r1,r2⟩:=ra.two1;obtain⟨a,C,dx,rfl,h1,h2,h3⟩:=r1.exc_i;obtain⟨D,rfl,h4⟩:=r2.cls_i;refine .inr ⟨a,C,dx,.ref D,_,rfl,I.fh _ _ h1,⟨_,I.fh _ _ h2⟩,h3.ex,.inl ⟨D,rfl,h4.ex,rfl⟩,k.d (n:=false) s I (.bl _) ?_⟩;have e:decide (D=C∨D=wOf K)=decide (z=x∨z="WorldError"):=by refine decide_eq_decide.mpr ?_;rw[h3.inj h4,h4.isW]
  rw[e];exact q
 |isT y m=>obtain⟨rfl,x,p,rfl,q⟩:=h;obtain⟨v,rfl,r⟩:=ra.one1;obtain⟨a,C,dx,rfl,h1,h2,h3⟩:=r.exc_i;exact .inr ⟨a,C,dx,.ty "ValueError",_,rfl,I.fh _ _ h1,⟨_,I.fh _ _ h2⟩,h3.ex,.inr ⟨_,rfl,by decide +kernel,rfl⟩,k.d s I (.bl _) q⟩
 |tmul =>
  obtain⟨ds,n,rfl,h0,⟨h1,h2,h3⟩,q⟩:=h;obtain⟨v,w,rfl,r1,r2⟩:=ra.two1;cases r2;cases r1 with
  |@tup a xs ds hq rs =>
   have hl:=rs.length;refine⟨xs,I.fh.tupl hq,fun z=>h0 ?_,⟨h1,h2,by rw[hl];exact h3⟩,fun z=>?_,fun z p hp=>k.tupD s I hp (rs.rep _) q⟩;subst z;exact WU.mp hl.symm;subst z;have e:∀ds:List D,(QI (QAA 1) ds).flatten=ds:=fun ds=>by simp
   rw[e]at q;exact k.d s I (.tup hq rs) q
section
variable{F H:Hp}
theorem dW:∀{xs:List (T×Bool)},MM xs=true->∀t∈xD xs,t.isD=true
 |[],_,t,h=>by simp[xD]at h
 |p::r,h,t,ht=>by
  simp only[MM,QN]at h;simp only[xD,QL]at ht;rcases ht with rfl|ht;obtain⟨x,n⟩:=p;cases n with
  |true=>rfl
  |false =>
   have h1:=h.1;cases x with
   |d x=>rfl
   |_=>cases h1
  exact dW h.2 t ht
theorem Tn.bare{Y:ZA}{vs:List V}{ts:List T}(h:Tn K F H Y vs ts):(∀t∈ts,t.isD=true)->Tn K F H (fun _=>False) vs ts:=by
 induction h with
 |nil=>exact fun _=>.nil
 |@cons v t vs ts Z r z tl ih =>
  intro hd;refine .cons (Z:=fun _=>False) ?_ (fun _ z=>z) (ih fun u hu=>hd u (QG _ hu));have hd:=hd t QK;cases t with
  |d x=>cases r with|d q _=>exact .d q fun _ z=>z
  |_=>cases hd
end
theorem TN:∀(more kvs:List (lD×V)),((kvs++more).map (·.1)).Nodup->GG kvs more=kvs++more
 |[],kvs,_=>by rw[Q7];rfl
 | (k,v)::r,kvs,h=>by
  have nn:DD kvs k=none:=by unfold DD;rw[Option.map_eq_none_iff,List.find?_eq_none];intro x hx z;have z:x.1=k:=of_decide_eq_true z;rw[wm,QB0]at h;exact h.2.2 _ (Q0.mpr ⟨x,hx,z⟩) _ (Q0.mpr ⟨(k,v),QK,rfl⟩) rfl
  show GG (iL kvs k v) r=_;rw[cZ v nn,TN r _ (by rw[qy];exact h),qy];rfl
theorem UV{ks:List Str}{xs:List V}(h:ks.length=xs.length):(kF ks xs).map (·.1)=ks.map fun z=>(Sum.inr z:lD):=by unfold kF;exact List.map_fst_zip (by rw[QJ,h];exact Qa _)
theorem ZV:∀(ks:List Str) (xs:List V),(ks.map V.str).zip xs=(kF ks xs).map fun kv=>(kV kv.1,kv.2)
 |[],_=>rfl
 |_::_,[]=>rfl
 |k::ks,x::xs=>by show(V.str k,x)::(ks.map V.str).zip xs=(V.str k,x)::(kF ks xs).map _;rw[ZV ks xs]
theorem Tn.keptD{K:QC}{F H:Hp}{Y:ZA}:∀{vs:List V}{xs:List (T×Bool)},Tn K F H Y vs (xD xs)->MM xs=true->Reps K F vs (ersT (ED xs))
 |_,[],.nil,_=>.nil
 |_,(t,n)::xs,.cons r _ tn,h=>by
  have h:=jA h;refine .cons ?_ (Tn.keptD tn h.2);have r:Tr K F H false _ (fA t n) _:=r;cases n with
  |true=>cases r with|d q _=>exact q
  |false =>
   cases t with
   |d x=>cases r with|d q _=>exact q
   |_=>exact(QD h.1).elim
theorem yg{ks:List Str}{as:PX}(ia:PSnd K Γ Ψ as){E:XE}{EK:XK}{F H:Hp}{S:Ft}{ρ:zA}{σ:St}{Q:TK}{R:VK}{ws:List Nat}(I:Rl K F H S ρ σ)(X:bF K F H S ρ E EK)(h:(pe Ψ (.dsp ks as) E).e ρ Q)(k:rB K ws F H S ρ σ Q R):(wp K Γ (.dsp ks as) EK).e σ H R:=by
 intro p hp;have s0:Ste F H S ρ F (FA H p (.dK [])) S ρ:=Ste.refl.new hp _;have I0:Rl K F (FA H p (.dK [])) S ρ σ:=I.new hp _;refine HM ia I0 (X.from s0.toStp) h fun vs F1 H1 S1 ρ1 xs Y s1 I1 X1 tn _ ⟨⟨nd,l15,lx,ad⟩,q⟩=>?_;have nU:¬ U ρ S p:=fun⟨i,t,e,z⟩=>(I.dom e z).1 hp;have hp1:H1 p=some (.dK []):=s1.hh p _ dA nU;have fp:F p=none:=I.fh.free hp;have fp1:F1 p=none:=by
  by_cases z:F1 p=none;exact z;rcases s1.fn p fp z with q|q
  ·exact(nU q).elim
  rw[dA]at q;cases q
 have rs:=tn.keptD ad;have lv:ks.length=vs.length:=by rw[rs.length,XR,lx,pQ]
 have np:∀(i:Nat) sl,ρ1[i]?=some (some sl)->¬ S1 i p:=fun i sl e z=>by
  cases sl with
  |own t=>rcases s1.uu p ⟨i,t,e,z⟩ with q|q;exact nU q;rw[dA]at q;cases q
  |nv t =>
   cases hd:t.isD with
   |true=>exact I1.isD e hd z
   |false=>obtain⟨e1,e2⟩:=s1.bo i t e hd;rw[e2]at z;exact(I.dom e1 z).1 hp
 refine⟨hp1,kF ks vs,ZV ks vs,?_,?_⟩;have:=congrArg W6 (UV lv);rw[QJ,QJ]at this;rw[this];exact l15;rw[TN _ [] (by rw[Qz,UV lv];exact List.pairwise_map.mpr (nd.imp fun h z=>h (QCZ z))),Qz];have s:=s0.trans s1;have ne:∀{G:Hp}{b:Addr}{u:HO},G b=some u->G p=none->b≠p:=fun e z=>KA e z;have s2:Ste F H S ρ (FA F1 p (.dK (kF ks vs))) (FA H1 p (.dK (kF ks vs))) S1 ρ1:=⟨⟨fun b u e=>by
   have e1:=s.ff b u e;rw[vA (ne e1 fp1)];exact e1,fun b u e n=>by
   rw[vA (ne e hp)];exact s.hh b u e n,fun b e=>by
   by_cases z:b=p;rw[z];exact hp;rw[vA z]at e;exact s.dm b e,fun b e z=>by
   by_cases y:b=p;exact .inr (by rw[y];exact hp);rw[vA y]at z;exact s.fn b e z,s.uu,s.bo⟩,s.ow⟩
 have I2:Rl K (FA F1 p (.dK (kF ks vs))) (FA H1 p (.dK (kF ks vs))) S1 ρ1 σ:=⟨fun b u e=>by
   by_cases z:b=p;rw[z,dA]at e ⊢;exact e;rw[vA z]at e ⊢;exact I1.fh b u e,I1.len,fun i sl e=>by
   obtain⟨w,g1,g2⟩:=I1.sl i sl e;refine⟨w,g1,g2.mono (FB fp1) fun b hb=>?_⟩;have nb:b≠p:=fun z=>np i sl e (z▸hb);exact⟨vA nb,by rw[vA nb];exact(g2.dom b hb).2⟩,I1.dj⟩
 exact k.d s2 I2 (.dct dA lv (rs.mono (FB fp1))) q
theorem MA(g:GOk K Γ Ψ):∀(p:PX),PSnd K Γ Ψ p
 | .var i=>⟨x9 i,fun I X h k=>DS (Γ:=Γ) (Ψ:=Ψ) (x9 i) I X h k,fun I X _ h k=>h.elim⟩
 | .int i=>⟨fun I X h k=>rB.d k .refl I (.int i) h,fun I X h k=>k _ _ _ _ _ .refl I h,fun I X _ h k=>h.elim⟩
 | .str x=>⟨fun I X h k=>rB.d k .refl I (.str x) h,fun I X h k=>h.elim,fun I X _ h k=>h.elim⟩
 | .bl b=>⟨fun I X h k=>rB.d k .refl I (.bl b) h,fun I X h k=>k _ _ _ _ _ .refl I h,fun I X _ h k=>h.elim⟩
 | .non=>⟨fun I X h k=>rB.d k .refl I .non h,fun I X h k=>k _ _ _ _ _ .refl I h,fun I X _ h k=>h.elim⟩
 | .glo x=>.of_e (fun _ _ _=>rfl) (fun _ _ _ _=>rfl) (fun _=>rfl) fun {E EK F H S ρ σ Q R} I X h k=>by have h:(match Ψ.va x with|some d=>Q (.d d) false ρ|none=>False):=h;split at h;rename_i d e;exact rB.d k .refl I (g.va x d e F) h;exact h.elim
 | .bty _ _=>⟨fun I X h k=>h.elim,fun I X h k=>h.elim,fun I X _ h k=>h.elim⟩
 | .bin op a b=>.of_e (fun _ _ _=>rfl) (fun _ _ _ _=>rfl) (fun _=>rfl) fun {E EK F H S ρ σ Q R} I X h k =>
  NU (P:=fun x n y m ρ2=>binT op (fA x n).vw (fA y m).vw fun z k=>Q z k ρ2) (RR:=fun x y H2=>O8 K op x y H2 R) (MA g a) (MA g b) I X h fun v w F' H' S' ρ' x n y m Za Zb s I' X' ra _ rb q=>dg s I' ra rb q k
 | .cmp op a b=>.of_t (fun _ _ _=>rfl) (fun _ _ _ _=>rfl) (fun _=>rfl) fun {E EK F H S ρ σ Q R} I X h k =>
  NU (P:=fun x n y m ρ2=>HR op x.er y.er fun k=>Q k ρ2) (RR:=fun x y H2=>XH K op x y H2 R) (MA g a) (MA g b) I X h fun v w F' H' S' ρ' x n y m Za Zb s I' X' ra _ rb q =>
   pU (by have:=ra.rep I'.fh;rwa [xJ]at this) (by have:=rb.rep I'.fh;rwa [xJ]at this) q fun c qc=>k c F' H' S' ρ' s I' qc
 | .chn o p a b c=>.of_t (fun _ _ _=>rfl) (fun _ _ _ _=>rfl) (fun _=>rfl) fun {E EK F H S ρ σ Q R} I X h k =>
  NU (P:=fun x n y m ρ2=>HR o x.er y.er fun k=>if k=true then sq (fA y m) ρ2 (cu (pe Ψ c E).e) fun z ρ3=>HR p y.er z.1.er fun k=>Q k ρ3 else Q false ρ2)
   (RR:=fun x y H2=>XH K o x y H2 fun z H3=>lQ z H3 fun k H4=>if k=true then(wp K Γ c EK).e σ H4 fun w' H5=>XH K p y w' H5 R else R (.bl false) H4) (MA g a) (MA g b) I X h
   fun v w F' H' S' ρ' x n y m Za Zb s I' X' ra _ rb q=>by
    refine pU (R:=fun z H3=>lQ z H3 fun k H4=>if k=true then(wp K Γ c EK).e σ H4 fun w' H5=>XH K p w w' H5 R else R (.bl false) H4) (by have:=ra.rep I'.fh;rwa [xJ]at this) (by have:=rb.rep I'.fh;rwa [xJ]at this) q fun kb qc=>?_;cases kb with
    |false=>exact k false F' H' S' ρ' s I' qc
    |true=>rw[if_pos rfl]at qc;refine Vd (RR:=fun w' H5=>XH K p w w' H5 R) (MA g c) I' X' qc fun w2 F2 H2 S2 ρ2 z l Z s2 I2 kp _ r2 q2=>?_;have rb2:=(kp _ _ _ rb).rep I2.fh;rw[xJ]at rb2;exact pU rb2 (r2.tr.rep I2.fh) q2 fun cb qb=>k cb F2 H2 S2 ρ2 (s.trans s2) I2 qb
 | .and a b=>⟨fun {E EK F H S ρ σ Q R} I X h k=>by
   refine(MA g a).e (Q:=fun x _ ρ1=>Ug x.er fun c=>if c=true then(pe Ψ b E).e ρ1 Q else Q (.d (.bool false)) false ρ1) (R:=fun x H1=>lQ x H1 fun c H2=>if c=true then(wp K Γ b EK).e σ H2 R else R (.bl false) H2) I X h fun v F' H' S' ρ' x n Z s I' r q=>?_;refine D4 (r.tr.rep I'.fh) q fun c qc=>?_;cases c with
   |false=>exact rB.d k s I' (.bl false) qc
   |true=>exact(MA g b).e I' (X.from s.toStp) qc ((k.from s).vars fun i hi=>Qb _ hi),
  fun {E EK F H S ρ σ Q R} I X h k=>by
   refine(MA g a).t (Q:=fun c ρ1=>if c=true then(pe Ψ b E).t ρ1 Q else Q false ρ1) (R:=fun c H1=>if c=true then(wp K Γ b EK).t σ H1 R else R false H1) I X h fun c F' H' S' ρ' s I' qc=>?_;cases c with
   |false=>exact k _ F' H' S' ρ' s I' qc
   |true=>exact(MA g b).t I' (X.from s.toStp) qc (SH.from k s),fun I X _ h k=>h.elim⟩
 | .or a b=>⟨fun {E EK F H S ρ σ Q R} I X h k=>by
   refine(MA g a).e (Q:=fun x _ ρ1=>Ug x.er fun c=>if c=true then Q (.d (.bool true)) false ρ1 else(pe Ψ b E).e ρ1 Q) (R:=fun x H1=>lQ x H1 fun c H2=>if c=true then R (.bl true) H2 else(wp K Γ b EK).e σ H2 R) I X h fun v F' H' S' ρ' x n Z s I' r q=>?_;refine D4 (r.tr.rep I'.fh) q fun c qc=>?_;cases c with
   |true=>exact rB.d k s I' (.bl true) qc
   |false=>exact(MA g b).e I' (X.from s.toStp) qc ((k.from s).vars fun i hi=>Qb _ hi),
  fun {E EK F H S ρ σ Q R} I X h k=>by
   refine(MA g a).t (Q:=fun c ρ1=>if c=true then Q true ρ1 else(pe Ψ b E).t ρ1 Q) (R:=fun c H1=>if c=true then R true H1 else(wp K Γ b EK).t σ H1 R) I X h fun c F' H' S' ρ' s I' qc=>?_;cases c with
   |true=>exact k _ F' H' S' ρ' s I' qc
   |false=>exact(MA g b).t I' (X.from s.toStp) qc (SH.from k s),fun I X _ h k=>h.elim⟩
 | .not a=>⟨fun {E EK F H S ρ σ Q R} I X h k=>by
   refine(MA g a).e (Q:=fun x _ ρ1=>AH x.er fun c=>Q (.d (.bool (!c))) false ρ1) (R:=fun x H1=>fE K x H1 fun c H2=>R (.bl (!c)) H2) I X h fun v F' H' S' ρ' x n Z s I' r q=>?_;exact PU (r.tr.rep I'.fh) q fun c qc=>rB.d k s I' (.bl _) qc,
  fun {E EK F H S ρ σ Q R} I X h k=>(MA g a).t (Q:=fun c ρ1=>Q (!c) ρ1) (R:=fun c H1=>R (!c) H1) I X h fun c F' H' S' ρ' s I' qc=>k _ F' H' S' ρ' s I' qc,fun I X _ h k=>h.elim⟩
 | .ife c a b=>.of_0 (fun _=>rfl) (fun _=>rfl) fun {E EK F H S ρ σ Q R} I X h k=>by
  refine(MA g c).t (Q:=fun k ρ1=>if k=true then(pe Ψ a E).e ρ1 Q else(pe Ψ b E).e ρ1 Q) (R:=fun k H1=>if k=true then(wp K Γ a EK).e σ H1 R else(wp K Γ b EK).e σ H1 R) I X h fun c F' H' S' ρ' s I' qc=>?_;cases c with
  |true=>exact(MA g a).e I' (X.from s.toStp) qc ((k.from s).vars fun i hi=>wK _ hi)
  |false=>exact(MA g b).e I' (X.from s.toStp) qc ((k.from s).vars fun i hi=>Qb _ hi)
 | .call f as=>.of_e (fun _ _ _=>rfl) (fun _ _ _ _=>rfl) (fun _=>rfl) fun {E EK F H S ρ σ Q R} I X h k=>C8 g (MA g as) I X h k
 | .isi a c=>by
  have key:∀{E:XE}{EK:XK}{F H:Hp}{S:Ft}{ρ:zA}{σ:St}{Q:Bool->zA->Prop}{R:VK},Rl K F H S ρ σ->bF K F H S ρ E EK->(pe Ψ (.isi a c) E).t ρ Q->SH K F H S ρ σ Q (fun b=>R (.bl b))->(wp K Γ (.isi a c) EK).e σ H R:=by
   intro E EK F H S ρ σ Q R I X h k;refine(MA g a).e (Q:=fun x _ ρ1=>Gf c x.er fun b=>Q b ρ1) I X h fun v F' H' S' ρ' x n Z s I' r q=>?_;cases c with
   |bty z n=>obtain⟨b,h1,h2,q⟩:=q;exact Ff (r.tr.rep I'.fh) h1 h2 (k b F' H' S' ρ' s I' q)
   |_=>exact q.elim
  refine⟨fun I X h k=>key I X h fun b F' H' S' ρ' s I' q=>rB.d k s I' (.bl b) q,fun {E EK F H S ρ σ Q R} I X h k=>?_,fun I X _ h k=>h.elim⟩;exact key (R:=fun v H1=>fE K v H1 R) I X h fun b F' H' S' ρ' s I' q=>k b F' H' S' ρ' s I' q
 | .bi f as=>.of_e (fun _ _ _=>rfl) (fun _ _ _ _=>rfl) (fun _=>rfl) fun {E EK F H S ρ σ Q R} I X h k =>
  HM (P:=fun xs ρ1=>KN f (aB xs) fun z k=>Q z k ρ1) (RR:=fun vs H1=>Zk K f vs H1 R) (MA g as) I X h fun vs F' H' S' ρ' xs Y s I' X' tn _ q=>by rw[zL _ rfl]at q;exact Kg s I' tn q k
 | .prm o as=>.of_e (fun _ _ _=>rfl) (fun _ _ _ _=>rfl) (fun _=>rfl) fun {E EK F H S ρ σ Q R} I X h k =>
  HM (P:=fun xs ρ1=>IO Ψ o (xD xs) fun z k=>Q z k ρ1) (RR:=fun vs H1=>lZ K Γ o vs H1 R) (MA g as) I X h fun vs F' H' S' ρ' xs Y s I' X' tn _ q=>D6 g s I' tn q k
 | .mt m o as=>.of_e (fun _ _ _=>rfl) (fun _ _ _ _=>rfl) (fun _=>rfl) (Mm (MA g o) (MA g as))
 | .idx a b=>by
  have he:gY K Γ Ψ (.idx a b):=fun {E EK F H S ρ σ Q R} I X h k =>
   NU (P:=fun x n y m ρ2=>sN (fA x n).vw (fA y m).vw fun z=>Q z false ρ2) (RR:=fun x y H2=>J6 K x y H2 R) (MA g a) (MA g b) I X h fun v w F' H' S' ρ' x n y m Za Zb s I' X' ra za rb q=>Mf s I' ra za rb q k
  exact⟨he,fun I X h k=>DS he I X h k,fun I X _ h k=>h.elim⟩
 | .slc a lo hi=>.of_0 (fun _=>rfl) (fun _=>rfl) fun {E EK F H S ρ σ Q R} I X h k=>by
  have part:∀(p:PX),PSnd K Γ Ψ p->∀{F H:Hp}{S:Ft}{ρ:zA}{x:T}{P:Option Int->zA->Prop}{RP:Option Int->Hp->Prop},Rl K F H S ρ σ->bF K F H S ρ E EK ->
    sq (α:=Option Int) x ρ (if isNop p=true then fun ρ (R:Option Int->zA->Prop)=>R none ρ else fun ρ R=>(pe Ψ p E).e ρ fun l _ ρ2=>CG l.er fun o=>R o ρ2) P ->
    (∀o F' H' S' ρ',Ste F H S ρ F' H' S' ρ'->Rl K F' H' S' ρ' σ->(∀st v Zx,Tr K F H st v x Zx->Tr K F' H' st v x Zx)->P o ρ'->RP o H') ->
    (if isNop p=true then fun(R:Option Int->Hp->Prop)=>R none H else fun R=>(wp K Γ p EK).e σ H fun l H2=>UL l H2 R) RP:=by
   intro p ip F H S ρ x P RP I X h k;cases hn:isNop p with
   |true=>simp only[hn,if_true]at h ⊢;refine k none F H S ρ .refl I (fun _ _ _ r=>r) ?_;unfold sq at h;split at h<;>exact h
   |false =>
    simp only[hn,Qi,if_false]at h ⊢;have h2:sq x ρ (cu (pe Ψ p E).e) fun y ρ'=>CG y.1.er fun o=>P o ρ':=by unfold sq at h ⊢;exact h
    refine Vd ip I X h2 fun w F' H' S' ρ' y m Z s I' kp _ r q=>c7 (r.tr.rep I'.fh) q fun o qo=>k o F' H' S' ρ' s I' kp qo
  refine HL (MA g a) I X h fun v F1 H1 S1 ρ1 x n Za s1 I1 X1 r1 _ z1 h1=>?_;refine part lo (MA g lo) I1 X1 h1 fun l F2 H2 S2 ρ2 s2 I2 k2 h2=>?_;refine part hi (MA g hi) I2 (X1.from s2.toStp) h2 fun u F3 H3 S3 ρ3 s3 I3 k3 h3=>?_;exact Ud (s1.trans (s2.trans s3)) I3 (k3 _ _ _ (k2 _ _ _ r1)) h3 k
 | .nop=>⟨fun I X h k=>h.elim,fun I X h k=>h.elim,fun I X _ h k=>h.elim⟩
 | .dsp ks as=>.of_0 (fun _=>rfl) (fun _=>rfl) fun {E EK F H S ρ σ Q R} I X h k=>yg (MA g as) I X h k
 | .lst as=>.of_0 (fun _=>rfl) (fun _=>rfl) fun {E EK F H S ρ σ Q R} I X h k=>by refine(MA g as).a (md:=[]) (R:=fun xs H1=>xs.length<=sizeLine/\∀p,H1 p=none->R (.ref p) (FA H1 p (.lst xs))) I X (fun j hj=>by cases as<;>cases hj) h fun vs F' H' S' ρ' xs W Y s I' r _ q=>?_;exact⟨by rw[r.av.length];exact q.2.1,fun p hp=>rB.list k s I' hp (r.av.trs vf q.1) r.fr r.held q.2.2⟩
 | .tup as=>.of_0 (fun _=>rfl) (fun _=>rfl) fun {E EK F H S ρ σ Q R} I X h k=>by refine(MA g as).a (md:=[]) (R:=fun xs H1=>xs.length<=sizeLine/\∀p,H1 p=none->R (.ref p) (FA H1 p (.tup xs))) I X (fun j hj=>by cases as<;>cases hj) h fun vs F' H' S' ρ' xs W Y s I' r _ q=>?_;exact⟨by rw[r.av.length];exact q.2.1,fun p hp=>rB.tup k s I' hp (r.av.trs vf q.1) r.fr r.held q.2.2⟩
 | .comp mask tgs tg ik its cond elt=>.of_0 (fun _=>rfl) (fun _=>rfl) fun {E EK F H S ρ σ Q R} I X h k=>by
  refine HM (RR:=fun vs H1=>HD K ik vs H1 fun xs st H2=>nW K xs st tg (if isNop cond=true then fun _ H Q=>Q true H else(wp K Γ cond (fun _ _ _=>False)).t) (wp K Γ elt (fun _ _ _=>False)).e (cJ tgs.length mask σ) H2 R) (MA g its) I X h fun vs F1 H1 S1 ρ1 xs Y s1 I1 X1 tn tm q1=>?_;rw[zL _ rfl]at q1;refine PJ I1.fh tn q1 fun xs ys st pr hst hc=>?_;refine E3 (us:=JH elt) ?_ ?_ s1 I1 pr (fun b hb=>?_) hst hc k;intro F H S ρ σ Q R I h k;cases hn:isNop cond with
  |true=>simp only[hn,if_true]at h ⊢;exact k true F H S ρ .refl I h
  |false=>simp only[hn,Qi,if_false]at h ⊢;exact(MA g cond).t I bF.never h k
  intro F H S ρ σ Q R I h k;exact(MA g elt).e I bF.never h k;obtain⟨i,sl,_,h2,h3⟩:=tm b hb;exact I1.dom h2 h3
 | .nr=>⟨fun I X h k=>h.elim,fun I X h k=>h.elim,fun {E EK F H S ρ σ md Q R} I X _ h k=>k [] F H S ρ [] (fun _=>False) (fun _=>False) .refl I ⟨.nil fun _ z=>z,fun _ z=>z.elim,fun _ z=>z.elim,fun _ _ _ _ z=>z.elim⟩ (by cases md with|nil=>rfl|cons m r=>cases m<;>rfl) h⟩
 | .nq a as=>⟨fun I X h k=>h.elim,fun I X h k=>h.elim,fun {E EK F H S ρ σ md Q R} I X hm h k=>by
  show(wp K Γ a EK).e σ H fun x H1=>(wp K Γ as EK).a σ H1 fun xs H2=>R (x::xs) H2;have vr2:∀i∈JH as,i∈JH (.nq a as):=fun i hi=>Qb _ hi;cases hmd:(md.headD .nz).isMut with
  |true =>
   have h2:U2 a=true/\(pe Ψ as E).a md.tail ρ fun xs ρ1=>Q ((.d .none,true)::xs) ρ1:=by have h3:(if(md.headD .nz).isMut=true then _ else _):=h;rw[hmd,if_pos rfl]at h3;exact h3
   obtain⟨m,md',rfl⟩:∃m md',md=m::md':=by
    cases md with
    |nil=>cases hmd
    |cons m md'=>exact⟨m,md',rfl⟩
   have em:m=.chg:=by have hmd:m.isMut=true:=hmd;cases m<;>first|rfl|cases hmd
   subst em;cases a with
   |var j=>obtain⟨v,hv⟩:=hm j (show j∈j::nA md' as from QK);show(match σ[j]? with|some (some v)=>_|_=>False);rw[hv];refine(MA g as).a I X (fun i hi=>hm i (QG _ hi)) h2.2 fun vs F' H' S' ρ' xs W Y s I' r mv q=>?_;refine k (v::vs) F' H' S' ρ' _ W Y s I' ⟨.chg hmd r.av,r.fr,(r.vars vr2).tm,r.nw⟩ ?_ q;show(some (some v))::(dB md' vs).map _=σ[j]?::(nA md' as).map _;have mv:(dB md' vs).map (fun v=>some (some v))=(nA md' as).map (fun j=>σ[j]?):=mv;rw[hv,mv]
   |_=>exact absurd h2.1 (by simp[U2])
  |false =>
   have h2:(pe Ψ a E).e ρ fun x n ρ1=>sq (α:=List (T×Bool)) (if n=true then .d .none else x) ρ1 ((pe Ψ as E).a md.tail) fun xs ρ2=>Q ((x,n)::xs) ρ2:=by have h3:(if(md.headD .nz).isMut=true then _ else _):=h;rw[hmd,if_neg (by simp)]at h3;exact h3
   have hroots:nA md (.nq a as)=nA md.tail as:=by
    cases md with
    |nil=>cases as<;>rfl
    |cons m md'=>have hmd:m.isMut=false:=hmd;cases m<;>first|rfl|cases hmd
   have hmv:∀v vs,dB md (v::vs)=dB md.tail vs:=fun v vs=>by unfold dB;generalize md.headD .nz=m at hmd;cases m<;>first | (cases vs<;>rfl)|cases hmd
   refine(MA g a).e I X h2 fun v F1 H1 S1 ρ1 x n Z s1 I1 r1 q1=>?_;refine Uh (MA g as) I1 (X.from s1.toStp) (fun i hi=>hm i (by rw[hroots];exact hi)) q1 fun vs F2 H2 S2 ρ2 xs W Y s2 I2 kp hs r2 mv q2=>?_;have s12:=s1.trans s2;have r2':=(r2.from s1.toStp).vars vr2;have mv':(dB md (v::vs)).map (fun v=>some (some v))=(nA md (.nq a as)).map (fun j=>σ[j]?):=by rw[hroots,hmv];exact mv
   cases n with
   |true =>
    have hd:=r1.held;have hd2:=hd.step s2.toStp I2;refine k (v::vs) F2 H2 S2 ρ2 _ (fun b=>Z b∨W b) Y s12 I2 ⟨.new hmd (s2.toStp.keep r1.tr hd.nu) r2.av (fun b hb hw=>?_) fun b=>QAP,fun b hb=>?_,r2'.tm,fun i sl e b hb=>?_⟩ mv' q2;rcases r2.fr b hw with q|q
    ·exact(hd.dom b hb).1 q
    exact hd.nu b hb q;rcases hb with hb|hb
    ·exact r1.fr rfl b hb
    exact r2'.fr b hb;rcases hb with hb|hb
    ·exact hd2.nw i sl e b hb
    exact r2.nw i sl e b hb
   |false =>
    have za:∀b,Z b->∃(i:Nat) (s:Sl),i∈JH a/\ρ2[i]?=some (some s)/\S2 i b:=by
     cases hd:x.isD with
     |true =>
      intro b hb;exfalso;have tr:=r1.tr;cases x with
      |d x=>cases tr with|d r n=>exact n b hb
      |_=>cases hd
     |false=>obtain⟨e1,e2⟩:=hs hd;rw[e1,e2];exact r1.tm rfl
    refine k (v::vs) F2 H2 S2 ρ2 _ W (fun b=>Z b∨Y b) s12 I2 ⟨.tmp hmd (kp _ _ _ r1.tr) (fun b hb=>.inl hb) (r2.av.sub fun b hb=>.inr hb),r2'.fr,fun b hb=>?_,r2.nw⟩ mv' q2;rcases hb with hb|hb;obtain⟨i,sl,h1,h2⟩:=za b hb;exact⟨i,sl,wK _ h1,h2⟩;exact r2'.tm b hb⟩
end
structure Sts(C J:List Nat)(F H:Hp)(S:Ft)(ρ:zA)(σ:St)(F' H':Hp)(S':Ft)(ρ':zA)(σ':St):Prop where
 ff:Same F F'
 hh:∀b u,H b=some u->¬ U ρ S b->H' b=some u
 dm:∀b,H' b=none->H b=none
 fn:∀b,F b=none->F' b≠none->U ρ S b∨H b=none
 uu:∀b,U ρ' S' b->U ρ S b∨H b=none
 bo:∀(j:Nat) t,j∉J->ρ'[j]?=some (some (.nv t))->t.isD=false->ρ[j]?=some (some (.nv t))/\S' j=S j/\σ'[j]?=σ[j]?
 sg:∀j∈C,σ'[j]?=σ[j]?
structure Stc(C:List Nat)(F H:Hp)(S:Ft)(ρ:zA)(σ:St)(F' H':Hp)(S':Ft)(ρ':zA)(σ':St):Prop where
 ff:Same F F'
 hh:∀b u,H b=some u->¬ U ρ S b->H' b=some u
 dm:∀b,H' b=none->H b=none
 fn:∀b,F b=none->F' b≠none->U ρ S b∨H b=none
 uu:∀b,U ρ' S' b->U ρ S b∨H b=none
 sg:∀j∈C,σ'[j]?=σ[j]?
section
variable{K:QC}{Γ:Ev}{Ψ:PEv}{E:XE}{EK:XK}{F H F1 H1 F2 H2:Hp}{S S1 S2:Ft}{ρ ρ1 ρ2:zA}{σ σ1 σ2:St}{C J:List Nat}
theorem Stp.sts(s:Stp F H S ρ F1 H1 S1 ρ1):Sts C J F H S ρ σ F1 H1 S1 ρ1 σ:=⟨s.ff,s.hh,s.dm,s.fn,s.uu,fun j t _ e h=>let⟨h1,h2⟩:=s.bo j t e h;⟨h1,h2,rfl⟩,fun _ _=>rfl⟩
theorem Sts.refl:Sts C J F H S ρ σ F H S ρ σ:=Stp.refl.sts
theorem Sts.trans(a:Sts C J F H S ρ σ F1 H1 S1 ρ1 σ1)(b:Sts C [] F1 H1 S1 ρ1 σ1 F2 H2 S2 ρ2 σ2):Sts C J F H S ρ σ F2 H2 S2 ρ2 σ2 where
 ff:=a.ff.trans b.ff
 hh:=fun x u h n=>b.hh x u (a.hh x u h n) fun z=>by rcases a.uu x z with q|q;exact n q;rw[q]at h;cases h
 dm:=fun x h=>a.dm x (b.dm x h)
 fn:=fun x h z=>by
  by_cases q:F1 x=none;rcases b.fn x q z with w|w
  ·exact a.uu x w
  exact .inr (a.dm x w);exact a.fn x h q
 uu:=fun x h=>by rcases b.uu x h with w|w;exact a.uu x w;exact .inr (a.dm x w)
 bo:=fun j t hj h n=>by obtain⟨h1,h2,h3⟩:=b.bo j t (by simp) h n;obtain⟨h4,h5,h6⟩:=a.bo j t hj h1 n;exact⟨h4,h2.trans h5,h3.trans h6⟩
 sg:=fun j hj=>(b.sg j hj).trans (a.sg j hj)
theorem Sts.c(s:Sts C J F H S ρ σ F1 H1 S1 ρ1 σ1):Stc C F H S ρ σ F1 H1 S1 ρ1 σ1:=⟨s.ff,s.hh,s.dm,s.fn,s.uu,s.sg⟩
theorem Stc.trans(a:Stc C F H S ρ σ F1 H1 S1 ρ1 σ1)(b:Stc C F1 H1 S1 ρ1 σ1 F2 H2 S2 ρ2 σ2):Stc C F H S ρ σ F2 H2 S2 ρ2 σ2 where
 ff:=a.ff.trans b.ff
 hh:=fun x u h n=>b.hh x u (a.hh x u h n) fun z=>by rcases a.uu x z with q|q;exact n q;rw[q]at h;cases h
 dm:=fun x h=>a.dm x (b.dm x h)
 fn:=fun x h z=>by
  by_cases q:F1 x=none;rcases b.fn x q z with w|w
  ·exact a.uu x w
  exact .inr (a.dm x w);exact a.fn x h q
 uu:=fun x h=>by rcases b.uu x h with w|w;exact a.uu x w;exact .inr (a.dm x w)
 sg:=fun j hj=>(b.sg j hj).trans (a.sg j hj)
theorem bF.fromS(h:bF K F H S ρ E EK)(s:Sts C J F H S ρ σ F1 H1 S1 ρ1 σ1):bF K F1 H1 S1 ρ1 E EK:=fun x dx F2 H2 S2 ρ2 s2 f r q =>
 h x dx F2 H2 (fun _ _=>False) [] ⟨s.ff.trans s2.ff,fun b u e n=>s2.hh b u (s.hh b u e n) (fun z=>(s.uu b z).elim n fun w=>(by rw[w]at e;cases e)),fun b e=>s.dm b (s2.dm b e),fun b e z=>by
  by_cases q:F1 b=none;rcases s2.fn b q z with w|w
  ·exact s.uu b w
  exact .inr (s.dm b w);exact s.fn b e q,fun b ⟨i,t,e,_⟩=>by simp at e,fun j t e=>by simp at e⟩ f r q
structure EndsOk(K:QC)(C:List Nat)(F H:Hp)(S:Ft)(ρ:zA)(σ:St)(Z:PEnds)(Dn:Ends):Prop where
 nx:∀F' H' S' ρ' σ',Sts C [] F H S ρ σ F' H' S' ρ' σ'->Rl K F' H' S' ρ' σ'->Z.nx ρ'->Dn.nx σ' H'
 rt:∀v t W F' H' S' ρ' σ',Stc C F H S ρ σ F' H' S' ρ' σ'->Rl K F' H' S' ρ' σ'->Tr K F' H' true v t W->Held F' H' S' ρ' W->(∀b,W b->H b=none∨U ρ S b)->Z.rt t ρ'->Dn.rt v H'
 bk:∀F' H' S' ρ' σ',Sts C [] F H S ρ σ F' H' S' ρ' σ'->Rl K F' H' S' ρ' σ'->Z.bk ρ'->Dn.bk σ' H'
 ct:∀F' H' S' ρ' σ',Sts C [] F H S ρ σ F' H' S' ρ' σ'->Rl K F' H' S' ρ' σ'->Z.ct ρ'->Dn.ct σ' H'
theorem Sn(s:Sts C J F H S ρ σ F1 H1 S1 ρ1 σ1){W:ZA}(fr:∀b,W b->H1 b=none∨U ρ1 S1 b):∀b,W b->H b=none∨U ρ S b:=fun b hb=>by rcases fr b hb with q|q;exact .inl (s.dm b q);exact(s.uu b q).symm
theorem EndsOk.from{Z:PEnds}{Dn:Ends}(ok:EndsOk K C F H S ρ σ Z Dn)(s:Sts C [] F H S ρ σ F1 H1 S1 ρ1 σ1):EndsOk K C F1 H1 S1 ρ1 σ1 Z Dn :=
 ⟨fun F' H' S' ρ' σ' s' I q=>ok.nx F' H' S' ρ' σ' (s.trans s') I q,fun v t W F' H' S' ρ' σ' s' I r h fr q=>ok.rt v t W F' H' S' ρ' σ' (s.c.trans s') I r h (Sn s fr) q,
  fun F' H' S' ρ' σ' s' I q=>ok.bk F' H' S' ρ' σ' (s.trans s') I q,fun F' H' S' ρ' σ' s' I q=>ok.ct F' H' S' ρ' σ' (s.trans s') I q⟩
theorem Sts.setD(s:Sts C J F H S ρ σ F1 H1 S1 ρ1 σ1)(i:Nat)(hi:i∉C)(v:V){t:T}(ht:t.isD=true)(Z:ZA):Sts C J F H S ρ σ F1 H1 (DI S1 i Z) (ρ1.set i (some (.nv t))) (σ1.set i (some v)) :=
 ⟨s.ff,s.hh,s.dm,s.fn,fun b ⟨j,u,h1,h2⟩=>by
  rcases lA h1 with⟨_,e,_⟩| ⟨n,h1⟩
  cases e;rw[VA (Qu n)]at h2;exact s.uu b ⟨j,u,h1,h2⟩,
 fun j u hj e hd=>by
  rcases lA e with⟨_,e,_⟩| ⟨n,e⟩
  injection e with e;injection e with e;subst e;rw[ht]at hd;cases hd;rw[VA (Qu n),lE n];exact s.bo j u hj e hd,
 fun j hj=>by have n:i≠j:=fun e=>hi (e▸hj);rw[lE n];exact s.sg j hj⟩
theorem Rl.setD(I:Rl K F H S ρ σ)(i:Nat){v:V}{x:D}(r:Rep K F v x):Rl K F H (DI S i fun _=>False) (ρ.set i (some (.nv (.d x)))) (σ.set i (some v)) :=
 I.setB i (.d r fun _ z=>z) fun _ _ _ _ _ z=>z.elim
theorem Rl.setN(I:Rl K F H S ρ σ)(i:Nat){v:V}{t:T}{Z:ZA}(r:Tr K F H true v t Z)(hz:∀(j:Nat) s,j≠i->ρ[j]?=some (some s)->∀b,Z b->¬ S j b):Rl K F H (DI S i Z) (ρ.set i (some (.own t))) (σ.set i (some v)) where
 fh:=I.fh
 len:=by simpa using I.len
 sl:=fun j s h=>by
  rcases lA h with⟨rfl,e,hl⟩| ⟨hn,h⟩
  cases e;exact⟨v,zV (by rw[<- I.len];exact hl),by rw[kB];exact r⟩;rw[lE hn,VA (Qu hn)];exact I.sl j s h
 dj:=fun j k t' s n h1 h2 b hb hk=>by
  rcases lA h1 with⟨e,_,_⟩| ⟨n1,h1⟩
  subst e;rw[kB]at hb;rcases lA h2 with⟨e,_,_⟩| ⟨n2,h2⟩
  exact n e;rw[VA (Qu n2)]at hk;exact hz k s (Qu n2) h2 b hb hk;rw[VA (Qu n1)]at hb;rcases lA h2 with⟨e,_,_⟩| ⟨n2,h2⟩
  subst e;rw[kB]at hk;exact hz j _ n h1 b hk hb;rw[VA (Qu n2)]at hk;exact I.dj j k t' s n h1 h2 b hb hk
theorem Sts.setN(s:Sts C J F H S ρ σ F1 H1 S1 ρ1 σ1)(i:Nat)(hi:i∉C)(v:V)(t:T){Z:ZA}(fr:∀b,Z b->H b=none∨U ρ S b):Sts C J F H S ρ σ F1 H1 (DI S1 i Z) (ρ1.set i (some (.own t))) (σ1.set i (some v)) :=
 ⟨s.ff,s.hh,s.dm,s.fn,fun b ⟨j,u,h1,h2⟩=>by
  rcases lA h1 with⟨rfl,_,_⟩| ⟨n,h1⟩
  rw[kB]at h2;exact(fr b h2).symm;rw[VA (Qu n)]at h2;exact s.uu b ⟨j,u,h1,h2⟩,
 fun j u hj e hd=>by
  rcases lA e with⟨_,e,_⟩| ⟨n,e⟩
  cases e;rw[VA (Qu n),lE n];exact s.bo j u hj e hd,
 fun j hj=>by have n:i≠j:=fun e=>hi (e▸hj);rw[lE n];exact s.sg j hj⟩
theorem VR.strict{ws:List Nat}{v:V}{t:T}{n:Bool}{Z:ZA}(r:VR K ws H S ρ F1 H1 S1 ρ1 v t n Z)(e:AK t n=true):∃W,Tr K F1 H1 true v t W/\Held F1 H1 S1 ρ1 W/\∀b,W b->H b=none∨U ρ S b:=by
 cases n with
 |true=>exact⟨Z,r.tr,r.held,r.fr rfl⟩
 |false =>
  have tr:=r.tr;cases t with
  |d x=>cases tr with|d q _=>exact⟨fun _=>False,.d q fun _ z=>z,.none,fun _ z=>z.elim⟩
  |_=>cases e
theorem GN:∀(is:List Nat) (ds:List D) {ρ ρ':zA},PB is (ds.map T.d) ρ=some ρ'->∀(j:Nat) t,ρ'[j]?=some (some (.nv t))->t.isD=false->j∉is/\ρ[j]?=some (some (.nv t))
 |[],[],ρ,ρ',h,j,t,e,hd=>by simp only[wf,PB,Qj]at h;subst h;exact⟨(by simp),e⟩
 |[],_::_,_,_,h,_,_,_,_=>by simp[PB]at h
 |_::_,[],_,_,h,_,_,_,_=>by simp[PB]at h
 |i::is,d::ds,ρ,ρ',h,j,t,e,hd=>by
  simp only[QV,PB]at h;obtain⟨h1,h2⟩:=GN is ds h j t e hd;rcases lA h2 with⟨_,q,_⟩| ⟨n,q⟩
  injection q with q;injection q with q;subst q;cases hd;exact⟨fun m=>(QL.mp m).elim (fun z=>n z.symm) h1,q⟩
end
noncomputable def SL(C:List Nat):PT->Bool
 | .seq s r=>SL C s&&SL C r
 | .set i _=>!C.contains i
 | .own i _=>!C.contains i
 | .ife _ a b=>SL C a&&SL C b
 | .for_ tg _ _ body=>tg.ix.all (fun i=>!C.contains i)&&SL C body
 | .nil=>true
 | .expr _=>true
 | .setT is _=>is.all fun i=>!C.contains i
 | .ret _=>true
 | .rse _ _ _=>true
 | .tryC i _ _ _ j k=>(match i with|none=>true|some i=>!C.contains i)&&(!C.contains j&&!C.contains k)
 | .six _ _ _=>true
section
variable{K:QC}{Γ:Ev}{F H:Hp}{S:Ft}{ρ:zA}{σ:St}{C:List Nat}
theorem nP{i j:Nat}{s:Sl}(h:(ρ.set i none)[j]?=some (some s)):j≠i/\ρ[j]?=some (some s):=by
 rcases lA h with⟨_,z,_⟩| ⟨n,e⟩
 cases z;exact⟨Qu n,e⟩
theorem Rl.off{σ':St}{i:Nat}(I:Rl K F H S ρ σ)(hl:σ'.length=σ.length)(e:∀k,k≠i->σ'[k]?=σ[k]?):Rl K F H S (ρ.set i none) σ' where
 fh:=I.fh
 len:=by rw[qM,I.len,hl]
 sl:=fun k s h=>by obtain⟨n,h⟩:=nP h;rw[e k n];exact I.sl k s h
 dj:=fun k l t s n h1 h2=>I.dj k l t s n (nP h1).2 (nP h2).2
end
section
variable{K:QC}{Γ:Ev}{Ψ:PEv}{E:XE}{EK:XK}{F H F1 H1 F2 H2:Hp}{S S1 S2:Ft}{ρ ρ1 ρ2:zA}{σ σ1 σ2:St}{C J:List Nat}
theorem Sts.bind{L:List Nat}(s:Sts C J F H S ρ σ F1 H1 S1 ρ1 σ1)(b:Bd L F1 H1 S1 ρ1 σ1 F2 H2 S2 ρ2 σ2)(hL:∀j∈L,j∈J)(hC:∀j∈L,j∉C):Sts C J F H S ρ σ F2 H2 S2 ρ2 σ2 :=
 ⟨s.ff.trans b.ff,fun x u e n=>b.hh x u (s.hh x u e n),fun x e=>s.dm x (b.dm x e),fun x e z=>by
  by_cases q:F1 x=none;exact .inr (s.dm x (b.fn x q z));exact s.fn x e q,fun x u=>s.uu x (b.U u),fun j t hj e hd=>by
  obtain⟨e1,e2,e3⟩:=b.out j fun z=>hj (hL j z);rw[e1]at e;obtain⟨g1,g2,g3⟩:=s.bo j t hj e hd;exact⟨g1,e2.trans g2,e3.trans g3⟩,fun j hj=>(b.out j fun z=>hC j z hj).2.2.trans (s.sg j hj)⟩
theorem NV{tg:Tg}{body:PEnds->zA->Prop}{tb:TS}{Z:PEnds}{Dn:Ends}{xs:List Item}{ys:List T}{st:Hp->Prop}{Y:ZA}
  (ib:∀{F H:Hp}{S:Ft}{ρ:zA}{σ:St}{Z:PEnds}{Dn:Ends},Rl K F H S ρ σ->bF K F H S ρ E EK->body Z ρ->EndsOk K C F H S ρ σ Z Dn->tb Dn σ H)
  (I:Rl K F H S ρ σ) (X:bF K F H S ρ E EK) (hC:∀j∈tg.ix,j∉C) (pr:Paired (D5 K F H Y) xs ys) (hy:∀b,Y b->¬ U ρ S b/\H b≠none/\F b=none) (hst:∀F' H',Same F F'->Same F' H'->(∀b,Y b->H' b=H b)->st H') (h:ZH body tg Z ys ρ)
  (onx:∀F' H' S' ρ' σ',Sts C tg.ix F H S ρ σ F' H' S' ρ' σ'->Rl K F' H' S' ρ' σ'->Z.nx ρ'->Dn.nx σ' H')
  (ort:∀v t W F' H' S' ρ' σ',Stc C F H S ρ σ F' H' S' ρ' σ'->Rl K F' H' S' ρ' σ'->Tr K F' H' true v t W->Held F' H' S' ρ' W->(∀b,W b->H b=none∨U ρ S b)->Z.rt t ρ'->Dn.rt v H'):Mg K xs st tg tb Dn σ H:=by
 intro J hJ;have len:=Ws pr;have yk:∀{F1 H1:Hp}{S1:Ft}{ρ1:zA}{σ1:St},Sts C tg.ix F H S ρ σ F1 H1 S1 ρ1 σ1->∀b,Y b->H1 b=H b/\F1 b=none:=fun {F1 H1 S1 ρ1 σ1} s b hb=>by
  obtain⟨n,d1,d2⟩:=hy b hb;refine⟨?_,?_⟩;cases e:H b with
  |none=>exact absurd e d1
  |some u=>exact s.hh b u e n
  by_cases q:F1 b=none
  ·exact q
  exact((s.fn b d2 q).elim n d1).elim
 refine⟨fun i m σ' H'=>i<=xs.length/\m=xs.length - i/\∃ρ' F' S',Sts C tg.ix F H S ρ σ F' H' S' ρ' σ'/\Rl K F' H' S' ρ' σ'/\ZH body tg Z (ys.drop i) ρ',⟨_,QAm _,rfl,ρ,F,S,.refl,I,by simpa using h⟩,?_⟩;rintro i m σ1 H1 ⟨hi,rfl,ρ1,F1,S1,s1,I1,h1⟩;have hs:=hst F1 H1 s1.ff I1.fh fun b hb=>(yk s1 b hb).1;rcases QA7 i xs.length with hlt|hge;refine .inr ⟨hJ.go i H1 hs hlt,fun σ' H'=>i+1<=xs.length/\∃ρ' F' S',Sts C tg.ix F H S ρ σ F' H' S' ρ' σ'/\Rl K F' H' S' ρ' σ'/\ZH body tg Z (ys.drop (i+1)) ρ',fun σ' H' ⟨a,b⟩=>⟨_,by omega,a,rfl,b⟩,fun x H2 hyl=>?_⟩;obtain⟨it,hx,hm⟩:=hJ.yld i H1 x H2 hs hlt hyl;obtain⟨y,hd,ry⟩:=Paired.get_of pr hx;rw[hd]at h1;unfold ZH at h1;have key:L3.bindI K tg it σ1 H1 fun σ2 H2=>tb { Dn with nx:=fun σ' H'=>i+1<=xs.length/\∃ρ' F' S',Sts C tg.ix F H S ρ σ F' H' S' ρ' σ'/\Rl K F' H' S' ρ' σ'/\ZH body tg Z (ys.drop (i+1)) ρ',ct:=fun σ' H'=>i+1<=xs.length/\∃ρ' F' S',Sts C tg.ix F H S ρ σ F' H' S' ρ' σ'/\Rl K F' H' S' ρ' σ'/\ZH body tg Z (ys.drop (i+1)) ρ',bk:=Dn.nx } σ2 H2:=by
  refine KM I1 (fun b hb u=>?_) (ry.mono s1.ff (yk s1)) h1 fun ρ2 σ2 F2 H3 S2 bd I2 h2=>?_;rcases s1.uu b u with q|q
  ·exact(hy b hb).1 q
  exact(hy b hb).2.1 q;have s2:=s1.bind bd (fun j hj=>hj) hC;exact ib I2 (X.fromS s2) h2 ⟨fun F' H' S' ρ' σ' s' I' q=>⟨hlt,ρ',F',S',s2.trans s',I',q⟩,fun v t W F' H' S' ρ' σ' s' I' r hw fr q=>ort v t W F' H' S' ρ' σ' (s2.c.trans s') I' r hw (Sn s2 fr) q,
   fun F' H' S' ρ' σ' s' I' q=>onx F' H' S' ρ' σ' (s2.trans s') I' q,fun F' H' S' ρ' σ' s' I' q=>⟨hlt,ρ',F',S',s2.trans s',I',q⟩⟩
 exact VM hm key;have e:ys.drop i=[]:=List.drop_eq_nil_of_le (by omega);rw[e]at h1;exact .inl ⟨hJ.stop i H1 hs hge,onx F1 H1 S1 ρ1 σ1 s1 I1 h1⟩
theorem OG:∀(J:List Nat) (ρ:zA) (i:Nat) s,(kill J ρ)[i]?=some (some s)->ρ[i]?=some (some s)/\(i∈J->∀t,s=.nv t->t.isD=true)
 |[],ρ,i,s,h=>⟨h,fun z=>by simp at z⟩
 |j::J,ρ,i,s,h=>by
  unfold kill at h;obtain⟨h1,h2⟩:=OG J _ i s h;rw[QBJ]at h1;by_cases e:j=i;subst e;simp only[reduceIte]at h1;cases q:ρ[j]? with
  |none=>rw[q]at h1;cases h1
  |some o =>
   rw[q]at h1;have h1:lR o=some s:=by simpa using h1
   cases o with
   |none=>cases h1
   |some sl =>
    cases sl with
    |own t=>cases h1;exact⟨rfl,fun _ t' z=>by cases z⟩
    |nv t =>
     have h1:(if t.isD=true then some (Sl.nv t) else none)=some s:=h1;cases hd:t.isD with
     |true=>rw[hd,if_pos rfl]at h1;cases h1;exact⟨rfl,fun _ t' z=>by cases z;exact hd⟩
     |false=>rw[hd]at h1;simp at h1
  simp only[e,if_false]at h1;refine⟨by simpa using h1,fun m=>h2 ((QL.mp m).elim (fun z=>absurd z.symm e) id)⟩
theorem zM:∀(J:List Nat) (ρ:zA),(kill J ρ).length=ρ.length
 |[],_=>rfl
 |j::J,ρ=>by unfold kill;rw[zM J];simp
theorem Sts.kill(s:Sts C J F H S ρ σ F1 H1 S1 ρ1 σ1):Sts C [] F H S ρ σ F1 H1 S1 (L3.kill J ρ1) σ1 :=
 ⟨s.ff,s.hh,s.dm,s.fn,fun b ⟨i,t,h1,h2⟩=>s.uu b ⟨i,t,(OG J ρ1 i _ h1).1,h2⟩,fun j t _ e hd=>by obtain⟨h1,h2⟩:=OG J ρ1 j _ e;by_cases hj:j∈J;rw[h2 hj t rfl]at hd;cases hd;exact s.bo j t hj h1 hd,s.sg⟩
theorem cR:∀(L:List Nat) (ρ:zA) (j:Nat),(lock L ρ)[j]?=if j∈L then ρ[j]?.map MG else ρ[j]?
 |[],ρ,j=>by simp[lock]
 |i::L,ρ,j=>by
  have l2:∀o,MG (MG o)=MG o:=fun o=>by
   match o with
   |none=>rfl
   |some (.own _)=>rfl
   |some (.nv _)=>rfl
  unfold lock;rw[cR L,QBJ];by_cases e:i=j;subst e;cases h:ρ[i]? with
  |none=>simp
  |some o=>simp[l2]
  have e':¬ j=i:=fun z=>e z.symm;simp[e,e']
theorem bR:∀(L:List Nat) (ρ:zA),(lock L ρ).length=ρ.length
 |[],_=>rfl
 |i::L,ρ=>by unfold lock;rw[bR L];simp
theorem xL:∀(L:List Nat) (ρ0 ρ:zA) (j:Nat),(∀i∈L,i<ρ.length)->(LC L ρ0 ρ)[j]?=if j∈L then some (ρ0[j]?.getD none) else ρ[j]?
 |[],ρ0,ρ,j,_=>by simp[LC]
 |i::L,ρ0,ρ,j,h=>by unfold LC;rw[xL L ρ0 _ j (fun k hk=>by simpa using h k (QG _ hk)),Wb];by_cases e:i=j;subst e;simp[h i QK];have e':¬ j=i:=fun z=>e z.symm;simp[e,e']
theorem vL:∀(L:List Nat) (ρ0 ρ:zA),(LC L ρ0 ρ).length=ρ.length
 |[],_,_=>rfl
 |i::L,ρ0,ρ=>by unfold LC;rw[vL L];simp
theorem vI{ρ:zA}:∀(is:List Nat),∀i∈MC ρ is,∃t,ρ[i]?=some (some (.own t))
 |[],i,h=>by simp[MC]at h
 |j::is,i,h=>by
  unfold MC at h;split at h
  ·rename_i ho
   rcases QL.mp h with e|e
   ·subst e
    unfold FL at ho;split at ho;rename_i t e;exact⟨t,e⟩
    all_goals cases ho
   exact vI is i e
  exact vI is i h
theorem DL{ρ:zA}{i:Nat}{t:T}(h:ρ[i]?=some (some (.own t))):∀(is:List Nat),i∈is->i∈MC ρ is
 |[],hi=>by simp at hi
 |j::is,hi=>by
  unfold MC;rcases QL.mp hi with e|e;subst e;have:FL ρ[i]?=true:=by rw[h];rfl
  rw[if_pos this];exact QK;have:=DL h is e;split;exact QG _ this;exact this
section
variable{L:List Nat}(hL:∀i∈L,∃t,ρ[i]?=some (some (.own t)))
include hL
theorem pK{i:Nat}{s:Sl}(h:(lock L ρ)[i]?=some (some s)):(i∈L/\∃t,ρ[i]?=some (some (.own t))/\s=.nv t)∨(i∉L/\ρ[i]?=some (some s)):=by rw[cR]at h;by_cases hi:i∈L;rw[if_pos hi]at h;obtain⟨t,e⟩:=hL i hi;rw[e]at h;injection h with h;injection h with h;exact .inl ⟨hi,t,e,h.symm⟩;rw[if_neg hi]at h;exact .inr ⟨hi,h⟩
theorem DF{b:Addr}(h:U (lock L ρ) S b):U ρ S b:=by
 obtain⟨i,t,h1,h2⟩:=h;rcases pK hL h1 with⟨_,t',_,e⟩| ⟨_,h1⟩
 cases e;exact⟨i,t,h1,h2⟩
theorem Rl.lock(I:Rl K F H S ρ σ):Rl K F H S (L3.lock L ρ) σ where
 fh:=I.fh
 len:=by rw[bR];exact I.len
 sl:=fun i s e=>by
  rcases pK hL e with⟨_,t,h,rfl⟩| ⟨_,h⟩
  obtain⟨v,h1,h2⟩:=I.sl i _ h;exact⟨v,h1,h2.weak⟩;exact I.sl i s h
 dj:=fun i j t s n e1 e2=>by
  rcases pK hL e1 with⟨_,_,_,z⟩| ⟨_,h1⟩
  cases z;rcases pK hL e2 with⟨_,t',h2,_⟩| ⟨_,h2⟩
  ·exact I.dj i j t _ n h1 h2
  exact I.dj i j t s n h1 h2
theorem Rl.lockU(I:Rl K F H S ρ σ){i:Nat}(hi:i∈L){b:Addr}(hb:S i b):¬ U (L3.lock L ρ) S b:=fun⟨j,t,h1,h2⟩=>by
 obtain⟨t',e⟩:=hL i hi;rcases pK hL h1 with⟨_,_,_,z⟩| ⟨hj,h1⟩
 cases z;exact I.dj j i t _ (fun z=>hj (z▸hi)) h1 e b h2 hb
theorem iW(I:Rl K F H S ρ σ)(s:Sts C [] F H S (lock L ρ) σ F1 H1 S1 ρ1 σ1)(I1:Rl K F1 H1 S1 ρ1 σ1)(hl:∀i∈L,ρ1[i]?=ρ[i]?.map MG) :
  ∃S2,Rl K F1 H1 S2 (LC L ρ ρ1) σ1/\Sts C [] F H S ρ σ F1 H1 S2 (LC L ρ ρ1) σ1:=by
 classical
 have l1:∀i∈L,∃t,ρ[i]?=some (some (.own t))/\ρ1[i]?=some (some (.nv t)):=fun i hi=>by obtain⟨t,e⟩:=hL i hi;have:=hl i hi;rw[e]at this;exact⟨t,e,this⟩
 have hlt:∀i∈L,i<ρ1.length:=fun i hi=>by obtain⟨t,_,e⟩:=l1 i hi;exact(Qr.mp e).1
 let S2:Ft:=fun i=>if i∈L then S i else S1 i
 have s2i:∀i∈L,S2 i=S i:=fun i hi=>if_pos hi;have s2o:∀i,i∉L->S2 i=S1 i:=fun i hi=>if_neg hi;have get:∀i sl,(LC L ρ ρ1)[i]?=some (some sl)->(i∈L/\∃t,ρ[i]?=some (some (.own t))/\ρ1[i]?=some (some (.nv t))/\sl=.own t)∨(i∉L/\ρ1[i]?=some (some sl)):=fun i sl e=>by rw[xL L ρ ρ1 i hlt]at e;by_cases hi:i∈L;rw[if_pos hi]at e;obtain⟨t,e1,e2⟩:=l1 i hi;rw[e1]at e;injection e with e;have e:some (Sl.own t)=some sl:=e;injection e with e;exact .inl ⟨hi,t,e1,e2,e.symm⟩;rw[if_neg hi]at e;exact .inr ⟨hi,e⟩
 have far:∀i∈L,∀k sl,k∉L->ρ1[k]?=some (some sl)->∀b,S i b->¬ S1 k b:=fun i hi k sl hk e b hb z=>by
  obtain⟨t,e1,_⟩:=l1 i hi;cases sl with
  |own u=>rcases s.uu b ⟨k,u,e,z⟩ with q|q;exact I.lockU hL hi hb q;exact(I.dom e1 hb).1 q
  |nv u =>
   cases hd:u.isD with
   |true=>exact I1.isD e hd z
   |false =>
    obtain⟨g1,g2,_⟩:=s.bo k u (by simp) e hd;rw[g2]at z;rcases pK hL g1 with⟨q,_⟩| ⟨_,g1⟩
    exact hk q;exact I.dj i k t _ (fun q=>hk (q▸hi)) e1 g1 b hb z
 refine⟨S2,⟨I1.fh,by rw[vL];exact I1.len,fun i sl e=>?_,fun i k t sl n e1 e2 b hb hk=>?_⟩,⟨s.ff,fun b u e n=>s.hh b u e fun z=>n (DF hL z),s.dm,fun b e z=>(s.fn b e z).imp (DF hL) id,fun b ⟨i,t,h1,h2⟩=>?_,fun j t _ e hd=>?_,s.sg⟩⟩;rcases get i sl e with⟨hi,t,e1,e2,rfl⟩| ⟨hi,e1⟩
 ·rw[s2i i hi]
  obtain⟨v,g1,g2⟩:=I.sl i _ e1;cases hd:t.isD with
  |true =>
   obtain⟨v',g3,g4⟩:=I1.sl i _ e2;refine⟨v',g3,?_⟩;have nb:∀b,¬ S i b:=fun b=>I.isD e1 hd;cases t with
   |d x =>
    have g4:Tr K F1 H1 false v' (.d x) (S1 i):=g4;cases g4 with
    |d r _=>exact .d r nb
   |_=>cases hd
  |false =>
   obtain⟨_,_,g5⟩:=s.bo i t (by simp) e2 hd;refine⟨v,g5.trans g1,?_⟩;have g2:Tr K F H true v t (S i):=g2;refine g2.mono s.ff fun b hb=>?_;obtain⟨d1,d2⟩:=g2.dom b hb;have nu:=I.lockU hL hi hb;refine⟨?_,?_⟩;cases eb:H b with
   |none=>exact absurd eb d1
   |some u=>exact s.hh b u eb nu
   by_cases q:F1 b=none
   ·exact q
   exact((s.fn b d2 q).elim nu d1).elim
 rw[s2o i hi];exact I1.sl i sl e1;rcases get i _ e1 with⟨hi,t',a1,a2,_⟩| ⟨hi,a1⟩
 ·rw[s2i i hi]at hb
  rcases get k sl e2 with⟨hk',t2,b1,b2,_⟩| ⟨hk',b1⟩
  rw[s2i k hk']at hk;exact I.dj i k t' _ n a1 b1 b hb hk;rw[s2o k hk']at hk;exact far i hi k sl hk' b1 b hb hk
 rw[s2o i hi]at hb;rcases get k sl e2 with⟨hk',t2,b1,b2,_⟩| ⟨hk',b1⟩
 rw[s2i k hk']at hk;exact far k hk' i _ hi a1 b hk hb;rw[s2o k hk']at hk;exact I1.dj i k t sl n a1 b1 b hb hk;rcases get i _ h1 with⟨hi,t',a1,a2,_⟩| ⟨hi,a1⟩
 ·rw[s2i i hi]at h2
  exact .inl ⟨i,t',a1,h2⟩
 rw[s2o i hi]at h2;exact(s.uu b ⟨i,t,a1,h2⟩).imp (DF hL) id;rcases get j _ e with⟨_,_,_,_,z⟩| ⟨hj,e1⟩
 ·cases z
 obtain⟨g1,g2,g3⟩:=s.bo j t (by simp) e1 hd;rcases pK hL g1 with⟨q,_⟩| ⟨_,g1⟩
 exact absurd q hj;exact⟨g1,(s2o j hj).trans g2,g3⟩
end
theorem nH{i:Nat}(h:(!C.contains i)=true):i∉C:=fun z=>by have:C.contains i=true:=QU.mpr z;rw[this]at h;cases h
theorem RQ{is:List Nat}(h:(is.all fun i=>!C.contains i)=true):∀i∈is,i∉C:=fun i hi=>nH (Qk.mp h i hi)
theorem IY{v:V}{t:T}{W:ZA}{Z:PEnds}{Dn:Ends}(ok:EndsOk K C F H S ρ σ Z Dn)(s:Ste F H S ρ F1 H1 S1 ρ1)(I:Rl K F1 H1 S1 ρ1 σ)(r:Tr K F1 H1 true v t W)(hw:Held F1 H1 S1 ρ1 W)(fr:∀b,W b->H b=none∨U ρ S b)(q:Z.rt t ρ1):Dn.rt v H1 :=
 ok.rt v t W F1 H1 S1 ρ1 σ (s.toStp.sts (J:=[])).c I r hw fr q
theorem EO(g:GOk K Γ Ψ):∀(e:PX) {F H:Hp}{S:Ft}{ρ:zA}{σ:St}{Z:PEnds}{Dn:Ends},Rl K F H S ρ σ->bF K F H S ρ E EK->mD Ψ E Z.rt e ρ->EndsOk K C F H S ρ σ Z Dn->(wp K Γ e EK).e σ H Dn.rt:=by
  intro e F H S ρ σ Z Dn I X h ok;have gen:∀e,(pe Ψ e E).e ρ (fun x n ρ1=>AK x n=true/\Z.rt x ρ1)->(wp K Γ e EK).e σ H Dn.rt:=fun e h=>by refine(MA g e).e (Q:=fun x n ρ1=>AK x n=true/\Z.rt x ρ1) I X h fun v F' H' S' ρ' x n Za s J r ⟨he,q⟩=>?_;obtain⟨W,r2,hw,fr⟩:=r.strict he;exact IY ok s J r2 hw fr q
  cases e with
  |ife t a b =>
   have h:(pe Ψ t E).t ρ fun k ρ1=>if k=true then mD Ψ E Z.rt a ρ1 else mD Ψ E Z.rt b ρ1:=h
   refine(MA g t).t I X h fun k F' H' S' ρ' s J q=>?_;cases k with
   |true=>exact EO g a J (X.from s.toStp) q (ok.from s.toStp.sts)
   |false=>exact EO g b J (X.from s.toStp) q (ok.from s.toStp.sts)
  |var i =>
   have h':Bm ρ i Z.rt ρ[i]?:=h;show(match σ[i]? with|some (some v)=>Dn.rt v _|_=>False)
   match hd:ρ[i]?,h' with
   |some (some (.own t)),h' =>
    obtain⟨v,h1,r⟩:=I.sl i _ hd;rw[h1];have I0:Rl K F H S (ρ.set i none) σ:=I.drop (by simp) fun j s e=>by
     rcases lA e with⟨_,z,_⟩| ⟨_,e⟩
     cases z;exact e
    refine ok.rt v t (S i) F H S (ρ.set i none) σ ⟨.refl _,fun b u e _=>e,fun b e=>e,fun b e z=>absurd e z,fun b ⟨j,u,h1,h2⟩=>.inl ?_,fun _ _=>rfl⟩ I0 r ⟨r.dom,fun j s e b hb z=>?_⟩ (fun b hb=>.inr ⟨i,t,hd,hb⟩) h';rcases lA h1 with⟨_,z,_⟩| ⟨_,h1⟩
    ·cases z
    exact⟨j,u,h1,h2⟩;rcases lA e with⟨_,q,_⟩| ⟨n,e⟩
    ·cases q
    exact I.dj i j t s n hd e b hb z
   |some (some (.nv t)),h' =>
    obtain⟨v,h1,r⟩:=I.sl i _ hd;rw[h1];obtain⟨ht,h'⟩:=h';cases t with
    |d x =>
     have r:Tr K F H false v (.d x) (S i):=r;cases r with
     |d q n=>exact IY (W:=fun _=>False) ok .refl I (.d q fun _ z=>z) .none (fun _ z=>z.elim) h'
    |_=>cases ht
   |some none,h'=>exact h'.elim
   |none,h'=>exact h'.elim
  |_=>exact gen _ h
theorem ZL(g:GOk K Γ Ψ):∀(p:PT) {F H:Hp}{S:Ft}{ρ:zA}{σ:St}{Z:PEnds}{Dn:Ends},SL C p=true->Rl K F H S ρ σ->bF K F H S ρ E EK->YA Ψ E p Z ρ->EndsOk K C F H S ρ σ Z Dn->gQ K Γ EK p Dn σ H
 | .nil,_,_,_,_,_,_,_,c,I,X,h,ok=>ok.nx _ _ _ _ _ .refl I h
 | .seq s r,_,_,_,_,_,_,_,c,I,X,h,ok=>by obtain⟨c1,c2⟩:=jA c;exact ZL g s c1 I X h ⟨fun F' H' S' ρ' σ' s' J q=>ZL g r c2 J (X.fromS s') q (ok.from s'),ok.rt,ok.bk,ok.ct⟩
 | .set i e,F,H,S,ρ,σ,Z,Dn,c,I,X,h,ok=>by have hi:=nH c;refine HL (RR:=fun x H1=>Dn.nx (σ.set i (some x)) H1) (MA g e) I X h fun v F' H' S' ρ' x n Za s J X' r er _ ⟨he,q⟩=>?_;exact ok.nx _ _ _ _ _ (s.toStp.sts.setD i hi v rfl _) (J.setD i (er he)) q
 | .setT is e,F,H,S,ρ,σ,Z,Dn,c,I,X,h,ok=>by
  have hC:=RQ c;refine HL (RR:=fun v H1=>uF K (.tp is) v σ H1 fun σ2 H2=>Dn.nx σ2 H2) (MA g e) I X h fun v F' H' S' ρ' x n Za s J X' r er _ ⟨he,q⟩=>?_;have q':sK (.tp is) (.d x.er) ρ' fun ρ2=>(∀(j:Nat) t,ρ2[j]?=some (some (.nv t))->t.isD=false->j∉is)/\Z.nx ρ2:=by
   cases hx:x.er with
   |tuple ds=>rw[hx]at q;obtain⟨ρ2,e,q⟩:=q;exact⟨ρ2,e,fun j t h1 h2=>(GN is ds e j t h1 h2).1,q⟩
   |_=>rw[hx]at q;exact q.elim
  refine KM (Y:=fun _=>False) (it:=.one v) J (fun _ z=>z.elim) ⟨fun _=>False,.d (er he) fun _ z=>z,fun _ z=>z⟩ q' fun ρ2 σ2 F2 H2 S2 b J2 ⟨q1,q2⟩=>?_;have s2:=(Sts.bind (C:=C) (J:=is) s.toStp.sts b (fun j hj=>hj) hC)
  exact ok.nx _ _ _ _ _ ⟨s2.ff,s2.hh,s2.dm,s2.fn,s2.uu,fun m t _ e hd=>s2.bo m t (q1 m t e hd) e hd,s2.sg⟩ J2 q2
 | .expr e,F,H,S,ρ,σ,Z,Dn,c,I,X,h,ok=>(MA g e).e I X h fun v F' H' S' ρ' x n Za s J r q=>ok.nx _ _ _ _ _ s.toStp.sts J q
 | .ret e,F,H,S,ρ,σ,Z,Dn,c,I,X,h,ok=>EO g e I X h ok
 | .ife t a b,F,H,S,ρ,σ,Z,Dn,c,I,X,h,ok=>by
  obtain⟨c1,c2⟩:=jA c;refine(MA g t).t I X h fun k F' H' S' ρ' s J q=>?_;cases k with
  |true=>exact ZL g a c1 J (X.from s.toStp) q (ok.from s.toStp.sts)
  |false=>exact ZL g b c2 J (X.from s.toStp) q (ok.from s.toStp.sts)
 | .for_ tg ik its body,F,H,S,ρ,σ,Z,Dn,c,I,X,h,ok=>by
  obtain⟨c1,c2⟩:=jA c;have hC:=RQ c1;refine HM (RR:=fun vs H1=>HD K ik vs H1 fun xs st H2=>Mg K xs st tg (gQ K Γ EK body) Dn σ H2) (MA g its) I X h fun vs F1 H1 S1 ρ1 xs Y s1 I1 X1 tn tm q=>?_;rw[zL _ rfl]at q;have ok1:=ok.from s1.toStp.sts;cases ha:MM xs with
  |true=>have tn':=tn.bare (dW ha);refine PJ I1.fh tn' q fun its ys st pr hst hc=>?_;rw[ha,if_pos rfl]at hc;refine NV (fun I X h ok=>ZL g body c2 I X h ok) I1 X1 hC pr (fun b z=>z.elim) hst hc ?_ ?_;exact fun F' H' S' ρ' σ' s' I' q=>ok1.nx _ _ _ _ _ s'.kill (I'.drop (zM _ _) fun i sl e=>(OG _ _ i sl e).1) q;exact fun v t W F' H' S' ρ' σ' s' I' r hw fr q=>ok1.rt v t W F' H' S' ρ' σ' s' I' r hw fr q
  |false =>
   refine PJ I1.fh tn q fun its' ys st pr hst hc=>?_;rw[ha,if_neg (by simp)]at hc;have hL:=vI (ρ:=ρ1) (JH its);have IL:=I1.lock hL;have sL:Sts C [] F1 H1 S1 ρ1 σ F1 H1 (fun _ _=>False) [] σ:=⟨.refl _,fun b u e _=>e,fun b e=>e,fun b e z=>absurd e z,fun b ⟨i,t,e,_⟩=>by simp at e,fun j t _ e=>by simp at e,fun _ _=>rfl⟩
   have XL:bF K F1 H1 S1 (lock (MC ρ1 (JH its)) ρ1) E EK:=fun x dx F2 H2 S2 ρ2 s2 f r q =>
    X1 x dx F2 H2 (fun _ _=>False) [] ⟨s2.ff,fun b u e n=>s2.hh b u e fun z=>n (DF hL z),s2.dm,fun b e z=>(s2.fn b e z).imp (DF hL) id,fun b ⟨i,t,e,_⟩=>by simp at e,fun j t e=>by simp at e⟩ f r q
   refine NV (fun I X h ok=>ZL g body c2 I X h ok) IL XL hC pr (fun b hb=>?_) hst hc ?_ ?_;obtain⟨i,sl,h1,h2,h3⟩:=tm b hb;refine⟨fun u=>?_,I1.dom h2 h3⟩;cases sl with
   |own t=>exact I1.lockU hL (DL h2 _ h1) h3 u
   |nv t =>
    obtain⟨j,t',e1,e2⟩:=u;rcases pK hL e1 with⟨_,_,_,z⟩| ⟨_,e1⟩
    cases z;exact I1.dj j i t' _ (fun z=>by subst z;rw[h2]at e1;cases e1) e1 h2 b e2 h3
   intro F' H' S' ρ' σ' s' I' ⟨q1,q2⟩;have sk:=s'.kill;have Ik:=I'.drop (zM tg.ix ρ') fun i sl e=>(OG _ _ i sl e).1;obtain⟨S2,I2,s2⟩:=iW hL I1 sk Ik fun i hi=>(q1 i hi).2;exact ok1.nx _ _ _ _ _ s2 I2 q2;intro v t W F' H' S' ρ' σ' s' I' r hw fr q;exact ok1.rt v t W F' H' S' ρ' σ' ⟨s'.ff,fun b u e n=>s'.hh b u e fun z=>n (DF hL z),s'.dm,fun b e z=>(s'.fn b e z).imp (DF hL) id,fun b u=>(s'.uu b u).imp (DF hL) id,s'.sg⟩ I' r hw (fun b hb=>(fr b hb).imp id (DF hL)) q
 | .own i e,F,H,S,ρ,σ,Z,Dn,c,I,X,h,ok=>by refine(MA g e).e (Q:=fun x n ρ1=>AK x n=true/\Z.nx (ρ1.set i (some (.own x)))) I X h fun v F' H' S' ρ' x n Za s J r ⟨he,q⟩=>?_;obtain⟨W,r2,hw,fr⟩:=r.strict he;exact ok.nx _ _ _ _ _ (s.toStp.sts.setN i (nH c) v x fr) (J.setN i r2 fun j sl _ e b hb=>hw.nw j sl e b hb) q
 | .six j i e,F,H,S,ρ,σ,Z,Dn,c,I,X,h,ok=>by
  have h:EI ρ[j]? _:=h;unfold EI at h;split at h;rename_i t hj;obtain⟨v0,hv,r0⟩:=I.sl j _ hj;have r0:Tr K F H true v0 t (S j):=r0;show(wp K Γ e EK).e σ H fun v H1=>(match σ[j]? with|some (some ov)=>(wp K Γ i EK).e σ H1 fun iv H3=>bV ov iv v H3 fun H4=>Dn.nx σ H4|_=>False)
  refine HL (MA g e) (I.lock1 hj) (X.lock1 hj) h fun xv F1 H1 S1 ρ1 x n Zx s1 I1 X1 _ er1 _ ⟨he,q1⟩=>?_;have rx:=er1 he;rw[hv];refine HL (MA g i) I1 X1 q1 fun iv F2 H2 S2 ρ2 y m Zy s2 I2 X2 _ er2 _ ⟨he2,hj2,q2⟩=>?_;have s12:=s1.trans s2;refine Zd (s12.toStp.keep r0 (I.lock1U hj)) (er2 he2) (rx.mono s2.ff) q2 fun t' H3 S3 hh dm rt sub q=>?_;obtain⟨st,I3,_⟩:=XQ (W:=fun _=>False) I hj hv s12 I2 hh dm rt (fun b hb=>.inl (sub b hb)) .none (fun _ z=>z.elim);exact ok.nx _ _ _ _ _ st.toStp.sts I3 q
  all_goals exact h.elim
 | .rse x m e,F,H,S,ρ,σ,Z,Dn,c,I,X,h,ok=>by
  obtain⟨hm,y,hc,h⟩:=h;obtain⟨C0,eC,Y⟩:=(g.va x _ hc F).cls_i;refine⟨?_,C0,y,eC,Y,?_⟩;cases m with
  |none=>trivial
  |some j =>
   obtain⟨p,e1,e2⟩:=hm;obtain⟨v,h1,r⟩:=I.sl j _ e1;have r:Tr K F H false v (.d (.int p)) (S j):=r;cases r with
   |d q n=>cases q;exact⟨p,h1,e2⟩
  refine(MA g e).e I X h fun v F' H' S' ρ' x n Za s J r ⟨p,ev,q⟩=>?_;subst ev;have ri:=r.tr;cases ri with
  |d ri _ =>
   cases ri;refine⟨p,rfl,fun ea dx n1 n2 n3=>?_⟩;have f1:F' ea=none:=by
    cases z:F' ea with
    |none=>rfl
    |some u=>have:=J.fh _ _ z;rw[n1]at this;cases this
   have f2:F' dx=none:=by
    cases z:F' dx with
    |none=>rfl
    |some u=>have:=J.fh _ _ z;rw[n2]at this;cases this
   have nn:∀(G:Hp) b u,G ea=none->G dx=none->G b=some u->(FA (FA G dx (.xd (OI p))) ea (.ext (KH C0 ea dx))) b=some u:=fun G b u a1 a2 e=>by rw[vA (KA e a1),vA (KA e a2)];exact e
   refine X (y,p) (some ea) (FA (FA F' dx (.xd (OI p))) ea (.ext (KH C0 ea dx))) _ (fun _ _=>False) [] ⟨fun b u e=>nn F' b u f1 f2 (s.ff b u e),fun b u e nu=>nn H' b u n1 n2 (s.hh b u e nu),fun b e=>?_,fun b e z=>?_,fun b ⟨i,t,e,_⟩=>by simp at e,fun j t e=>by simp at e⟩ (fun b u e=>?_) ⟨ea,rfl,.exc dA ((vA n3).trans dA) Y⟩ q;by_cases z1:b=ea
   ·rw[z1,dA]at e;cases e
   rw[vA z1]at e;by_cases z2:b=dx;rw[z2,dA]at e;cases e;rw[vA z2]at e;exact s.dm b e;by_cases z1:b=ea
   ·exact .inr (s.dm b (by rw[z1];exact n1))
   by_cases z2:b=dx
   ·exact .inr (s.dm b (by rw[z2];exact n2))
   rw[vA z1,vA z2]at z;exact s.fn b e z;by_cases z1:b=ea
   ·rw[z1,dA]at e ⊢;exact e
   rw[vA z1]at e ⊢;by_cases z2:b=dx;rw[z2,dA]at e ⊢;exact e;rw[vA z2]at e ⊢;exact J.fh b u e
 | .tryC i f as x j k,F,H,S,ρ,σ,Z,Dn,c,I,X,h,ok=>by
  obtain⟨⟨jk,hk⟩,hc,hJ,h⟩:=h;obtain⟨C0,eC,Y⟩:=(g.va x _ hc F).cls_i;obtain⟨c1,c2⟩:=jA c;obtain⟨c2,c3⟩:=jA c2;refine⟨⟨C0,eC,Y⟩,d4 g (MA g as) I hJ h (fun v F' H' S' r Zr s J vr q=>?_) fun y dx F' H' S' s J xr q=>?_⟩;cases i with
  |none=>exact ok.nx _ _ _ _ _ s.toStp.sts J q
  |some i=>obtain⟨F2,Z2,s2,J2,_,e2,_,_⟩:=vr.frz s J;exact ok.nx _ _ _ _ _ (s2.toStp.sts.setD i (nH c1) v rfl _) (J2.setD i (e2 rfl)) q
  obtain⟨a,ed,rp⟩:=xr;refine⟨a,ed,?_⟩;have J1:=J.setD j rp;have s1:Sts C [] F H S ρ σ F' H' (DI S' j fun _=>False) (ρ.set j (some (.nv (.d (HF y.1 y.2))))) (σ.set j (some (.ref a))):=s.toStp.sts.setD j (nH c2) (.ref a) rfl _;have e1:(ρ.set j (some (Sl.nv (.d (HF y.1 y.2)))))[k]?=some none:=(Qm jk).trans hk;have e2:(ρ.set j (some (Sl.nv (.d (HF y.1 y.2))))).set k none=ρ.set j (some (.nv (.d (HF y.1 y.2)))):=by apply QAd;intro m;by_cases z:m=k;subst z;rw[Q4 (Qr.mp e1).1,e1];rw[Qm (Qu z)]
  have J2:=J1.off (i:=k) (σ':=(σ.set j (some (.ref a))).set k none) (by simp) fun m hm=>Qm (Qu hm);rw[e2]at J2;refine ok.nx _ _ _ _ _ ⟨s1.ff,s1.hh,s1.dm,s1.fn,s1.uu,fun m t hm e hd=>?_,fun m hm=>?_⟩ J2 q;have mk:m≠k:=fun z=>by rw[z,e1]at e;cases e
  rw[Qm (Qu mk)];exact s1.bo m t hm e hd;rw[Qm (fun z:k=m=>nH c3 (by rw[z];exact hm))];exact s1.sg m hm
end
noncomputable def Ll(x:Str)(n:String):Bool:=(x==("bool":Str)&&n == "bool")||(x==("int":Str)&&n == "int")||(x==("str":Str)&&n == "str")||(x==("list":Str)&&n == "list")||(x==("tuple":Str)&&n == "tuple")||(x==("ValueError":Str)&&n == "ValueError")
theorem JY{x:Str}{n:String}(h:Ll x n=true):bootBuiltins x=some (.type n):=by simp only[Ll,qq,QN,beq_iff_eq]at h;rcases h with((((⟨rfl,rfl⟩| ⟨rfl,rfl⟩)|⟨rfl,rfl⟩)|⟨rfl,rfl⟩)|⟨rfl,rfl⟩)|⟨rfl,rfl⟩<;>kernel_rfl
structure Need where
 fn:List Str
 va:List Str
 no:List Str
 dc:List Str:=[]
noncomputable def Yi(n:Need):Prm->Bool
 | .dget x | .dix x=>n.dc.contains x
 | .tmul=>true
 | .plc=>true
 | .ngt=>true
 | .din _=>true
 | .dgt=>true
 | .isC=>n.no.contains ("isinstance":Str)
 | .isT x m=>n.no.contains ("isinstance":Str)&&(n.no.contains x&&Ll x m)
noncomputable def Sm(n:Need):ItK->Bool
 | .val=>true
 | .rng1 | .rng3=>n.no.contains ("range":Str)
 | .zip2=>n.no.contains ("zip":Str)
noncomputable def pB(n:Need):PX->Bool
 | .glo x=>n.va.contains x
 | .bty x t=>n.no.contains x&&Ll x t
 | .bin _ a b | .cmp _ a b | .and a b | .or a b | .idx a b | .nq a b=>pB n a&&pB n b
 | .not a | .lst a | .tup a | .dsp _ a=>pB n a
 | .chn _ _ a b c | .ife a b c | .slc a b c=>pB n a&&(pB n b&&pB n c)
 | .call f as=>n.fn.contains f&&pB n as
 | .bi f as=>n.no.contains f.nm&&pB n as
 | .prm o as=>Yi n o&&pB n as
 | .isi a c=>n.no.contains ("isinstance":Str)&&(pB n a&&pB n c)
 | .mt _ o as=>pB n o&&pB n as
 | .comp _ _ _ ik its cond elt=>Sm n ik&&(pB n its&&(pB n cond&&pB n elt))
 |_=>true
noncomputable def bI(n:Need):PT->Bool
 | .seq s r=>bI n s&&bI n r
 | .set _ e=>pB n e
 | .own _ e=>pB n e
 | .expr e=>pB n e
 | .setT _ e=>pB n e
 | .ret e=>pB n e
 | .ife c a b=>pB n c&&(bI n a&&bI n b)
 | .for_ _ ik its body=>Sm n ik&&(pB n its&&bI n body)
 | .nil=>true
 | .six _ i e=>pB n i&&pB n e
 | .rse x _ e=>n.va.contains x&&(n.no.contains ("raise":Str)&&pB n e)
 | .tryC _ f as x _ _=>n.fn.contains f&&(pB n as&&n.va.contains x)
noncomputable def dM(ev:Ev)(n:Need):Glob:=⟨ev,fun f=>f∈n.fn,fun x=>x∈n.va,fun x=>x∈n.no,fun x=>x∈n.dc⟩
theorem O2{ev:Ev}{n:Need}{ik:ItK}(h:Sm n ik=true):Al (dM ev n) ik:=by
 cases ik with
 |val=>trivial
 |_=>exact QU.mp h
theorem F6{ev:Ev}{n:Need}{o:Prm}(h:Yi n o=true):Ji (dM ev n) o:=by
 cases o with
 |tmul=>trivial
 |plc=>trivial
 |ngt=>trivial
 |din _=>trivial
 |dgt=>trivial
 |isC=>exact QU.mp h
 |isT x m=>obtain⟨h1,h2⟩:=jA h;obtain⟨h2,h3⟩:=jA h2;exact⟨QU.mp h1,QU.mp h2,JY h3⟩
 |dget x=>exact QU.mp h
 |dix x=>exact QU.mp h
theorem GD{ev:Ev}{n:Need}:∀(p:PX),pB n p=true->SA (dM ev n) p:=by
 intro p;induction p with
 |glo x=>intro h;exact QU.mp h
 |bty x t=>intro h;obtain⟨h1,h2⟩:=jA h;exact⟨QU.mp h1,JY h2⟩
 |bin _ a b ia ib|cmp _ a b ia ib|and a b ia ib|or a b ia ib|idx a b ia ib|nq a b ia ib=>intro h;obtain⟨h1,h2⟩:=jA h;exact⟨ia h1,ib h2⟩
 |not a ia|lst a ia|tup a ia|dsp _ a ia=>intro h;exact ia h
 |chn _ _ a b c ia ib ic|ife a b c ia ib ic|slc a b c ia ib ic=>intro h;obtain⟨h1,h23⟩:=jA h;obtain⟨h2,h3⟩:=jA h23;exact⟨ia h1,ib h2,ic h3⟩
 |call f as ia=>intro h;obtain⟨h1,h2⟩:=jA h;exact⟨QU.mp h1,ia h2⟩
 |bi f as ia=>intro h;obtain⟨h1,h2⟩:=jA h;exact⟨QU.mp h1,ia h2⟩
 |prm o as ia=>intro h;obtain⟨h1,h2⟩:=jA h;exact⟨F6 h1,ia h2⟩
 |isi a c ia ic=>intro h;obtain⟨h1,h23⟩:=jA h;obtain⟨h2,h3⟩:=jA h23;exact⟨QU.mp h1,ia h2,ic h3⟩
 |mt _ o as io ia=>intro h;obtain⟨h1,h2⟩:=jA h;exact⟨io h1,ia h2⟩
 |comp _ _ _ ik its cond elt i1 i2 i3=>intro h;obtain⟨h1,h⟩:=jA h;obtain⟨h2,h⟩:=jA h;obtain⟨h3,h4⟩:=jA h;exact⟨O2 h1,i1 h2,i2 h3,i3 h4⟩
 |_=>intro _;trivial
theorem fX{ev:Ev}{n:Need}:∀(p:PT),bI n p=true->uI (dM ev n) p:=by
 intro p;induction p with
 |seq s r is ir=>intro h;obtain⟨h1,h2⟩:=jA h;exact⟨is h1,ir h2⟩
 |set _ e|own _ e|expr e|ret e|setT _ e=>intro h;exact GD _ h
 |six _ i e=>intro h;obtain⟨h1,h2⟩:=jA h;exact⟨GD _ h1,GD _ h2⟩
 |rse x m e=>intro h;obtain⟨h1,h23⟩:=jA h;obtain⟨h2,h3⟩:=jA h23;exact⟨QU.mp h1,QU.mp h2,GD _ h3⟩
 |tryC i f as x j k=>intro h;obtain⟨h1,h23⟩:=jA h;obtain⟨h2,h3⟩:=jA h23;exact⟨QU.mp h1,GD _ h2,QU.mp h3⟩
 |ife c a b ia ib=>intro h;obtain⟨h1,h23⟩:=jA h;obtain⟨h2,h3⟩:=jA h23;exact⟨GD _ h1,ia h2,ib h3⟩
 |for_ _ ik its body ib=>intro h;obtain⟨h1,h23⟩:=jA h;obtain⟨h2,h3⟩:=jA h23;exact⟨O2 h1,GD _ h2,ib h3⟩
 |_=>intro _;trivial
noncomputable def mM(N ps:List Str)(sc:Scope):Bool:=sc.kind==.function&&!sc.isCoroutine&&!sc.isGenerator&&FG N&&N.take ps.length==ps &&
 ps.all (fun x=>sc.names.lookup x==some .local||sc.names.lookup x==some .cell)&&sc.names.all fun y=>y.2 != .free
theorem RG{N ps:List Str}{sc:Scope}(h:mM N ps sc=true):FnScope N ps sc:=by simp only[mM,QN,Qk,qq,beq_iff_eq,wQ,bne_iff_ne,ne_eq]at h;obtain⟨⟨⟨⟨⟨⟨h1,h2⟩,h3⟩,h4⟩,h5⟩,h6⟩,h7⟩:=h;exact⟨h1,h2,h3,kD h4,h5,h6,h7⟩
noncomputable def mB(n:Need)(b:PT)(N ps:List Str)(st:Stmt):Bool:=mM N ps (oA st)&&tU b ⟨N,oA st⟩ (EB st)&&bI n b
noncomputable def He:Md->T->Sl
 | .chg,t=>.own t
 |_,t=>.nv t
noncomputable def sE:List Md->List T->zA
 |_,[]=>[]
 |md,t::ts=>some (He (md.headD .nz) t)::sE md.tail ts
noncomputable def bA(N:List Str)(md:List Md)(ts:List T):zA:=sE md ts++QI (N.length - ts.length) none
noncomputable def zC:Nat->List Md->Nat->List Nat
 |_,_,0=>[]
 |k,md,n+1=>match md.headD .nz with
  | .chg=>k::zC (k+1) md.tail n
  |_=>zC (k+1) md.tail n
noncomputable def Le:Option (List T)->(List T->Prop)->Prop
 |some os,Q=>Q os
 |none,_=>False
noncomputable def aA(P:PSp)(n:Nat)(Q:T->List T->Prop):PEnds where
 nx:=fun ρ=>Le (KC (zC 0 P.md n) ρ) (Q (.d .none))
 rt:=fun t ρ=>Le (KC (zC 0 P.md n) ρ) (Q t)
noncomputable def XS(mg:Str->Option Value)(x:Str):V:=((mg x).bind GK).getD .non
noncomputable def RX(e:DictEntry):Str×V:=((match e.key with | .str z _=>z|_=>""),(GK e.val).getD .non)
noncomputable def kg(K:QC)(mg:Str->Option Value)(x:Str):Option (List (Str×V)):=match mg x with
 |some (.ref a)=>match K.lookup a with
  |some o=>match o.data with
   | .dict es _=>some (es.toList.map RX)
   |_=>none
  |none=>none
 |_=>none
noncomputable def Ef(K:QC)(mg:Str->Option Value)(Ψ:PEv):Ev:=⟨fun f=>lift K (Ψ.sp f),XS mg,kg K mg⟩
structure DictOk(P:Program)(w:World)(K:QC)(mg:Str->Option Value)(x:Str)(kds:List (Str×D)):Prop where
 at':∃a kvs,mg x=some (.ref a)/\kg K mg x=some kvs/\y9 P w K a kvs/\Paired (fun(p:Str×V) (q:Str×D)=>p.1=q.1/\∀F,Rep K F p.2 q.2) kvs kds
structure ValsOk(P:Program)(w:World)(K:QC)(mg:Str->Option Value)(Ψ:PEv)(va dc:List Str):Prop where
 dic:∀x kds,Ψ.dc x=some kds->DictOk P w K mg x kds
 hasD:∀x∈dc,∃kds,Ψ.dc x=some kds
 rep:∀x d,Ψ.va x=some d->∀F,Rep K F (XS mg x) d
 has:∀x∈va,∃u v,mg x=some u/\GK u=some v
theorem uV{u:Value}{v:V}(h:GK u=some v):sA v u:=by cases u<;>simp[GK]at h<;>subst h<;>first|rfl|exact⟨_,rfl⟩
section
variable{P:Program}{w:World}{K:QC}{mg:Str->Option Value}{base:Heap}{Ψ:PEv}
noncomputable abbrev n5(P:Program)(w:World)(K:QC):DU:=z9 P w K (wOf K) (iOf K)
def lY(P:Program)(w:World)(K:QC)(mg:Str->Option Value)(base:Heap):Prop:=∃fd,(∀k,FnOk P w K mg base i5 (k+1) (iOf K) fd ["self","words","place"] (DN K (wOf K) (iOf K)))/\AD K fd ["self","words","place"] []
def dD(P:Program)(w:World)(K:QC)(mg:Str->Option Value)(base:Heap)(Ψ:PEv)(k:Nat)(f:Str):Prop :=
 ∃(a:Addr) (fd:FuncData) (ps:List Str),FnOk P w K mg base (n5 P w K) k a fd ps (lift K (Ψ.sp f))/\mg f=some (.ref a)/\qU K (.ref a)=true/\AD K fd ps []
theorem dD.mono{j k:Nat}{f:Str}(h:dD P w K mg base Ψ j f)(hk:j<=k):dD P w K mg base Ψ k f:=by obtain⟨a,fd,ps,h1,h2⟩:=h;exact⟨a,fd,ps,h1.mono hk,h2⟩
theorem ArgsR.length{F H:Hp}{Y:ZA}:∀{md:List Md}{vs:List V}{ts:List T},ArgsR K F H Y md vs ts->vs.length=ts.length
 |_,_,_,.nil=>rfl
 |_,_,_,.chg _ t=>by rw[QH,QH,ArgsR.length t]
 |_,_,_,.rd _ _ _ t=>by rw[QH,QH,ArgsR.length t]
theorem AI:∀(m:List Md) (ts:List T),(sE m ts).length=ts.length
 |_,[]=>rfl
 |m,d::ds=>by unfold sE;rw[QH,QH,AI]
theorem BZ{m:Md}(h:m≠.chg)(t:T):He m t=.nv t:=by cases m<;>first|rfl|exact absurd rfl h
theorem cI(md:List Md)(v:V)(vs:List V):dB md (v::vs)=match md.headD .nz with | .chg=>v::dB md.tail vs|_=>dB md.tail vs:=by first | (rw[dB];done) | (rw[dB];cases md.headD .nz<;>rfl)
theorem EL(md:List Md)(v:T)(vs:List T):TB md (v::vs)=match md.headD .nz with | .chg=>v::TB md.tail vs|_=>TB md.tail vs:=by first | (rw[TB];done) | (rw[TB];cases md.headD .nz<;>rfl)
theorem ON(md:List Md)(t:T)(ts:List T):sE md (t::ts)=some (He (md.headD .nz) t)::sE md.tail ts:=by rw[sE]
theorem cQ{F H:Hp}{Y:ZA}:∀{md:List Md}{vs:List V}{ts:List T}{M:ZA},ArgsR K F H Y md vs ts->Trs K F H true (dB md vs) (TB md ts) M ->
  ∃Z:Ft,(∀(i:Nat) s,(sE md ts)[i]?=some (some s)->∃v,vs[i]?=some v/\Tr K F H s.st v s.t (Z i))/\(∀(i:Nat) t,(sE md ts)[i]?=some (some (.own t))->∀b,Z i b->M b)/\(∀(i:Nat) t,(sE md ts)[i]?=some (some (.nv t))->∀b,Z i b->Y b) /\
   ∀(i j:Nat) t u,i≠j->(sE md ts)[i]?=some (some (.own t))->(sE md ts)[j]?=some (some (.own u))->∀b,Z i b->¬ Z j b
 |md,_,_,M,.nil,_=>⟨fun _ _=>False,fun i s e=>by simp[sE]at e,fun i t e=>by simp[sE]at e,fun i t e=>by simp[sE]at e,fun i j t u _ e=>by simp[sE]at e⟩
 |md,_,_,M,.chg (v:=v) (vs:=vs) (t:=t) (ts:=ts) hm tl,r=>by
  have e1:dB md (v::vs)=v::dB md.tail vs:=by rw[cI,hm]
  have e2:TB md (t::ts)=t::TB md.tail ts:=by rw[EL,hm]
  rw[e1,e2]at r;cases r with
  |@cons _ _ _ _ _ _ Z1 Z2 r1 r2 n q =>
   obtain⟨Z,h1,h2,h3,h4⟩:=cQ tl r2;have ep:sE md (t::ts)=some (.own t)::sE md.tail ts:=by rw[ON,hm];rfl
   rw[ep];refine⟨fun i=>match i with|0=>Z1|i+1=>Z i,fun i s e=>?_,fun i u e b hb=>?_,fun i u e b hb=>?_,fun i j u w ne e e' b hb hb'=>?_⟩;cases i with
   |zero=>simp at e;subst e;exact⟨v,rfl,r1⟩
   |succ i=>exact h1 i s (by simpa using e)
   cases i with
   |zero=>exact(q b).mpr (.inl hb)
   |succ i=>exact(q b).mpr (.inr (h2 i u (by simpa using e) b hb))
   cases i with
   |zero=>simp at e
   |succ i=>exact h3 i u (by simpa using e) b hb
   cases i with
   |zero =>
    cases j with
    |zero=>exact ne rfl
    |succ j=>exact n b hb (h2 j w (by simpa using e') b hb')
   |succ i =>
    cases j with
    |zero=>exact n b hb' (h2 i u (by simpa using e) b hb)
    |succ j=>exact h4 i j u w (fun z=>ne (by rw[z])) (by simpa using e) (by simpa using e') b hb hb'
 |md,_,_,M,.rd (v:=v) (vs:=vs) (t:=t) (ts:=ts) (Z:=Z1) hm r1 hz tl,r=>by
  have e1:dB md (v::vs)=dB md.tail vs:=by rw[cI];cases e:md.headD .nz<;>first|exact absurd e hm|rfl
  have e2:TB md (t::ts)=TB md.tail ts:=by rw[EL];cases e:md.headD .nz<;>first|exact absurd e hm|rfl
  rw[e1,e2]at r;obtain⟨Z,h1,h2,h3,h4⟩:=cQ tl r;have ep:sE md (t::ts)=some (.nv t)::sE md.tail ts:=by rw[ON,BZ hm]
  rw[ep];refine⟨fun i=>match i with|0=>Z1|i+1=>Z i,fun i s e=>?_,fun i u e b hb=>?_,fun i u e b hb=>?_,fun i j u w ne e e' b hb hb'=>?_⟩;cases i with
  |zero=>simp at e;subst e;exact⟨v,rfl,r1⟩
  |succ i=>exact h1 i s (by simpa using e)
  cases i with
  |zero=>simp at e
  |succ i=>exact h2 i u (by simpa using e) b hb
  cases i with
  |zero=>exact hz b hb
  |succ i=>exact h3 i u (by simpa using e) b hb
  cases i with
  |zero=>simp at e
  |succ i =>
   cases j with
   |zero=>simp at e'
   |succ j=>exact h4 i j u w (fun z=>ne (by rw[z])) (by simpa using e) (by simpa using e') b hb hb'
theorem UY{F H:Hp}{N:List Str}{Y M:ZA}{md:List Md}{vs:List V}{ts:List T}(f:Same F H)(h:ArgsR K F H Y md vs ts)(hm:Trs K F H true (dB md vs) (TB md ts) M)(dj:∀b,Y b->¬ M b) :
  ∃S,Rl K F H S (bA N md ts) (jE N vs)/\∀b,U (bA N md ts) S b->M b:=by
 obtain⟨Z,h1,h2,h3,h4⟩:=cQ h hm;have hl:=h.length;have get:∀(i:Nat) s,(bA N md ts)[i]?=some (some s)->(sE md ts)[i]?=some (some s):=fun i s e=>by
  unfold bA at e;rcases QA7 i ts.length with z|z
  ·rwa [qL (by rw[AI];exact z)]at e
  rw[qH (by rw[AI];exact z),wV]at e;split at e<;>cases e
 refine⟨Z,⟨f,?_,fun i s e=>?_,fun i j t s n e1 e2 b hb hb'=>?_⟩,fun b ⟨i,t,e,hb⟩=>h2 i t (get i _ e) b hb⟩;unfold bA jE;rw[Qc,Qc,AI,QJ,qF,qF,hl];obtain⟨v,g1,g2⟩:=h1 i s (get i s e);refine⟨v,?_,g2⟩;unfold jE;rw[qL (by rw[QJ];exact(Qr.mp g1).1),Qv,g1];rfl;cases s with
 |own u=>exact h4 i j t u n (get i _ e1) (get j _ e2) b hb hb'
 |nv u=>exact dj b (h3 j u (get j _ e2) b hb') (h2 i t (get i _ e1) b hb)
theorem sO:∀{md:List Md}{k n:Nat}{vs:List V}{σ:St},vs.length=n->(∀(i:Nat) v,vs[i]?=some v->σ[k+i]?=some (some v))->(dB md vs).map (fun v=>some (some v))=(zC k md n).map fun j=>σ[j]?
 |md,k,0,vs,σ,h,g=>by
  cases vs with
  |nil=>rfl
  |cons _ _=>cases h
 |md,k,n+1,vs,σ,h,g=>by
  cases vs with
  |nil=>cases h
  |cons v vs =>
   have ih:=sO (md:=md.tail) (k:=k+1) (n:=n) (vs:=vs) (σ:=σ) (by simpa using h) fun i w hw=>by have:=g (i+1) w (by simpa using hw);rw[show k+1+i=k+(i+1) by omega];exact this
   have g0:=g 0 v rfl;rw[cI];unfold zC;cases e:md.headD .nz with
   |chg=>simp only[QV,ih];rw[show σ[k]?=some (some v) from g0]
   |_=>exact ih
theorem JM:∀{md:List Md}{k n j:Nat},j∈zC k md n->k<=j
 |md,k,0,j,h=>by simp[zC]at h
 |md,k,n+1,j,h=>by
  unfold zC at h;cases e:md.headD .nz with
  |chg=>rw[e]at h;rcases QL.mp h with z|z;omega;have:=JM z;omega
  |_=>rw[e]at h;have:=JM h;omega
theorem LR:∀(md:List Md) (k n:Nat),(zC k md n).Nodup
 |md,k,0=>QBM
 |md,k,n+1=>by
  have ih:=LR md.tail (k+1) n;unfold zC;cases e:md.headD .nz with
  |chg=>exact qk.mpr ⟨fun z=>by have:=JM z;omega,ih⟩
  |_=>exact ih
theorem Tf{CX:DU}{k:Nat}{f:Addr}{fd:FuncData}{ps:List Str}{sp:Sp}(F:FnOk P w K mg base i5 k f fd ps sp):FnOk P w K mg base CX k f fd ps sp :=
 ⟨F.len,fun A outer s H args us vs Q E a b c d e=>Wg (F.run A outer s H args us vs Q E a b c d e) fun r s' h=>by
  cases r with
  |error v=>exact QR h
  |ok fl=>cases fl<;>exact h⟩
theorem pY{W fI:Addr}{l:List Env}{H:Hp}{s:Shared}{v:Value}{s':Shared}(h:z9 P w K W fI l H s (fun _ _ _=>False) v s'):False:=by obtain⟨_,_,_,_,_,_,_,_,_,_,_,_,z⟩:=h;exact z
theorem OV{R:PSp}{x qual:Str}{st:Stmt}{f:Addr}{fd:FuncData}{N ps:List Str}{k:Nat}{b:PT}{n:Need}(F:Fun K x qual st f fd)(VB:mB n b N ps st=true)(hc:SL (zC 0 R.md ps.length) b=true)
  (fns:∀g∈n.fn,dD P w K mg base Ψ k g) (vals:ValsOk P w K mg Ψ n.va n.dc) (nos:∀y∈n.no,mg y=none) (er:n.no.contains ("raise":Str)=true->2<=k/\lY P w K mg base)
  (body:∀ts Q E,R.run ts Q E->ts.length=ps.length/\∃E':XE,(∀x,E' x->E x)/\YA Ψ E' b (aA R ps.length Q) (bA N R.md ts)):FnOk P w K mg base (n5 P w K) (k+1) f fd ps (lift K R):=by
 obtain⟨c12,c3⟩:=jA VB;obtain⟨c1,c2⟩:=jA c12;have S:=RG c1;obtain⟨oc,od,kV,doc,pm,an,cdv,ct,osl,rfl,lk,hcd⟩:=F.ex;refine Ka lk hcd S (fun vs H Q E h=>?_) fun A outer s H vs Q E hr h=>?_;obtain⟨F',ts,M,Y,h1,h2,h3,h4,h5⟩:=h;rw[h2.length];exact(body ts _ _ h5).1;obtain⟨F',ts,M,Y,h1,h2,h3,h4,h5⟩:=h;obtain⟨hlen,E',hE',q⟩:=body ts _ _ h5;refine⟨gQ K (Ef K mg Ψ) E b,fun pins s1 σ1 H1 D I1 hw=>?_,?_⟩;have ok:OkS ((EJ (n5 P w K) P w K mg base N qual (oA st) f cdv A outer s H E).wish (SX (EJ (n5 P w K) P w K mg base N qual (oA st) f cdv A outer s H E) (wOf K) (iOf K) E)) ⟨N,oA st⟩ (dM (Ef K mg Ψ) n) E:={
  N:=rfl
  sc:=rfl
  calm:=rfl
  un:=by have:=hr.un;show(A.deeper _).units+66<cLine;omega
  fn:=fun g hg=>by obtain⟨a,gd,gps,g1,g2,g3,g4⟩:=fns g hg;exact⟨n5 P w K,k,a,gd,gps,g1,hr,g2,g3,g4,XZ rfl fun _ _ z=>z,fun _ _ _ _ _ z=>pY z⟩
  val:=fun y hy=>by obtain⟨u,v,e1,e2⟩:=vals.has y hy;refine⟨u,e1,?_⟩;show sA (XS mg y) u;unfold XS;rw[e1];show sA ((GK u).getD .non) u;rw[e2];exact uV e2
  no:=fun y hy=>nos y hy
  dic:=fun y hy=>by obtain⟨kds,e⟩:=vals.hasD y hy;obtain⟨a,kvs,h1,h2,h3,_⟩:=(vals.dic y kds e).at';exact⟨a,kvs,h1,h2,h3⟩
  po:=d7 (EK:=E) rfl rfl I1.ok.frames rfl
  nd:=S.nd
  cel:=fun _=>rfl
  rs:=SW rfl fun _ _ z=>z
  er:=fun hx=>by obtain⟨h2k,fdI,FI,BI⟩:=er (QU.mpr hx);exact⟨1,fdI,FI 0,hr.mono h2k,BI⟩
  cx:=fun g hg=>by obtain⟨a,gd,gps,g1,g2,g3,g4⟩:=fns g hg;exact⟨k,a,gd,gps,g1,hr,g2,g3,g4⟩
  st:=rfl
  fr:=rfl }
 refine qQ ((Km b ok c2 (fX b c3)).1 pins s1 σ1 H1 D (I1.wish _) hw) (fun _ _ q=>q.unwish) fun v s2 hx=>?_;exact tX I1.ok.frames (fun _ _ z=>z) hx;obtain⟨S0,I,hU⟩:=UY (N:=N) h1 h2 h3 h4;have g:GOk K (Ef K mg Ψ) Ψ:=⟨fun _ _ _ _ _ h=>h,fun y d e F=>vals.rep y d e F,fun y kds e=>by obtain⟨a,kvs,_,h2,_,h4⟩:=(vals.dic y kds e).at';exact⟨kvs,h2,h4⟩⟩
 have hvl:vs.length=ps.length:=h2.length.trans hlen;have fin:∀v t W F2 H2 S2 ρ2 σ2,Stc (zC 0 R.md ps.length) F' H S0 (bA N R.md ts) (jE N vs) F2 H2 S2 ρ2 σ2->Rl K F2 H2 S2 ρ2 σ2->Tr K F2 H2 true v t W->Held F2 H2 S2 ρ2 W->(∀b,W b->H b=none∨U (bA N R.md ts) S0 b) ->
   Le (KC (zC 0 R.md ps.length) ρ2) (fun os=>∀v F3 H3 Z M',Frm M F' H F3 H3->Tr K F3 H3 true v t Z->Trs K F3 H3 true (dB R.md vs) os M'->(∀b,Z b->¬ M' b)->(∀b,Z b∨M' b->M b∨H b=none)->Q v H3)->Q v H2:=by
  intro v t W F2 H2 S2 ρ2 σ2 s I2 r hw fr q;cases eo:KC (zC 0 R.md ps.length) ρ2 with
  |none=>rw[eo]at q;exact q.elim
  |some os =>
   rw[eo]at q;have hv:(dB R.md vs).map (fun v=>some (some v))=(zC 0 R.md ps.length).map fun j=>σ2[j]?:=by rw[sO (md:=R.md) (k:=0) (n:=ps.length) (vs:=vs) (σ:=jE N vs) hvl fun i w hw=>?_];exact QBY fun j hj=>(s.sg j hj).symm;unfold jE;rw[QA2,qL (by rw[QJ];exact(Qr.mp hw).1),Qv,hw];rfl
   have trs:=I2.trs (LR _ _ _) eo hv;have own:∀j∈zC 0 R.md ps.length,∃t,ρ2[j]?=some (some (.own t)):=fun j hj=>by obtain⟨i,hi⟩:=Wj.mp hj;obtain⟨t,_,e⟩:=(kE eo).2 i j hi;exact⟨t,e⟩
   have lk:∀b,U (bA N R.md ts) S0 b∨H b=none->M b∨H b=none:=fun b hb=>hb.imp (hU b) id;refine q v F2 H2 W _ ⟨s.ff,I2.fh,fun b u e n=>s.hh b u e fun z=>n (hU b z),s.dm,fun b e z=>lk b (s.fn b e z)⟩ r trs (fun b hb ⟨j,hj,z⟩=>?_) fun b hb=>?_;obtain⟨t',e⟩:=own j hj;exact hw.nw j _ e b hb z;rcases hb with hb|⟨j,hj,z⟩
   ·exact lk b (fr b hb).symm
   obtain⟨t',e⟩:=own j hj;exact lk b (s.uu b ⟨j,t',e,z⟩)
 refine ZL g b hc I (fun x dx F2 H2 S2 ρ2 s fh xr ex=>?_) q ⟨?_,?_,fun _ _ _ _ _ _ _ z=>z.elim,fun _ _ _ _ _ _ _ z=>z.elim⟩;exact hE' x ex dx F2 H2 ⟨s.ff,fh,fun b u e n=>s.hh b u e fun z=>n (hU b z),s.dm,fun b e z=>(s.fn b e z).imp (hU b) id⟩ xr;intro F2 H2 S2 ρ2 σ2 s I2 q;exact fin .non (.d .none) (fun _=>False) F2 H2 S2 ρ2 σ2 s.c I2 (.d .non fun _ z=>z) .none (fun _ z=>z.elim) q;intro v t W F2 H2 S2 ρ2 σ2 s I2 r hw fr q;exact fin v t W F2 H2 S2 ρ2 σ2 s I2 r hw fr q
theorem XX{R:PSp}{Ψ':PEv}{x qual:Str}{st:Stmt}{f:Addr}{fd:FuncData}{N ps:List Str}{k:Nat}{b:PT}{n:Need}(F:Fun K x qual st f fd)(hm:mg x=some (.ref f))(hb:AD K fd ps [])(VB:mB n b N ps st=true)(hc:SL (zC 0 R.md ps.length) b=true)
  (fns:∀g∈n.fn,dD P w K mg base Ψ k g) (vals:ValsOk P w K mg Ψ n.va n.dc) (nos:∀y∈n.no,mg y=none)
  (er:n.no.contains ("raise":Str)=true->2<=k/\lY P w K mg base) (body:∀ts Q E,R.run ts Q E->ts.length=ps.length/\∃E':XE,(∀x,E' x->E x)/\YA Ψ E' b (aA R ps.length Q) (bA N R.md ts)) (hR:Ψ'.sp x=R):dD P w K mg base Ψ' (k+1) x :=
 ⟨f,fd,ps,by rw[hR];exact OV F VB hc fns vals nos er body,hm,F.kp,hb⟩
theorem m8{x qual:Str}{st:Stmt}{f:Addr}{fd:FuncData}{N ps:List Str}{k:Nat}{b:PT}{n:Need}(F:Fun K x qual st f fd)(hm:mg x=some (.ref f))(hb:AD K fd ps [])(VB:mB n b N ps st=true)(hR:∀ts Q E,¬ (Ψ.sp x).run ts Q E):dD P w K mg base Ψ (k+1) x:=by refine⟨f,fd,ps,Tf (F.ok (RG (jA (jA VB).1).1) (fun vs H Q E h=>?_) (fun cdv A outer s H vs Q E hr h=>?_)),hm,F.kp,hb⟩;obtain⟨F',ts,M,Y,h1,h2,h3,h4,h5⟩:=h;exact(hR _ _ _ h5).elim;obtain⟨F',ts,M,Y,h1,h2,h3,h4,h5⟩:=h;exact(hR _ _ _ h5).elim
end
noncomputable def CL:PSp where
 md:=[.kq]
 run:=fun ts Q _=>∃ns:List Int,ns.length<=63/\(∀n∈ns,Ql n<=1048576)/\ts=[.lst ((ns.map PyData.int).map T.d)]/\Q (.d (.bool true)) []
 mono:=fun h _ ⟨ns,h1,h2,h3,q⟩=>⟨ns,h1,h2,h3,h _ _ q⟩
noncomputable def X5:PSp:=⟨[],fun _ _ _=>False,fun _ _ h=>h⟩
theorem LN{K:QC}{F:Hp}:∀(ns:List Int),Reps K F (ns.map V.int) (ns.map PyData.int)
 |[]=>.nil
 |n::r=>.cons (.int n) (LN r)
theorem sf(K:QC)(H:Hp)(a:Addr)(ns:List Int)(hl:ns.length<=63)(hw:∀n∈ns,Ql n<=1048576)(hS:ID K H a (ns.map V.int)):lift K CL [.ref a] H (fun v _=>v=.bl true) fun _ _ _=>False:=by
 refine⟨H,[.lst ((ns.map PyData.int).map T.d)],fun _=>False,fun _=>False,.refl _,.rd (Z:=fun _=>False) (by simp[CL]) (.lstF hS (LN ns) fun _ z=>z) (fun _ z=>z) .nil,.nil fun _ z=>z,fun _ z=>z.elim,ns,hl,hw,rfl,fun v F' H' Z M' _ r _ _ _=>?_⟩;cases r with
 |d r _=>cases r;rfl
theorem ZS{ns:List Int}:∀n∈ns,Wr (.int n)<=wW (ns.map Wx.int):=by
 induction ns with
 |nil=>intro n hn;cases hn
 |cons m ns ih=>intro n hn;show _<=Wr (.int m)+1+wW (ns.map Wx.int);rcases QL.mp hn with rfl|hn;omega;have:=ih n hn;omega
theorem M8{ns:List Int}(h:Wx.layableAll [.list (ns.map .int)]=true):∀n∈ns,Ql n<=1048576:=by
 intro n hn;have h1:=(PySem.W.layableW_iff.mp (PySem.W.layableW_arg h _ QK)).2.2;have h2:wW (ns.map Wx.int)<=2 ^ 20:=h1;have h3:=ZS n hn;have h4:Wr (.int n)=if n==0 then 0 else n.natAbs.log2+1:=rfl
 rw[PySem.intBits_le_iff];by_cases hz:n=0;subst hz;exact Nat.pow_pos (by decide);have:(n==0)=false:=by simpa using hz
 rw[h4,this]at h3;have h5:n.natAbs.log2+1<=1048576:=by have:n.natAbs.log2+1<=wW (ns.map Wx.int):=h3;omega
 exact(QBR (show n.natAbs≠0 by omega)).mp (by omega)
def eS(K:QC)(x:Str)(st:Stmt):Prop:=∃f fd,qZ K mainGlobals x=some (some (.ref f))/\Fun K x x st f fd
def NM(K:QC)(x:Str)(d:D):Prop:=∃u v,qZ K mainGlobals x=some (some u)/\GK u=some v/\∀F,Rep K F v d
noncomputable def FW:Value->Option (V×D)
 | .int i _=>some (.int i,.int i)
 | .str z _=>some (.str z,.str z)
 | .bool b=>some (.bl b,.bool b)
 | .none=>some (.non,.none)
 |_=>none
theorem MS{K:QC}{u:Value}{v:V}{d:D}(h:FW u=some (v,d)):sA v u/\∀F,Rep K F v d:=by unfold FW at h;split at h<;>cases h;exact⟨⟨_,rfl⟩,fun _=>.int _⟩;exact⟨⟨_,rfl⟩,fun _=>.str _⟩;exact⟨rfl,fun _=>.bl _⟩;exact⟨rfl,fun _=>.non⟩
theorem zZ{K:QC}{f:Addr}{ds:List D}{od:Option Addr}{its:List Value}{n:Nat}{sl:Array (Option Value)}
  (l:K.lookup f=some ⟨.type "tuple",od,.seq its.toArray n,sl⟩) (h:(its.map FW).map (fun o=>o.map QBp)=ds.map some) (hz:ds.length<=sizeLine):∀F,Rep K F (.ref f) (.tuple ds):=by
 have key:∀(its:List Value) (ds:List D),(its.map FW).map (fun o=>o.map QBp)=ds.map some->∃vs,pA vs its/\∀F,Reps K F vs ds:=by
  intro its;induction its with
  |nil =>
   intro ds h;cases ds with
   |nil=>exact⟨[],.nil,fun _=>.nil⟩
   |cons _ _=>simp at h
  |cons u its ih =>
   intro ds h;cases ds with
   |nil=>simp at h
   |cons d ds =>
    simp only[QV,wk]at h;obtain⟨vs,h1,h2⟩:=ih ds h.2;cases e:FW u with
    |none=>rw[e]at h;cases h.1
    |some p=>rw[e]at h;obtain⟨v,d'⟩:=p;have:=QW h.1;have:d'=d:=this;subst this;obtain⟨r1,r2⟩:=MS (K:=K) e;exact⟨v::vs,.cons r1 h1,fun F=>.cons (r2 F) (h2 F)⟩
 obtain⟨vs,h1,h2⟩:=key its ds h;intro F;refine .tup (.inr ⟨_,its.toArray,n,l,rfl,rfl,?_,by simpa using h1⟩) (h2 F);have e1:=h1.length;have e2:=(h2 F).length;simp;omega
inductive Ent(K:QC)(w:World):List DictEntry->List (Str×D)->Prop where
 |nil:Ent K w [] []
 |cons {x:Str}{t:Tok}{u:Value}{v:V}{d:D}{es:List DictEntry}{kds:List (Str×D)}:GK u=some v->(∀F,Rep K F v d)->Ent K w es kds->Ent K w (⟨WB w.params x,.str x t,u⟩::es) ((x,d)::kds)
theorem Ent.sc{K:QC}{w:World}{x:Str}{t:Tok}{u:Value}{d:D}{es:List DictEntry}{kds:List (Str×D)}(h:(FW u).map QBp=some d)(r:Ent K w es kds):Ent K w (⟨WB w.params x,.str x t,u⟩::es) ((x,d)::kds):=by
 cases e:FW u with
 |none=>rw[e]at h;cases h
 |some p=>rw[e]at h;obtain⟨v,d'⟩:=p;have:d'=d:=QW h;subst this;have ok:=(MS (K:=K) e).2;unfold FW at e;split at e<;>cases e;exact .cons rfl ok r;exact .cons rfl ok r;exact .cons rfl ok r;exact .cons rfl ok r
theorem Ent.tup{K:QC}{w:World}{x:Str}{t:Tok}{f:Addr}{ds:List D}{od:Option Addr}{its:List Value}{n:Nat}{sl:Array (Option Value)}{es:List DictEntry}{kds:List (Str×D)}
  (l:K.lookup f=some ⟨.type "tuple",od,.seq its.toArray n,sl⟩) (h:(its.map FW).map (fun o=>o.map QBp)=ds.map some) (hz:ds.length<=sizeLine) (r:Ent K w es kds):Ent K w (⟨WB w.params x,.str x t,.ref f⟩::es) ((x,.tuple ds)::kds) :=
 .cons rfl (zZ l h hz) r
def vN(w:World)(K:QC)(x:Str)(kds:List (Str×D)):Prop:=∃(a:Addr) (es:Array DictEntry) (ep:Nat),qZ K mainGlobals x=some (some (.ref a))/\(a==sysModules)=false/\K.lookup a=some ⟨.type "dict",none,.dict es ep,#[]⟩/\Ent K w es.toList kds/\(kds.map We).Nodup
theorem Ent.all{K:QC}{w:World}{P:Program}{es:List DictEntry}{kds:List (Str×D)}(h:Ent K w es kds):∃us:List (Str×Value),us.map We=kds.map We/\KV (es.map RX) us/\Pairs (Wv P w) es us/\(∀e∈es,∃k,(Wv P w).is k e.key=true/\e.hash=(Wv P w).hash k) /\
  Paired (fun(p:Str×V) (q:Str×D)=>p.1=q.1/\∀F,Rep K F p.2 q.2) (es.map RX) kds:=by
 induction h with
 |nil=>exact⟨[],rfl,.nil,.nil,fun _ z=>(by cases z),.nil⟩
 |@cons x t u v d es kds ha hr _ ih =>
  obtain⟨us,h1,h2,h3,h4,h5⟩:=ih;have ev:RX ⟨WB w.params x,.str x t,u⟩=(x,v):=by unfold RX;show(x,(GK u).getD .non)=(x,v);rw[ha];rfl
  refine⟨(x,u)::us,by simp[h1],?_,.cons (QCT P w x t) rfl h3,fun e he=>?_,?_⟩;rw[QV,ev];exact .cons ⟨rfl,uV ha⟩ h2;rcases QL.mp he with rfl|he
  ·exact⟨x,QCT P w x t,rfl⟩
  exact h4 e he;rw[QV,ev];exact .cons ⟨rfl,hr⟩ h5
section
variable{P:Program}{w:World}{K:QC}{mg:Str->Option Value}{base h:Heap}{Ψ:PEv}
theorem vN.inMg(X:K.In h)(G:h.Ns mainGlobals mg){x:Str}{kds:List (Str×D)}(v:vN w K x kds):DictOk P w K mg x kds:=by obtain⟨a,es,ep,h1,h2,h3,h4,h5⟩:=v;have e:=Wy X G h1;obtain⟨us,u1,u2,u3,u4,u5⟩:=h4.all (P:=P);refine⟨a,es.toList.map RX,e,?_,⟨h2,us,u2,fun hp hk=>⟨_,es,ep,hk a _ h3,⟨rfl,rfl,rfl⟩,rfl,fun e he=>u4 e (by simpa using he),u3,by rw[u1];exact h5⟩⟩,u5⟩;unfold kg;rw[e];simp only[h3]
theorem NM.inMg(X:K.In h)(G:h.Ns mainGlobals mg){x:Str}{d:D}(v:NM K x d):(∀F,Rep K F (XS mg x) d)/\∃u v,mg x=some u/\GK u=some v:=by
 obtain⟨u,v,h1,h2,h3⟩:=v;have e:=Wy X G h1;refine⟨fun F=>?_,u,v,e,h2⟩;have:XS mg x=v:=by unfold XS;rw[e];show(GK u).getD .non=v;rw[h2];rfl
 rw[this];exact h3 F
theorem j3{R:PSp}{Ψ':PEv}{x:Str}{st:Stmt}{N ps:List Str}{k:Nat}{b:PT}{n:Need}(X:K.In h)(G:h.Ns mainGlobals mg)(D:eS K x st)(VB:mB n b N ps st=true)(hc:SL (zC 0 R.md ps.length) b=true)
  (hb:∀(kV doc pm:Value) (an:Option Addr) (cdv ct:Value) (us:List Value),us.length=ps.length->bindArgs (qI x x (RC st) (EB st) (oA st) .none kV doc pm an cdv ct) ⟨us,[]⟩=pure (ps.zip us))
  (fns:∀g∈n.fn,dD P w K mg base Ψ k g) (vals:ValsOk P w K mg Ψ n.va n.dc) (nos:∀y∈n.no,qZ K mainGlobals y=some none)
  (er:n.no.contains ("raise":Str)=true->2<=k/\lY P w K mg base) (body:∀ts Q E,R.run ts Q E->ts.length=ps.length/\∃E':XE,(∀x,E' x->E x)/\YA Ψ E' b (aA R ps.length Q) (bA N R.md ts)) (hR:Ψ'.sp x=R):dD P w K mg base Ψ' (k+1) x:=by
 obtain⟨f,fd,a,F⟩:=D;exact XX F (Wy X G a) (F.binds hb) VB hc fns vals (fun y hy=>QAK X G (nos y hy)) er body hR
theorem VX{x:Str}{st:Stmt}{N ps:List Str}{k:Nat}{b:PT}{n:Need}(X:K.In h)(G:h.Ns mainGlobals mg)(D:eS K x st)(VB:mB n b N ps st=true)
  (hb:∀(kV doc pm:Value) (an:Option Addr) (cdv ct:Value) (us:List Value),us.length=ps.length->bindArgs (qI x x (RC st) (EB st) (oA st) .none kV doc pm an cdv ct) ⟨us,[]⟩=pure (ps.zip us))
  (hR:∀ts Q E,¬ (Ψ.sp x).run ts Q E):dD P w K mg base Ψ (k+1) x:=by
 obtain⟨f,fd,a,F⟩:=D;exact m8 F (Wy X G a) (F.binds hb) VB hR
theorem dD.to{Ψ':PEv}{x:Str}{k:Nat}(h:dD P w K mg base Ψ k x)(e:Ψ'.sp x=Ψ.sp x):dD P w K mg base Ψ' k x:=by obtain⟨f,fd,ps,h1,h2⟩:=h;exact⟨f,fd,ps,by rw[e];exact h1,h2⟩
theorem af{x:Str}{st:Stmt}{ps:List Str}{k:Nat}{fa:Addr}(X:K.In h)(G:h.Ns mainGlobals mg)(D:eS K "law" st)(hp:ps=[x])(hfa:mg "law"=some (.ref fa))(hs:Ψ.sp "law"=CL)
  (hb:∀(kV doc pm:Value) (an:Option Addr) (cdv ct:Value) (us:List Value),us.length=ps.length->bindArgs (qI "law" "law" (RC st) (EB st) (oA st) .none kV doc pm an cdv ct) ⟨us,[]⟩=pure (ps.zip us))
  (H:∀base:Heap,K.In base->base.Ns mainGlobals mg->∀f fd,Fun K "law" "law" st f fd->mg "law"=some (.ref f)->FnOk P w K mg base (n5 P w K) k f fd ps (lift K (Ψ.sp "law"))) :
  ∃fd:FuncData,(∀(s:Shared) (u:Value),BindsTo s fd ⟨[u],[]⟩ [(x,u)])/\∀base:Heap,K.In base->base.Ns mainGlobals mg->FnOk P w K mg base (n5 P w K) k fa fd [x] (lift K CL):=by
 obtain⟨f,fd,a,F⟩:=D;have e:=hfa.symm.trans (Wy X G a);cases e;subst hp;refine⟨fd,fun s u=>?_,fun base kb nb=>?_⟩;obtain⟨oc,od,kV,doc,pm,an,cdv,ct,osl,rfl,lk,hcd⟩:=F.ex;exact .of_eq (hb kV doc pm an cdv ct [u] rfl);rw[<- hs];exact H base kb nb fa fd F hfa
end
theorem xF{α:Type}{body:T->(Option T->Prop)->Prop}(g f:α->T):∀(l:List α) (acc:List T) (Q:List T->Prop),(∀x∈l,∀R:Option T->Prop,R (some (f x))->body (g x) R)->acc.length+l.length<=sizeLine->Q (acc++l.map f)->AC body (l.map g) acc Q
 |[],acc,Q,_,hl,q=>by simp only[wf,AC];exact⟨by simpa using hl,by simpa using q⟩
 |x::r,acc,Q,hb,hl,q=>by simp only[QV,AC];refine hb x QK _ ?_;simp only[QH]at hl;refine⟨by omega,xF g f r _ Q (fun y hy=>hb y (QG _ hy)) (by simp;omega) (by simpa using q)⟩
theorem MF{α:Type}{body:T->(Option T->Prop)->Prop}(g f:α->T)(p:α->Bool):∀(l:List α) (acc:List T) (Q:List T->Prop),(∀x∈l,∀R:Option T->Prop,R (if p x=true then some (f x) else none)->body (g x) R)->acc.length+l.length<=sizeLine->Q (acc++(l.filter p).map f)->AC body (l.map g) acc Q
 |[],acc,Q,_,hl,q=>by simp only[wf,AC];exact⟨by simpa using hl,by simpa using q⟩
 |x::r,acc,Q,hb,hl,q=>by
  simp only[QV,AC];refine hb x QK _ ?_;simp only[QH]at hl;cases hp:p x with
  |true=>refine⟨by omega,MF g f p r _ Q (fun y hy=>hb y (QG _ hy)) (by simp;omega) ?_⟩;rw[QCU,if_pos hp]at q;simpa using q
  |false=>refine MF g f p r _ Q (fun y hy=>hb y (QG _ hy)) (by omega) ?_;rw[QCU,if_neg (by rw[hp];simp)]at q;exact q
theorem JC{α:Type}{xs:List α}{i:Int}(h0:0<=i)(h1:i<xs.length):∃v,mC xs i=some v/\xs[i.toNat]?=some v:=by
 have h:i.toNat<xs.length:=by omega
 have e:((i.toNat:Nat):Int)=i:=by omega
 have q:=gB (qt h);rw[e]at q;exact⟨xs[i.toNat],q,qt h⟩
theorem IB{α β:Type}(f:α->β)(xs:List α)(i:Int):mC (xs.map f) i=(mC xs i).map f:=by
 unfold mC;rw[QJ];cases vO xs.length i with
 |none=>rfl
 |some j=>exact Qv
theorem xE{Ψ:PEv}{E:XE}{α:Type}{body:PT}{tg:Tg}{Z:PEnds}(g:α->T)(W:List α->zA->Prop)(h0:∀ρ,W [] ρ->Z.nx ρ)
  (hs:∀x xs ρ (N:zA->Prop),(∀ρ',W xs ρ'->N ρ')->W (x::xs) ρ->sK tg (g x) ρ fun ρ1=>YA Ψ E body { Z with nx:=N,ct:=N,bk:=Z.nx } ρ1):∀(xs:List α) (ρ:zA),W xs ρ->ZH (YA Ψ E body) tg Z (xs.map g) ρ
 |[],ρ,w=>h0 ρ w
 |x::xs,ρ,w=>hs x xs ρ (fun ρ2=>ZH (YA Ψ E body) tg Z (xs.map g) ρ2) (fun ρ2 w2=>xE g W h0 hs xs ρ2 w2) w
noncomputable def b9(sp:List (Str×PSp))(va:List (Str×D))(dc:List (Str×List (Str×D))):PEv:=⟨fun f=>(sp.lookup f).getD X5,fun x=>va.lookup x,fun x=>dc.lookup x⟩
theorem LU{P:Program}{w:World}{K:QC}{mg:Str->Option Value}{h:Heap}{sp:List (Str×PSp)}{tbl:List (Str×D)}{dct:List (Str×List (Str×D))}{va dc:List Str}(X:K.In h)(G:h.Ns mainGlobals mg)(ht:∀p∈tbl,NM K p.1 p.2)(hd:∀p∈dct,vN w K p.1 p.2)
  (hva:(va.all fun x=>(tbl.map We).contains x)=true) (hdc:(dc.all fun x=>(dct.lookup x).isSome)=true):ValsOk P w K mg (b9 sp tbl dct) va dc:=by
 refine⟨fun x kds e=>(hd (x,kds) (qA e)).inMg X G,fun x hx=>QAV.mp (Qk.mp hdc x hx),fun x d e F=>((ht (x,d) (qA e)).inMg X G).1 F,fun x hx=>?_⟩;have:=Qk.mp hva x hx;obtain⟨p,hp,e⟩:=Q0.mp (QU.mp this);rw[<- e];exact((ht p hp).inMg X G).2
theorem LO{α:Type}[BEq α][LawfulBEq α]{l m:List α}(h:(l.all fun x=>m.contains x)=true):∀x∈l,x∈m:=fun x hx=>QU.mp (Qk.mp h x hx)
section
variable{a b c:PX}{i:Nat}{n:Int}{x:Str}{m:Mt}{f:Str}{g:Bi}{op:Operator}{cp:CmpOp}{is:List Bool}{tgs:List Str}{tg:Tg}{ik:ItK}{y:String}
theorem GU:JH (.var i)=[i]:=rfl
theorem XN:JH (.nq a b)=JH a++JH b:=rfl
theorem nQ:JH .nr=[]:=rfl
end
def DB{α:Type}(o:Option α)(K:α->Prop):Prop:=∃a,o=some a/\K a
theorem DB.mk{α:Type}{o:Option α}{a:α}{K:α->Prop}(e:o=some a)(k:K a):DB o K:=⟨a,e,k⟩
theorem tE{α:Type}{a:α}{K:α->Prop}:DB (some a) K=K a:=propext ⟨fun⟨_,e,k⟩=>by cases e;exact k,fun k=>⟨a,rfl,k⟩⟩
theorem IA{α:Type}{o:Option α}{a:α}{K:α->Prop}(h:o=some a):DB o K=K a:=by rw[h];exact tE
theorem DJ{α β:Type}{o:Option α}{f:α->β}{K:β->Prop}:DB (o.map f) K=DB o fun a=>K (f a):=by
 cases o with
 |none=>exact propext ⟨fun⟨_,e,_⟩=>(by cases e),fun⟨_,e,_⟩=>(by cases e)⟩
 |some a=>rw[Q5,tE,tE]
def cB(Ψ:PEv)(e:PX)(E:XE)(ρ:zA)(K:TK):Prop:=(pe Ψ e E).e ρ K
def yP(Ψ:PEv)(e:PX)(E:XE)(ρ:zA)(K:Bool->zA->Prop):Prop:=(pe Ψ e E).t ρ K
def zP(Ψ:PEv)(e:PX)(E:XE)(md:List Md)(ρ:zA)(K:List (T×Bool)->zA->Prop):Prop:=(pe Ψ e E).a md ρ K
def bC(p:PSp)(ts:List T)(K:T->List T->Prop)(E:XE):Prop:=p.run ts K E
def g9(x:T)(n:Bool)(Ψ:PEv)(b:PX)(E:XE)(ρ:zA)(K:TK):Prop:=sq (fA x n) ρ (cu (pe Ψ b E).e) fun y ρ2=>K y.1 y.2 ρ2
def Rg(x:T)(n:Bool)(Ψ:PEv)(b:PX)(E:XE)(md:List Md)(ρ:zA)(K:List (T×Bool)->zA->Prop):Prop:=sq (if n=true then .d .none else x) ρ ((pe Ψ b E).a md) K
def Nl(x:T)(n:Bool)(Ψ:PEv)(b:PX)(E:XE)(ρ:zA)(K:List (T×Bool)->zA->Prop):Prop:=sq (fA x n) ρ ((pe Ψ b E).a []) K
def aR(i:Nat)(σ ρ:zA)(K:TK):Prop:=Ol σ[i]? fun t=>K t false ρ
def jZ(i:Nat)(σ:zA)(ρ:zA)(j:Nat)(R:T->zA->Prop):Prop:=Bm ρ j R σ[i]?
def JQ(Ψ:PEv)(E:XE)(r:PT)(Z:PEnds)(i:Nat)(x:T)(n:Bool)(ρ:zA):Prop:=AK x n=true/\YA Ψ E r Z (ρ.set i (some (.nv (.d x.er))))
def Li(Ψ:PEv)(E:XE)(r:PT)(Z:PEnds)(i:Nat)(x:T)(n:Bool)(ρ:zA):Prop:=AK x n=true/\YA Ψ E r Z (ρ.set i (some (.own x)))
def lG(x:T)(n:Bool)(P:Prop):Prop:=AK x n=true/\P
def kC(op:Operator)(x:T)(n:Bool)(y:T)(m:Bool)(Q:T->Bool->Prop):Prop:=binT op (fA x n).vw (fA y m).vw Q
def gC(op:CmpOp)(x y:T)(Q:Bool->Prop):Prop:=HR op x.er y.er Q
def P5(x:T)(Q:Bool->Prop):Prop:=AH x.er Q
def cn(x:T)(Q:Bool->Prop):Prop:=Ug x.er Q
def rN(c:PX)(x:T)(Q:Bool->Prop):Prop:=Gf c x.er Q
def XM(f:Bi)(xs:List (T×Bool))(Q:T->Bool->Prop):Prop:=KN f (aB xs) Q
def yF(Ψ:PEv)(o:Prm)(xs:List (T×Bool))(Q:T->Bool->Prop):Prop:=IO Ψ o (xD xs) Q
def cM(x:T)(n:Bool)(y:T)(m:Bool)(Q:T->Prop):Prop:=sN (fA x n).vw (fA y m).vw Q
def YH(x:T)(n:Bool)(l u:Option Int)(Q:T->Bool->Prop):Prop:=tG (fA x n).vw l u Q
def zU(xs:List (T×Bool))(C:List T->Prop):Prop:=LF xs=true/\C (ED xs)
def uO(ik:ItK)(xs:List (T×Bool))(R:List T->Prop):Prop:=vD ik (aB xs) R
def y8(m:Mt)(x:T)(n:Bool)(xs:List (T×Bool))(Q:T->Bool->Prop):Prop:=da m (fA x n).vw (aB xs) Q
def sD(md:List Md)(xs:List (T×Bool))(C:List T->Prop):Prop:=DB (uB md xs []) C
noncomputable def vW(Ψ:PEv)(E:XE)(mask:List Bool)(tgs:List Str)(tg:Tg)(cond elt:PX)(ρ:zA):T->(Option T->Prop)->Prop:=AG tg (aN tgs.length mask (lockA ρ)) (if isNop cond=true then fun ρ R=>R true ρ else(pe Ψ cond E).t) (pe Ψ elt E).e
def bW(tg:Tg)(x:T)(ρ:zA)(K:zA->Prop):Prop:=sK tg x ρ K
section
variable{Ψ:PEv}{E:XE}{ρ:zA}{K:TK}{L:Bool->zA->Prop}{M:List (T×Bool)->zA->Prop}{a b c as its elt cond:PX}{Rt:T->zA->Prop}
theorem Yc{i:Nat}:cB Ψ (.var i) E ρ K=aR i ρ ρ K:=rfl
theorem Fc{i:Int}:cB Ψ (.int i) E ρ K=K (.d (.int i)) false ρ:=rfl
theorem Kc{x:Str}:cB Ψ (.str x) E ρ K=K (.d (.str x)) false ρ:=rfl
theorem Bc:cB Ψ .non E ρ K=K (.d .none) false ρ:=rfl
theorem dE{x:Str}{d:D}(h:Ψ.va x=some d):cB Ψ (.glo x) E ρ K=K (.d d) false ρ:=by show(match Ψ.va x with|some d=>K (.d d) false ρ|none=>False)=_;rw[h]
theorem Nc{op:Operator}:cB Ψ (.bin op a b) E ρ K=cB Ψ a E ρ fun x n ρ1=>g9 x n Ψ b E ρ1 fun y m ρ2=>kC op x n y m fun z k=>K z k ρ2:=rfl
theorem Mb{op:CmpOp}:yP Ψ (.cmp op a b) E ρ L=cB Ψ a E ρ fun x n ρ1=>g9 x n Ψ b E ρ1 fun y m ρ2=>gC op x y fun k=>L k ρ2:=rfl
theorem Lc{op:CmpOp}:cB Ψ (.cmp op a b) E ρ K=yP Ψ (.cmp op a b) E ρ fun k ρ1=>K (.d (.bool k)) false ρ1:=rfl
theorem Nb{o p:CmpOp}:yP Ψ (.chn o p a b c) E ρ L=cB Ψ a E ρ fun x n ρ1=>g9 x n Ψ b E ρ1 fun y m ρ2=>gC o x y fun k=>if k=true then g9 y m Ψ c E ρ2 fun z l ρ3=>gC p y z fun k=>L k ρ3 else L false ρ2:=rfl
theorem Mc{o p:CmpOp}:cB Ψ (.chn o p a b c) E ρ K=yP Ψ (.chn o p a b c) E ρ fun k ρ1=>K (.d (.bool k)) false ρ1:=rfl
theorem Oc:cB Ψ (.and a b) E ρ K=cB Ψ a E ρ fun x _ ρ1=>cn x fun c=>if c=true then cB Ψ b E ρ1 K else K (.d (.bool false)) false ρ1:=rfl
theorem Ob:yP Ψ (.and a b) E ρ L=yP Ψ a E ρ fun c ρ1=>if c=true then yP Ψ b E ρ1 L else L false ρ1:=rfl
theorem Zl:cB Ψ (.or a b) E ρ K=cB Ψ a E ρ fun x _ ρ1=>cn x fun c=>if c=true then K (.d (.bool true)) false ρ1 else cB Ψ b E ρ1 K:=rfl
theorem Gk:yP Ψ (.or a b) E ρ L=yP Ψ a E ρ fun c ρ1=>if c=true then L true ρ1 else yP Ψ b E ρ1 L:=rfl
theorem Uc:cB Ψ (.not a) E ρ K=cB Ψ a E ρ fun x _ ρ1=>P5 x fun c=>K (.d (.bool (!c))) false ρ1:=rfl
theorem Hb:yP Ψ (.not a) E ρ L=yP Ψ a E ρ fun c ρ1=>L (!c) ρ1:=rfl
theorem cA{f:Str}{p:PSp}{md:List Md}(h:Ψ.sp f=p)(hm:p.md=md)(hn:(md.all fun m=>!m.isMut)=true):cB Ψ (.call f as) E ρ K=zP Ψ as E md ρ fun xs ρ1=>sD md xs fun ts=>bC p ts (fun r os=>os=[]/\K r true ρ1) E:=by
 have mr:∀(md:List Md) (as:PX),(md.all fun m=>!m.isMut)=true->nA md as=[]:=by
  intro md;induction md with
  |nil=>intro as _;cases as<;>rfl
  |cons m md ih =>
   intro as h;rw[Qw,QN]at h;cases m with
   |chg=>cases h.1
   |_=>cases as with
    |nq a as=>exact ih as h.2
    |_=>rfl
 show(∃os,KC (nA (Ψ.sp f).md as) ρ=some os/\(nA (Ψ.sp f).md as).Nodup/\(pe Ψ as E).a (Ψ.sp f).md (clear (nA (Ψ.sp f).md as) ρ) fun xs ρ1=>∃ts,uB (Ψ.sp f).md xs os=some ts/\(Ψ.sp f).run ts (fun r os'=>∃ρ2,iD (nA (Ψ.sp f).md as) os' ρ1=some ρ2/\K r true ρ2) E)=_;rw[h,hm,mr md as hn];have po:∀(r:T) (os:List T) (ρ1:zA),(∃ρ2,iD [] os ρ1=some ρ2/\K r true ρ2)=(os=[]/\K r true ρ1):=by
  intro r os ρ1;cases os with
  |nil=>exact propext ⟨fun⟨_,e,k⟩=>by cases e;exact⟨rfl,k⟩,fun k=>⟨_,rfl,k.2⟩⟩
  |cons _ _=>exact propext ⟨fun⟨_,e,k⟩=>(by cases e),fun k=>(by cases k.1)⟩
 have:=fun(ρ1:zA)=>funext fun r=>funext fun os=>po r os ρ1;simp only[this];exact propext ⟨fun⟨_,e,_,k⟩=>by cases e;exact k,fun k=>⟨_,rfl,QBM,k⟩⟩
theorem P4{f:Str}:yP Ψ (.call f as) E ρ L=cB Ψ (.call f as) E ρ fun t _ ρ1=>P5 t fun b=>L b ρ1:=rfl
theorem Lb:yP Ψ (.isi a c) E ρ L=cB Ψ a E ρ fun x _ ρ1=>rN c x fun b=>L b ρ1:=rfl
theorem Dc:cB Ψ (.isi a c) E ρ K=yP Ψ (.isi a c) E ρ fun k ρ1=>K (.d (.bool k)) false ρ1:=rfl
theorem Kl{f:Bi}:cB Ψ (.bi f as) E ρ K=zP Ψ as E [] ρ fun xs ρ1=>XM f xs fun z k=>K z k ρ1:=rfl
theorem Vc{o:Prm}:cB Ψ (.prm o as) E ρ K=zP Ψ as E [] ρ fun xs ρ1=>yF Ψ o xs fun z k=>K z k ρ1:=rfl
theorem ET{m:Mt}{z:Str}{n:Bool}(h:isMut m=false):jM m (fA (.d (.str z)) n).vw=true:=by cases n<;>cases m<;>first|rfl|cases h
theorem lW:cB Ψ (.mt .split a as) E ρ K=cB Ψ a E ρ fun x n ρ1=>jM .split (fA x n).vw=true/\Nl x n Ψ as E ρ1 fun xs ρ2=>y8 .split x n xs fun z k=>K z k ρ2:=rfl
theorem tS:cB Ψ (.mt .rstrip a as) E ρ K=cB Ψ a E ρ fun x n ρ1=>jM .rstrip (fA x n).vw=true/\Nl x n Ψ as E ρ1 fun xs ρ2=>y8 .rstrip x n xs fun z k=>K z k ρ2:=rfl
theorem Gc:cB Ψ (.idx a b) E ρ K=cB Ψ a E ρ fun x n ρ1=>g9 x n Ψ b E ρ1 fun y m ρ2=>cM x n y m fun z=>K z false ρ2:=rfl
theorem pS{i:Int}:cB Ψ (.slc a (.int i) .nop) E ρ K=cB Ψ a E ρ fun x n ρ1=>YH x n (some i) none fun z k=>K z k ρ1:=by
 show(pe Ψ a E).e ρ (fun x n ρ1=>sq (fA x n) ρ1 (fun ρ (R:Option Int->zA->Prop)=>R (some i) ρ) fun l ρ2=>sq (fA x n) ρ2 (fun ρ (R:Option Int->zA->Prop)=>R none ρ) fun u ρ3=>tG (fA x n).vw l u fun z k=>K z k ρ3)=_;have:∀x n ρ1,(sq (fA x n) ρ1 (fun ρ (R:Option Int->zA->Prop)=>R (some i) ρ) fun l ρ2=>sq (fA x n) ρ2 (fun ρ (R:Option Int->zA->Prop)=>R none ρ) fun u ρ3=>tG (fA x n).vw l u fun z k=>K z k ρ3)=tG (fA x n).vw (some i) none fun z k=>K z k ρ1:=by intro x n ρ1;unfold sq;split<;>rfl
 simp only[this];rfl
theorem rS{i:Int}:cB Ψ (.slc a .nop (.int i)) E ρ K=cB Ψ a E ρ fun x n ρ1=>YH x n none (some i) fun z k=>K z k ρ1:=by
 show(pe Ψ a E).e ρ (fun x n ρ1=>sq (fA x n) ρ1 (fun ρ (R:Option Int->zA->Prop)=>R none ρ) fun l ρ2=>sq (fA x n) ρ2 (fun ρ (R:Option Int->zA->Prop)=>R (some i) ρ) fun u ρ3=>tG (fA x n).vw l u fun z k=>K z k ρ3)=_;have:∀x n ρ1,(sq (fA x n) ρ1 (fun ρ (R:Option Int->zA->Prop)=>R none ρ) fun l ρ2=>sq (fA x n) ρ2 (fun ρ (R:Option Int->zA->Prop)=>R (some i) ρ) fun u ρ3=>tG (fA x n).vw l u fun z k=>K z k ρ3)=tG (fA x n).vw none (some i) fun z k=>K z k ρ1:=by intro x n ρ1;unfold sq;split<;>rfl
 simp only[this];rfl
theorem Cc:cB Ψ (.lst as) E ρ K=zP Ψ as E [] ρ fun xs ρ1=>xs.length<=sizeLine/\zU xs fun ts=>K (.lst ts) true ρ1:=by have:∀(xs:List (T×Bool)) ρ1,(xs.length<=sizeLine/\zU xs fun ts=>K (.lst ts) true ρ1)=(LF xs=true/\xs.length<=sizeLine/\K (.lst (ED xs)) true ρ1):=fun xs ρ1=>propext ⟨fun h=>⟨h.2.1,h.1,h.2.2⟩,fun h=>⟨h.2.1,h.1,h.2.2⟩⟩;simp only[this];rfl
theorem Zc:cB Ψ (.tup as) E ρ K=zP Ψ as E [] ρ fun xs ρ1=>xs.length<=sizeLine/\zU xs fun ts=>K (oK ts) true ρ1:=by have:∀(xs:List (T×Bool)) ρ1,(xs.length<=sizeLine/\zU xs fun ts=>K (oK ts) true ρ1)=(LF xs=true/\xs.length<=sizeLine/\K (oK (ED xs)) true ρ1):=fun xs ρ1=>propext ⟨fun h=>⟨h.2.1,h.1,h.2.2⟩,fun h=>⟨h.2.1,h.1,h.2.2⟩⟩;simp only[this];rfl
theorem l5{mask:List Bool}{tgs:List Str}{tg:Tg}{ik:ItK}:cB Ψ (.comp mask tgs tg ik its cond elt) E ρ K=zP Ψ its E [] ρ fun xs ρ1=>uO ik xs fun items =>
   AC (vW Ψ (fun _=>False) mask tgs tg cond elt ρ1) items [] fun ys=>K (.lst ys) true ρ1:=rfl
theorem gb{t:Str}{x:T}{R:Option T->Prop}:vW Ψ E [] [t] (.nm 0) .nop elt ρ x R=cB Ψ elt E (some (.nv x)::lockA ρ) fun y n _=>lG y n (R (some y)):=rfl
theorem O4{t u:Str}{x y:D}{R:Option T->Prop}:vW Ψ E [] [t,u] (.tp [0,1]) .nop elt ρ (.d (.tuple [x,y])) R=cB Ψ elt E (some (.nv (.d x))::some (.nv (.d y))::lockA ρ) fun y n _=>lG y n (R (some y)):=tE
theorem lb{t:Str}{x:T}{R:Option T->Prop}{op:CmpOp}:vW Ψ E [] [t] (.nm 0) (.cmp op a b) elt ρ x R=yP Ψ (.cmp op a b) E (some (.nv x)::lockA ρ) fun k ρ2=>if k=true then cB Ψ elt E ρ2 fun y n _=>lG y n (R (some y)) else R none:=rfl
theorem Pc{md:List Md}:zP Ψ .nr E md ρ M=M [] ρ:=rfl
theorem K5:zP Ψ (.nq a as) E [] ρ M=cB Ψ a E ρ fun x n ρ1=>Rg x n Ψ as E [] ρ1 fun xs ρ2=>M ((x,n)::xs) ρ2:=rfl
theorem JS{md:List Md}:zP Ψ (.nq a as) E (.kq::md) ρ M=cB Ψ a E ρ fun x n ρ1=>Rg x n Ψ as E md ρ1 fun xs ρ2=>M ((x,n)::xs) ρ2:=rfl
theorem YS{md:List Md}:zP Ψ (.nq a as) E (.nv::md) ρ M=cB Ψ a E ρ fun x n ρ1=>Rg x n Ψ as E md ρ1 fun xs ρ2=>M ((x,n)::xs) ρ2:=rfl
theorem yc{i:Nat}:mD Ψ E Rt (.var i) ρ=jZ i ρ ρ i Rt:=rfl
theorem uc:mD Ψ E Rt (.ife c a b) ρ=yP Ψ c E ρ fun k ρ1=>if k=true then mD Ψ E Rt a ρ1 else mD Ψ E Rt b ρ1:=rfl
theorem kc:mD Ψ E Rt .non ρ=Rt (.d .none) ρ:=propext ⟨fun h=>h.2,fun h=>⟨rfl,h⟩⟩
theorem Pk{x:Bool}:mD Ψ E Rt (.bl x) ρ=Rt (.d (.bool x)) ρ:=propext ⟨fun h=>h.2,fun h=>⟨rfl,h⟩⟩
theorem xc{x:Int}:mD Ψ E Rt (.int x) ρ=Rt (.d (.int x)) ρ:=propext ⟨fun h=>h.2,fun h=>⟨rfl,h⟩⟩
theorem z5{f:Str}:mD Ψ E Rt (.call f as) ρ=cB Ψ (.call f as) E ρ fun x n ρ1=>lG x n (Rt x ρ1):=rfl
theorem fc{op:Operator}:mD Ψ E Rt (.bin op a b) ρ=cB Ψ (.bin op a b) E ρ fun x n ρ1=>lG x n (Rt x ρ1):=rfl
theorem cc{op:CmpOp}:mD Ψ E Rt (.cmp op a b) ρ=cB Ψ (.cmp op a b) E ρ fun x n ρ1=>lG x n (Rt x ρ1):=rfl
theorem gc:mD Ψ E Rt (.and a b) ρ=cB Ψ (.and a b) E ρ fun x n ρ1=>lG x n (Rt x ρ1):=rfl
theorem Nk:mD Ψ E Rt (.or a b) ρ=cB Ψ (.or a b) E ρ fun x n ρ1=>lG x n (Rt x ρ1):=rfl
theorem Rk{f:Bi}:mD Ψ E Rt (.bi f as) ρ=cB Ψ (.bi f as) E ρ fun x n ρ1=>lG x n (Rt x ρ1):=rfl
theorem bc:mD Ψ E Rt (.idx a b) ρ=cB Ψ (.idx a b) E ρ fun x n ρ1=>lG x n (Rt x ρ1):=rfl
theorem vc:mD Ψ E Rt (.lst as) ρ=cB Ψ (.lst as) E ρ fun x n ρ1=>lG x n (Rt x ρ1):=rfl
theorem j5{mask:List Bool}{tgs:List Str}{tg:Tg}{ik:ItK}:mD Ψ E Rt (.comp mask tgs tg ik its cond elt) ρ=cB Ψ (.comp mask tgs tg ik its cond elt) E ρ fun x n ρ1=>lG x n (Rt x ρ1):=rfl
theorem gp{i:Nat}{s:Option Sl}{σ:zA}:aR (i+1) (s::σ) ρ K=aR i σ ρ K:=rfl
theorem Zp{t:T}{σ:zA}:aR 0 (some (.nv t)::σ) ρ K=K t false ρ:=rfl
theorem Jp{t:T}{σ:zA}:aR 0 (some (.own t)::σ) ρ K=K t false ρ:=rfl
theorem Yp{i:Nat}{σ:zA}:aR i (lockA σ) ρ K=aR i σ ρ K:=by
 unfold aR lockA;rw[Qv];cases σ[i]? with
 |none=>rfl
 |some s=>cases s with
  |none=>rfl
  |some s=>cases s<;>rfl
theorem Io{i j:Nat}{s:Option Sl}{σ:zA}:jZ (i+1) (s::σ) ρ j Rt=jZ i σ ρ j Rt:=rfl
theorem bp{x:D}{j:Nat}{σ:zA}:jZ 0 (some (.nv (.d x))::σ) ρ j Rt=Rt (.d x) ρ:=propext ⟨fun h=>h.2,fun h=>⟨rfl,h⟩⟩
theorem xp{t:T}{j:Nat}{σ:zA}:jZ 0 (some (.own t)::σ) ρ j Rt=Rt t (ρ.set j none):=rfl
theorem ko{x:D}{n:Bool}:g9 (.d x) n Ψ b E ρ K=cB Ψ b E ρ K:=by cases n<;>rfl
theorem yo{x:T}:g9 x true Ψ b E ρ K=cB Ψ b E ρ K:=rfl
theorem zo{ts:List T}:g9 (.lst ts) false Ψ b E ρ K=cB Ψ b E (lockA ρ) fun y m _=>K y m ρ:=rfl
theorem So{x:D}{n:Bool}{md:List Md}:Rg (.d x) n Ψ b E md ρ M=zP Ψ b E md ρ M:=by cases n<;>rfl
theorem Po{x:T}{md:List Md}:Rg x true Ψ b E md ρ M=zP Ψ b E md ρ M:=rfl
theorem Ro{ts:List T}{md:List Md}:Rg (.lst ts) false Ψ b E md ρ M=zP Ψ b E md (lockA ρ) fun xs _=>M xs ρ:=rfl
theorem Ho{x:D}{n:Bool}:Nl (.d x) n Ψ b E ρ M=zP Ψ b E [] ρ M:=by cases n<;>rfl
end
section
variable{Ψ:PEv}{E:XE}{ρ σ:zA}{Z:PEnds}{s r q:PT}{i:Nat}{e c its:PX}{o:Option Sl}{n:Bool}{v:D}{P:Prop}{ds:List D}{x:T}
theorem kA:YA Ψ E .nil Z ρ=Z.nx ρ:=rfl
theorem Rb:YA Ψ E (.seq (.set i e) r) Z (o::σ)=cB Ψ e E (o::σ) fun x n ρ1=>JQ Ψ E r Z i x n ρ1:=rfl
theorem Eb:YA Ψ E (.seq (.own i e) r) Z (o::σ)=cB Ψ e E (o::σ) fun x n ρ1=>Li Ψ E r Z i x n ρ1:=rfl
theorem E4:YA Ψ E (.seq (.expr e) r) Z (o::σ)=cB Ψ e E (o::σ) fun _ _ ρ1=>YA Ψ E r Z ρ1:=rfl
theorem Tb:YA Ψ E (.seq (.ret e) r) Z (o::σ)=mD Ψ E Z.rt e (o::σ):=rfl
theorem Sb{x:Str}{m:Option Nat}:YA Ψ E (.seq (.rse x m e) r) Z ρ=(cf m ρ/\∃y,Ψ.va x=some (IJ y)/\cB Ψ e E ρ fun v _ _=>∃p,v=.d (.int p)/\E (y,p)):=rfl
theorem Ib:YA Ψ E (.seq (.ife c s .nil) r) Z (o::σ)=yP Ψ c E (o::σ) fun k ρ1=>if k=true then YA Ψ E s { Z with nx:=fun ρ'=>YA Ψ E r Z ρ' } ρ1 else YA Ψ E r Z ρ1:=rfl
theorem jc{tg:Tg}{ik:ItK}:YA Ψ E (.seq (.for_ tg ik its q) r) Z (o::σ)=zP Ψ its E [] (o::σ) fun xs ρ1=>uO ik xs fun items =>
   if MM xs=true then ZH (YA Ψ E q) tg { Z with nx:=fun ρ2=>YA Ψ E r Z (kill tg.ix ρ2) } items ρ1
   else ZH (YA Ψ E q) tg { Z with nx:=fun ρ2=>US tg.ix (MC ρ1 (JH its)) ρ1 (fun ρ'=>YA Ψ E r Z ρ') (kill tg.ix ρ2) } items (lock (MC ρ1 (JH its)) ρ1):=rfl
theorem Oo:JQ Ψ E r Z i (.d v) n ρ=YA Ψ E r Z (ρ.set i (some (.nv (.d v)))):=propext ⟨fun h=>h.2,fun h=>⟨by cases n<;>rfl,h⟩⟩
theorem No:JQ Ψ E r Z i (.lst (ds.map T.d)) true ρ=YA Ψ E r Z (ρ.set i (some (.nv (.d (.list ds))))):=by unfold JQ T.er;rw[oC];exact propext ⟨fun h=>h.2,fun h=>⟨rfl,h⟩⟩
theorem Yo:Li Ψ E r Z i x true ρ=YA Ψ E r Z (ρ.set i (some (.own x))):=propext ⟨fun h=>h.2,fun h=>⟨rfl,h⟩⟩
theorem Vp:lG (.d v) n P=P:=propext ⟨fun h=>h.2,fun h=>⟨by cases n<;>rfl,h⟩⟩
theorem Kp:lG x true P=P:=propext ⟨fun h=>h.2,fun h=>⟨rfl,h⟩⟩
theorem aV:(([]:List T)=[]/\P)=P:=propext ⟨fun h=>h.2,fun h=>⟨rfl,h⟩⟩
theorem Vj{A B:Prop}:(if(true:Bool)=true then A else B)=A:=rfl
theorem Xj{A B:Prop}:(if(false:Bool)=true then A else B)=B:=rfl
theorem Go{v a0:Option Sl}:YA Ψ E r Z (Wz (a0::σ) 0 v)=YA Ψ E r Z (v::σ):=rfl
theorem Fo{v a0 a1:Option Sl}:YA Ψ E r Z (Wz (a0::a1::σ) 1 v)=YA Ψ E r Z (a0::v::σ):=rfl
theorem Do{v a0 a1 a2:Option Sl}:YA Ψ E r Z (Wz (a0::a1::a2::σ) 2 v)=YA Ψ E r Z (a0::a1::v::σ):=rfl
theorem Co{v a0 a1 a2 a3:Option Sl}:YA Ψ E r Z (Wz (a0::a1::a2::a3::σ) 3 v)=YA Ψ E r Z (a0::a1::a2::v::σ):=rfl
theorem Bo{v a0 a1 a2 a3 a4:Option Sl}:YA Ψ E r Z (Wz (a0::a1::a2::a3::a4::σ) 4 v)=YA Ψ E r Z (a0::a1::a2::a3::v::σ):=rfl
theorem Uo{v a0 a1 a2 a3 a4 a5:Option Sl}:YA Ψ E r Z (Wz (a0::a1::a2::a3::a4::a5::σ) 5 v)=YA Ψ E r Z (a0::a1::a2::a3::a4::v::σ):=rfl
theorem Xo{v a0 a1 a2 a3 a4 a5 a6:Option Sl}:YA Ψ E r Z (Wz (a0::a1::a2::a3::a4::a5::a6::σ) 6 v)=YA Ψ E r Z (a0::a1::a2::a3::a4::a5::v::σ):=rfl
theorem Vo{v a0 a1 a2 a3 a4 a5 a6 a7:Option Sl}:YA Ψ E r Z (Wz (a0::a1::a2::a3::a4::a5::a6::a7::σ) 7 v)=YA Ψ E r Z (a0::a1::a2::a3::a4::a5::a6::v::σ):=rfl
theorem Ko{v a0 a1 a2 a3 a4 a5 a6 a7 a8:Option Sl}:YA Ψ E r Z (Wz (a0::a1::a2::a3::a4::a5::a6::a7::a8::σ) 8 v)=YA Ψ E r Z (a0::a1::a2::a3::a4::a5::a6::a7::v::σ):=rfl
theorem Zo{v a0 a1 a2 a3 a4 a5 a6 a7 a8 a9:Option Sl}:YA Ψ E r Z (Wz (a0::a1::a2::a3::a4::a5::a6::a7::a8::a9::σ) 9 v)=YA Ψ E r Z (a0::a1::a2::a3::a4::a5::a6::a7::a8::v::σ):=rfl
end
section
variable{d:D}{n m:Bool}{i j:Int}{z y:Str}{b:Bool}{xs:List (T×Bool)}{ts:List T}{ds es:List D}{md:List Md}{t:T}{C:List T->Prop}{Q:T->Bool->Prop}{L:Bool->Prop}{R:T->Prop}{W:List T->Prop}
theorem LG{α:Type}(f:α->D)(l:List α):l.map (fun c=>T.d (f c))=(l.map f).map T.d:=by rw[qp];rfl
theorem pD:(fA (.lst (ds.map T.d)) n).vw=.ls (ds.map T.d):=by cases n;rfl;show Vw.ls ((ersT (ds.map T.d)).map T.d)=_;rw[oC]
theorem lc:sD md [] C=C []:=tE
theorem xo:sD [] ((.d d,n)::xs) C=sD [] xs fun ts=>C (.d d::ts):=by
 have e:uB [] ((.d d,n)::xs) []=(uB [] xs []).map (.d d::·):=by cases n<;>rfl
 unfold sD;rw[e,DJ]
theorem mo:sD (.nv::md) ((t,false)::xs) C=sD md xs fun ts=>C (t::ts):=by have e:uB (.nv::md) ((t,false)::xs) []=(uB md xs []).map (t::·):=rfl;unfold sD;rw[e,DJ]
theorem Hd:AE (.lst (ds.map T.d))=some (.lst (ds.map T.d)):=by simp only[AE,T.vw,HA,Q5]
theorem vo{u:T}(h:AE (fA t n)=some u):sD (.kq::md) ((t,n)::xs) C=sD md xs fun ts=>C (u::ts):=by
 have e:uB (.kq::md) ((t,n)::xs) []=(uB md xs []).map (u::·):=by show(match AE (fA t n) with|some t=>(uB md xs []).map (t::·)|none=>none)=_;rw[h]
 unfold sD;rw[e,DJ]
theorem Sk:sD (.kq::md) ((.lst (ds.map T.d),n)::xs) C=sD md xs fun ts=>C (.lst (ds.map T.d)::ts):=vo (by cases n;exact Hd;show AE (.d (.list (ersT (ds.map T.d))))=_;rw[oC];simp only[AE,T.vw,HA,Q5])
theorem Jc:zU [] C=C []:=propext ⟨fun h=>h.2,fun h=>⟨rfl,h⟩⟩
theorem Lo:zU ((.d d,n)::xs) C=zU xs fun ts=>C (.d d::ts):=by show((AK (.d d) n&&LF xs)=true/\C (.d d::ED xs))=(LF xs=true/\C (.d d::ED xs));rw[show AK (.d d) n=true by cases n<;>rfl,QBa]
theorem Z5{i j:Nat}{x y:D}{ρ:zA}{P:zA->Prop}:bW (.tp [i,j]) (.d (.tuple [x,y])) ρ P=P ((ρ.set i (some (.nv (.d x)))).set j (some (.nv (.d y)))):=tE
theorem Vl{i:Nat}{ρ:zA}{P:zA->Prop}:bW (.nm i) t ρ P=P (ρ.set i (some (.nv t))):=rfl
theorem bg{tg:Tg}{ρ:zA}{P:zA->Prop}:sK tg t ρ P=bW tg t ρ P:=rfl
theorem Fb:kC .Add (.d (.int i)) n (.d (.int j)) m Q=Q (.d (.int (i+j))) false:=by unfold kC;rw[yA,yA];exact Zg i j
theorem Db:kC .Add (.d (.str z)) n (.d (.str y)) m Q=(z.length+y.length<=sizeLine/\Q (.d (.str (z++y))) false):=by unfold kC;rw[yA,yA];exact Yg z y
theorem Jb:kC .Sub (.d (.int i)) n (.d (.int j)) m Q=Q (.d (.int (i - j))) false:=by unfold kC;rw[yA,yA];exact ig i j
theorem Vb:kC .Mult (.d (.int i)) n (.d (.int j)) m Q=(IntMulOk i j/\Q (.d (.int (i * j))) false):=by unfold kC;rw[yA,yA];exact og i j
theorem Yb:kC .Mult (.d (.str z)) n (.d (.int j)) m Q=((-(2 ^ 31)<=j/\j<2 ^ 31/\z.length * j.toNat<=sizeLine)/\Q (.d (.str (gG z j))) false):=by unfold kC;rw[yA,yA];exact ng z j
theorem Cb:kC .FloorDiv (.d (.int i)) n (.d (.int j)) m Q=((0<j/\j<2 ^ 200)/\Q (.d (.int (i / j))) false):=by unfold kC;rw[yA,yA];exact lg i j
theorem Xb:kC .Mod (.d (.int i)) n (.d (.int j)) m Q=(0<j/\Q (.d (.int (i % j))) false):=by unfold kC;rw[yA,yA];exact fg i j
theorem Kb:kC .Pow (.d (.int i)) n (.d (.int j)) m Q=(J5 i j/\Q (.d (.int (i ^ j.toNat))) false):=by unfold kC;rw[yA,yA];exact N8 i j
theorem Xk:kC .Add (.lst (ds.map T.d)) n (.lst (es.map T.d)) m Q=(ds.length+es.length<=sizeLine/\Q (.lst ((ds++es).map T.d)) true):=by unfold kC;rw[pD,pD,B4,HA,HA];exact propext ⟨fun⟨_,_,e1,e2,k⟩=>by cases e1;cases e2;exact k,fun k=>⟨_,_,rfl,rfl,k⟩⟩
theorem Vk:kC .Add (.d (.tuple ds)) n (.d (.tuple es)) m Q=((ds≠[]/\es≠[]/\ds.length+es.length<=sizeLine)/\Q (.d (.tuple (ds++es))) false):=by unfold kC;rw[yA,yA];show binT .Add (.tp (ds.map T.d)) (.tp (es.map T.d)) Q=_;rw[Jg,HA,HA];exact propext ⟨fun⟨_,_,e1,e2,k1,k2,k3,k⟩=>by cases e1;cases e2;exact⟨⟨k1,k2,k3⟩,k⟩,fun⟨⟨k1,k2,k3⟩,k⟩=>⟨_,_,rfl,rfl,k1,k2,k3,k⟩⟩
theorem Dk:kC .Add t n (.lst [.d d]) m Q=kC .Add t n (.lst ([d].map T.d)) m Q:=rfl
theorem Bb:kC .Add (.lst [.d d]) n t m Q=kC .Add (.lst ([d].map T.d)) n t m Q:=rfl
theorem Ck{e:D}:kC .Add t n (.lst [.d d,.d e]) m Q=kC .Add t n (.lst ([d,e].map T.d)) m Q:=rfl
theorem gj:oK [.d d]=.d (.tuple [d]):=rfl
theorem Ia:gC .Eq (.d (.int i)) (.d (.int j)) L=L (decide (i=j)):=rfl
theorem Ea:gC .Eq (.d (.str z)) (.d (.str y)) L=L (decide (z=y)):=rfl
theorem Da:gC .NotEq (.d (.int i)) (.d (.int j)) L=L (!decide (i=j)):=rfl
theorem Ca:gC .NotEq (.d (.str z)) (.d (.str y)) L=L (!decide (z=y)):=rfl
theorem Fa{c:Bool}:gC .NotEq (.d (.bool b)) (.d (.bool c)) L=L (!decide (b=c)):=rfl
theorem zk:gC .Lt (.d (.int i)) (.d (.int j)) L=L (decide (i<j)):=rfl
theorem vk:gC .LtE (.d (.int i)) (.d (.int j)) L=L (decide (i<=j)):=rfl
theorem Na:gC .Is (.d .none) (.d .none) L=L true:=rfl
theorem Pa:gC .Is (.d (.int i)) (.d .none) L=L false:=rfl
theorem Ma:gC .Is (.d (.str z)) (.d .none) L=L false:=rfl
theorem La:gC .Is (.d (.tuple ds)) (.d .none) L=L false:=rfl
theorem Oa:gC .Is (.lst ts) (.d .none) L=L false:=rfl
theorem Ta:gC .In (.d (.str z)) (.d (.str y)) L=L (inStr y z):=rfl
theorem Ra:gC .In (.d (.str z)) (.d (.tuple ds)) L=(((YB (.str z)=true/\ds.all YB=true)∨(NE (.str z)/\NE (.list ds)))/\L (ds.any fun y=>Qo y (.str z))):=rfl
theorem Z4:gC .NotIn (.d (.str z)) (.d (.tuple ds)) L=(((YB (.str z)=true/\ds.all YB=true)∨(NE (.str z)/\NE (.list ds)))/\L (!(ds.any fun y=>Qo y (.str z)))):=rfl
theorem Sa:gC .In (.d (.str z)) (.lst (ds.map T.d)) L=(((YB (.str z)=true/\ds.all YB=true)∨(NE (.str z)/\NE (.list ds)))/\L (ds.any fun y=>Qo y (.str z))):=by unfold gC T.er;rw[oC];rfl
theorem X4:gC .In (.d .none) (.lst (ds.map T.d)) L=(((YB .none=true/\ds.all YB=true)∨(NE .none/\NE (.list ds)))/\L (ds.any fun y=>Qo y .none)):=by unfold gC T.er;rw[oC];rfl
theorem Nn:P5 (.d (.bool b)) L=L b:=rfl
theorem An:cn (.d (.bool b)) L=L b:=rfl
theorem tN{x:Str}{k:String}(h:isD k d=some b)(hk:bO k=true):rN (.bty x k) (.d d) L=L b:=by show(∃b,isD k d=some b/\bO k=true/\L b)=_;exact propext ⟨fun⟨_,e,_,q⟩=>by rw[h]at e;cases e;exact q,fun q=>⟨_,h,hk,q⟩⟩
theorem Dj{x:Str}:rN (.bty x "str") (.d (.int i)) L=L false:=tN rfl rfl
theorem Cj{x:Str}:rN (.bty x "str") (.d (.str z)) L=L true:=tN rfl rfl
theorem Hj{x:Str}:rN (.bty x "int") (.d (.int i)) L=L true:=tN rfl rfl
theorem Lj{x:Str}:rN (.bty x "bool") (.d (.int i)) L=L false:=tN rfl rfl
theorem Fj{x:Str}:rN (.bty x "list") (.d (.tuple ds)) L=L false:=tN rfl rfl
theorem Uj{x:Str}:rN (.bty x "tuple") (.d (.tuple ds)) L=L true:=tN rfl rfl
theorem Gj{x:Str}:rN (.bty x "list") (.lst ts) L=L true:=tN (d:=.list (ersT ts)) rfl rfl
theorem Bj{x:Str}:rN (.bty x "tuple") (.lst ts) L=L false:=tN (d:=.list (ersT ts)) rfl rfl
theorem ka:XM .len [(.d (.str z),n)] Q=(z.length<=sizeLine/\Q (.d (.int z.length)) false):=by unfold XM aB;rw[yA];exact Yk z
theorem Ii:XM .len [(.d (.list ds),n)] Q=Q (.d (.int ds.length)) false:=by unfold XM aB;rw[yA];refine(xb _).trans ?_;rw[QJ]
theorem Si:XM .len [(.d (.tuple ds),n)] Q=Q (.d (.int ds.length)) false:=by unfold XM aB;rw[yA];refine(Jk _).trans ?_;rw[QJ]
theorem Ei:XM .len [(.lst (ds.map T.d),n)] Q=Q (.d (.int ds.length)) false:=by unfold XM aB;rw[pD];refine(xb _).trans ?_;rw[QJ]
theorem ba:XM .all [(.lst (ds.map T.d),n)] Q=∃bs:List Bool,ds=bs.map PyData.bool/\Q (.d (.bool (bs.all id))) false:=by unfold XM aB;rw[pD];refine(ak _).trans ?_;simp only[HA,Qj]
theorem kj:XM .int [(.d (.bool b),n)] Q=Q (.d (.int (if b then 1 else 0))) false:=by unfold XM aB;rw[yA];exact pk b
theorem zj:XM .int [(.d (.str z),n)] Q=(z.length<=640/\DB (intText? z) fun i=>Q (.d (.int i)) false):=by unfold XM aB;rw[yA];exact nk z
theorem Ai:XM .str [(.d (.int i),n)] Q=(i.natAbs.log2<1920/\Q (.d (.str (toString i))) false):=by unfold XM aB;rw[yA];exact gk i
theorem Ti:XM .str [(.d (.str z),n)] Q=Q (.d (.str z)) false:=by unfold XM aB;rw[yA];exact fk z
theorem ya:XM .max [(.d (.int i),n),(.d (.int j),m)] Q=Q (.d (.int (if j > i then j else i))) false:=by unfold XM aB aB;rw[yA,yA];exact Vg i j
theorem Fn:cM (.lst (ds.map T.d)) n (.d (.int i)) m R=DB (mC ds i) fun d=>R (.d d):=by unfold cM;rw[pD,yA];refine(T2 _ _).trans ?_;show DB (mC (ds.map T.d) i) R=_;rw[IB,DJ]
theorem Ig:cM (.d (.list ds)) n (.d (.int i)) m R=DB (mC ds i) fun d=>R (.d d):=by unfold cM;rw[yA,yA];refine(T2 _ _).trans ?_;show DB (mC (ds.map T.d) i) R=_;rw[IB,DJ]
theorem Eg:cM (.d (.tuple ds)) n (.d (.int i)) m R=DB (mC ds i) fun d=>R (.d d):=by unfold cM;rw[yA,yA];refine(Nf _ _).trans ?_;show DB (mC (ds.map T.d) i) R=_;rw[IB,DJ]
theorem jh{e:D}:cM (.lst [.d d,.d e]) n t m R=cM (.lst ([d,e].map T.d)) n t m R:=rfl
theorem Cn:cM (.d (.str z)) n (.d (.int i)) m R=(z.length<=sizeLine/\DB (mC z.cps.toList i) fun c=>R (.d (.str ⟨#[c]⟩))):=by unfold cM;rw[yA,yA];exact Of _ _
theorem Pn{l u:Option Int}:YH (.d (.str z)) n l u Q=(z.length<=sizeLine/\Q (.d (.str (qS z l u))) false):=by unfold YH;rw[yA];exact Dd z
theorem Xm{l u:Option Int}:YH (.d (.list ds)) n l u Q=Q (.lst ((eM ds l u).map T.d)) true:=by unfold YH;rw[yA];refine(Cd _).trans ?_;rw[HA];exact tE
theorem Hh{l u:Option Int}(h:eM ds l u=es):YH (.d (.list ds)) n l u Q=Q (.lst (es.map T.d)) true:=by rw[<- h];exact Xm
theorem rj:y8 .split (.d (.str z)) n [(.d (.str y),m)] Q=((z.length<=sizeLine/\0<y.length/\(wP z y).length<=sizeLine)/\Q (.lst (((wP z y).map PyData.str).map T.d)) true):=by unfold y8 aB;rw[yA,yA];refine(cj z y).trans ?_;rw[and_assoc,and_assoc]
theorem sj:y8 .rstrip (.d (.str z)) n [] Q=(z.length<=sizeLine/\Q (.d (.str (wu z))) false):=by unfold y8;rw[yA];exact bj z
theorem mj{P:Prop}:(jM .split (fA (.d (.str z)) n).vw=true/\P)=P:=propext ⟨fun h=>h.2,fun h=>⟨ET rfl,h⟩⟩
theorem oj{P:Prop}:(jM .rstrip (fA (.d (.str z)) n).vw=true/\P)=P:=propext ⟨fun h=>h.2,fun h=>⟨ET rfl,h⟩⟩
theorem Hn:uO .val [(.d (.str z),n)] W=W (z.cps.toList.map fun c=>.d (.str ⟨#[c]⟩)):=by unfold uO aB;rw[yA];exact V2 z
theorem Ln:uO .val [(.d (.list ds),n)] W=W (ds.map T.d):=by unfold uO aB;rw[yA];exact nR _
theorem uh:uO .val [(.lst (ds.map T.d),n)] W=W (ds.map T.d):=by unfold uO aB;rw[pD];exact nR _
theorem xh:uO .rng1 [(.d (.int j),n)] W=((-(2 ^ 62)<=j/\j<2 ^ 62)/\W ((qK j.toNat).map fun(i:Nat)=>.d (.int (i:Int)))):=by unfold uO aB;rw[yA];exact K2 j
theorem vh{k:Int}{l:Bool}:uO .rng3 [(.d (.int i),n),(.d (.int j),m),(.d (.int k),l)] W=((-(2 ^ 62)<=i/\i<2 ^ 62/\-(2 ^ 62)<=j/\j<2 ^ 62/\0<k/\k<1000)/\W ((qK (VQ i j k)).map fun(m:Nat)=>.d (.int (i+(m:Int) * k)))):=by unfold uO aB aB aB;rw[yA,yA,yA];exact Y2 i j k
theorem CO{x y:Vw}(h1:x.seq=some (ds.map T.d))(h2:y.seq=some (es.map T.d)):vD .zip2 [x,y] W=W ((ds.zip es).map fun p=>.d (.tuple [p.1,p.2])):=by rw[A1];exact propext ⟨fun⟨_,_,_,_,e1,e2,e3,e4,k⟩=>by rw[h1]at e1;rw[h2]at e2;cases e1;cases e2;rw[HA]at e3 e4;cases e3;cases e4;exact k,fun k=>⟨_,_,_,_,h1,h2,HA _,HA _,k⟩⟩
theorem kh:uO .zip2 [(.lst (ds.map T.d),false),(.lst (es.map T.d),m)] W=W ((ds.zip es).map fun p=>.d (.tuple [p.1,p.2])):=by unfold uO aB aB;rw[pD,pD];exact CO rfl rfl
theorem zh:uO .zip2 [(.d (.tuple ds),n),(.d (.tuple es),m)] W=W ((ds.zip es).map fun p=>.d (.tuple [p.1,p.2])):=by unfold uO aB aB;rw[yA,yA];exact CO rfl rfl
theorem v9:uO .zip2 [(.d (.tuple ds),n),(.lst (es.map T.d),m)] W=W ((ds.zip es).map fun p=>.d (.tuple [p.1,p.2])):=by unfold uO aB aB;rw[yA,pD];exact CO rfl rfl
theorem M9{Ψ:PEv}{x:Str}{kds:List (Str×D)}(h:Ψ.dc x=some kds):yF Ψ (.dget x) [(.d (.str z),n)] Q=Q (.d ((kds.lookup z).getD .none)) false:=by unfold yF xD;rw[yA];refine(Je x z).trans ?_;rw[h];exact tE
theorem vT{Ψ:PEv}{x:Str}{kds:List (Str×D)}(h:Ψ.dc x=some kds)(e:(kds.lookup z).getD .none=d):yF Ψ (.dget x) [(.d (.str z),n)] Q=Q (.d d) false:=by rw[<- e];exact M9 h
theorem Hm{Ψ:PEv}{x:Str}{kds:List (Str×D)}(h:Ψ.dc x=some kds)(e:kds.lookup z=some d):yF Ψ (.dix x) [(.d (.str z),n)] Q=Q (.d d) false:=by unfold yF xD;rw[yA];refine(ae x z).trans ?_;rw[h];exact propext ⟨fun⟨_,_,e1,e2,k⟩=>by cases e1;rw[e]at e2;cases e2;exact k,fun k=>⟨_,_,rfl,e,k⟩⟩
theorem Xi{Ψ:PEv}:yF Ψ .tmul [(.d (.tuple ds),n),(.d (.int i),m)] Q=((ds≠[]/\1<=i/\i<2 ^ 31/\ds.length * i.toNat<=sizeLine)/\Q (.d (.tuple (QI i.toNat ds).flatten)) false):=by unfold yF xD xD;rw[yA,yA];refine(re ds i).trans ?_;exact propext ⟨fun⟨h1,h2,h3⟩=>⟨⟨h1,h2⟩,h3⟩,fun⟨⟨h1,h2⟩,h3⟩=>⟨h1,h2,h3⟩⟩
noncomputable def eZ(Q:T->List T->Prop):PEnds:={ nx:=fun _=>Q (.d .none) [],rt:=fun t _=>Q t [] }
theorem Ua{Q:T->List T->Prop}{t:T}{ρ:zA}:(eZ Q).rt t ρ=Q t []:=rfl
theorem uA{Ψ:PEv}{b:PT}{p:PSp}{N ps:List Str}{ds:List T}{Q:T->List T->Prop}(ρ:zA)(hl:ds.length=ps.length)(hc:zC 0 p.md ps.length=[])(hs:bA N p.md ds=ρ)(h:YA Ψ (fun _=>False) b (eZ Q) ρ):ds.length=ps.length/\YA Ψ (fun _=>False) b (aA p ps.length Q) (bA N p.md ds):=by
 have e:aA p ps.length Q=eZ Q:=by unfold aA;rw[hc];rfl
 rw[e,hs];exact⟨hl,h⟩
end
section
variable{K:QC}{F H:Hp}
end
section
variable{Ψ:PEv}{E:XE}{ρ σ:zA}{o:Option Sl}{K:TK}{L:Bool->zA->Prop}{M:List (T×Bool)->zA->Prop}{a b c e as its elt cond:PX}{Rt:T->zA->Prop}{r s:PT}{Z:PEnds}{j:Nat}
theorem Pb:YA Ψ E (.seq (.six j a e) r) Z (o::σ)=EI (o::σ)[j]? fun t=>cB Ψ e E ((o::σ).set j (some (.nv t))) fun x n ρ1=>lG x n (cB Ψ a E ρ1 fun y m ρ2=>lG y m (ρ2[j]?=some (some (.nv t))/\Kd t y.er x.er fun t'=>YA Ψ E r Z (ρ2.set j (some (.own t'))))):=rfl
theorem aS:cB Ψ (.mt .insert (.var j) as) E ρ K=EI ρ[j]? fun t=>nK .insert t=true/\zP Ψ as E [] (ρ.set j (some (.nv t))) fun xs ρ2=>LF xs=true/\ρ2[j]?=some (some (.nv t))/\AT .insert t (ED xs) fun r s'=>K r true (ρ2.set j (some (.own s'))):=rfl
end
section
variable{d:D}{ds es:List D}{n m:Bool}{xs:List (T×Bool)}{C:List T->Prop}{Q:T->Bool->Prop}{R:T->Prop}{L:Bool->Prop}{t u:T}{z y:Str}{i k:Int}
theorem fj{e:D}:oK [.d d,.d e]=.d (.tuple [d,e]):=rfl
theorem xk:gC .Gt (.d (.int i)) (.d (.int k)) L=L (decide (k<i)):=rfl
theorem uk:gC .GtE (.d (.int i)) (.d (.int k)) L=L (decide (k<=i)):=rfl
theorem xa:XM .list [(.d (.list ds),n)] Q=Q (.lst (ds.map T.d)) true:=by unfold XM aB;rw[yA];exact propext ⟨fun h=>h.elim (fun⟨_,_,e,h,q⟩=>by cases e;rw[HA]at h;cases h;exact q) fun⟨_,_,e,_⟩=>(by cases e),fun q=>.inl ⟨_,_,rfl,HA _,q⟩⟩
end
theorem DO:∀{ks ls:List Str}{ds es:List D},ks.length=ds.length->ls.length=es.length->mG ks ds=mG ls es->ks=ls/\ds=es
 |[],[],[],[],_,_,_=>⟨rfl,rfl⟩
 |[],_::_,[],_::_,_,_,e=>by cases e
 |_::_,[],_::_,[],_,_,e=>by cases e
 |k::ks,l::ls,d::ds,x::es,h1,h2,e=>by have e:(PyData.str k,d)::mG ks ds=(PyData.str l,x)::mG ls es:=e;injection e with e1 e2;injection e1 with e1 e3;injection e1 with e1;obtain⟨rfl,rfl⟩:=DO (WJ h1) (WJ h2) e2;exact⟨by rw[e1],by rw[e3]⟩
def V5(x:T)(n:Bool)(Ψ:PEv)(b:PX)(E:XE)(ρ:zA)(K:Option Int->zA->Prop):Prop:=sq (α:=Option Int) (fA x n) ρ (fun ρ R=>(pe Ψ b E).e ρ fun l _ ρ2=>CG l.er fun o=>R o ρ2) K
section
variable{Ψ:PEv}{E:XE}{ρ σ:zA}{o:Option Sl}{K:TK}{L:Bool->zA->Prop}{M:List (T×Bool)->zA->Prop}{a b c e as:PX}{Rt:T->zA->Prop}{r s:PT}{Z:PEnds}{j:Nat}{i:Nat}
theorem zc{o:Prm}:mD Ψ E Rt (.prm o as) ρ=cB Ψ (.prm o as) E ρ fun x n ρ1=>lG x n (Rt x ρ1):=rfl
theorem Gb{o:Prm}:yP Ψ (.prm o as) E ρ L=cB Ψ (.prm o as) E ρ fun t _ ρ1=>P5 t fun b=>L b ρ1:=rfl
theorem Hc{ks:List Str}:cB Ψ (.dsp ks as) E ρ K=zP Ψ as E [] ρ fun xs ρ1=>(ks.Nodup/\ks.length<=15/\ks.length=xs.length/\MM xs=true)/\K (.d (.dict (mG ks (ersT (ED xs))))) false ρ1:=rfl
theorem d5:cB Ψ (.mt .find a as) E ρ K=cB Ψ a E ρ fun x n ρ1=>jM .find (fA x n).vw=true/\Nl x n Ψ as E ρ1 fun xs ρ2=>y8 .find x n xs fun z k=>K z k ρ2:=rfl
theorem Xc:cB Ψ (.mt .pop (.var j) as) E ρ K=EI ρ[j]? fun t=>nK .pop t=true/\zP Ψ as E [] (ρ.set j (some (.nv t))) fun xs ρ2=>LF xs=true/\ρ2[j]?=some (some (.nv t))/\AT .pop t (ED xs) fun r s'=>K r true (ρ2.set j (some (.own s'))):=rfl
theorem A4{is:List Nat}:YA Ψ E (.seq (.setT is e) r) Z (o::σ)=cB Ψ e E (o::σ) fun x n ρ1=>lG x n (bW (.tp is) (.d x.er) ρ1 fun ρ2=>YA Ψ E r Z ρ2):=rfl
theorem Hg{p:PSp}{x f:Str}{q:Option Nat}{k:Nat}(h:Ψ.sp f=p)(hm:p.md=[])(hv:Ψ.va x=some (IJ "WorldError")):YA Ψ E (.seq (.tryC q f as x j k) r) Z (o::σ)=((j≠k/\(o::σ)[k]?=some none)/\zP Ψ as (fun _=>False) [] (o::σ) fun xs ρ1=>ρ1=o::σ/\sD [] xs fun ts=>p.run ts (fun t _=>YA Ψ E r Z (Od q t (o::σ))) fun y=>YA Ψ E r Z ((o::σ).set j (some (.nv (.d (HF y.1 y.2)))))):=by
 show(_/\Ψ.va x=_/\nA (Ψ.sp f).md as=[]/\(pe Ψ as (fun _=>False)).a (Ψ.sp f).md (o::σ) fun xs ρ1=>ρ1=(o::σ)/\∃ts,uB (Ψ.sp f).md xs []=some ts/\(Ψ.sp f).run ts _ _)=_;rw[h,hm];have mr:nA [] as=[]:=by cases as<;>rfl
 exact propext ⟨fun⟨h1,_,_,h4⟩=>⟨h1,h4⟩,fun⟨h1,h4⟩=>⟨h1,hv,mr,h4⟩⟩
theorem mW(hb:isNop b=false):cB Ψ (.slc a b .nop) E ρ K=cB Ψ a E ρ fun x n ρ1=>V5 x n Ψ b E ρ1 fun l ρ2=>YH x n l none fun z k=>K z k ρ2:=by
 have:∀x n ρ1,(sq (α:=Option Int) (fA x n) ρ1 (if isNop b=true then fun ρ (R:Option Int->zA->Prop)=>R none ρ else fun ρ R=>(pe Ψ b E).e ρ fun l _ ρ2=>CG l.er fun o=>R o ρ2) fun l ρ2=>sq (fA x n) ρ2 (fun ρ (R:Option Int->zA->Prop)=>R none ρ) fun u ρ3=>tG (fA x n).vw l u fun z k=>K z k ρ3)=V5 x n Ψ b E ρ1 fun l ρ2=>YH x n l none fun z k=>K z k ρ2:=by
  intro x n ρ1;unfold V5 YH;rw[hb];have:∀(ρ2:zA) (l:Option Int),(sq (fA x n) ρ2 (fun ρ (R:Option Int->zA->Prop)=>R none ρ) fun u ρ3=>tG (fA x n).vw l u fun z k=>K z k ρ3)=tG (fA x n).vw l none fun z k=>K z k ρ2:=by intro ρ2 l;unfold sq;split<;>rfl
  simp only[this];rfl
 exact congrArg (fun k=>(pe Ψ a E).e ρ k) (funext fun x=>funext fun n=>funext fun ρ1=>this x n ρ1)
theorem j9(hb:isNop b=false):cB Ψ (.slc a .nop b) E ρ K=cB Ψ a E ρ fun x n ρ1=>V5 x n Ψ b E ρ1 fun u ρ2=>YH x n none u fun z k=>K z k ρ2:=by
 have:∀x n ρ1,(sq (α:=Option Int) (fA x n) ρ1 (fun ρ (R:Option Int->zA->Prop)=>R none ρ) fun l ρ2=>sq (α:=Option Int) (fA x n) ρ2 (if isNop b=true then fun ρ (R:Option Int->zA->Prop)=>R none ρ else fun ρ R=>(pe Ψ b E).e ρ fun l _ ρ2=>CG l.er fun o=>R o ρ2) fun u ρ3=>tG (fA x n).vw l u fun z k=>K z k ρ3)=V5 x n Ψ b E ρ1 fun u ρ2=>YH x n none u fun z k=>K z k ρ2:=by
  intro x n ρ1;unfold V5 YH;rw[hb];have:∀(k:Option Int->zA->Prop),(sq (α:=Option Int) (fA x n) ρ1 (fun ρ (R:Option Int->zA->Prop)=>R none ρ) k)=k none ρ1:=by intro k;unfold sq;split<;>rfl
  rw[this];rfl
 exact congrArg (fun k=>(pe Ψ a E).e ρ k) (funext fun x=>funext fun n=>funext fun ρ1=>this x n ρ1)
theorem nS{k:Nat}:cB Ψ (.slc a (.var k) .nop) E ρ K=cB Ψ a E ρ fun x n ρ1=>V5 x n Ψ (.var k) E ρ1 fun l ρ2=>YH x n l none fun z k=>K z k ρ2:=mW rfl
theorem sS{op:Operator}:cB Ψ (.slc a (.bin op b c) .nop) E ρ K=cB Ψ a E ρ fun x n ρ1=>V5 x n Ψ (.bin op b c) E ρ1 fun l ρ2=>YH x n l none fun z k=>K z k ρ2:=mW rfl
theorem oS{k:Nat}:cB Ψ (.slc a .nop (.var k)) E ρ K=cB Ψ a E ρ fun x n ρ1=>V5 x n Ψ (.var k) E ρ1 fun l ρ2=>YH x n none l fun z k=>K z k ρ2:=j9 rfl
theorem Fh{x:D}{n:Bool}{W:Option Int->zA->Prop}:V5 (.d x) n Ψ b E ρ W=cB Ψ b E ρ fun y _ ρ2=>CG y.er fun o=>W o ρ2:=by cases n<;>rfl
theorem Vi{i:Int}{W:Option Int->Prop}:CG (T.er (.d (.int i))) W=W (some i):=rfl
end
section
variable{Ψ:PEv}{d:D}{ds es:List D}{n m:Bool}{xs:List (T×Bool)}{C:List T->Prop}{Q:T->Bool->Prop}{R:T->Prop}{L:Bool->Prop}{t u:T}{z y:Str}{i k:Int}
theorem Oj:T.er (.d d)=d:=rfl
theorem Ui:yF Ψ .plc [(.d (HF z i),n)] Q=Q (.d (.int i)) false:=by unfold yF xD;rw[yA];exact propext ⟨fun⟨_,_,e,q⟩=>by cases e;exact q,fun q=>⟨z,i,rfl,q⟩⟩
theorem Ci:yF Ψ .ngt [(.d (.int i),n)] Q=Q (.d (.int (-i))) false:=by unfold yF xD;rw[yA];exact propext ⟨fun⟨_,e,q⟩=>by cases e;exact q,fun q=>⟨i,rfl,q⟩⟩
theorem Fi:yF Ψ .isC [(.d (HF z i),n),(.d (IJ y),m)] Q=Q (.d (.bool (decide (y=z∨y="WorldError")))) false:=by unfold yF xD xD;rw[yA,yA];exact propext ⟨fun⟨_,_,_,e,q⟩=>by cases e;exact q,fun q=>⟨z,i,y,rfl,q⟩⟩
theorem Di{x:Str}:yF Ψ (.isT x "ValueError") [(.d (HF z i),n)] Q=Q (.d (.bool true)) false:=by
 unfold yF xD;rw[yA];have e0:cN.contains (.type "ValueError")=true:=by decide +kernel
 exact propext ⟨fun⟨_,_,_,e,q⟩=>by cases e;rw[e0]at q;exact q,fun q=>⟨rfl,z,i,rfl,by rw[e0];exact q⟩⟩
theorem Gi{neg:Bool}{ks:List Str}(h:ks≠[]/\ks.length=ds.length):yF Ψ (.din neg) [(.d (.str z),n),(.d (.dict (mG ks ds)),m)] Q=Q (.d (.bool (cond neg (!((ks.zip ds).lookup z).isSome) ((ks.zip ds).lookup z).isSome))) false:=by unfold yF xD xD;rw[yA,yA];refine propext ⟨fun⟨_,ks',ds',e,h',q⟩=>?_,fun q=>⟨z,ks,ds,rfl,h,q⟩⟩;injection e with e1 e2;injection e2 with e2 _;injection e1 with e1;injection e1 with e1;injection e2 with e2;injection e2 with e2;obtain⟨rfl,rfl⟩:=DO h.2 h'.2 e2;subst e1;exact q
theorem Hi{ks:List Str}(h:ks≠[]/\ks.length=ds.length)(hd:(ks.zip ds).lookup z=some d):yF Ψ .dgt [(.d (.dict (mG ks ds)),n),(.d (.str z),m)] Q=Q (.d d) false:=by unfold yF xD xD;rw[yA,yA];refine propext ⟨fun⟨_,ks',ds',_,e,h',g,q⟩=>?_,fun q=>⟨z,ks,ds,d,rfl,h,hd,q⟩⟩;injection e with e1 e2;injection e2 with e2 _;injection e1 with e1;injection e1 with e1;injection e2 with e2;injection e2 with e2;obtain⟨rfl,rfl⟩:=DO h.2 h'.2 e1;subst e2;rw[hd]at g;cases g;exact q
theorem ij:y8 .find (.d (.str z)) n [(.d (.str y),m)] Q=Q (.d (.int (QCY z y))) false:=by unfold y8 aB;rw[yA,yA];exact propext ⟨fun⟨_,_,e1,e2,q⟩=>by cases e1;cases e2;exact q,fun q=>⟨z,y,rfl,rfl,q⟩⟩
theorem pj{P:Prop}:(jM .find (fA (.d (.str z)) n).vw=true/\P)=P:=propext ⟨fun h=>h.2,fun h=>⟨ET rfl,h⟩⟩
theorem A0{N:T->T->Prop}(ts:List T)(i:Int):AT .pop (.lst ts) [.d (.int i)] N=∃k t,vO ts.length i=some k/\ts[k]?=some t/\N t (.lst (ts.eraseIdx k)):=propext ⟨fun⟨_,_,k,t,e1,e2,h⟩=>by cases e1;cases e2;exact⟨k,t,h⟩,fun⟨k,t,h⟩=>⟨_,_,k,t,rfl,rfl,h⟩⟩
theorem ym{W:List T->Prop}(h:z.cps.all (· < 128)=true):uO .zip2 [(.d (.str z),n),(.lst (es.map T.d),m)] W=W (((z.cps.toList.map fun c=>PyData.str ⟨#[c]⟩).zip es).map fun p=>.d (.tuple [p.1,p.2])):=by unfold uO aB aB;rw[yA,pD];refine CO ?_ rfl;show(if z.cps.all (· < 128) then some _ else none)=_;rw[if_pos h,qp];rfl
theorem Uk:kC .Mult (.lst (ds.map T.d)) n (.d (.int k)) m Q=((-(2 ^ 31)<=k/\k<2 ^ 31/\ds.length * k.toNat<=sizeLine)/\Q (.lst ((QI k.toNat ds).flatten.map T.d)) true):=by
 unfold kC;rw[pD,yA];refine propext ⟨fun h=>?_,fun h=>.inr (.inr ⟨_,_,_,rfl,rfl,HA _,h⟩)⟩;rcases h with⟨_,_,e,_⟩| ⟨_,_,e,_⟩| ⟨_,_,_,e1,e2,e3,h⟩
 cases e;cases e;cases e1;cases e2;rw[HA]at e3;cases e3;exact h
theorem Ub:kC .Mult (.lst [.d d]) n t m Q=kC .Mult (.lst ([d].map T.d)) n t m Q:=rfl
theorem Fk:kC .Add (.d (.list ds)) n (.lst (es.map T.d)) m Q=(ds.length+es.length<=sizeLine/\Q (.lst ((ds++es).map T.d)) true):=by unfold kC;rw[yA,pD];show binT .Add (.ls (ds.map T.d)) (.ls (es.map T.d)) Q=_;rw[B4,HA,HA];exact propext ⟨fun⟨_,_,e1,e2,k⟩=>by cases e1;cases e2;exact k,fun k=>⟨_,_,rfl,rfl,k⟩⟩
theorem Bk{e f:D}:kC .Add t n (.lst [.d d,.d e,.d f]) m Q=kC .Add t n (.lst ([d,e,f].map T.d)) m Q:=rfl
theorem EV:∀ds:List D,Qo (.list ds) (.list [])=ds.isEmpty
 |[]=>by decide +kernel
 |_::_=>by simp[Qo,PyData.eqvAll]
theorem AZ:NE (.list []):=⟨rfl,by decide⟩
theorem yb:gC .Eq (.d (.list ds)) (.lst []) L=(NE (.list ds)/\L ds.isEmpty):=by show(NE (.list ds)/\NE (.list [])/\L (Qo (.list ds) (.list [])))=_;rw[EV];exact propext ⟨fun h=>⟨h.1,h.2.2⟩,fun h=>⟨h.1,AZ,h.2⟩⟩
theorem Ga:gC .NotEq (.d (.list ds)) (.lst []) L=(NE (.list ds)/\L (!ds.isEmpty)):=by show(NE (.list ds)/\NE (.list [])/\L (!PyData.eqv (.list ds) (.list [])))=_;rw[EV];exact propext ⟨fun h=>⟨h.1,h.2.2⟩,fun h=>⟨h.1,AZ,h.2⟩⟩
theorem V4:gC .NotEq (.d (.list ds)) (.lst (es.map T.d)) L=(NE (.list ds)/\NE (.list es)/\L (!PyData.eqv (.list ds) (.list es))):=by unfold gC T.er;rw[oC];rfl
theorem K4:gC .NotIn (.d (.str z)) (.lst (ds.map T.d)) L=(((YB (.str z)=true/\ds.all YB=true)∨(NE (.str z)/\NE (.list ds)))/\L (!(ds.any fun y=>Qo y (.str z)))):=by unfold gC T.er;rw[oC];rfl
theorem Ba:gC .NotIn (.d (.str z)) (.d (.str y)) L=L (!(inStr y z)):=rfl
theorem Aa{e:D}:gC .In t (.lst [.d d,.d e]) L=gC .In t (.lst ([d,e].map T.d)) L:=rfl
theorem Ha:gC .Is (.d (HF z i)) (.d .none) L=L false:=rfl
end
end L2.L3
namespace L2.L3.Lib
open PySem PySem.Spec PyProof.Rows L2 L2.L3
noncomputable def eJ:List Str:=["word","allowed"]
noncomputable def pE:List Str:=["word","allowed"]
noncomputable def aP:Need:=⟨[],[],["all"],[]⟩
noncomputable def kG:PT :=
  (.seq (.ret (.bi .all (.nq (.comp [] ["sign"] (.nm 0) .val (.nq (.var 0) .nr) .nop (.cmp .In (.var 0) (.var 2))) .nr)))
  .nil)
noncomputable def XO:List Str:=["word"]
noncomputable def yI:List Str:=["word"]
noncomputable def nX:Need:=⟨["is_made_of"],["LETTERS","MOST_LETTERS"],["len"],[]⟩
noncomputable def vK:PT :=
  (.seq (.ret (.and (.chn .LtE .LtE (.int 1) (.bi .len (.nq (.var 0) .nr)) (.glo "MOST_LETTERS")) (.call "is_made_of" (.nq (.var 0) (.nq (.glo "LETTERS") .nr)))))
  .nil)
noncomputable def UO:List Str:=["word"]
noncomputable def zI:List Str:=["word"]
noncomputable def oX:Need:=⟨["is_word"],["KEYWORDS"],[],[]⟩
noncomputable def xK:PT :=
  (.seq (.ret (.and (.call "is_word" (.nq (.var 0) .nr)) (.cmp .NotIn (.var 0) (.glo "KEYWORDS"))))
  .nil)
noncomputable def KO:List Str:=["_law_cell","_law_k","_law_factor"]
noncomputable def IH:List Str:=["_law_cell","_law_k"]
noncomputable def lX:Need:=⟨[],[],[],[]⟩
noncomputable def zK:PT :=
  (.seq (.set 2 (.bin .Add (.int 91343852333181432387730302044767688731) (.bin .Mult (.bin .Mult (.int 7919000003) (.var 1)) (.var 1))))
  (.seq (.ret (.bin .Mod (.bin .Mult (.var 0) (.var 2)) (.int 170141183460469231731687303715884105727)))
  .nil))
noncomputable def tJ:List Str:=["_law_heads"]
noncomputable def nE:List Str:=[]
noncomputable def sP:Need:=⟨[],[],[],[]⟩
noncomputable def jG:PT :=
  (.seq (.set 0 (.str "person matter against see tell by at who what since tellers wordings apart leans hidden strike quote"))
  (.seq (.ret (.bin .Add (.mt .split (.var 0) (.nq (.str " ") .nr)) (.lst (.nq (.str "ground") (.nq (.str "cut") .nr)))))
  .nil))
noncomputable def YK:List Str:=["_law_n","_law_size","_law_word","_law_k"]
noncomputable def JF:List Str:=["_law_n","_law_size"]
noncomputable def jR:Need:=⟨[],[],["range"],[]⟩
noncomputable def PH:PT :=
  (.seq (.set 2 (.bin .Add (.var 2) (.idx (.str "abcdefghijklmnopqrstuvwxyz") (.bin .Mod (.var 0) (.int 26)))))
  (.seq (.set 0 (.bin .FloorDiv (.var 0) (.int 26)))
  .nil))
noncomputable def kH:PT :=
  (.seq (.set 2 (.str ""))
  (.seq (.for_ (.nm 3) .rng1 (.nq (.var 1) .nr) PH)
  (.seq (.ret (.var 2))
  .nil)))
noncomputable def aK:List Str:=["word"]
noncomputable def tF:List Str:=["word"]
noncomputable def TQ:Need:=⟨["is_made_of"],["FIGURES","MOST_FIGURES"],["len","int"],[]⟩
noncomputable def EG:PT :=
  (.seq (.ife (.or (.not (.chn .LtE .LtE (.int 1) (.bi .len (.nq (.var 0) .nr)) (.glo "MOST_FIGURES"))) (.not (.call "is_made_of" (.nq (.var 0) (.nq (.glo "FIGURES") .nr))))) (.seq (.ret .non)
  .nil) .nil)
  (.seq (.ife (.and (.cmp .Eq (.idx (.var 0) (.int 0)) (.str "0")) (.cmp .NotEq (.var 0) (.str "0"))) (.seq (.ret .non)
  .nil) .nil)
  (.seq (.ret (.bi .int (.nq (.var 0) .nr)))
  .nil)))
noncomputable def aE(w a:Str):Bool:=w.cps.toList.all fun c=>decide (c∈a.cps.toList)
noncomputable def vE:Str:="abcdefghijklmnopqrstuvwxyz"
noncomputable def rA(w:Str):Bool:=decide (1<=w.length)&&(decide (w.length<=8)&&aE w vE)
noncomputable def keys:List Str:=["person","matter","against","see","tell","by","at","who","what","since","tellers","wordings","apart","leans","hidden","strike","quote","ground","cut"]
noncomputable def xA(w:Str):Bool:=rA w&&!((keys.map PyData.str).any fun y=>Qo y (.str w))
noncomputable def oa(c k:Int):Int:=c * (91343852333181432387730302044767688731+7919000003 * k * k) % 170141183460469231731687303715884105727
noncomputable def lB:PSp where
 md:=[]
 run:=fun ds Q _=>∃w a:Str,ds=[.d (.str w),.d (.str a)]/\w.length<=sizeLine/\Q (.d (.bool (aE w a))) []
 mono:=fun h _ z=>by obtain⟨w,a,e,l,q⟩:=z;exact⟨w,a,e,l,h _ _ q⟩
noncomputable def YC:PSp where
 md:=[]
 run:=fun ds Q _=>∃w:Str,ds=[.d (.str w)]/\w.length<=sizeLine/\Q (.d (.bool (rA w))) []
 mono:=fun h _ z=>by obtain⟨w,e,l,q⟩:=z;exact⟨w,e,l,h _ _ q⟩
noncomputable def yD:PSp where
 md:=[]
 run:=fun ds Q _=>∃w:Str,ds=[.d (.str w)]/\w.length<=sizeLine/\Q (.d (.bool (xA w))) []
 mono:=fun h _ z=>by obtain⟨w,e,l,q⟩:=z;exact⟨w,e,l,h _ _ q⟩
noncomputable def eB:PSp where
 md:=[]
 run:=fun ds Q _=>∃c k:Int,ds=[.d (.int c),.d (.int k)]/\(0<=k/\k<=1000000/\Ql c<=1048576)/\Q (.d (.int (oa c k))) []
 mono:=fun h _ z=>by obtain⟨c,k,e,l,q⟩:=z;exact⟨c,k,e,l,h _ _ q⟩
noncomputable def BA:PSp where
 md:=[]
 run:=fun ds Q _=>ds=[]/\Q (.lst ((keys.map PyData.str).map T.d)) []
 mono:=fun h _ z=>by obtain⟨e,q⟩:=z;exact⟨e,h _ _ q⟩
noncomputable def fC(n:Int):Nat->List Nat
 |0=>[]
 |k+1=>(97+(n % 26).toNat)::fC (n / 26) k
noncomputable def GH(n:Int)(k:Nat):Str:=⟨(fC n k).toArray⟩
theorem FH:∀(k:Nat) (n:Int),(fC n k).length=k
 |0,_=>rfl
 |k+1,n=>congrArg (·+1) (FH k _)
theorem NJ(n:Int)(k:Nat):(GH n k).length=k:=by show(fC n k).toArray.size=k;rw[QM,FH]
noncomputable def yC:PSp where
 md:=[]
 run:=fun ds Q _=>∃(n s:Int),ds=[.d (.int n),.d (.int s)]/\(0<=s/\s<=100)/\Q (.d (.str (GH n s.toNat))) []
 mono:=fun h _ z=>by obtain⟨n,s,e,l,q⟩:=z;exact⟨n,s,e,l,h _ _ q⟩
theorem aG{w a:Str}{K:T->List T->Prop}{E:XE}(hl:w.length<=sizeLine):bC lB [.d (.str w),.d (.str a)] K E=K (.d (.bool (aE w a))) []:=propext ⟨fun⟨_,_,e,_,q⟩=>by cases e;exact q,fun q=>⟨w,a,rfl,hl,q⟩⟩
theorem nN{Ψ:PEv}(ds Q E)(h:lB.run ds Q E):ds.length=pE.length/\YA Ψ (fun _=>False) kG (aA lB pE.length Q) (bA eJ lB.md ds):=by obtain⟨w,a,rfl,hl,q⟩:=h;refine uA [some (.nv (.d (.str w))),some (.nv (.d (.str a)))] rfl rfl rfl ?_;delta kG;simp?[↓kA];refine xF (fun c=>.d (.str ⟨#[c]⟩)) (fun c=>.d (.bool (decide (c∈a.cps.toList)))) _ _ _ (fun c _ R hR=>?_) (by simpa[Str.length]using hl) ?_;simp?[↓kA];exact hR;rw[Qz,LG];simp?[↓kA];refine⟨w.cps.toList.map fun c=>decide (c∈a.cps.toList),by rw[qp];rfl,?_⟩;rw[QA9];exact q
theorem lK{w:Str}{K:T->List T->Prop}{E:XE}(hl:w.length<=sizeLine):bC YC [.d (.str w)] K E=K (.d (.bool (rA w))) []:=propext ⟨fun⟨_,e,_,q⟩=>by cases e;exact q,fun q=>⟨w,rfl,hl,q⟩⟩
theorem iT{Ψ:PEv}(h1:Ψ.sp "is_made_of"=lB)(v1:Ψ.va "LETTERS"=some (.str vE))(v2:Ψ.va "MOST_LETTERS"=some (.int 8))(ds Q E)(h:YC.run ds Q E) :
  ds.length=yI.length/\YA Ψ (fun _=>False) vK (aA YC yI.length Q) (bA XO YC.md ds):=by
 obtain⟨w,rfl,hl,q⟩:=h;refine uA [some (.nv (.d (.str w)))] rfl rfl rfl ?_;delta vK;simp?[↓cA (md:=[]) h1 rfl rfl,↓dE v1,↓dE v2,↓aG hl];refine⟨hl,?_⟩;unfold rA at q;split;rename_i h1;have h1':decide (1<=w.length)=true:=by simp at h1 ⊢;omega
 rw[h1']at q;split;rename_i h2;have h2':decide (w.length<=8)=true:=by simp at h2 ⊢;omega
 rw[h2']at q;exact q;rename_i h2;have h2':decide (w.length<=8)=false:=by simp at h2 ⊢;omega
 rw[h2']at q;exact q;rename_i h1;have h1':decide (1<=w.length)=false:=by simp at h1 ⊢;omega
 rw[h1']at q;exact q
theorem OJ:(keys.map PyData.str).all YB=true:=by rfl
theorem ZQ{w:Str}{K:T->List T->Prop}{E:XE}(hl:w.length<=sizeLine):bC yD [.d (.str w)] K E=K (.d (.bool (xA w))) []:=propext ⟨fun⟨_,e,_,q⟩=>by cases e;exact q,fun q=>⟨w,rfl,hl,q⟩⟩
theorem JT{Ψ:PEv}(h1:Ψ.sp "is_word"=YC)(v1:Ψ.va "KEYWORDS"=some (.tuple (keys.map PyData.str)))(ds Q E)(h:yD.run ds Q E) :
  ds.length=zI.length/\YA Ψ (fun _=>False) xK (aA yD zI.length Q) (bA UO yD.md ds):=by
 obtain⟨w,rfl,hl,q⟩:=h;refine uA [some (.nv (.d (.str w)))] rfl rfl rfl ?_;delta xK;simp?[↓cA (md:=[]) h1 rfl rfl,↓dE v1,↓lK hl];unfold xA at q;cases hw:rA w with
 |true=>rw[hw]at q;exact⟨.inl ⟨rfl,OJ⟩,q⟩
 |false=>rw[hw]at q;exact q
theorem YJ{c k:Int}{K:T->List T->Prop}{E:XE}:bC eB [.d (.int c),.d (.int k)] K E=((0<=k/\k<=1000000/\Ql c<=1048576)/\K (.d (.int (oa c k))) []):=propext ⟨fun⟨_,_,e,q⟩=>by cases e;exact q,fun q=>⟨c,k,rfl,q⟩⟩
theorem EZ{Ψ:PEv}(ds Q E)(h:eB.run ds Q E):ds.length=IH.length/\YA Ψ (fun _=>False) zK (aA eB IH.length Q) (bA KO eB.md ds):=by
 obtain⟨c,k,rfl,⟨h0,h1,hc⟩,q⟩:=h;refine uA [some (.nv (.d (.int c))),some (.nv (.d (.int k))),none] rfl rfl rfl ?_;delta zK;simp?[↓kA];refine⟨Y5.ok (.inr ⟨by omega,by omega⟩),Y5.ok (.inr ⟨by omega,by omega⟩),IntMulOk.of_le (n:=256) hc ?_ (by decide),q⟩;have h2:0<=k * k:=Int.mul_nonneg h0 h0;have h3:k * k<=1000000 * 1000000:=Int.mul_le_mul h1 h1 h0 (by decide);rw[intBits_le_iff,Int.mul_assoc];have:(2:Nat) ^ 256=115792089237316195423570985008687907853269984665640564039457584007913129639936:=by decide
 rw[this];omega
theorem sQ:wP (QA "person matter against see tell by at who what since tellers wordings apart leans hidden strike quote") (QA " ")=keys.take 17:=by decide +kernel
theorem aD{K:T->List T->Prop}{E:XE}:bC BA [] K E=K (.lst ((keys.map PyData.str).map T.d)) []:=propext ⟨fun⟨_,q⟩=>q,fun q=>⟨rfl,q⟩⟩
theorem LQ{Ψ:PEv}(ds Q E)(h:BA.run ds Q E):ds.length=nE.length/\YA Ψ (fun _=>False) jG (aA BA nE.length Q) (bA tJ BA.md ds):=by obtain⟨rfl,q⟩:=h;refine uA [none] rfl rfl rfl ?_;delta jG;simp?[sQ];exact⟨by decide +kernel,by decide +kernel,by decide +kernel,by decide,by decide +kernel,q⟩
theorem AX:(QA "").length=0:=by decide +kernel
theorem M4(n:Int):mC (QA "abcdefghijklmnopqrstuvwxyz").cps.toList (n % 26)=some (97+(n % 26).toNat):=by
 have key:∀i:Fin 26,mC (QA "abcdefghijklmnopqrstuvwxyz").cps.toList ((i.val:Nat):Int)=some (97+i.val):=by decide +kernel
 have h:=key ⟨(n % 26).toNat,by omega⟩;have e:(((n % 26).toNat:Nat):Int)=n % 26:=by omega
 rw[e]at h;exact h
theorem T8{n:Int}{K:Nat->Prop}:DB (mC (QA "abcdefghijklmnopqrstuvwxyz").cps.toList (n % 26)) K=K (97+(n % 26).toNat):=IA (M4 n)
theorem gK{n s:Int}{K:T->List T->Prop}{E:XE}:bC yC [.d (.int n),.d (.int s)] K E=((0<=s/\s<=100)/\K (.d (.str (GH n s.toNat))) []):=propext ⟨fun⟨_,_,e,q⟩=>by cases e;exact q,fun q=>⟨n,s,rfl,q⟩⟩
theorem eT{Ψ:PEv}(ds Q E)(h:yC.run ds Q E):ds.length=JF.length/\YA Ψ (fun _=>False) kH (aA yC JF.length Q) (bA YK yC.md ds):=by
 obtain⟨n,s,rfl,⟨h0,h1⟩,q⟩:=h;refine uA [some (.nv (.d (.int n))),some (.nv (.d (.int s))),none,none] rfl rfl rfl ?_;delta kH;simp?[↓kA];refine⟨by omega,by omega,xE (fun(i:Nat)=>T.d (PyData.int (i:Int))) (fun l ρ=>∃n' w' o',ρ=[some (.nv (.d (.int n'))),some (.nv (.d (.int s))),some (.nv (.d (.str w'))),o']/\w'.length+l.length=s.toNat/\w'.cps.toList++fC n' l.length=fC n s.toNat) ?_ ?_ _ _ ⟨_,_,_,rfl,by rw[AX];simp,by simp[show(QA "").cps.toList=[] by decide +kernel]⟩⟩;rintro _ ⟨n',w',o',rfl,hw,e⟩;simp?[↓kA];have:w'=GH n s.toNat:=by obtain⟨cps⟩:=w';unfold GH;congr 1;apply Wm.mp;simpa[fC]using e
 rw[this];exact q;rintro x l _ N hN ⟨n',w',o',rfl,hw,e⟩;simp only[QH]at hw e;delta PH;simp?[↓T8];have e2:(w'++(⟨#[97+(n' % 26).toNat]⟩:Str)).length=w'.length+1:=Q1 w' ⟨#[97+(n' % 26).toNat]⟩;refine⟨by decide +kernel,?_,hN _ ⟨_,_,_,rfl,by rw[e2];omega,?_⟩⟩;show w'.length+1<=sizeLine;rw[QX];omega;rw[<- e];show(w'.cps++#[97+(n' % 26).toNat]).toList++_=_;simp[fC]
theorem FX(xs:List (Array Nat)):∀(acc:Array Nat),(xs.foldl (·++·) acc).toList=acc.toList++(xs.map QCB).flatten:=by
 induction xs with
 |nil=>intro acc;simp
 |cons a xs ih=>intro acc;rw[QA5,ih];simp
theorem rF(x:Str)(k:Int):(gG x k).cps.toList=(QI k.toNat x.cps.toList).flatten:=by
 unfold gG Txt.mul;split;rename_i h;have:k.toNat=0:=by omega
 rw[this];rfl;rename_i h;split;rename_i h2;rw[qq]at h2;rcases h2 with h2|h2;have:k=1:=by simpa using h2
 subst this;simp;have h3:x.length=0:=by simpa using h2
 have:x.cps.toList=[]:=by
  have:x.cps.toList.length=0:=by rw[Qh];exact h3
  exact WU.mp this
 rw[this];simp;show((QI k.toNat x.cps).foldl (·++·) #[]).toList=_;rw[FX];simp
theorem eG(x:Str)(k:Int):(gG x k).length=k.toNat * x.length:=by have h:=congrArg W6 (rF x k);rw[Qh,MK,Qh]at h;exact h
noncomputable def OC:Str:="0123456789"
noncomputable def vF(w:Str):Bool:=decide (1<=w.length)&&(decide (w.length<=9)&&(aE w OC&&(w.cps.toList.head? != some 48||decide (w.length=1))))
noncomputable def RA(w:Str):Int:=((QAe w.cps.toList:Nat):Int)
noncomputable def DG(w:Str):D:=if vF w=true then .int (RA w) else .none
noncomputable def xC:PSp where
 md:=[]
 run:=fun ds Q _=>∃w:Str,ds=[.d (.str w)]/\w.length<=sizeLine/\Q (.d (DG w)) []
 mono:=fun h _ z=>by obtain⟨w,e,l,q⟩:=z;exact⟨w,e,l,h _ _ q⟩
theorem HX:OC.cps.toList=(qK 10).map (·+48):=by decide +kernel
theorem PV(c:Nat):decide (c∈OC.cps.toList)=(decide (48<=c)&&decide (c<=57)):=by rw[HX,<- Bool.decide_and];refine decide_eq_decide.mpr ⟨fun h=>?_,fun h=>Q0.mpr ⟨c - 48,wH.mpr (by omega),by omega⟩⟩;obtain⟨i,hi,rfl⟩:=Q0.mp h;have:=wH.mp hi;omega
theorem VU{w:Str}(h:aE w OC=true):QB6 w.cps.toList:=by intro c hc;have:=Qk.mp h c hc;rw[PV,QN]at this;exact⟨of_decide_eq_true this.1,of_decide_eq_true this.2⟩
theorem oY:QA "0"=⟨#[48]⟩:=by decide +kernel
theorem TU{a b:Str}(h:a.cps.toList=b.cps.toList):a=b:=by obtain⟨a⟩:=a;obtain⟨b⟩:=b;exact congrArg Str.mk (Wm.mp h)
theorem BH{w:Str}{d:D}{K:T->List T->Prop}{E:XE}(hl:w.length<=sizeLine)(h:DG w=d):bC xC [.d (.str w)] K E=K (.d d) []:=by subst h;exact propext ⟨fun⟨_,e,_,q⟩=>by cases e;exact q,fun q=>⟨w,rfl,hl,q⟩⟩
theorem gP{Ψ:PEv}(h1:Ψ.sp "is_made_of"=lB)(v1:Ψ.va "FIGURES"=some (.str OC))(v2:Ψ.va "MOST_FIGURES"=some (.int 9))(ds Q E)(h:xC.run ds Q E) :
  ds.length=tF.length/\YA Ψ (fun _=>False) EG (aA xC tF.length Q) (bA aK xC.md ds):=by
 obtain⟨w,rfl,hl,q⟩:=h;refine uA [some (.nv (.d (.str w)))] rfl rfl rfl ?_;delta EG;simp?[↓cA (md:=[]) h1 rfl rfl,↓dE v1,↓dE v2,↓aG hl];refine⟨hl,?_⟩;unfold DG vF at q;by_cases c1:1<=w.length;have e1:decide ((1:Int)<=(w.length:Int))=true:=by simp;omega
 rw[dT c1]at q;simp only[e1,WL,Qi,if_false,if_true];by_cases c2:w.length<=9;have e2:decide ((w.length:Int)<=9)=true:=by simp;omega
 rw[dT c2]at q;simp only[e2,WL,Qi,if_false];cases hm:aE w OC with
 |false=>rw[hm]at q;exact q
 |true =>
  rw[hm]at q;simp only[WL,Qi,if_false];refine⟨hl,?_⟩;have hlen:w.cps.toList.length=w.length:=Qh;cases hc:w.cps.toList with
  |nil=>rw[hc]at hlen;simp at hlen;omega
  |cons c cs =>
   refine DB.mk (a:=c) (gB (j:=0) rfl) ?_;rw[hc]at q hlen;rw[oY];have ec:decide ((⟨#[c]⟩:Str)=⟨#[48]⟩)=decide (c=48):=by by_cases z:c=48;subst z;simp;have:¬ (⟨#[c]⟩:Str)=⟨#[48]⟩:=fun e=>z (by injection e with e;injection e with e;injection e);rw[dF this,dF z]
   rw[ec];have ew:decide (w=⟨#[48]⟩)=(decide (c=48)&&decide (w.length=1)):=by
    by_cases z:w=⟨#[48]⟩;rw[dT z];rw[z]at hc;injection hc with hc1 hc2;subst hc1;rw[z];rfl;rw[dF z];symm;rw[Bool.and_eq_false_iff];by_cases y:c=48;refine .inr (dF fun y2=>z ?_);subst y;apply TU;rw[hc];have:cs=[]:=by
     cases cs with
     |nil=>rfl
     |cons _ _=>simp at hlen;omega
    rw[this];exact .inl (dF y)
   rw[ew];have fin:(w.length<=640/\∃n,intText? w=some n/\Q (.d (.int n)) [])↔Q (.d (.int (RA w))) []:=by have e:intText? w=some (RA w):=PySem.intText_digits (VU hm) (by rw[hc];simp) (by omega);constructor;rintro⟨_,n,e1,q⟩;rw[e]at e1;cases e1;exact q;intro q;exact⟨by omega,_,e,q⟩
   by_cases z:c=48;subst z;by_cases y:w.length=1;rw[dT y]at q ⊢;simp only[decide_true,Bool.and_self,WL,Qi,if_false,if_true];refine fin.mpr ?_;simpa using q;rw[dF y]at q ⊢;simp only[decide_true,Qy,w8,if_true];simpa using q;rw[dF z];simp only[Qi,if_false];refine fin.mpr ?_;have:((some c:Option Nat) != some 48)=true:=by simp[z]
   have q2:(if(true&&(true&&(true&&(((some c:Option Nat) != some 48)||decide (w.length=1)))))=true then PyData.int (RA w) else PyData.none)=PyData.int (RA w):=by rw[this];rfl
   have q3:Q (.d (if(true&&(true&&(true&&(((some c:Option Nat) != some 48)||decide (w.length=1)))))=true then PyData.int (RA w) else PyData.none)) []:=q;rw[q2]at q3;exact q3
 have e2:decide ((w.length:Int)<=9)=false:=by simp;omega
 rw[dF c2]at q;simp only[e2,w8,if_true];exact q;have e1:decide ((1:Int)<=(w.length:Int))=false:=by simp;omega
 rw[dF c1]at q;simp only[e1,w8,if_true];exact q
noncomputable def wc:List Nat->List Nat->List (List Nat)
 |[],cur=>if cur.isEmpty then[] else[cur]
 |c::cs,cur=>if c=32 then(if cur.isEmpty then wc cs [] else cur::wc cs []) else wc cs (cur++[c])
theorem HK:∀(w r cur:List Nat),32∉w->wc (w++r) cur=wc r (cur++w)
 |[],r,cur,_=>by simp
 |c::w,r,cur,h=>by have hc:¬ c=32:=fun e=>h (by simp[e]);rw[qu,wc,if_neg hc,HK w r _ fun z=>h (QG _ z)];simp
theorem VI(r cur:List Nat):wc (32::r) cur=(if cur.isEmpty then[] else[cur])++wc r []:=by rw[wc,if_pos rfl];split<;>simp
theorem dH:∀(n:Nat) (r:List Nat),wc (QI n 32++r) []=wc r []
 |0,r=>rfl
 |n+1,r=>by rw[Qf,qu,VI,dH n r];rfl
theorem L5(w r:List Nat)(n:Nat)(h:32∉w)(h0:w≠[]):wc (w++(QI (n+1) 32++r)) []=w::wc r []:=by
 rw[HK _ _ _ h,Qf,qu,VI,dH];have:([]++w:List Nat).isEmpty=false:=by cases w with|nil=>exact absurd rfl h0|cons _ _=>rfl
 rw[this];rfl
theorem KS:∀(r cur:List Nat) (n:Nat),wc (r++QI n 32) cur=wc r cur
 |[],cur,0=>by simp
 |[],cur,n+1=>by
  rw[Qz,Qf,VI];have e:wc (QI n 32) []=[]:=by have:=dH n [];rw[Q7]at this;rw[this];rfl
  rw[e,Q7];rfl
 |c::r,cur,n=>by rw[qu,wc,wc];split;rw[KS r [] n];exact KS r _ n
noncomputable def kO:List (List Nat)->List Nat
 |[]=>[]
 |[x]=>x
 |x::y::r=>x++32::kO (y::r)
theorem FU:∀(ps:List (List Nat)),(∀p∈ps,32∉p)->wc (kO ps) []=ps.filter fun p=>!p.isEmpty
 |[],_=>rfl
 |[x],h=>by
  have:=HK x [] [] (h x (by simp));rw[Q7]at this;rw[kO,this];cases x with
  |nil=>rfl
  |cons _ _=>rfl
 |x::y::r,h=>by
  rw[kO,HK _ _ _ (h x (by simp)),VI,FU (y::r) fun p hp=>h p (QG _ hp)];cases x with
  |nil=>rfl
  |cons _ _=>rfl
theorem kM:∀(ps:List Str),(Str.join ⟨#[32]⟩ ps).cps.toList=kO (ps.map fun p=>p.cps.toList)
 |[]=>rfl
 |[x]=>rfl
 |x::y::r=>by show((x.cps++#[32])++(Str.join ⟨#[32]⟩ (y::r)).cps).toList=_;have ih:=kM (y::r);rw[QV]at ih;rw[QV,QV,kO,<- ih];simp
noncomputable def wordsOf(r:Str):List Str:=(wP r ⟨#[32]⟩).filter fun w=>decide (w≠⟨#[]⟩)
theorem bN(r:Str):(wordsOf r).map (fun w=>w.cps.toList)=wc r.cps.toList []:=by
 have h1:=kM (wP r ⟨#[32]⟩);rw[StrLaws.join_split]at h1;rw[h1,FU _ fun p hp=>by obtain⟨q,hq,rfl⟩:=Q0.mp hp;exact StrLaws.split_free r 32 q hq];unfold wordsOf;rw[List.filter_map];congr 1;apply List.filter_congr;intro w _;obtain⟨⟨l⟩⟩:=w;cases l with
 |nil=>rfl
 |cons a l=>simp[Function.comp]
theorem IX{a:List Str}:∀{ws:List Str},a.map (fun w=>w.cps.toList)=ws.map (fun w=>w.cps.toList)->a=ws:=by
 induction a with
 |nil =>
  intro ws e;cases ws with
  |nil=>rfl
  |cons _ _=>simp at e
 |cons x a ih =>
  intro ws e;cases ws with
  |nil=>simp at e
  |cons y ws=>simp only[QV,wk]at e;rw[TU e.1,ih e.2]
theorem yL{r:Str}{ws:List Str}(h:wc r.cps.toList []=ws.map fun w=>w.cps.toList):wordsOf r=ws:=IX ((bN r).trans h)
theorem sG{α:Type}(p:α->Bool):∀l:List α,∃a b,l=a++b/\a=l.takeWhile p/\(∀x∈a,p x=true)
 |[]=>⟨[],[],rfl,rfl,fun _ z=>by cases z⟩
 |x::r=>by obtain⟨a,b,h1,h2,h3⟩:=sG p r;by_cases hx:p x=true;refine⟨x::a,b,by rw[qu,<- h1],by rw[QBZ,hx,h2];rfl,fun y hy=>?_⟩;rcases QL.mp hy with rfl|hy;exact hx;exact h3 y hy;exact⟨[],x::r,rfl,by rw[QBZ];simp[hx],fun _ z=>by cases z⟩
theorem NI(x:Str)(h:∀c∈x.cps.toList,wT c=true->c=32):∃n,x.cps.toList=(wu x).cps.toList++QI n 32:=by
 unfold wu Txt.stripBy;split;exact⟨0,by simp⟩;obtain⟨a,b,h1,h2,h3⟩:=sG wT x.cps.toList.reverse;have e:x.cps.toList=b.reverse++a.reverse:=by have:=congrArg List.reverse h1;rw[List.reverse_reverse,List.reverse_append]at this;exact this
 have e2:(PySem.stripped wT false true x).cps.toList=b.reverse:=by
  unfold PySem.stripped PySem.stripLo PySem.stripHi;rw[StrLaws.strSub_toList];simp only[Qi,if_false,if_true,List.drop_zero,<- h2,Nat.sub_zero];have hl:x.length=b.length+a.length:=by have:=congrArg W6 e;rw[Qh]at this;show x.cps.size=_;simpa using this
  rw[hl,e];have:b.length+a.length - a.length=b.reverse.length:=by simp
  rw[this,List.take_left]
 refine⟨a.length,?_⟩;rw[e2];have:a.reverse=QI a.length 32:=by rw[List.eq_replicate_iff];refine⟨by simp,fun c hc=>?_⟩;have hc':c∈a:=List.mem_reverse.mp hc;exact h c (by rw[e];exact Qb _ hc) (h3 c hc')
 rw[<- this];exact e
theorem eW{x:Str}(h:∀c∈x.cps.toList,wT c=true->c=32):wc (wu x).cps.toList []=wc x.cps.toList []:=by obtain⟨n,e⟩:=NI x h;rw[e,KS]
noncomputable def PL(n:Int):Str:=QA (toString n)
theorem PQ(m:Nat):QB6 (PL (m:Int)).cps.toList:=by intro c hc;unfold PL at hc;rw[QBA]at hc;obtain⟨ch,hch,e⟩:=Q0.mp hc;rw[<- e];exact digit_range (Nat.isDigit_of_mem_toDigits (by decide) (by decide) hch)
theorem Z0{n:Int}(h0:0<=n)(h1:n<=999999999):1<=(PL n).length/\(PL n).length<=9:=by refine⟨?_,toString_length_le h0 (by decide) (by rw[show(10:Int) ^ 9=1000000000 from rfl];omega)⟩;obtain⟨m,rfl⟩:=WV h0;have hs:(PL (m:Int)).cps.toList=(Nat.toDigits 10 m).map Char.toNat:=QBA m;have hl:(PL (m:Int)).cps.toList.length=(PL (m:Int)).length:=Qh;rw[hs,QJ]at hl;rw[<- hl];exact Nat.length_toDigits_pos
noncomputable def PM:List Str:=["row"]
noncomputable def iG:List Str:=["row"]
noncomputable def DT:Need:=⟨[],[],[],[]⟩
noncomputable def lI:PT :=
  (.seq (.ret (.comp [] ["word"] (.nm 0) .val (.nq (.mt .split (.var 0) (.nq (.str " ") .nr)) .nr) (.cmp .NotEq (.var 0) (.str "")) (.var 0)))
  .nil)
noncomputable def zN:List Str:=["words","form","quoted"]
noncomputable def BG:List Str:=["words"]
noncomputable def ST:Need:=⟨[],["MOST_QUOTED"],["len"],["FORMS"]⟩
noncomputable def vG:PT :=
  (.seq (.ret (.bin .Add (.bin .Add (.var 1) (.tup (.nq (.str "by") .nr))) (.prm .tmul (.nq (.tup (.nq (.str "name") .nr)) (.nq (.var 2) .nr)))))
  .nil)
noncomputable def xG:PT :=
  (.seq (.ife (.chn .LtE .LtE (.int 1) (.var 2) (.glo "MOST_QUOTED")) vG .nil)
  (.seq (.ret (.var 1))
  .nil))
noncomputable def uG:PT :=
  (.seq (.set 1 (.prm (.dget "FORMS") (.nq (.idx (.var 0) (.int 0)) .nr)))
  (.seq (.ife (.cmp .NotEq (.idx (.var 0) (.int 0)) (.str "tell")) (.seq (.ret (.var 1))
  .nil) .nil)
  (.seq (.set 2 (.bin .Sub (.bin .Sub (.bi .len (.nq (.var 0) .nr)) (.bi .len (.nq (.var 1) .nr))) (.int 2)))
  xG)))
noncomputable def dG:List Str:=["bounds","word","number"]
noncomputable def zD:List Str:=["bounds","word"]
noncomputable def BK:Need:=⟨["number_in"],[],[],[]⟩
noncomputable def iC:PT :=
  (.seq (.set 2 (.call "number_in" (.nq (.var 1) .nr)))
  (.seq (.ife (.or (.cmp .Is (.var 2) .non) (.not (.chn .LtE .LtE (.idx (.var 0) (.int 0)) (.var 2) (.idx (.var 0) (.int 1))))) (.seq (.ret .non)
  .nil) .nil)
  (.seq (.ret (.var 2))
  .nil)))
noncomputable def iJ:List Str:=["values","pair"]
noncomputable def rE:List Str:=["values"]
noncomputable def eP:Need:=⟨[],[],[],["UNLIKE"]⟩
noncomputable def ZD:PT :=
  (.seq (.set 1 (.prm (.dget "UNLIKE") (.nq (.idx (.var 0) (.int 0)) .nr)))
  (.seq (.ret (.or (.cmp .Is (.var 1) .non) (.cmp .NotEq (.idx (.var 0) (.idx (.var 1) (.int 0))) (.idx (.var 0) (.idx (.var 1) (.int 1))))))
  .nil))
theorem cY:QA " "=⟨#[32]⟩:=by decide +kernel
theorem TX:QA ""=⟨#[]⟩:=by decide +kernel
noncomputable def XC:PSp where
 md:=[]
 run:=fun ds Q _=>∃r:Str,ds=[.d (.str r)]/\r.length<=100000/\Q (.lst ((wordsOf r).map fun w=>.d (.str w))) []
 mono:=fun h _ z=>by obtain⟨w,e,l,q⟩:=z;exact⟨w,e,l,h _ _ q⟩
theorem OO{r:Str}{K:T->List T->Prop}{E:XE}(hl:r.length<=100000):bC XC [.d (.str r)] K E=K (.lst (((wordsOf r).map PyData.str).map T.d)) []:=by rw[<- LG];exact propext ⟨fun⟨_,e,_,q⟩=>by cases e;exact q,fun q=>⟨r,rfl,hl,q⟩⟩
theorem FQ{Ψ:PEv}(ds Q E)(h:XC.run ds Q E):ds.length=iG.length/\YA Ψ (fun _=>False) lI (aA XC iG.length Q) (bA PM XC.md ds):=by obtain⟨r,rfl,hl,q⟩:=h;refine uA [some (.nv (.d (.str r)))] rfl rfl rfl ?_;have hz:sizeLine=16777216:=QX;delta lI;simp?[cY,TX];refine⟨by omega,by decide,?_,?_⟩;have:=split_le r ⟨#[32]⟩;omega;rw[qp];refine MF (fun w:Str=>T.d (.str w)) (fun w=>T.d (.str w)) (fun w=>decide (w≠⟨#[]⟩)) _ _ _ (fun w _ R hR=>?_) ?_ q;simp?[↓kA];by_cases e:w=⟨#[]⟩;subst e;simpa using hR;rw[dF e];simp only[w8,if_true];simpa[e]using hR;have:=split_le r ⟨#[32]⟩;simp;omega
noncomputable def iB(a b:Int)(w:Str):D:=match DG w with
 | .int n=>if(decide (a<=n)&&decide (n<=b))=true then .int n else .none
 |_=>.none
noncomputable def vB:PSp where
 md:=[]
 run:=fun ds Q _=>∃(a b:Int) (w:Str),ds=[.d (.tuple [.int a,.int b]),.d (.str w)]/\w.length<=sizeLine/\Q (.d (iB a b w)) []
 mono:=fun h _ z=>by obtain⟨a,b,w,e,l,q⟩:=z;exact⟨a,b,w,e,l,h _ _ q⟩
theorem LI{a b:Int}{w:Str}{K:T->List T->Prop}{E:XE}(hl:w.length<=sizeLine):bC vB [.d (.tuple [.int a,.int b]),.d (.str w)] K E=K (.d (iB a b w)) []:=propext ⟨fun⟨_,_,_,e,_,q⟩=>by cases e;exact q,fun q=>⟨a,b,w,rfl,hl,q⟩⟩
theorem HJ{Ψ:PEv}(h1:Ψ.sp "number_in"=xC)(ds Q E)(h:vB.run ds Q E):ds.length=zD.length/\YA Ψ (fun _=>False) iC (aA vB zD.length Q) (bA dG vB.md ds):=by
 obtain⟨a,b,w,rfl,hl,q⟩:=h;refine uA [some (.nv (.d (.tuple [.int a,.int b]))),some (.nv (.d (.str w))),none] rfl rfl rfl ?_;have x0:mC [PyData.int a,.int b] 0=some (.int a):=rfl;have x1:mC [PyData.int a,.int b] 1=some (.int b):=rfl;unfold iB at q;cases hn:vF w with
 |false =>
  have e:DG w=.none:=by unfold DG;rw[hn];rfl
  rw[e]at q;delta iC;simp?[↓cA (md:=[]) h1 rfl rfl,↓BH hl e];exact q
 |true =>
  have e:DG w=.int (RA w):=by unfold DG;rw[hn];rfl
  rw[e]at q;have q:Q (.d (if(decide (a<=RA w)&&decide (RA w<=b))=true then .int (RA w) else .none)) []:=q;delta iC;simp?[↓cA (md:=[]) h1 rfl rfl,↓BH hl e,↓IA x0,↓IA x1];cases ha:decide (a<=RA w) with
  |false=>rw[ha]at q;exact q
  |true =>
   rw[ha]at q;cases hb:decide (RA w<=b) with
   |false=>rw[hb]at q;exact q
   |true=>rw[hb]at q;exact q
noncomputable def GF:List (Str×List Str):=[("person",["name","rank","floor","needs"]),("matter",["name"]),("against",["name","name"]),("see",["time","name","name","word"]),("tell",["time","name","name","name","word"])]
noncomputable def CP:List (Str×D):=GF.map fun p=>(p.1,.tuple (p.2.map PyData.str))
noncomputable def sC:List (Str×D):=[("against",.tuple [.int 1,.int 2]),("tell",.tuple [.int 2,.int 3])]
noncomputable def lN:Option (List Str)->D
 |none=>.none
 |some f=>.tuple (f.map PyData.str)
theorem uR{α β:Type}(f:α->β)(x:Str):∀(l:List (Str×α)),(l.map fun p=>(p.1,f p.2)).lookup x=(l.lookup x).map f
 |[]=>rfl
 |p::r=>by
  obtain⟨a,b⟩:=p;rw[QV,Qe,Qe];cases x==a with
  |true=>rfl
  |false=>exact uR f x r
theorem gM(x:Str):(CP.lookup x).getD .none=lN (GF.lookup x):=by unfold CP;rw[uR (fun f:List Str=>PyData.tuple (f.map PyData.str)) x GF];cases GF.lookup x<;>rfl
noncomputable def LA:List Str:=["time","name","name","name","word"]
noncomputable def xQ(k:Nat):List Str:=QA "by"::QI k (QA "name")
noncomputable def GA(h:Str)(n:Nat):Option (List Str):=if decide (h="tell")=true then(if 8<=n/\n<=13 then some (LA++xQ (n - 7)) else some LA) else GF.lookup h
theorem KW:GF.lookup (QA "tell")=some LA:=by decide +kernel
noncomputable def BC:PSp where
 md:=[]
 run:=fun ds Q _=>∃(h:Str) (ws:List Str),ds=[.d (.list ((h::ws).map PyData.str))]/\ws.length<=1000/\Q (.d (lN (GA h (ws.length+1)))) []
 mono:=fun h _ z=>by obtain⟨p,w,e,l,q⟩:=z;exact⟨p,w,e,l,h _ _ q⟩
theorem SO{h:Str}{ws:List Str}{K:T->List T->Prop}{E:XE}(hl:ws.length<=1000)(q:K (.d (lN (GA h (ws.length+1)))) []):bC BC [.d (.list ((h::ws).map PyData.str))] K E:=⟨h,ws,rfl,hl,q⟩
theorem yZ(k:Nat):(QI k [PyData.str (QA "name")]).flatten=(QI k (QA "name")).map PyData.str:=by
 induction k with
 |zero=>rfl
 |succ k ih=>rw[Qf,Qf,qB,ih];rfl
theorem Rf{Ψ:PEv}{Z:PEnds}{s0:Option Sl}{k:Nat}(h:k+1<=6)(q:∀ρ,Z.rt (.d (.tuple ((LA++xQ (k+1)).map PyData.str))) ρ):YA Ψ (fun _=>False) vG Z [s0,some (.nv (.d (.tuple (LA.map PyData.str)))),some (.nv (.d (.int ((k+1:Nat):Int))))]:=by
 have hz:sizeLine=16777216:=QX;have tl:(wB PyData.str LA).length=5:=by rfl
 have ne1:¬ wB PyData.str LA=[]:=by intro z;rw[z]at tl;cases tl
 delta vG;simp?[↓kA];rw[QAc,yZ];have ee:wB PyData.str LA++[PyData.str (QA "by")]++(QI (k+1) (QA "name")).map PyData.str=(LA++xQ (k+1)).map PyData.str:=by unfold xQ;rw[wm,QV,qy];rfl
 have el:(wB PyData.str (QI (k+1) (QA "name"))).length=k+1:=by rw[QJ,qF]
 rw[ee,Qc,tl,el];exact⟨by omega,ne1,by omega,by omega,by omega,by omega,by omega,fun z=>ne1 (List.append_eq_nil_iff.mp z).1,fun z=>(by rw[z]at el;cases el),by show 5+1+(k+1)<=_;omega,q _⟩
theorem Sf{Ψ:PEv}(v2:Ψ.va "MOST_QUOTED"=some (.int 6)){Z:PEnds}{s0:Option Sl}{n:Nat}(q:∀ρ,Z.rt (.d (lN (if 8<=n/\n<=13 then some (LA++xQ (n - 7)) else some LA))) ρ):YA Ψ (fun _=>False) xG Z [s0,some (.nv (.d (.tuple (LA.map PyData.str)))),some (.nv (.d (.int ((n:Int) - 7))))]:=by
 delta xG;simp?[↓dE v2];have no:¬ (8<=n/\n<=13)->∀ρ,Z.rt (T.d (PyData.tuple (wB PyData.str LA))) ρ:=fun c=>by rw[if_neg c]at q;exact q
 refine AA (fun h1=>AA (fun h2=>?_) fun h2=>no (fun z=>h2 (dT (by omega))) _) fun h1=>no (fun z=>h1 (dT (by omega))) _;have h1:1<=(n:Int) - 7:=of_decide_eq_true h1;have h2:(n:Int) - 7<=6:=of_decide_eq_true h2;obtain⟨k,hk⟩:∃k:Nat,n=k+8:=⟨n - 8,by omega⟩
 subst hk;rw[if_pos ⟨by omega,by omega⟩]at q;have e:((k+8:Nat):Int) - 7=((k+1:Nat):Int):=by omega
 rw[e];exact Rf (by omega) q
theorem MQ{Ψ:PEv}(v1:Ψ.dc "FORMS"=some CP)(v2:Ψ.va "MOST_QUOTED"=some (.int 6))(ds Q E)(h:BC.run ds Q E):ds.length=BG.length/\YA Ψ (fun _=>False) uG (aA BC BG.length Q) (bA zN BC.md ds):=by
 obtain⟨h,ws,rfl,hl,q⟩:=h;refine uA [some (.nv (.d (.list ((h::ws).map PyData.str)))),none,none] rfl rfl rfl ?_;have a0:mC (wB PyData.str (h::ws)) 0=some (.str h):=gB (j:=0) rfl;unfold GA at q;by_cases e:h="tell";rw[dT e]at q;have q:Q (.d (lN (if 8<=ws.length+1/\ws.length+1<=13 then some (LA++xQ (ws.length+1 - 7)) else some LA))) []:=q;have fl:(CP.lookup h).getD .none=.tuple (LA.map PyData.str):=by rw[gM,e,KW];rfl
 delta uG;simp?[↓vT v1 fl,↓IA a0,dT e];have ek:(((h::ws).map PyData.str).length:Int) - ((LA.map PyData.str).length:Int) - 2=((ws.length+1:Nat):Int) - 7:=by rw[QJ,QH,show(LA.map PyData.str).length=5 by rfl];omega
 rw[ek];exact Sf v2 fun _=>q;rw[dF e]at q;delta uG;simp?[↓M9 v1,↓IA a0,gM,dF e];exact q
noncomputable def HB:PSp where
 md:=[.nv]
 run:=fun ds Q _=>∃(h:Str) (vs:List D),ds=[.lst ((.str h::vs).map T.d)]/\((sC.lookup h=none/\Q (.d (.bool true)) [])∨∃i j a b,sC.lookup h=some (.tuple [.int i,.int j])/\mC (.str h::vs) i=some (.str a)/\mC (.str h::vs) j=some (.str b)/\Q (.d (.bool (!decide (a=b)))) [])
 mono:=fun h _ z=>by obtain⟨p,w,e,q⟩:=z;exact⟨p,w,e,q.imp (fun q=>⟨q.1,h _ _ q.2⟩) fun⟨i,j,a,b,h1,h2,h3,q⟩=>⟨i,j,a,b,h1,h2,h3,h _ _ q⟩⟩
theorem tL{h:Str}{vs:List D}{K:T->List T->Prop}{E:XE}(q:(sC.lookup h=none/\K (.d (.bool true)) [])∨∃i j a b,sC.lookup h=some (.tuple [.int i,.int j])/\mC (.str h::vs) i=some (.str a)/\mC (.str h::vs) j=some (.str b)/\K (.d (.bool (!decide (a=b)))) []):bC HB [.lst ((.str h::vs).map T.d)] K E:=⟨h,vs,rfl,q⟩
theorem oN{Ψ:PEv}(v1:Ψ.dc "UNLIKE"=some sC)(ds Q E)(h:HB.run ds Q E):ds.length=rE.length/\YA Ψ (fun _=>False) ZD (aA HB rE.length Q) (bA iJ HB.md ds):=by
 obtain⟨h,vs,rfl,q⟩:=h;refine uA [some (.nv (.lst ((.str h::vs).map T.d))),none] rfl rfl rfl ?_;have a0:mC (PyData.str h::vs) 0=some (.str h):=gB (j:=0) rfl;generalize (PyData.str h::vs)=L at a0 q ⊢;rcases q with⟨e,q⟩| ⟨i,j,a,b,e,h1,h2,q⟩
 have eg:(sC.lookup h).getD .none=.none:=by rw[e];rfl
 delta ZD;simp?[↓vT v1 eg,↓IA a0];exact q;have x0:mC [PyData.int i,.int j] 0=some (.int i):=rfl;have x1:mC [PyData.int i,.int j] 1=some (.int j):=rfl;have eg:(sC.lookup h).getD .none=.tuple [.int i,.int j]:=by rw[e];rfl
 delta ZD;simp?[↓vT v1 eg,↓IA a0,↓IA x0,↓IA x1,↓IA h1,↓IA h2];exact q
end L2.L3.Lib
namespace L2.L3.K3
open PySem PySem.Spec PyProof.Rows L2 L2.L3 L2.L3.Lib
noncomputable def top(i:Nat):Stmt:=QZ.main.body.getD i (.Pass ⟨0,0,0,0⟩)
theorem NR:mB DT lI PM iG (top 14)=true:=by kernel_rfl
theorem YN:mB aP kG eJ pE (top 15)=true:=by kernel_rfl
theorem JU:mB nX vK XO yI (top 16)=true:=by kernel_rfl
theorem YU:mB oX xK UO zI (top 17)=true:=by kernel_rfl
theorem LP:mB TQ EG aK tF (top 18)=true:=by kernel_rfl
noncomputable def dS:List Str:=["row","place","words","values"]
noncomputable def KJ:List Str:=["row","place"]
noncomputable def G0:Need:=⟨["words_in","values_by","form_for","are_unlike"],["BadRow"],["len","raise"],[]⟩
noncomputable def UM:PT :=
  (.seq (.set 2 (.call "words_in" (.nq (.var 0) .nr)))
  (.seq (.ife (.cmp .Eq (.bi .len (.nq (.var 2) .nr)) (.int 0)) (.seq (.ret .non)
  .nil) .nil)
  (.seq (.own 3 (.call "values_by" (.nq (.call "form_for" (.nq (.var 2) .nr)) (.nq (.var 2) .nr))))
  (.seq (.ife (.or (.cmp .Is (.var 3) .non) (.not (.call "are_unlike" (.nq (.var 3) .nr)))) (.seq (.rse "BadRow" (some 1) (.var 1))
  .nil) .nil)
  (.seq (.ret (.var 3))
  .nil)))))
theorem jY:mB G0 UM dS KJ (top 25)=true:=by kernel_rfl
noncomputable def tK:List Str:=["form","words","values"]
noncomputable def sF:List Str:=["form","words"]
noncomputable def SQ:Need:=⟨["value_of"],[],["len","zip"],[]⟩
noncomputable def bE:PT :=
  (.seq (.ife (.or (.cmp .Is (.var 0) .non) (.cmp .NotEq (.bi .len (.nq (.var 1) .nr)) (.bin .Add (.int 1) (.bi .len (.nq (.var 0) .nr))))) (.seq (.ret .non)
  .nil) .nil)
  (.seq (.own 2 (.bin .Add (.lst (.nq (.idx (.var 1) (.int 0)) .nr)) (.comp [] ["part","word"] (.tp [0,1]) .zip2 (.nq (.var 0) (.nq (.slc (.var 1) (.int 1) .nop) .nr)) .nop (.call "value_of" (.nq (.var 0) (.nq (.var 1) .nr))))))
  (.seq (.ret (.ife (.cmp .In .non (.var 2)) .non (.var 2)))
  .nil)))
theorem HP:mB SQ bE tK sF (top 26)=true:=by kernel_rfl
theorem yS:mB ST uG zN BG (top 27)=true:=by kernel_rfl
noncomputable def RM:List Str:=["part","word"]
noncomputable def JG:List Str:=["part","word"]
noncomputable def FT:Need:=⟨["is_name","is_word","number_within"],["NAMED"],[],["RANGES"]⟩
noncomputable def mJ:PT :=
  (.seq (.ret (.ife (.call "is_name" (.nq (.var 1) .nr)) (.var 1) .non))
  .nil)
noncomputable def fJ:PT :=
  (.seq (.ret (.call "number_within" (.nq (.prm (.dix "RANGES") (.nq (.var 0) .nr)) (.nq (.var 1) .nr))))
  .nil)
noncomputable def gJ:PT :=
  (.seq (.ret (.ife (.cmp .Eq (.var 1) (.str "by")) (.var 1) .non))
  .nil)
noncomputable def lJ:PT :=
  (.seq (.ret (.ife (.call "is_word" (.nq (.var 1) .nr)) (.var 1) .non))
  .nil)
noncomputable def mI:PT :=
  (.seq (.ife (.cmp .In (.var 0) (.glo "NAMED")) mJ .nil)
  (.seq (.ife (.cmp .Eq (.var 0) (.str "word")) lJ .nil)
  (.seq (.ife (.cmp .Eq (.var 0) (.str "by")) gJ .nil)
  fJ)))
theorem OR:mB FT mI RM JG (top 28)=true:=by kernel_rfl
theorem jK:mB BK iC dG zD (top 29)=true:=by kernel_rfl
theorem ZN:mB eP ZD iJ rE (top 30)=true:=by kernel_rfl
noncomputable def UK:List Str:=["_law_script","_law_k"]
noncomputable def KF:List Str:=["_law_script","_law_k"]
noncomputable def kR:Need:=⟨[],[],["len"],[]⟩
noncomputable def uH:PT :=
  (.seq (.ife (.cmp .Lt (.var 1) (.bi .len (.nq (.var 0) .nr))) (.seq (.ret (.idx (.var 0) (.var 1)))
  .nil) .nil)
  (.seq (.ret (.int 0))
  .nil))
theorem yQ:mB kR uH UK KF (top 32)=true:=by kernel_rfl
theorem eU:mB lX zK KO IH (top 33)=true:=by kernel_rfl
noncomputable def iK:List Str:=["_law_n","_law_some"]
noncomputable def eF:List Str:=["_law_n"]
noncomputable def EQ:Need:=⟨[],[],[],[]⟩
noncomputable def jH:PT :=
  (.seq (.set 1 (.str " !\"#$&'()*+,-./0123456789:;<=>?@ABCDEFGHIJKLMNOPQRSTUVWXYZ[\\]^_`"))
  (.seq (.set 1 (.bin .Add (.var 1) (.str "abcdefghijklmnopqrstuvwxyz{|}~")))
  (.seq (.ret (.idx (.var 1) (.bin .Mod (.var 0) (.int 94))))
  .nil)))
theorem NP:mB EQ jH iK eF (top 34)=true:=by kernel_rfl
theorem iN:mB sP jG tJ nE (top 35)=true:=by kernel_rfl
theorem PP:mB jR kH YK JF (top 36)=true:=by kernel_rfl
noncomputable def ZK:List Str:=["_law_word","_law_sign"]
noncomputable def YF:List Str:=["_law_word"]
noncomputable def yR:Need:=⟨[],[],["len"],[]⟩
noncomputable def RH:PT :=
  (.seq (.ife (.cmp .NotIn (.var 1) (.str "abcdefghijklmnopqrstuvwxyz")) (.seq (.ret (.bl false))
  .nil) .nil)
  .nil)
noncomputable def vH:PT :=
  (.seq (.ife (.or (.cmp .Lt (.bi .len (.nq (.var 0) .nr)) (.int 1)) (.cmp .Gt (.bi .len (.nq (.var 0) .nr)) (.int 8))) (.seq (.ret (.bl false))
  .nil) .nil)
  (.seq (.for_ (.nm 1) .val (.nq (.var 0) .nr) RH)
  (.seq (.ret (.bl true))
  .nil)))
theorem IP:mB yR vH ZK YF (top 37)=true:=by kernel_rfl
noncomputable def KK:List Str:=["_law_word"]
noncomputable def ZF:List Str:=["_law_word"]
noncomputable def zR:Need:=⟨["_law_keywords","_law_is_word"],[],[],[]⟩
noncomputable def xH:PT :=
  (.seq (.ret (.and (.call "_law_is_word" (.nq (.var 0) .nr)) (.cmp .NotIn (.var 0) (.call "_law_keywords" .nr))))
  .nil)
theorem jQ:mB zR xH KK ZF (top 38)=true:=by kernel_rfl
noncomputable def jN:List Str:=["_law_word","_law_value","_law_sign"]
noncomputable def XG:List Str:=["_law_word"]
noncomputable def OT:Need:=⟨[],[],["len"],[]⟩
noncomputable def IF:PT :=
  (.seq (.ife (.cmp .NotIn (.var 2) (.str "0123456789")) (.seq (.ret (.prm .ngt (.nq (.int 1) .nr)))
  .nil) .nil)
  (.seq (.set 1 (.bin .Add (.bin .Mult (.var 1) (.int 10)) (.mt .find (.str "0123456789") (.nq (.var 2) .nr))))
  .nil))
noncomputable def JI:PT :=
  (.seq (.ife (.or (.cmp .Lt (.bi .len (.nq (.var 0) .nr)) (.int 1)) (.cmp .Gt (.bi .len (.nq (.var 0) .nr)) (.int 9))) (.seq (.ret (.prm .ngt (.nq (.int 1) .nr)))
  .nil) .nil)
  (.seq (.ife (.and (.cmp .Gt (.bi .len (.nq (.var 0) .nr)) (.int 1)) (.cmp .Eq (.idx (.var 0) (.int 0)) (.str "0"))) (.seq (.ret (.prm .ngt (.nq (.int 1) .nr)))
  .nil) .nil)
  (.seq (.set 1 (.int 0))
  (.seq (.for_ (.nm 2) .val (.nq (.var 0) .nr) IF)
  (.seq (.ret (.var 1))
  .nil)))))
theorem IR:mB OT JI jN XG (top 39)=true:=by kernel_rfl
noncomputable def JK:List Str:=["_law_n","_law_size","_law_way","_law_rest","_law_word","_law_some","_law_at"]
noncomputable def iF:List Str:=["_law_n"]
noncomputable def IQ:Need:=⟨["_law_letters","_law_keywords"],[],[],[]⟩
noncomputable def yH:PT :=
  (.seq (.ret (.var 4))
  .nil)
noncomputable def PD:PT :=
  (.seq (.ife (.cmp .In (.var 4) (.call "_law_keywords" .nr)) (.seq (.set 4 (.bin .Add (.slc (.var 4) .nop (.int 7)) (.str "q")))
  .nil) .nil)
  yH)
noncomputable def OD:PT :=
  (.seq (.ife (.cmp .Eq (.var 2) (.int 1)) (.seq (.set 6 (.bin .Mod (.bin .FloorDiv (.var 3) (.int 26)) (.var 1)))
  (.seq (.set 4 (.bin .Add (.bin .Add (.bin .Mult (.str "m") (.var 6)) (.call "_law_letters" (.nq (.var 3) (.nq (.int 1) .nr)))) (.bin .Mult (.str "m") (.bin .Sub (.bin .Sub (.var 1) (.int 1)) (.var 6)))))
  .nil)) .nil)
  PD)
noncomputable def dL:List Str:=["x","xx","xy","yx","persons","a","b","z","aaaaaaaa","aaaaaaab","baaaaaaa","aaaabaaa"]
noncomputable def C5:List Str->PX
 |[]=>.nr
 |x::l=>.nq (.str x) (C5 l)
noncomputable def Gn:PX:=.lst (C5 dL)
noncomputable def HE:PT :=
  (.seq (.set 5 Gn)
  (.seq (.set 4 (.idx (.var 5) (.bin .Mod (.var 3) (.int 12))))
  .nil))
noncomputable def zH:PT :=
  (.seq (.set 1 (.bin .Add (.int 1) (.bin .Mod (.var 0) (.int 8))))
  (.seq (.set 2 (.bin .Mod (.bin .FloorDiv (.var 0) (.int 8)) (.int 4)))
  (.seq (.set 3 (.bin .FloorDiv (.var 0) (.int 32)))
  (.seq (.set 4 (.call "_law_letters" (.nq (.var 3) (.nq (.var 1) .nr))))
  (.seq (.ife (.cmp .Eq (.var 2) (.int 0)) HE .nil)
  OD)))))
theorem OP:mB IQ zH JK iF (top 40)=true:=by kernel_rfl
noncomputable def mS:List Str:=["_law_n","_law_least","_law_greatest"]
noncomputable def UJ:List Str:=["_law_n","_law_least","_law_greatest"]
noncomputable def T0:Need:=⟨[],[],[],[]⟩
noncomputable def GM:PT :=
  (.seq (.ife (.cmp .Eq (.bin .Mod (.var 0) (.int 3)) (.int 0)) (.seq (.ret (.idx (.lst (.nq (.var 1) (.nq (.var 2) .nr))) (.bin .Mod (.bin .FloorDiv (.var 0) (.int 3)) (.int 2))))
  .nil) .nil)
  (.seq (.ret (.bin .Add (.var 1) (.bin .Mod (.bin .FloorDiv (.var 0) (.int 3)) (.bin .Add (.bin .Sub (.var 2) (.var 1)) (.int 1)))))
  .nil))
theorem kY:mB T0 GM mS UJ (top 41)=true:=by kernel_rfl
noncomputable def gS:List Str:=["_law_n"]
noncomputable def VJ:List Str:=["_law_n"]
noncomputable def O0:Need:=⟨["_law_from"],[],[],[]⟩
noncomputable def FM:PT :=
  (.seq (.ret (.call "_law_from" (.nq (.var 0) (.nq (.int 0) (.nq (.int 99) .nr)))))
  .nil)
theorem yY:mB O0 FM gS VJ (top 42)=true:=by kernel_rfl
noncomputable def eK:List Str:=["_law_n"]
noncomputable def aF:List Str:=["_law_n"]
noncomputable def AQ:Need:=⟨["_law_keywords","_law_name_by"],[],[],[]⟩
noncomputable def IG:PT :=
  (.seq (.ife (.cmp .Eq (.bin .Mod (.var 0) (.int 4)) (.int 0)) (.seq (.ret (.idx (.call "_law_keywords" .nr) (.bin .Mod (.bin .FloorDiv (.var 0) (.int 4)) (.int 19))))
  .nil) .nil)
  (.seq (.ret (.call "_law_name_by" (.nq (.bin .FloorDiv (.var 0) (.int 4)) .nr)))
  .nil))
theorem MP:mB AQ IG eK aF (top 43)=true:=by kernel_rfl
noncomputable def EM:List Str:=["_law_n","_law_one","_law_two","_law_three","_law_cell","_law_way","_law_x","_law_y","_law_time","_law_row"]
noncomputable def KG:List Str:=["_law_n","_law_one","_law_two","_law_three","_law_cell"]
noncomputable def MT:Need:=⟨["_law_name_by","_law_from","_law_rank","_law_word_by","_law_mixed"],[],["int","range"],[]⟩
noncomputable def FE:PT :=
  (.seq (.ret (.var 9))
  .nil)
noncomputable def NF:PT :=
  (.seq (.own 9 (.bin .Add (.bin .Add (.var 9) (.lst (.nq (.str "by") .nr))) (.comp [] ["_law_k"] (.nm 0) .rng1 (.nq (.bin .Add (.int 1) (.bin .Mod (.bin .FloorDiv (.var 0) (.int 50)) (.int 6))) .nr) .nop (.call "_law_name_by" (.nq (.call "_law_mixed" (.nq (.var 5) (.nq (.bin .Add (.int 10) (.var 0)) .nr))) .nr)))))
  .nil)
noncomputable def GE:PT :=
  (.seq (.ife (.cmp .Eq (.var 5) (.int 5)) NF .nil)
  FE)
noncomputable def OF:PT :=
  (.seq (.own 9 (.lst (.nq (.str "tell") (.nq (.var 8) (.nq (.var 6) (.nq (.var 7) (.nq (.call "_law_name_by" (.nq (.bin .Mod (.var 4) (.int 1000003)) .nr)) (.nq (.call "_law_word_by" (.nq (.bin .FloorDiv (.var 0) (.int 6)) .nr)) .nr))))))))
  GE)
noncomputable def PF:PT :=
  (.seq (.ret (.lst (.nq (.str "see") (.nq (.var 8) (.nq (.var 6) (.nq (.var 7) (.nq (.call "_law_word_by" (.nq (.bin .FloorDiv (.var 0) (.int 6)) .nr)) .nr)))))))
  .nil)
noncomputable def RF:PT :=
  (.seq (.ret (.lst (.nq (.str "against") (.nq (.var 6) (.nq (.var 7) .nr)))))
  .nil)
noncomputable def DE:PT :=
  (.seq (.ife (.cmp .Eq (.var 5) (.int 2)) RF .nil)
  (.seq (.ife (.cmp .Eq (.var 5) (.int 3)) PF .nil)
  OF))
noncomputable def TF:PT :=
  (.seq (.set 7 (.idx (.lst (.nq (.str "zz") (.nq (.str "zy") .nr))) (.bi .int (.nq (.cmp .Eq (.var 6) (.str "zz")) .nr))))
  .nil)
noncomputable def AF:PT :=
  (.seq (.ret (.lst (.nq (.str "matter") (.nq (.var 6) .nr))))
  .nil)
noncomputable def EF:PT :=
  (.seq (.ret (.lst (.nq (.str "person") (.nq (.var 6) (.nq (.call "_law_rank" (.nq (.var 2) .nr)) (.nq (.call "_law_rank" (.nq (.var 3) .nr)) (.nq (.bin .Add (.int 1) (.bin .Mod (.bin .FloorDiv (.var 0) (.int 6)) (.int 4))) .nr)))))))
  .nil)
noncomputable def BE:PT :=
  (.seq (.ife (.cmp .Eq (.var 5) (.int 0)) EF .nil)
  (.seq (.ife (.cmp .Eq (.var 5) (.int 1)) AF .nil)
  (.seq (.ife (.cmp .Eq (.var 6) (.var 7)) TF .nil)
  DE)))
noncomputable def eI:PT :=
  (.seq (.set 5 (.bin .Mod (.var 0) (.int 6)))
  (.seq (.set 6 (.call "_law_name_by" (.nq (.var 1) .nr)))
  (.seq (.set 7 (.call "_law_name_by" (.nq (.var 2) .nr)))
  (.seq (.set 8 (.call "_law_from" (.nq (.var 3) (.nq (.int 0) (.nq (.int 999999999) .nr)))))
  BE))))
theorem TR:mB MT eI EM KG (top 44)=true:=by kernel_rfl
noncomputable def TM:List Str:=["_law_words","_law_n","_law_row","_law_word"]
noncomputable def ZG:List Str:=["_law_words","_law_n"]
noncomputable def LT:Need:=⟨[],[],[],[]⟩
noncomputable def nJ:PT :=
  (.seq (.set 1 (.bin .FloorDiv (.var 1) (.int 3)))
  (.seq (.set 2 (.bin .Add (.bin .Add (.var 2) (.var 3)) (.bin .Mult (.str " ") (.bin .Add (.int 1) (.bin .Mod (.var 1) (.int 3))))))
  .nil))
noncomputable def OH:PT :=
  (.seq (.ret (.var 2))
  .nil)
noncomputable def oI:PT :=
  (.seq (.set 2 (.bin .Mult (.str " ") (.bin .Mod (.var 1) (.int 3))))
  (.seq (.for_ (.nm 3) .val (.nq (.var 0) .nr) nJ)
  (.seq (.ife (.cmp .Eq (.bin .Mod (.bin .FloorDiv (.var 1) (.int 3)) (.int 2)) (.int 0)) (.seq (.set 2 (.mt .rstrip (.var 2) .nr))
  .nil) .nil)
  OH)))
theorem SR:mB LT oI TM ZG (top 45)=true:=by kernel_rfl
noncomputable def AM:List Str:=["_law_found","_law_due","_law_one","_law_two"]
noncomputable def jF:List Str:=["_law_found","_law_due"]
noncomputable def N0:Need:=⟨["_law_same"],[],["isinstance","tuple","list","len","zip","str","bool","int"],[]⟩
noncomputable def uQ:PT :=
  (.seq (.ret (.bl false))
  .nil)
noncomputable def aI:PT :=
  (.seq (.ife (.not (.call "_law_same" (.nq (.var 2) (.nq (.var 3) .nr)))) uQ .nil)
  .nil)
noncomputable def tI:PT :=
  (.seq (.for_ (.tp [2,3]) .zip2 (.nq (.var 0) (.nq (.var 1) .nr)) aI)
  (.seq (.ret (.bl true))
  .nil))
noncomputable def sI:PT :=
  (.seq (.ife (.cmp .NotEq (.isi (.var 1) (.bty "list" "list")) (.isi (.var 0) (.bty "list" "list"))) uQ .nil)
  (.seq (.ife (.cmp .NotEq (.isi (.var 1) (.bty "tuple" "tuple")) (.isi (.var 0) (.bty "tuple" "tuple"))) uQ .nil)
  (.seq (.ife (.cmp .NotEq (.bi .len (.nq (.var 0) .nr)) (.bi .len (.nq (.var 1) .nr))) uQ .nil)
  tI)))
noncomputable def BM:PT :=
  (.seq (.ret (.and (.isi (.var 0) (.bty "str" "str")) (.cmp .Eq (.var 0) (.var 1))))
  .nil)
noncomputable def CM:PT :=
  (.seq (.ret (.cmp .Is (.var 0) .non))
  .nil)
noncomputable def DM:PT :=
  (.seq (.ret (.and (.isi (.var 0) (.bty "int" "int")) (.and (.not (.isi (.var 0) (.bty "bool" "bool"))) (.cmp .Eq (.var 0) (.var 1)))))
  .nil)
noncomputable def MD:PT :=
  (.seq (.ife (.cmp .Is (.var 1) .non) CM .nil)
  (.seq (.ife (.isi (.var 1) (.bty "str" "str")) BM .nil)
  DM))
noncomputable def pC:PT :=
  (.seq (.ife (.or (.isi (.var 1) (.bty "list" "list")) (.isi (.var 1) (.bty "tuple" "tuple"))) sI .nil)
  MD)
theorem yK:mB N0 pC AM jF (top 46)=true:=by kernel_rfl
noncomputable def cH:List Str:=["_law_caught","_law_which","_law_place","_law_kinds"]
noncomputable def nD:List Str:=["_law_caught","_law_which","_law_place"]
noncomputable def AL:Need:=⟨[],["WorldError","Twice","Misplaced","BadRow","Unfinished","TooMany","NoName"],["isinstance","ValueError","range","bool","int"],[]⟩
noncomputable def SD:PT :=
  (.seq (.ife (.or (.cmp .Is (.var 0) .non) (.or (.not (.prm (.isT "ValueError" "ValueError") (.nq (.var 0) .nr))) (.not (.prm .isC (.nq (.var 0) (.nq (.glo "WorldError") .nr)))))) (.seq (.ret (.bl false))
  .nil) .nil)
  (.seq (.set 3 (.lst (.nq (.prm .isC (.nq (.var 0) (.nq (.glo "BadRow") .nr))) (.nq (.prm .isC (.nq (.var 0) (.nq (.glo "Misplaced") .nr))) (.nq (.prm .isC (.nq (.var 0) (.nq (.glo "Twice") .nr))) .nr)))))
  (.seq (.set 3 (.bin .Add (.var 3) (.lst (.nq (.prm .isC (.nq (.var 0) (.nq (.glo "NoName") .nr))) (.nq (.prm .isC (.nq (.var 0) (.nq (.glo "TooMany") .nr))) (.nq (.prm .isC (.nq (.var 0) (.nq (.glo "Unfinished") .nr))) .nr))))))
  (.seq (.ife (.cmp .NotEq (.var 3) (.comp [] ["_law_k"] (.nm 0) .rng1 (.nq (.int 6) .nr) .nop (.cmp .Eq (.var 0) (.var 2)))) (.seq (.ret (.bl false))
  .nil) .nil)
  (.seq (.ife (.or (.not (.isi (.prm .plc (.nq (.var 0) .nr)) (.bty "int" "int"))) (.isi (.prm .plc (.nq (.var 0) .nr)) (.bty "bool" "bool"))) (.seq (.ret (.bl false))
  .nil) .nil)
  (.seq (.ret (.cmp .Eq (.prm .plc (.nq (.var 0) .nr)) (.var 2)))
  .nil))))))
theorem FK:mB AL SD cH nD (top 47)=true:=by kernel_rfl
noncomputable def IM:List Str:=["_law_n","_law_some"]
noncomputable def VG:List Str:=["_law_n"]
noncomputable def NT:Need:=⟨["_law_keywords"],[],[],[]⟩
noncomputable def gF:List Str:=["=","x","_","00","01","0007","-1","+3","1x","x1","a","Ab","a_b"]
noncomputable def KI:PX:=.lst (C5 gF)
noncomputable def fF:List Str:=["abcdefgh","abcdefghi","0","1","4","5","99","100","1.0","999999999"]
noncomputable def ZI:PX:=.lst (C5 fF)
noncomputable def cF:PX:=.lst (.nq (.str "1000000000") (.nq (.bin .Mult (.str "9") (.int 9)) (.nq (.bin .Mult (.str "9") (.int 10)) (.nq (.str "persons") (.nq (.str "See") (.nq (.str "by") (.nq (.str "By") .nr)))))))
noncomputable def iI:PT :=
  (.seq (.set 1 (.bin .Add (.call "_law_keywords" .nr) KI))
  (.seq (.set 1 (.bin .Add (.var 1) ZI))
  (.seq (.set 1 (.bin .Add (.var 1) cF))
  (.seq (.ret (.idx (.var 1) (.bin .Mod (.var 0) (.int 49))))
  .nil))))
theorem ER:mB NT iI IM VG (top 48)=true:=by kernel_rfl
noncomputable def aJ:List Str:=["_law_words","_law_n","_law_some","_law_at"]
noncomputable def oE:List Str:=["_law_words","_law_n"]
noncomputable def tP:Need:=⟨["_law_number"],[],["list","range","len"],[]⟩
noncomputable def sB:List Str:=["0","1","4","5","99","100","999999999","1000000000"]
noncomputable def nG:PX:=.lst (C5 sB)
noncomputable def cG:PT :=
  (.seq (.ret (.var 2))
  .nil)
noncomputable def zG:PT :=
  (.seq (.own 2 (.bi .list (.nq (.var 0) .nr)))
  (.seq (.set 3 (.comp [] ["_law_k"] (.nm 0) .rng1 (.nq (.bi .len (.nq (.var 2) .nr)) .nr) (.cmp .GtE (.call "_law_number" (.nq (.idx (.var 3) (.var 0)) .nr)) (.int 0)) (.var 0)))
  (.seq (.ife (.cmp .NotEq (.var 3) (.lst .nr)) (.seq (.six 2 (.idx (.var 3) (.bin .Mod (.bin .FloorDiv (.var 1) (.int 8)) (.bi .len (.nq (.var 3) .nr)))) (.idx nG (.bin .Mod (.var 1) (.int 8))))
  .nil) .nil)
  cG)))
theorem JN:mB tP zG aJ oE (top 49)=true:=by kernel_rfl
noncomputable def SM:List Str:=["_law_words","_law_way","_law_at","_law_n","_law_some","_law_k","_law_word","_law_spot"]
noncomputable def YG:List Str:=["_law_words","_law_way","_law_at","_law_n"]
noncomputable def GT:Need:=⟨["_law_at_bound","_law_odd_by","_law_sign_by"],[],["list","len","int"],[]⟩
noncomputable def NH:PT :=
  (.seq (.ret (.var 4))
  .nil)
noncomputable def UE:PT :=
  (.seq (.ret (.comp [] ["_law_part_here"] (.nm 0) .val (.nq (.var 4) .nr) (.cmp .NotEq (.var 0) (.str "")) (.var 0)))
  .nil)
noncomputable def VE:PT :=
  (.seq (.ife (.cmp .Eq (.var 1) (.int 7)) (.seq (.expr (.mt .insert (.var 4) (.nq (.var 2) (.nq (.var 6) .nr))))
  .nil) .nil)
  UE)
noncomputable def KE:PT :=
  (.seq (.ife (.cmp .Eq (.var 1) (.int 6)) (.seq (.six 4 (.var 2) (.idx (.var 4) (.bin .Sub (.var 2) (.int 1))))
  (.seq (.six 4 (.bin .Sub (.var 2) (.int 1)) (.var 6))
  .nil)) .nil)
  VE)
noncomputable def ZE:PT :=
  (.seq (.ife (.cmp .Eq (.var 1) (.int 5)) (.seq (.six 4 (.var 2) (.bin .Add (.slc (.var 6) .nop (.var 7)) (.slc (.var 6) (.bin .Add (.var 7) (.int 1)) .nop)))
  .nil) .nil)
  KE)
noncomputable def JE:PT :=
  (.seq (.ife (.cmp .Eq (.var 1) (.int 4)) (.seq (.six 4 (.var 2) (.bin .Add (.bin .Add (.slc (.var 6) .nop (.var 7)) (.call "_law_sign_by" (.nq (.bin .Add (.int 1) (.bin .Mod (.bin .FloorDiv (.var 3) (.int 40)) (.int 93))) .nr))) (.slc (.var 6) (.var 7) .nop)))
  .nil) .nil)
  ZE)
noncomputable def iE:PT :=
  (.seq (.ife (.cmp .Eq (.var 1) (.int 3)) (.seq (.expr (.mt .pop (.var 4) (.nq (.var 2) .nr)))
  .nil) .nil)
  JE)
noncomputable def nI:PT :=
  (.seq (.own 4 (.bi .list (.nq (.var 0) .nr)))
  (.seq (.ife (.cmp .Eq (.var 1) (.int 0)) (.seq (.ret (.call "_law_at_bound" (.nq (.var 0) (.nq (.var 3) .nr))))
  .nil) .nil)
  (.seq (.ife (.cmp .Eq (.var 1) (.int 1)) (.seq (.expr (.mt .insert (.var 4) (.nq (.bin .Mod (.var 2) (.bin .Add (.bi .len (.nq (.var 4) .nr)) (.int 1))) (.nq (.call "_law_odd_by" (.nq (.var 3) .nr)) .nr))))
  (.seq (.ret (.var 4))
  .nil)) .nil)
  (.seq (.ife (.cmp .Eq (.var 1) (.int 8)) (.seq (.ife (.cmp .In (.idx (.var 4) (.int 0)) (.lst (.nq (.str "against") (.nq (.str "tell") .nr)))) (.seq (.set 5 (.idx (.lst (.nq (.int 2) (.nq (.int 3) .nr))) (.bi .int (.nq (.cmp .Eq (.idx (.var 4) (.int 0)) (.str "tell")) .nr))))
  (.seq (.six 4 (.var 5) (.idx (.var 4) (.bin .Sub (.var 5) (.int 1))))
  .nil)) .nil)
  NH) .nil)
  (.seq (.set 2 (.bin .Mod (.var 2) (.bi .len (.nq (.var 4) .nr))))
  (.seq (.set 6 (.idx (.var 4) (.var 2)))
  (.seq (.set 7 (.bin .Mod (.var 3) (.bin .Add (.bi .len (.nq (.var 6) .nr)) (.int 1))))
  (.seq (.ife (.cmp .Eq (.var 1) (.int 2)) (.seq (.six 4 (.var 2) (.call "_law_odd_by" (.nq (.var 3) .nr)))
  .nil) .nil)
  iE))))))))
theorem PR:mB GT nI SM YG (top 50)=true:=by kernel_rfl
noncomputable def ZO:List Str:=["_law_words","_law_shapes"]
noncomputable def EH:List Str:=["_law_words"]
noncomputable def hX:Need:=⟨[],[],["len"],[]⟩
noncomputable def bK:PX:=.dsp ["person","matter","against","see","tell"] (.nq (.str "nrrd") (.nq (.str "n") (.nq (.str "nn") (.nq (.str "tnnw") (.nq (.str "tnnnw") .nr)))))
noncomputable def iH:PT :=
  (.seq (.set 1 bK)
  (.seq (.ife (.prm (.din true) (.nq (.idx (.var 0) (.int 0)) (.nq (.var 1) .nr))) (.seq (.ret (.str ""))
  .nil) .nil)
  (.seq (.ife (.and (.cmp .Eq (.idx (.var 0) (.int 0)) (.str "tell")) (.and (.cmp .Gt (.bi .len (.nq (.var 0) .nr)) (.int 7)) (.and (.cmp .Lt (.bi .len (.nq (.var 0) .nr)) (.int 14)) (.cmp .Eq (.idx (.var 0) (.int 6)) (.str "by"))))) (.seq (.ret (.bin .Add (.str "tnnnwb") (.bin .Mult (.str "n") (.bin .Sub (.bi .len (.nq (.var 0) .nr)) (.int 7)))))
  .nil) .nil)
  (.seq (.ret (.prm .dgt (.nq (.var 1) (.nq (.idx (.var 0) (.int 0)) .nr))))
  .nil))))
theorem aU:mB hX iH ZO EH (top 51)=true:=by kernel_rfl
noncomputable def lS:List Str:=["_law_sort","_law_word","_law_number_here","_law_least","_law_most"]
noncomputable def XJ:List Str:=["_law_sort","_law_word"]
noncomputable def R0:Need:=⟨["_law_is_name","_law_is_word","_law_number"],[],["int"],[]⟩
noncomputable def TH:PX:=.dsp ["r","d","t"] (.nq (.tup (.nq (.int 0) (.nq (.int 99) .nr))) (.nq (.tup (.nq (.int 1) (.nq (.int 4) .nr))) (.nq (.tup (.nq (.int 0) (.nq (.int 999999999) .nr))) .nr)))
noncomputable def ND:PT :=
  (.seq (.ife (.cmp .Eq (.var 0) (.str "n")) (.seq (.ret (.bin .Mult (.lst (.nq (.var 1) .nr)) (.bi .int (.nq (.call "_law_is_name" (.nq (.var 1) .nr)) .nr))))
  .nil) .nil)
  (.seq (.ife (.or (.cmp .Eq (.var 0) (.str "w")) (.cmp .Eq (.var 0) (.str "b"))) (.seq (.ret (.bin .Mult (.lst (.nq (.var 1) .nr)) (.bi .int (.nq (.call "_law_is_word" (.nq (.var 1) .nr)) .nr))))
  .nil) .nil)
  (.seq (.set 2 (.call "_law_number" (.nq (.var 1) .nr)))
  (.seq (.setT [3,4] (.prm .dgt (.nq TH (.nq (.var 0) .nr))))
  (.seq (.ret (.bin .Mult (.lst (.nq (.var 2) .nr)) (.bi .int (.nq (.and (.cmp .LtE (.var 3) (.var 2)) (.cmp .LtE (.var 2) (.var 4))) .nr))))
  .nil)))))
theorem zY:mB R0 ND lS XJ (top 52)=true:=by kernel_rfl
noncomputable def yN:List Str:=["_law_words","_law_shape_here","_law_told","_law_sort","_law_word"]
noncomputable def UG:List Str:=["_law_words"]
noncomputable def RT:Need:=⟨["_law_shape","_law_part"],[],["len","zip"],[]⟩
noncomputable def oJ:PT :=
  (.seq (.set 2 (.bin .Add (.var 2) (.call "_law_part" (.nq (.var 3) (.nq (.var 4) .nr)))))
  .nil)
noncomputable def yG:PT :=
  (.seq (.ife (.cmp .Eq (.var 0) (.lst .nr)) (.seq (.ret (.lst (.nq .non .nr)))
  .nil) .nil)
  (.seq (.set 1 (.call "_law_shape" (.nq (.var 0) .nr)))
  (.seq (.ife (.or (.cmp .Eq (.var 1) (.str "")) (.cmp .NotEq (.bi .len (.nq (.var 1) .nr)) (.bin .Sub (.bi .len (.nq (.var 0) .nr)) (.int 1)))) (.seq (.ret (.lst .nr))
  .nil) .nil)
  (.seq (.set 2 (.lst (.nq (.idx (.var 0) (.int 0)) .nr)))
  (.seq (.for_ (.tp [3,4]) .zip2 (.nq (.var 1) (.nq (.slc (.var 0) (.int 1) .nop) .nr)) oJ)
  (.seq (.ife (.or (.cmp .NotEq (.bi .len (.nq (.var 2) .nr)) (.bi .len (.nq (.var 0) .nr))) (.and (.cmp .Eq (.idx (.var 0) (.int 0)) (.str "against")) (.cmp .Eq (.idx (.var 2) (.int 1)) (.idx (.var 2) (.int 2))))) (.seq (.ret (.lst .nr))
  .nil) .nil)
  (.seq (.ife (.and (.cmp .Eq (.idx (.var 0) (.int 0)) (.str "tell")) (.cmp .Eq (.idx (.var 2) (.int 2)) (.idx (.var 2) (.int 3)))) (.seq (.ret (.lst .nr))
  .nil) .nil)
  (.seq (.ret (.lst (.nq (.var 2) .nr)))
  .nil))))))))
theorem jS:mB RT yG yN UG (top 53)=true:=by kernel_rfl
noncomputable def VO:List Str:=["_law_words","_law_gaps","_law_place","_law_due","_law_caught","_law_found","e"]
noncomputable def jI:List Str:=["_law_words","_law_gaps"]
noncomputable def mX:Need:=⟨["_law_judged","row_of","_law_spaced","_law_same","_law_is_refused"],["WorldError"],["len"],[]⟩
noncomputable def kK:PT :=
  (.seq (.set 2 (.bin .Add (.int 1) (.bin .Mod (.bin .FloorDiv (.var 1) (.bin .Pow (.int 10) (.int 9))) (.int 400))))
  (.seq (.set 3 (.call "_law_judged" (.nq (.var 0) .nr)))
  (.seq (.set 4 .non)
  (.seq (.set 5 .non)
  (.seq (.tryC (some 5) "row_of" (.nq (.call "_law_spaced" (.nq (.var 0) (.nq (.var 1) .nr))) (.nq (.var 2) .nr)) "WorldError" 4 6)
  (.seq (.ife (.cmp .Eq (.bi .len (.nq (.var 3) .nr)) (.int 1)) (.seq (.ret (.and (.cmp .Is (.var 4) .non) (.call "_law_same" (.nq (.var 5) (.nq (.idx (.var 3) (.int 0)) .nr)))))
  .nil) .nil)
  (.seq (.ret (.call "_law_is_refused" (.nq (.var 4) (.nq (.int 0) (.nq (.var 2) .nr)))))
  .nil)))))))
theorem iU:mB mX kK VO jI (top 54)=true:=by kernel_rfl
noncomputable def rc:List Str:=["_law_script","_law_k","_law_n","_law_one","_law_two","_law_three","_law_gaps","_law_bad","_law_words"]
noncomputable def IS:List Str:=["_law_script"]
noncomputable def yj:Need:=⟨["_law_mixed","_law_cell_at","_law_row_by","_law_spoilt","_law_holds"],[],["range","max","len","str"],[]⟩
noncomputable def bQ:PT :=
  (.seq (.set 2 (.call "_law_mixed" (.nq (.call "_law_cell_at" (.nq (.var 0) (.nq (.var 1) .nr))) (.nq (.int 1) .nr))))
  (.seq (.set 3 (.call "_law_mixed" (.nq (.call "_law_cell_at" (.nq (.var 0) (.nq (.bin .Add (.var 1) (.int 1)) .nr))) (.nq (.int 2) .nr))))
  (.seq (.set 4 (.call "_law_mixed" (.nq (.call "_law_cell_at" (.nq (.var 0) (.nq (.bin .Add (.var 1) (.int 2)) .nr))) (.nq (.int 3) .nr))))
  (.seq (.set 5 (.call "_law_mixed" (.nq (.call "_law_cell_at" (.nq (.var 0) (.nq (.bin .Add (.var 1) (.int 3)) .nr))) (.nq (.int 4) .nr))))
  (.seq (.set 6 (.call "_law_mixed" (.nq (.call "_law_cell_at" (.nq (.var 0) (.nq (.bin .Add (.var 1) (.int 4)) .nr))) (.nq (.int 5) .nr))))
  (.seq (.set 7 (.call "_law_mixed" (.nq (.call "_law_cell_at" (.nq (.var 0) (.nq (.bin .Add (.var 1) (.int 4)) .nr))) (.nq (.int 6) .nr))))
  (.seq (.set 8 (.comp [] ["_law_part_here"] (.nm 0) .val (.nq (.call "_law_row_by" (.nq (.var 2) (.nq (.var 3) (.nq (.var 4) (.nq (.var 5) (.nq (.call "_law_cell_at" (.nq (.var 0) (.nq (.bin .Add (.var 1) (.int 3)) .nr))) .nr)))))) .nr) .nop (.bi .str (.nq (.var 0) .nr))))
  (.seq (.set 8 (.call "_law_spoilt" (.nq (.var 8) (.nq (.bin .Mod (.var 7) (.int 9)) (.nq (.bin .Mod (.bin .FloorDiv (.var 7) (.int 9)) (.int 1000)) (.nq (.call "_law_mixed" (.nq (.call "_law_cell_at" (.nq (.var 0) (.nq (.bin .Add (.var 1) (.int 3)) .nr))) (.nq (.int 7) .nr))) .nr))))))
  (.seq (.ife (.not (.call "_law_holds" (.nq (.var 8) (.nq (.var 6) .nr)))) (.seq (.ret (.bl false))
  .nil) .nil)
  .nil)))))))))
noncomputable def C4:PT :=
  (.seq (.for_ (.nm 1) .rng3 (.nq (.int 0) (.nq (.bi .max (.nq (.int 1) (.nq (.bi .len (.nq (.var 0) .nr)) .nr))) (.nq (.int 5) .nr))) bQ)
  (.seq (.ret (.bl true))
  .nil))
theorem vg:mB yj C4 rc IS (top 55)=true:=by kernel_rfl
noncomputable def O5:D->Str
 | .str z=>z
 | .int n=>PL n
 |_=>⟨#[]⟩
def bH(w:Str):Prop:=w.cps.toList≠[]/\w.length<=9/\∀c∈w.cps.toList,33<=c/\c<=126
theorem eE:vE.cps.toList=(qK 26).map (·+97):=by decide +kernel
theorem tD{w:Str}(h:rA w=true):bH w:=by unfold rA at h;rw[QN,QN,decide_eq_true_eq,decide_eq_true_eq]at h;obtain⟨h1,h2,h3⟩:=h;refine⟨fun z=>?_,by omega,fun c hc=>?_⟩;have:w.cps.toList.length=w.length:=Qh;rw[z]at this;simp at this;omega;have:=Qk.mp h3 c hc;rw[decide_eq_true_eq,eE]at this;obtain⟨i,hi,rfl⟩:=Q0.mp this;have:=wH.mp hi;omega
theorem SN{w:Str}(h:xA w=true):rA w=true:=by unfold xA at h;rw[QN]at h;exact h.1
theorem kf{n:Int}(h0:0<=n)(h1:n<=999999999):bH (PL n):=by obtain⟨l1,l2⟩:=Z0 h0 h1;refine⟨fun z=>?_,l2,fun c hc=>?_⟩;have:(PL n).cps.toList.length=(PL n).length:=Qh;rw[z]at this;simp at this;omega;obtain⟨m,rfl⟩:=WV h0;have:=PQ m c hc;omega
noncomputable def CH:List Str:=["name","person","matter"]
noncomputable def eD:List (Str×D):=[("rank",.tuple [.int 0,.int 99]),("floor",.tuple [.int 0,.int 99]),("needs",.tuple [.int 1,.int 4]),("time",.tuple [.int 0,.int 999999999]),("number",.tuple [.int 0,.int 999999999])]
def kN(p:Str)(d:D):Prop:=(p="name"/\∃w,d=.str w/\xA w=true)∨(p="word"/\∃w,d=.str w/\rA w=true)∨(p="by"/\d=.str "by") ∨
 ((p∉CH/\p≠"word"/\p≠"by")/\∃a b n:Int,eD.lookup p=some (.tuple [.int a,.int b])/\d=.int n/\a<=n/\n<=b/\0<=a/\b<=999999999)
inductive FitsL:List Str->List D->Prop where
 |nil:FitsL [] []
 |cons {p:Str}{d:D}{ps:List Str}{ds:List D}:kN p d->FitsL ps ds->FitsL (p::ps) (d::ds)
theorem kN.txts{p:Str}{d:D}(h:kN p d):bH (O5 d)/\((∃z,d=.str z)∨∃n:Int,d=.int n/\0<=n/\n<=999999999):=by
 rcases h with⟨_,w,rfl,hw⟩| ⟨_,w,rfl,hw⟩| ⟨_,rfl⟩| ⟨_,a,b,n,_,rfl,h0,h1,h2,h3⟩
 exact⟨tD (SN hw),.inl ⟨w,rfl⟩⟩;exact⟨tD hw,.inl ⟨w,rfl⟩⟩;exact⟨tD (by decide +kernel),.inl ⟨_,rfl⟩⟩;exact⟨kf (by omega) (by omega),.inr ⟨n,rfl,by omega,by omega⟩⟩
theorem FitsL.len{f:List Str}{vs:List D}(h:FitsL f vs):f.length=vs.length:=by
 induction h with
 |nil=>rfl
 |cons _ _ ih=>rw[QH,QH,ih]
theorem FitsL.all{f:List Str}{vs:List D}(h:FitsL f vs):∀d∈vs,bH (O5 d)/\((∃z,d=.str z)∨∃n:Int,d=.int n/\0<=n/\n<=999999999):=by
 induction h with
 |nil=>intro d hd;cases hd
 |cons a _ ih=>intro d hd;rcases QL.mp hd with rfl|hd;exact a.txts;exact ih d hd
noncomputable def zB(p w:Str):D:=if decide (p∈CH)=true then(if xA w=true then .str w else .none) else if decide (p=QA "word")=true then(if rA w=true then .str w else .none) else
 if decide (p=QA "by")=true then(if decide (w=QA "by")=true then .str w else .none) else match eD.lookup p with
 |some (.tuple [.int a,.int b])=>iB a b w
 |_=>.none
def CU(p:Str):Prop:=p∈CH∨p="word"∨p="by"∨∃a b:Int,eD.lookup p=some (.tuple [.int a,.int b])
noncomputable def UC:PSp where
 md:=[]
 run:=fun ds Q _=>∃(p w:Str),ds=[.d (.str p),.d (.str w)]/\CU p/\w.length<=sizeLine/\Q (.d (zB p w)) []
 mono:=fun h _ z=>by obtain⟨p,w,e,f,l,q⟩:=z;exact⟨p,w,e,f,l,h _ _ q⟩
theorem RO{p w:Str}{K:T->List T->Prop}{E:XE}(h:CU p)(hl:w.length<=sizeLine)(q:K (.d (zB p w)) []):bC UC [.d (.str p),.d (.str w)] K E:=⟨p,w,rfl,h,hl,q⟩
theorem CT:(CH.map PyData.str).all YB=true:=by rfl
theorem N2(p:Str):((CH.map PyData.str).any fun y=>Qo y (.str p))=decide (p∈CH):=by
 rw[List.any_map];have:∀l:List Str,(l.any ((fun y=>Qo y (.str p))∘PyData.str))=decide (p∈l):=by
  intro l;induction l with
  |nil=>rfl
  |cons x l ih=>rw[qG,ih];show(decide (x=p)||decide (p∈l))=_;by_cases e:x=p;subst e;simp;have e':¬ p=x:=fun z=>e z.symm;simp[e,e']
 exact this CH
theorem GQ{Ψ:PEv}(h1:Ψ.sp "is_name"=yD)(h2:Ψ.sp "is_word"=YC)(h3:Ψ.sp "number_within"=vB)(v0:Ψ.va "NAMED"=some (.tuple (CH.map PyData.str)))(v1:Ψ.dc "RANGES"=some eD)(ds Q E)(h:UC.run ds Q E):ds.length=JG.length/\YA Ψ (fun _=>False) mI (aA UC JG.length Q) (bA RM UC.md ds):=by
 obtain⟨p,w,rfl,hf,hl,q⟩:=h;refine uA [some (.nv (.d (.str p))),some (.nv (.d (.str w)))] rfl rfl rfl ?_;unfold zB at q;delta mI;simp?[↓dE v0,CT,N2];refine⟨.inl rfl,AA (fun c=>?_) fun c=>AA (fun c2=>?_) fun c2=>AA (fun c3=>?_) fun c3=>?_⟩;rw[if_pos c]at q;delta mJ;simp?[↓cA (md:=[]) h1 rfl rfl,↓ZQ hl];refine AA (fun d=>?_) fun d=>?_;rw[if_pos d]at q;exact q;rw[if_neg d]at q;exact q;rw[if_neg c,if_pos c2]at q;delta lJ;simp?[↓cA (md:=[]) h2 rfl rfl,↓lK hl];refine AA (fun d=>?_) fun d=>?_;rw[if_pos d]at q;exact q;rw[if_neg d]at q;exact q;rw[if_neg c,if_neg c2,if_pos c3]at q;delta gJ;simp?[↓kA];refine AA (fun d=>?_) fun d=>?_;rw[if_pos d]at q;exact q;rw[if_neg d]at q;exact q;rw[if_neg c,if_neg c2,if_neg c3]at q;rcases hf with z|z|z|⟨a,b,e⟩
 exact absurd (dT z) c;exact absurd (dT z) c2;exact absurd (dT z) c3;rw[e]at q;delta fJ;simp?[↓cA (md:=[]) h3 rfl rfl,↓Hm v1 e,↓LI hl];exact q
noncomputable def iA(f ws:List Str):List D:=(f.zip ws).map fun p=>zB p.1 p.2
noncomputable def lF(o:Option (List Str))(ws:List Str):Option (List D):=match o with
 |none=>none
 |some f=>if ws.length=f.length then(if(iA f ws).any XA=true then none else some (iA f ws)) else none
noncomputable def CZ(h:Str):Option (List D)->T
 |none=>.d .none
 |some vs=>.lst ((PyData.str h::vs).map T.d)
noncomputable def vC:PSp where
 md:=[]
 run:=fun ds Q _=>∃(h:Str) (o:Option (List Str)) (ws:List Str),ds=[.d (lN o),.d (.list ((h::ws).map PyData.str))]/\ws.length<=1000/\(∀w∈ws,w.length<=sizeLine)/\(∀f,o=some f->f.length<=1000/\∀p∈f,CU p)/\Q (CZ h (lF o ws)) []
 mono:=fun h _ z=>by obtain⟨a,b,c,e,h1,h2,h3,q⟩:=z;exact⟨a,b,c,e,h1,h2,h3,h _ _ q⟩
theorem fN{h:Str}{o:Option (List Str)}{ws:List Str}{K:T->List T->Prop}{E:XE}(h1:ws.length<=1000)(h2:∀w∈ws,w.length<=sizeLine)(h3:∀f,o=some f->f.length<=1000/\∀p∈f,CU p)(q:K (CZ h (lF o ws)) []):bC vC [.d (lN o),.d (.list ((h::ws).map PyData.str))] K E:=⟨h,o,ws,rfl,h1,h2,h3,q⟩
theorem K8{y:D}(h:YB y=true):Qo y .none=XA y:=by cases y<;>first|rfl|cases h
theorem Y0(a b:Int)(w:Str):YB (iB a b w)=true:=by
 unfold iB DG;cases vF w with
 |false=>rfl
 |true=>show YB (if(decide (a<=RA w)&&decide (RA w<=b))=true then .int (RA w) else .none)=true;split<;>rfl
theorem tY(p w:Str):YB (zB p w)=true:=by
 unfold zB
 repeat' split
 all_goals first|rfl|exact Y0 _ _ _
theorem N4(f ws:List Str):(iA f ws).all YB=true:=by unfold iA;rw[QA9];exact Qk.mpr fun p _=>tY p.1 p.2
theorem S8{l:List D}(h:l.all YB=true):(l.any fun y=>Qo y .none)=l.any XA:=by
 induction l with
 |nil=>rfl
 |cons x l ih=>rw[Qw,QN]at h;rw[qG,qG,ih h.2,K8 h.1]
theorem fP{Ψ:PEv}(h1:Ψ.sp "value_of"=UC)(ds Q E)(h:vC.run ds Q E):ds.length=sF.length/\YA Ψ (fun _=>False) bE (aA vC sF.length Q) (bA tK vC.md ds):=by
 obtain⟨h,o,ws,rfl,l1,l2,hf,q⟩:=h;refine uA [some (.nv (.d (lN o))),some (.nv (.d (.list ((h::ws).map PyData.str)))),none] rfl rfl rfl ?_;have hz:sizeLine=16777216:=QX;cases o with
 |none=>delta bE;simp_arith[lN];exact q
 |some f =>
  obtain⟨l3,hp⟩:=hf f rfl;have a0:mC (wB PyData.str (h::ws)) 0=some (.str h):=gB (j:=0) rfl;have ln:((h::ws).map PyData.str).length=ws.length+1:=by simp
  have lf:(wB PyData.str f).length=f.length:=by simp
  have ct:eM ((h::ws).map PyData.str) (some 1) none=ws.map PyData.str:=by unfold eM;simp[HT.sIx];exact WY (by simp)
  have ez:wB (fun p=>T.d (PyData.tuple [p.fst,p.snd])) ((wB PyData.str f).zip (ws.map PyData.str))=(f.zip ws).map fun p:Str×Str=>T.d (PyData.tuple [.str p.1,.str p.2]):=by rw[List.zip_map,qp];rfl
  have q:Q (CZ h (if ws.length=f.length then(if(iA f ws).any XA=true then none else some (iA f ws)) else none)) []:=q;delta bE;simp_arith[lN,↓IA a0,↓Hh ct,ln,lf,ez];refine AA (fun c=>?_) fun c=>?_;rw[if_neg (fun z=>by rw[dT (by omega)]at c;cases c)]at q;exact q;have e:ws.length=f.length:=by by_cases z:((ws.length+1:Nat):Int)=1+(f.length:Int);omega;rw[dF z]at c;exact absurd rfl c
  rw[if_pos e]at q;refine⟨by omega,xF (fun p:Str×Str=>T.d (PyData.tuple [.str p.1,.str p.2])) (fun p=>T.d (zB p.1 p.2)) _ _ _ (fun p hp' R hR=>?_) ?_ ?_⟩;simp_arith[↓cA (md:=[]) h1 rfl rfl];have hm:=ql hp';refine RO (hp p.1 hm.1) (l2 p.2 hm.2) ?_;simp_arith[↓kA];exact hR;simp;omega;rw[Qz,LG (fun p:Str×Str=>zB p.1 p.2)];have fl:=N4 f ws;have an:=S8 fl;have la:(iA f ws).length<=1000:=by unfold iA;rw[QJ,WT];omega
  have e2:wB (fun p:Str×Str=>zB p.1 p.2) (f.zip ws)=iA f ws:=rfl;rw[e2];generalize iA f ws=A at fl an la q;simp_arith[↓kA];refine⟨by first|omega | (simp;omega),.inl ⟨rfl,?_⟩,?_⟩;rw[Qw,fl];rfl;rw[qG,an];have:(Qo (.str h) .none||A.any XA)=A.any XA:=rfl;rw[this];refine AA (fun c=>?_) fun c=>?_;rw[if_pos c]at q;exact q;rw[if_neg c]at q;exact q
theorem dY{Ψ:PEv}{b:PT}{p:PSp}{N ps:List Str}{ds:List T}{Q:T->List T->Prop}{E:XE}(ρ:zA)(hl:ds.length=ps.length)(hc:zC 0 p.md ps.length=[])(hs:bA N p.md ds=ρ)(h:YA Ψ E b (eZ Q) ρ):ds.length=ps.length/\∃E':XE,(∀x,E' x->E x)/\YA Ψ E' b (aA p ps.length Q) (bA N p.md ds):=by
 have e:aA p ps.length Q=eZ Q:=by unfold aA;rw[hc];rfl
 rw[e,hs];exact⟨hl,E,fun _ h=>h,h⟩
def Np(h:Str)(vs:List D):Prop:=sC.lookup h=none∨∃i j a b,sC.lookup h=some (.tuple [.int i,.int j])/\mC (.str h::vs) i=some (.str a)/\mC (.str h::vs) j=some (.str b)/\a≠b
structure Good(h:Str)(vs:List D):Prop where
 hd:bH h
 fm:∃f,GA h (vs.length+1)=some f/\FitsL f vs
 un:Np h vs
noncomputable def AU(vs:List D)(k:Nat):Str:=match vs[k]? with
 |some (.str a)=>a
 |_=>⟨#[]⟩
noncomputable def pG(h:Str)(vs:List D):Bool:=if decide (h=QA "against")=true then !decide (AU vs 0=AU vs 1) else if decide (h=QA "tell")=true then !decide (AU vs 1=AU vs 2) else true
noncomputable def pF(h:Str)(ws:List Str):Option (List D):=match lF (GA h (ws.length+1)) ws with
 |none=>none
 |some vs=>if pG h vs=true then some vs else none
theorem aa{α:Type}{x:Str}{l:List (Str×α)}{v:α}(h:l.lookup x=some v):∃p∈l,p.1=x/\p.2=v:=by
 induction l with
 |nil=>cases h
 |cons p l ih =>
  obtain⟨a,b⟩:=p;rw[Qe]at h;cases e:x==a with
  |true=>rw[e]at h;exact⟨(a,b),QK,(Qd e).symm,QW h⟩
  |false=>rw[e]at h;obtain⟨p,h1,h2⟩:=ih h;exact⟨p,QG _ h1,h2⟩
theorem NN:CU (QA "name"):=.inl (by decide +kernel)
theorem CJ:∀p∈[QA "name","rank","floor","needs","time","word","by"],CU p:=by intro p hp;simp only[QL,qN,or_false]at hp;rcases hp with rfl|rfl|rfl|rfl|rfl|rfl|rfl;exact NN;exact .inr (.inr (.inr ⟨0,99,by kernel_rfl⟩));exact .inr (.inr (.inr ⟨0,99,by kernel_rfl⟩));exact .inr (.inr (.inr ⟨1,4,by kernel_rfl⟩));exact .inr (.inr (.inr ⟨0,999999999,by kernel_rfl⟩));exact .inr (.inl rfl);exact .inr (.inr (.inl rfl))
theorem eR:∀q∈GF,q.2.length<=5/\∀p∈q.2,p∈[QA "name","rank","floor","needs","time","word","by"]:=by decide +kernel
theorem EC:LA.length=5/\∀p∈LA,p∈[QA "name","rank","floor","needs","time","word","by"]:=by decide +kernel
theorem lM{h:Str}{n:Nat}{f:List Str}(e:GA h n=some f):f.length<=1000/\∀p∈f,CU p:=by
 unfold GA at e;split at e;split at e
 ·rename_i c
  cases e;refine⟨?_,fun p hp=>?_⟩;unfold xQ;rw[Qc,EC.1,QH,qF];omega;rcases Q2.mp hp with hp|hp
  ·exact CJ p (EC.2 p hp)
  rcases QL.mp hp with rfl|hp
  ·exact .inr (.inr (.inl rfl))
  rw[qT hp];exact NN
 cases e;exact⟨by rw[EC.1];decide,fun p hp=>CJ p (EC.2 p hp)⟩;obtain⟨q,hq,_,rfl⟩:=aa e;obtain⟨h1,h2⟩:=eR q hq;exact⟨by omega,fun p hp=>CJ p (h2 p hp)⟩
theorem XI{w:Str}(h:XA (zB (QA "name") w)=false):zB (QA "name") w=.str w:=by
 unfold zB at h ⊢;rw[if_pos (show decide (QA "name"∈CH)=true by decide +kernel)]at h ⊢;cases c:xA w with
 |true=>rfl
 |false=>rw[c]at h;cases h
theorem aY{h:Str}{ws:List Str}{vs:List D}(e:lF (GA h (ws.length+1)) ws=some vs):(sC.lookup h=none/\pG h vs=true)∨∃i j a b,sC.lookup h=some (.tuple [.int i,.int j])/\mC (.str h::vs) i=some (.str a)/\mC (.str h::vs) j=some (.str b)/\(!decide (a=b))=pG h vs:=by
 cases hf:GA h (ws.length+1) with
 |none=>rw[hf]at e;cases e
 |some f =>
  rw[hf]at e;have e:(if ws.length=f.length then(if(iA f ws).any XA=true then none else some (iA f ws)) else none)=some vs:=e;split at e;rename_i el;split at e;cases e;rename_i ea;cases e;rw[QCV]at ea;by_cases c1:h=QA "against";subst c1;have:f=[QA "name","name"]:=by
   have:GA (QA "against") (ws.length+1)=some [QA "name","name"]:=by unfold GA;rw[if_neg (by decide +kernel)];decide +kernel
   rw[this]at hf;exact(QW hf).symm
  subst this
  match ws,el with
  |[w1,w2],_ =>
   have ea:(XA (zB (QA "name") w1)||(XA (zB (QA "name") w2)||false))=false:=ea;rw[wL,wL]at ea;have e1:=XI ea.1;have e2:=XI ea.2.1;have ev:iA [QA "name","name"] [w1,w2]=[.str w1,.str w2]:=by show[zB (QA "name") w1,zB (QA "name") w2]=_;rw[e1,e2]
   rw[ev];refine .inr ⟨1,2,w1,w2,by kernel_rfl,rfl,rfl,?_⟩;unfold pG;rw[if_pos (by decide +kernel)];rfl
  by_cases c2:h=QA "tell"
  ·subst c2
   obtain⟨g,rfl⟩:∃g,f=QA "time"::QA "name"::QA "name"::g:=by unfold GA at hf;rw[if_pos (by decide +kernel)]at hf;split at hf;cases hf;exact⟨_,rfl⟩;cases hf;exact⟨_,rfl⟩
   match ws,el with
   |w0::w1::w2::ws',_ =>
    have ea:(XA (zB (QA "time") w0)||(XA (zB (QA "name") w1)||(XA (zB (QA "name") w2)||(iA g ws').any XA)))=false:=ea;rw[wL,wL,wL]at ea;have e1:=XI ea.2.1;have e2:=XI ea.2.2.1;have ev:iA (QA "time"::QA "name"::QA "name"::g) (w0::w1::w2::ws')=zB (QA "time") w0::.str w1::.str w2::iA g ws':=by show zB (QA "time") w0::zB (QA "name") w1::zB (QA "name") w2::iA g ws'=_;rw[e1,e2]
    rw[ev];refine .inr ⟨2,3,w1,w2,by kernel_rfl,gB (j:=2) rfl,gB (j:=3) rfl,?_⟩;unfold pG;rw[if_neg (by decide +kernel),if_pos (by decide +kernel)];rfl
  refine .inl ⟨?_,?_⟩
  ·show qO h [(QA "against",_),(QA "tell",_)]=none
   rw[Qe,Qe,show(h==QA "against")=false from beq_eq_false_iff_ne.mpr c1,show(h==QA "tell")=false from beq_eq_false_iff_ne.mpr c2];rfl
  unfold pG;rw[dF c1,dF c2];rfl;cases e
noncomputable def SE:PSp where
 md:=[]
 run:=fun ds Q E=>∃(r:Str) (pl:Int),ds=[.d (.str r),.d (.int pl)]/\(r.length<=900/\0<=pl/\pl<=10000/\∀w∈Lib.wordsOf r,w.length<=100)/\((Lib.wordsOf r=[]/\Q (.d .none) [])∨∃h ws,Lib.wordsOf r=h::ws/\((∃vs,pF h ws=some vs/\Q (.lst (wB T.d (PyData.str h::vs))) [])∨pF h ws=none/\E ("BadRow",pl)))
 mono:=fun k k2 ⟨p,w,e,l,q⟩=>⟨p,w,e,l,q.imp (fun q=>⟨q.1,k _ _ q.2⟩) fun⟨a,b,h1,q⟩=>⟨a,b,h1,q.imp (fun⟨vs,h2,q⟩=>⟨vs,h2,k _ _ q⟩) fun⟨h2,q⟩=>⟨h2,k2 _ q⟩⟩⟩
theorem sW(r:Str):(Lib.wordsOf r).length<=r.length+2:=qC (List.length_filter_le _ _) (split_le r ⟨#[32]⟩)
theorem xX{Ψ:PEv}(h1:Ψ.sp "words_in"=XC)(h2:Ψ.sp "values_by"=vC)(h3:Ψ.sp "form_for"=BC)(h4:Ψ.sp "are_unlike"=HB)(v:Ψ.va "BadRow"=some (IJ "BadRow"))(ds Q E)(h:SE.run ds Q E):ds.length=KJ.length/\∃E':XE,(∀x,E' x->E x)/\YA Ψ E' UM (aA SE KJ.length Q) (bA dS SE.md ds):=by
 obtain⟨r,pl,rfl,⟨hl,p0,p1,hw⟩,q⟩:=h;refine dY [some (.nv (.d (.str r))),some (.nv (.d (.int pl))),none,none] rfl rfl rfl ?_;have few:=sW r;have hz:sizeLine=16777216:=QX;have wl:∀w∈Lib.wordsOf r,w.length<=sizeLine:=fun w h=>by have:=hw w h;omega
 have er:∀(o2 o3:Option Sl),E ("BadRow",pl)->cf (some 1) [some (.nv (.d (.str r))),some (.nv (.d (.int pl))),o2,o3]/\∃y,Ψ.va "BadRow"=some (IJ y)/\∃p,T.d (PyData.int pl)=.d (.int p)/\E (y,p):=fun o2 o3 z=>by refine⟨⟨pl,rfl,?_⟩,"BadRow",v,pl,rfl,z⟩;obtain⟨m,rfl⟩:=WV p0;show Nat.log2 m<1920;by_cases z0:m=0;subst z0;decide;exact Qg ((QBR z0).mpr (show m<2 ^ 14 by omega)) (by decide)
 delta UM;simp_arith[↓cA (md:=[]) h1 rfl rfl,↓OO (show r.length<=100000 by omega)];rcases q with⟨e,q⟩| ⟨h,ws,e,q⟩
 rw[e];exact q;rw[e]at few wl ⊢;refine AA (fun c=>?_) fun _=>?_;simp at c;omega;have lw:ws.length<=1000:=by rw[QH]at few;omega
 simp_arith[↓cA (md:=[]) h2 rfl rfl,↓cA (md:=[]) h3 rfl rfl];refine SO lw ?_;simp_arith[↓kA];refine fN lw (fun w hw=>wl w (QG _ hw)) (fun f hf=>lM hf) ?_;unfold pF at q;cases hv:lF (GA h (ws.length+1)) ws with
 |none=>rw[hv]at q;have q:E ("BadRow",pl):=q.elim (fun⟨_,z,_⟩=>by cases z) fun z=>z.2;simp_arith[CZ];exact er _ _ q
 |some vs =>
  rw[hv]at q;have q:(∃vs',(if pG h vs=true then some vs else none)=some vs'/\Q (.lst (wB T.d (PyData.str h::vs'))) [])∨(if pG h vs=true then some vs else none)=none/\E ("BadRow",pl):=q;simp_arith[CZ,↓cA (md:=[.nv]) h4 rfl rfl];refine tL ?_;have fin:∀b,b=pG h vs->(b=true->Q (.lst (wB T.d (PyData.str h::vs))) [])/\(b=false->E ("BadRow",pl)):=by
   rintro _ rfl;refine⟨fun z=>?_,fun z=>?_⟩;rw[if_pos z]at q;exact q.elim (fun⟨_,e,q⟩=>by cases e;exact q) fun e=>by cases e.1
   rw[z]at q;exact q.elim (fun⟨_,e,_⟩=>by cases e) fun e=>e.2
  rcases aY hv with⟨u1,u2⟩| ⟨i,j,a,b,u1,u2,u3,u4⟩
  refine .inl ⟨u1,?_⟩;simp_arith[↓kA];exact(fin true u2.symm).1 rfl;refine .inr ⟨i,j,a,b,u1,u2,u3,?_⟩;obtain⟨f1,f2⟩:=fin _ u4;simp_arith[↓kA];cases hb:decide (a=b) with
  |true=>rw[hb]at f2;simp_arith[↓kA];exact er _ _ (f2 rfl)
  |false=>rw[hb]at f1;simp_arith[↓kA];exact f1 rfl
theorem LB{x:Str}(h:xA x=true):kN "name" (.str x):=.inl ⟨rfl,x,rfl,h⟩
theorem gO{x:Str}(h:rA x=true):kN "word" (.str x):=.inr (.inl ⟨rfl,x,rfl,h⟩)
theorem i8:kN "by" (.str "by"):=.inr (.inr (.inl ⟨rfl,rfl⟩))
theorem bJ{p:Str}{a b n:Int}(h1:p∉CH/\p≠"word"/\p≠"by")(h4:eD.lookup p=some (.tuple [.int a,.int b]))(ha:a<=n)(hb:n<=b)(h0:0<=a)(hm:b<=999999999):kN p (.int n):=.inr (.inr (.inr ⟨h1,a,b,n,h4,rfl,ha,hb,h0,hm⟩))
theorem GX{n:Int}(h1:0<=n)(h2:n<=99):kN "rank" (.int n):=bJ (by decide +kernel) (show eD.lookup (QA "rank")=some (.tuple [.int 0,.int 99]) by kernel_rfl) h1 h2 (by decide) (by decide)
theorem fU{n:Int}(h1:0<=n)(h2:n<=99):kN "floor" (.int n):=bJ (by decide +kernel) (show eD.lookup (QA "floor")=some (.tuple [.int 0,.int 99]) by kernel_rfl) h1 h2 (by decide) (by decide)
theorem dU{n:Int}(h1:1<=n)(h2:n<=4):kN "needs" (.int n):=bJ (by decide +kernel) (show eD.lookup (QA "needs")=some (.tuple [.int 1,.int 4]) by kernel_rfl) h1 h2 (by decide) (by decide)
theorem lO{n:Int}(h1:0<=n)(h2:n<=999999999):kN "time" (.int n):=bJ (by decide +kernel) (show eD.lookup (QA "time")=some (.tuple [.int 0,.int 999999999]) by kernel_rfl) h1 h2 (by decide) (by decide)
noncomputable def YM(ns:List Int)(k:Int):Int:=ns.getD k.toNat 0
noncomputable def ZC:PSp where
 md:=[.kq]
 run:=fun ds Q _=>∃(ns:List Int) (k:Int),ds=[.lst ((ns.map PyData.int).map T.d),.d (.int k)]/\0<=k/\Q (.d (.int (YM ns k))) []
 mono:=fun h _ z=>by obtain⟨p,w,e,l,q⟩:=z;exact⟨p,w,e,l,h _ _ q⟩
theorem YT{Ψ:PEv}(ds Q E)(h:ZC.run ds Q E):ds.length=KF.length/\YA Ψ (fun _=>False) uH (aA ZC KF.length Q) (bA UK ZC.md ds):=by
 obtain⟨ns,k,rfl,h0,q⟩:=h;refine uA [some (.nv (.lst ((ns.map PyData.int).map T.d))),some (.nv (.d (.int k)))] rfl rfl rfl ?_;delta uH;simp?[↓kA];unfold YM at q;refine AA (fun c=>?_) fun c=>?_;have c:k<(ns.length:Int):=by simpa using c
 obtain⟨v,e1,e2⟩:=JC (xs:=ns) h0 c;rw[wC,e2]at q;exact DB.mk (a:=.int v) (by rw[IB,e1];rfl) q;have c:¬ k<(ns.length:Int):=by simpa using c
 rw[wC,wF (by omega)]at q;exact q
noncomputable def mF:PSp where
 md:=[]
 run:=fun ds Q _=>∃(n a b:Int),ds=[.d (.int n),.d (.int a),.d (.int b)]/\a<=b/\b - a<2 ^ 100/\∀v,a<=v->v<=b->Q (.d (.int v)) []
 mono:=fun h _ z=>by obtain⟨p,w,c,e,l,l2,q⟩:=z;exact⟨p,w,c,e,l,l2,fun v h1 h2=>h _ _ (q v h1 h2)⟩
theorem KQ{n a b:Int}{K:T->List T->Prop}{E:XE}:bC mF [.d (.int n),.d (.int a),.d (.int b)] K E=(a<=b/\b - a<2 ^ 100/\∀v,a<=v->v<=b->K (.d (.int v)) []):=propext ⟨fun⟨_,_,_,e,q⟩=>by cases e;exact q,fun q=>⟨n,a,b,rfl,q⟩⟩
theorem L7{Ψ:PEv}(ds Q E)(h:mF.run ds Q E):ds.length=UJ.length/\YA Ψ (fun _=>False) GM (aA mF UJ.length Q) (bA mS mF.md ds):=by
 obtain⟨n,a,b,rfl,h0,hb,q⟩:=h;refine uA [some (.nv (.d (.int n))),some (.nv (.d (.int a))),some (.nv (.d (.int b)))] rfl rfl rfl ?_;have hz:sizeLine=16777216:=QX;delta GM
 simp?[↓kA];refine AA (fun c=>⟨by omega,?_⟩) fun c=>⟨by omega,q _ ?_ ?_⟩
 rcases(show n / 3 % 2=0∨n / 3 % 2=1 by omega) with e|e
 ·rw[e]
  exact DB.mk (a:=.int a) rfl (q a (by omega) h0)
 rw[e];exact DB.mk (a:=.int b) rfl (q b h0 (by omega));have:=wq (n / 3) (show b - a+1≠0 by omega);omega;have:=wG (n / 3) (show 0<b - a+1 by omega);omega
noncomputable def yE:PSp where
 md:=[]
 run:=fun ds Q _=>∃(n:Int),ds=[.d (.int n)]/\∀v,0<=v->v<=99->Q (.d (.int v)) []
 mono:=fun h _ z=>by obtain⟨p,e,q⟩:=z;exact⟨p,e,fun v h1 h2=>h _ _ (q v h1 h2)⟩
theorem PY{n:Int}{K:T->List T->Prop}{E:XE}:bC yE [.d (.int n)] K E=∀v,0<=v->v<=99->K (.d (.int v)) []:=propext ⟨fun⟨_,e,q⟩=>q,fun q=>⟨n,rfl,q⟩⟩
theorem D7{Ψ:PEv}(h1:Ψ.sp "_law_from"=mF)(ds Q E)(h:yE.run ds Q E):ds.length=VJ.length/\YA Ψ (fun _=>False) FM (aA yE VJ.length Q) (bA gS yE.md ds):=by obtain⟨n,rfl,q⟩:=h;refine uA [some (.nv (.d (.int n)))] rfl rfl rfl ?_;delta FM;simp?[↓cA (md:=[]) h1 rfl rfl,↓KQ];exact⟨by decide,q⟩
theorem RJ{w:Str}(h1:1<=w.length)(h2:w.length<=8)(h:∀c∈w.cps.toList,97<=c/\c<=122):rA w=true:=by unfold rA;rw[dT h1,dT h2];show aE w vE=true;unfold aE;rw[Qk];intro c hc;have:=h c hc;rw[decide_eq_true_eq,eE];exact Q0.mpr ⟨c - 97,wH.mpr (by omega),by omega⟩
theorem ZP{w:Str}(h:rA w=true):∀c∈w.cps.toList,97<=c/\c<=122:=by unfold rA at h;rw[QN,QN]at h;intro c hc;have:=Qk.mp h.2.2 c hc;rw[decide_eq_true_eq,eE]at this;obtain⟨i,hi,rfl⟩:=Q0.mp this;have:=wH.mp hi;omega
theorem vM{w:Str}(h:rA w=true):1<=w.length/\w.length<=8:=by unfold rA at h;rw[QN,QN,decide_eq_true_eq,decide_eq_true_eq]at h;exact⟨h.1,h.2.1⟩
theorem rD:∀(k:Nat) (n:Int),∀c∈fC n k,97<=c/\c<=122
 |0,_,_,h=>by cases h
 |k+1,n,c,h=>by rcases QL.mp h with rfl|h;omega;exact rD k _ c h
theorem sX{n:Int}{k:Nat}(h1:1<=k)(h2:k<=8):rA (GH n k)=true :=
 RJ (by rw[NJ];exact h1) (by rw[NJ];exact h2) fun c hc=>rD k n c (by simpa[GH]using hc)
theorem N1:∀k∈keys,k.cps.toList.getLast?≠some 113:=by decide +kernel
theorem G4(w:Str):((keys.map PyData.str).any fun y=>Qo y (.str w))=true->w∈keys:=by
 intro h;rw[List.any_map,QCW]at h;obtain⟨k,hk,e⟩:=h;have e:decide (k=w)=true:=by simpa[Function.comp,Qo]using e
 rw[decide_eq_true_eq]at e;exact e▸hk
theorem ve{w:Str}(h1:1<=w.length)(h2:w.length<=8)(h:∀c∈w.cps.toList,97<=c/\c<=122)(hq:w.cps.toList.getLast?=some 113):xA w=true:=by
 unfold xA;rw[RJ h1 h2 h];cases e:(keys.map PyData.str).any fun y=>Qo y (.str w) with
 |false=>rfl
 |true=>exact absurd hq (N1 w (G4 w e))
theorem LS:∀i:Fin 9,(Qt none (some 7) 1 i.val).length<=7:=by decide +kernel
theorem CY{w:Str}(h:w.length<=8):(qS w none (some 7)).length<=7/\∀c∈(qS w none (some 7)).cps.toList,c∈w.cps.toList:=by
 have hf:=LS ⟨w.length,by omega⟩;unfold qS;split;rename_i e;have e:(Qt none (some 7) 1 w.length).length=w.length:=by simpa using e
 exact⟨by rw[<- e];exact hf,fun c hc=>hc⟩;refine⟨?_,fun c hc=>?_⟩
 ·show(QAQ _ (Qt none (some 7) 1 w.length)).toArray.size<=7
  rw[QM];exact qC (QAf _ _) hf
 have hc:c∈QAQ (fun x=>w.cps[x]?) (Qt none (some 7) 1 w.length):=by simpa using hc
 obtain⟨a,_,e⟩:=wZ.mp hc;exact Wp.mpr (QBB e)
theorem V6:(QA "q").cps.toList=[113]:=by decide +kernel
theorem K6{w:Str}(hw:rA w=true):xA (qS w none (some 7)++QA "q")=true:=by
 obtain⟨h1,h2⟩:=vM hw;obtain⟨s1,s2⟩:=CY h2;have e:(qS w none (some 7)++QA "q").cps.toList=(qS w none (some 7)).cps.toList++[113]:=by show((qS w none (some 7)).cps++(QA "q").cps).toList=_;rw[WI,V6]
 have l:(qS w none (some 7)++QA "q").length=(qS w none (some 7)).length+1:=by rw[Q1];rfl
 refine ve (by omega) (by omega) (fun c hc=>?_) (by rw[e];simp);rw[e]at hc;rcases Q2.mp hc with hc|hc;exact ZP hw c (s2 c hc);rw[qJ.mp hc];omega
theorem i9(k:Int):∀c∈(gG (QA "m") k).cps.toList,97<=c/\c<=122:=by intro c hc;rw[rF]at hc;obtain⟨l,hl,hc⟩:=List.mem_flatten.mp hc;rw[qT hl,show(QA "m").cps.toList=[109] by decide +kernel]at hc;rw[qJ.mp hc];omega
theorem aQ:∀w∈dL,rA w=true:=by decide +kernel
noncomputable def OA:PSp where
 md:=[]
 run:=fun ds Q _=>∃(n:Int),ds=[.d (.int n)]/\∀w,xA w=true->Q (.d (.str w)) []
 mono:=fun h _ z=>by obtain⟨p,e,q⟩:=z;exact⟨p,e,fun v h1=>h _ _ (q v h1)⟩
theorem zE{n:Int}{K:T->List T->Prop}{E:XE}:bC OA [.d (.int n)] K E=∀w,xA w=true->K (.d (.str w)) []:=propext ⟨fun⟨_,e,q⟩=>q,fun q=>⟨n,rfl,q⟩⟩
theorem iV{Ψ:PEv}(h2:Ψ.sp "_law_keywords"=BA){n:Int}{Q:T->List T->Prop}(q:∀w,xA w=true->Q (.d (.str w)) []):∀(w:Str) (o1 o2 o3 o5 o6:Option Sl),rA w=true->YA Ψ (fun _=>False) PD (eZ Q) [some (.nv (.d (.int n))),o1,o2,o3,some (.nv (.d (.str w))),o5,o6]:=by
 have hz:sizeLine=16777216:=QX;intro w o1 o2 o3 o5 o6 hw;have hl:=vM hw;delta PD yH;simp?[↓cA (md:=[]) h2 rfl rfl,↓aD];refine⟨.inl ⟨rfl,OJ⟩,AA (fun c=>⟨by omega,?_,q _ (K6 hw)⟩) fun c=>q _ ?_⟩;have:=(CY hl.2).1;have e:(QA "q").length=1:=by decide +kernel
 omega;unfold xA;rw[hw];rw[QCV]at c;rw[c];rfl
theorem eV{Ψ:PEv}(h1:Ψ.sp "_law_letters"=yC)(h2:Ψ.sp "_law_keywords"=BA){n:Int}{Q:T->List T->Prop}(q:∀w,xA w=true->Q (.d (.str w)) []):∀(w:Str) (o5 o6:Option Sl),rA w=true->YA Ψ (fun _=>False) OD (eZ Q) [some (.nv (.d (.int n))),some (.nv (.d (.int (1+n % 8)))),some (.nv (.d (.int (n / 8 % 4)))),some (.nv (.d (.int (n / 32)))),some (.nv (.d (.str w))),o5,o6]  :=by
 have hz:sizeLine=16777216:=QX;have ml:(QA "m").length=1:=by decide +kernel
 intro w o5 o6 hw;delta OD;simp?[↓cA (md:=[]) h1 rfl rfl,↓gK];refine AA (fun c=>?_) fun c=>iV h2 q _ _ _ _ _ _ hw;have a1:=wq (n / 32 / 26) (show(1+n % 8:Int)≠0 by omega);have a2:=wG (n / 32 / 26) (show(0:Int)<1+n % 8 by omega);generalize n / 32 / 26 % (1+n % 8)=t at a1 a2 ⊢;have l1:=eG (QA "m") t;have l2:=eG (QA "m") (1+n % 8 - 1 - t);have l3:=NJ (n / 32) (QAA 1);rw[ml]at l1 l2;have l3:(GH (n / 32) (QAA 1)).length=1:=l3;refine⟨by omega,by omega,by omega,by rw[ml];omega,by omega,by omega,by omega,by rw[ml];omega,by rw[Q1];omega,iV h2 q _ _ _ _ _ _ ?_⟩;refine RJ (by rw[Q1,Q1];omega) (by rw[Q1,Q1];omega) fun c hc=>?_;have hc:c∈((gG (QA "m") t).cps++(GH (n / 32) (QAA 1)).cps++(gG (QA "m") (1+n % 8 - 1 - t)).cps).toList:=hc;rw[WI,WI]at hc;rcases Q2.mp hc with hc|hc;rcases Q2.mp hc with hc|hc
 ·exact i9 _ c hc
 exact rD 1 (n / 32) c (by simpa[GH]using hc);exact i9 _ c hc
theorem db{Ψ:PEv}{E:XE}{ρ:zA}:∀(l:List Str) {Q:List (T×Bool)->zA->Prop},Q (l.map fun x=>(.d (.str x),false)) ρ->(pe Ψ (C5 l) E).a [] ρ Q
 |[],_,q=>q
 |x::l,Q,q=>db l (Q:=fun xs ρ2=>Q ((.d (.str x),false)::xs) ρ2) q
theorem dQ:∀l:List Str,LF (l.map fun x=>(T.d (.str x),false))=true
 |[]=>rfl
 |x::l=>dQ l
theorem UU:∀l:List Str,ED (l.map fun x=>(T.d (.str x),false))=l.map fun x=>T.d (.str x)
 |[]=>rfl
 |x::l=>by rw[QV,QV,ED,UU l]
theorem v8{Ψ:PEv}{E:XE}{ρ:zA}{l:List Str}{Q:TK}(hl:l.length<=sizeLine)(q:Q (.lst (l.map fun x=>T.d (.str x))) true ρ):(pe Ψ (.lst (C5 l)) E).e ρ Q:=by refine db l ⟨dQ l,by rw[QJ];exact hl,?_⟩;rw[UU];exact q
theorem yh{Ψ:PEv}{E:XE}{ρ:zA}{K:TK}(k:K (.lst ((dL.map PyData.str).map T.d)) true ρ):cB Ψ Gn E ρ K:=v8 (by rw[QX];decide) (by rw[LG];exact k)
theorem xf{Ψ:PEv}(h1:Ψ.sp "_law_letters"=yC)(h2:Ψ.sp "_law_keywords"=BA){n:Int}{Q:T->List T->Prop}(q:∀w,xA w=true->Q (.d (.str w)) []){Z:PEnds}{s4 s5 s6:Option Sl}(hz:∀w o5,rA w=true->Z.nx [some (.nv (.d (.int n))),some (.nv (.d (.int (1+n % 8)))),some (.nv (.d (.int (n / 8 % 4)))),some (.nv (.d (.int (n / 32)))),some (.nv (.d (.str w))),o5,s6]):YA Ψ (fun _=>False) HE Z [some (.nv (.d (.int n))),some (.nv (.d (.int (1+n % 8)))),some (.nv (.d (.int (n / 8 % 4)))),some (.nv (.d (.int (n / 32)))),s4,s5,s6]:=by
 delta HE;simp?[↓kA];refine yh ?_;obtain⟨v,e1,e2⟩:=JC (xs:=dL) (i:=n / 32 % 12) (by omega) (by show n / 32 % 12<12;omega);have e3:mC (dL.map PyData.str) (n / 32 % 12)=some (.str v):=by rw[IB,e1];rfl
 simp?[↓IA e3];exact hz v _ (aQ v (Qn e2))
theorem rT{Ψ:PEv}(h1:Ψ.sp "_law_letters"=yC)(h2:Ψ.sp "_law_keywords"=BA)(ds Q E)(h:OA.run ds Q E):ds.length=iF.length/\YA Ψ (fun _=>False) zH (aA OA iF.length Q) (bA JK OA.md ds):=by obtain⟨n,rfl,q⟩:=h;refine uA [some (.nv (.d (.int n))),none,none,none,none,none,none] rfl rfl rfl ?_;delta zH;simp?[↓cA (md:=[]) h1 rfl rfl,↓gK];exact⟨by omega,by omega,AA (fun c=>xf h1 h2 q fun w _ hw=>eV h1 h2 q w _ _ hw) fun c=>eV h1 h2 q _ _ _ (sX (by omega) (by omega))⟩
theorem nO{P:T->Prop}{body:T->(Option T->Prop)->Prop}:∀(xs acc:List T) (Q:List T->Prop),(∀x∈xs,∀R:Option T->Prop,(∀y,P y->R (some y))->body x R)->acc.length+xs.length<=sizeLine->(∀ys:List T,ys.length=xs.length->(∀y∈ys,P y)->Q (acc++ys))->AC body xs acc Q
 |[],acc,Q,_,hl,q=>⟨by simpa using hl,by simpa using q [] rfl fun _ z=>by cases z⟩
 |x::xs,acc,Q,h,hl,q=>by
  rw[AC];refine h x QK _ fun y hy=>?_;rw[QH]at hl;refine⟨by omega,nO xs (acc++[y]) Q (fun z hz=>h z (QG _ hz)) (by rw[Qc];simp;omega) fun ys hys hp=>?_⟩;have:=q (y::ys) (by rw[QH,QH,hys]) fun z hz=>by rcases QL.mp hz with rfl|hz;exact hy;exact hp z hz
  simpa using this
theorem kU:∀w∈keys,rA w=true:=by decide +kernel
noncomputable def hB:PSp where
 md:=[]
 run:=fun ds Q _=>∃(n:Int),ds=[.d (.int n)]/\∀w,rA w=true->Q (.d (.str w)) []
 mono:=fun h _ z=>by obtain⟨p,e,q⟩:=z;exact⟨p,e,fun v h1=>h _ _ (q v h1)⟩
theorem fK{n:Int}{K:T->List T->Prop}{E:XE}:bC hB [.d (.int n)] K E=∀w,rA w=true->K (.d (.str w)) []:=propext ⟨fun⟨_,e,q⟩=>q,fun q=>⟨n,rfl,q⟩⟩
theorem lT{Ψ:PEv}(h1:Ψ.sp "_law_keywords"=BA)(h2:Ψ.sp "_law_name_by"=OA)(ds Q E)(h:hB.run ds Q E):ds.length=aF.length/\YA Ψ (fun _=>False) IG (aA hB aF.length Q) (bA eK hB.md ds):=by
 obtain⟨n,rfl,q⟩:=h;refine uA [some (.nv (.d (.int n)))] rfl rfl rfl ?_;delta IG;simp?[↓cA (md:=[]) h1 rfl rfl,↓cA (md:=[]) h2 rfl rfl,↓aD,↓zE];refine AA (fun c=>?_) fun c w hw=>q w (SN hw);obtain⟨v,e1,e2⟩:=JC (xs:=keys) (i:=n / 4 % 19) (by omega) (by show n / 4 % 19<19;omega);have e3:mC (keys.map PyData.str) (n / 4 % 19)=some (.str v):=by rw[IB,e1];rfl
 exact DB.mk e3 (q v (kU v (Qn e2)))
theorem FitsL.app{f1 f2:List Str}{v1 v2:List D}(h1:FitsL f1 v1)(h2:FitsL f2 v2):FitsL (f1++f2) (v1++v2):=by
 induction h1 with
 |nil=>exact h2
 |cons a _ ih=>exact .cons a ih
theorem rR{x:Str}{r f k:Int}(hx:xA x=true)(r0:0<=r)(r1:r<=99)(f0:0<=f)(f1:f<=99)(k0:1<=k)(k1:k<=4):Good "person" [.str x,.int r,.int f,.int k] :=
 ⟨tD (by decide +kernel),⟨["name","rank","floor","needs"],(show GA (QA "person") 5=_ by decide +kernel),.cons (LB hx) (.cons (GX r0 r1) (.cons (fU f0 f1) (.cons (dU k0 k1) .nil)))⟩,.inl (by kernel_rfl)⟩
theorem sR{x:Str}(hx:xA x=true):Good "matter" [.str x] :=
 ⟨tD (by decide +kernel),⟨["name"],(show GA (QA "matter") 2=_ by decide +kernel),.cons (LB hx) .nil⟩,.inl (by kernel_rfl)⟩
theorem BP{x y:Str}(hx:xA x=true)(hy:xA y=true)(n:x≠y):Good "against" [.str x,.str y] :=
 ⟨tD (by decide +kernel),⟨["name","name"],(show GA (QA "against") 3=_ by decide +kernel),.cons (LB hx) (.cons (LB hy) .nil)⟩,.inr ⟨1,2,x,y,by kernel_rfl,rfl,rfl,n⟩⟩
theorem y3{t:Int}{x y w:Str}(t0:0<=t)(t1:t<=999999999)(hx:xA x=true)(hy:xA y=true)(hw:rA w=true):Good "see" [.int t,.str x,.str y,.str w] :=
 ⟨tD (by decide +kernel),⟨["time","name","name","word"],(show GA (QA "see") 5=_ by decide +kernel),.cons (lO t0 t1) (.cons (LB hx) (.cons (LB hy) (.cons (gO hw) .nil)))⟩,.inl (by kernel_rfl)⟩
theorem mO{t:Int}{x y z w:Str}(t0:0<=t)(t1:t<=999999999)(hx:xA x=true)(hy:xA y=true)(hz:xA z=true)(hw:rA w=true):FitsL LA [.int t,.str x,.str y,.str z,.str w] :=
 .cons (lO t0 t1) (.cons (LB hx) (.cons (LB hy) (.cons (LB hz) (.cons (gO hw) .nil))))
theorem BX{t:Int}{x y z w:Str}(t0:0<=t)(t1:t<=999999999)(hx:xA x=true)(hy:xA y=true)(hz:xA z=true)(hw:rA w=true)(n:x≠y):Good "tell" [.int t,.str x,.str y,.str z,.str w] :=
 ⟨tD (by decide +kernel),⟨LA,(show GA (QA "tell") 6=_ by decide +kernel),mO t0 t1 hx hy hz hw⟩,.inr ⟨2,3,x,y,by kernel_rfl,rfl,rfl,n⟩⟩
theorem sM:∀(qs:List Str),(∀q∈qs,xA q=true)->FitsL (QI qs.length (QA "name")) (qs.map PyData.str)
 |[],_=>.nil
 |q::qs,h=>.cons (LB (h q QK)) (sM qs fun r hr=>h r (QG _ hr))
theorem UP{t:Int}{x y z w:Str}{qs:List Str}(t0:0<=t)(t1:t<=999999999)(hx:xA x=true)(hy:xA y=true)(hz:xA z=true)(hw:rA w=true)(n:x≠y)(hq:∀q∈qs,xA q=true)(l1:1<=qs.length)(l2:qs.length<=6) :
  Good "tell" ([.int t,.str x,.str y,.str z,.str w]++.str "by"::qs.map PyData.str):=by
 refine⟨tD (by decide +kernel),⟨LA++xQ qs.length,?_,FitsL.app (mO t0 t1 hx hy hz hw) (.cons i8 (sM qs hq))⟩,.inr ⟨2,3,x,y,by kernel_rfl,gB (j:=2) rfl,gB (j:=3) rfl,n⟩⟩;have e:([PyData.int t,.str x,.str y,.str z,.str w]++.str "by"::qs.map PyData.str).length+1=qs.length+7:=by simp
 rw[e];unfold GA;rw[if_pos (by decide),if_pos ⟨by omega,by omega⟩];rfl
theorem BO:xA (QA "zz")=true/\xA (QA "zy")=true/\QA "zz"≠QA "zy":=by decide +kernel
noncomputable def jD:PSp where
 md:=[]
 run:=fun ds Q _=>∃(n a b c d:Int),ds=[.d (.int n),.d (.int a),.d (.int b),.d (.int c),.d (.int d)]/\Ql d<=1048576/\∀h vs,Good h vs->vs.length<=12->Q (.lst ((PyData.str h::vs).map T.d)) []
 mono:=fun h _ z=>by obtain⟨n,a,b,c,d,e,l,q⟩:=z;exact⟨n,a,b,c,d,e,l,fun v vs h1 h2=>h (.lst ((PyData.str v::vs).map T.d)) [] (q v vs h1 h2)⟩
theorem RS{n a b c d:Int}{K:T->List T->Prop}{E:XE}(hd:Ql d<=1048576)(q:∀h vs,Good h vs->vs.length<=12->K (.lst ((PyData.str h::vs).map T.d)) []):bC jD [.d (.int n),.d (.int a),.d (.int b),.d (.int c),.d (.int d)] K E:=⟨n,a,b,c,d,rfl,hd,q⟩
section
variable{Ψ:PEv}{Z:PEnds}{s0 s1 s2 s3 s4 s5 s6 s7 s8 s9:Option Sl}
noncomputable abbrev RZ(Z:PEnds):Prop:=∀h vs,Good h vs->vs.length<=12->∀ρ,Z.rt (.lst ((PyData.str h::vs).map T.d)) ρ
theorem FF{k:Nat}(h:k<=100):k<=sizeLine:=by rw[QX];omega
theorem Sh(h3:Ψ.sp "_law_rank"=yE){n b c:Int}{x:Str}(hx:xA x=true)(q:RZ Z):YA Ψ (fun _=>False) EF Z [some (.nv (.d (.int n))),s1,some (.nv (.d (.int b))),some (.nv (.d (.int c))),s4,s5,some (.nv (.d (.str x))),s7,s8,s9]:=by delta EF;simp?[↓cA (md:=[]) h3 rfl rfl,↓PY];exact fun r r0 r1 f f0 f1=>⟨FF (by decide),q "person" [.str x,.int r,.int f,.int (1+n / 6 % 4)] (rR hx r0 r1 f0 f1 (by omega) (by omega)) (by simp) _⟩
theorem Rh{x:Str}(hx:xA x=true)(q:RZ Z):YA Ψ (fun _=>False) AF Z [s0,s1,s2,s3,s4,s5,some (.nv (.d (.str x))),s7,s8,s9]:=by delta AF;simp?[↓kA];exact⟨FF (by decide),q "matter" [.str x] (sR hx) (by simp) _⟩
theorem Oh{x y:Str}(hx:xA x=true)(hy:xA y=true)(hn:x≠y)(q:RZ Z):YA Ψ (fun _=>False) RF Z [s0,s1,s2,s3,s4,s5,some (.nv (.d (.str x))),some (.nv (.d (.str y))),s8,s9]:=by delta RF;simp?[↓kA];exact⟨FF (by decide),q "against" [.str x,.str y] (BP hx hy hn) (by simp) _⟩
theorem Nh(h4:Ψ.sp "_law_word_by"=hB){n v:Int}{x y:Str}(hx:xA x=true)(hy:xA y=true)(v0:0<=v)(v1:v<=999999999)(q:RZ Z):YA Ψ (fun _=>False) PF Z [some (.nv (.d (.int n))),s1,s2,s3,s4,s5,some (.nv (.d (.str x))),some (.nv (.d (.str y))),some (.nv (.d (.int v))),s9]:=by delta PF;simp?[↓cA (md:=[]) h4 rfl rfl,↓fK];exact fun w hw=>⟨FF (by decide),q "see" [.int v,.str x,.str y,.str w] (y3 v0 v1 hx hy hw) (by simp) _⟩
theorem Ph{x:Str}(q:∀y,xA y=true->x≠y->Z.nx [s0,s1,s2,s3,s4,s5,some (.nv (.d (.str x))),some (.nv (.d (.str y))),s8,s9]):YA Ψ (fun _=>False) TF Z [s0,s1,s2,s3,s4,s5,some (.nv (.d (.str x))),s7,s8,s9]:=by delta TF;simp?[↓kA];refine⟨FF (by decide),?_⟩;by_cases ez:x=QA "zz";rw[dT ez];exact DB.mk (a:=.str (QA "zy")) rfl (q _ BO.2.1 (by rw[ez];exact BO.2.2));rw[dF ez];exact DB.mk (a:=.str (QA "zz")) rfl (q _ BO.1 ez)
theorem AY{t:T}(q:∀ρ,Z.rt t ρ):YA Ψ (fun _=>False) FE Z [s0,s1,s2,s3,s4,s5,s6,s7,s8,some (.own t)]:=by delta FE;simp?[↓kA];exact q _
theorem E5{ys:List T}(hp:∀y∈ys,∃q:Str,xA q=true/\y=.d (.str q)):∃qs:List Str,ys=qs.map (fun q=>T.d (.str q))/\∀q∈qs,xA q=true:=by
 induction ys with
 |nil=>exact⟨[],rfl,fun _ z=>by cases z⟩
 |cons y ys ih=>obtain⟨qs,e,hq⟩:=ih fun z hz=>hp z (QG _ hz);obtain⟨q0,h0,e0⟩:=hp y QK;refine⟨q0::qs,by rw[QV,e0,e],fun q hq'=>?_⟩;rcases QL.mp hq' with rfl|hq';exact h0;exact hq q hq'
theorem Lh(h1:Ψ.sp "_law_name_by"=OA)(h5:Ψ.sp "_law_mixed"=eB){n d:Int}(hd:Ql d<=1048576){l:List D}(hl:l.length<=100)(q:∀qs:List Str,(∀q∈qs,xA q=true)->1<=qs.length->qs.length<=6->Z.nx [some (.nv (.d (.int n))),s1,s2,s3,some (.nv (.d (.int d))),s5,s6,s7,s8,some (.own (.lst ((l++[PyData.str (QA "by")]++qs.map PyData.str).map T.d)))]) :
  YA Ψ (fun _=>False) NF Z [some (.nv (.d (.int n))),s1,s2,s3,some (.nv (.d (.int d))),s5,s6,s7,s8,some (.own (.lst (l.map T.d)))]:=by
 have hz:sizeLine=16777216:=QX;delta NF;simp?[↓kA];refine⟨FF (by decide),by omega,by omega,by omega,?_⟩;refine nO (P:=fun y=>∃q:Str,xA q=true/\y=.d (.str q)) _ _ _ (fun i hi R hR=>?_) ?_ fun ys hl hp=>?_;obtain⟨k,hk,rfl⟩:=Q0.mp hi;have hk:=wH.mp hk;simp?[↓cA (md:=[]) h1 rfl rfl,↓cA (md:=[]) h5 rfl rfl,↓zE,↓YJ];exact⟨by omega,by omega,hd,fun w hw=>hR _ ⟨w,hw,rfl⟩⟩;rw[QJ,QAg];show 0+_<=_;omega;obtain⟨qs,rfl,hq⟩:=E5 hp;rw[QJ,QJ,QAg]at hl;rw[Qz,LG PyData.str];simp?[↓kA];exact⟨by simp;omega,q qs hq (by omega) (by omega)⟩
theorem je(h1:Ψ.sp "_law_name_by"=OA)(h5:Ψ.sp "_law_mixed"=eB){n d v:Int}{x y z w:Str}(hd:Ql d<=1048576)(hx:xA x=true)(hy:xA y=true)(hn:x≠y)(v0:0<=v)(v1:v<=999999999)(hz:xA z=true)(hw:rA w=true)(q:RZ Z) :
  YA Ψ (fun _=>False) GE Z [some (.nv (.d (.int n))),s1,s2,s3,some (.nv (.d (.int d))),some (.nv (.d (.int (n % 6)))),s6,s7,s8,some (.own (.lst (([.str "tell",.int v,.str x,.str y,.str z,.str w]:List D).map T.d)))]:=by
 have g1:∀ρ,Z.rt (.lst (([.str "tell",.int v,.str x,.str y,.str z,.str w]:List D).map T.d)) ρ:=fun ρ=>q "tell" [.int v,.str x,.str y,.str z,.str w] (BX v0 v1 hx hy hz hw hn) (by simp) ρ;have g2:∀qs:List Str,(∀q∈qs,xA q=true)->1<=qs.length->qs.length<=6->∀ρ,Z.rt (.lst ((([.str "tell",.int v,.str x,.str y,.str z,.str w]:List D)++[PyData.str (QA "by")]++qs.map PyData.str).map T.d)) ρ:=by
  intro qs hq l1 l2 ρ;have e:([.str "tell",.int v,.str x,.str y,.str z,.str w]:List D)++[PyData.str (QA "by")]++qs.map PyData.str=PyData.str "tell"::([.int v,.str x,.str y,.str z,.str w]++.str "by"::qs.map PyData.str):=by simp only[qu,Qz]
  rw[e];exact q "tell" ([.int v,.str x,.str y,.str z,.str w]++.str "by"::qs.map PyData.str) (UP v0 v1 hx hy hz hw hn hq l1 l2) (by simp;omega) ρ
 generalize hL:([.str "tell",.int v,.str x,.str y,.str z,.str w]:List D)=L at g1 g2 ⊢;have hl:L.length<=100:=by rw[<- hL];simp
 delta GE;simp?[↓kA];exact AA (fun _=>Lh h1 h5 hd hl fun qs hq l1 l2=>AY (Ψ:=Ψ) (Z:=Z) (g2 qs hq l1 l2)) fun _=>AY g1
theorem Mh(h1:Ψ.sp "_law_name_by"=OA)(h4:Ψ.sp "_law_word_by"=hB)(h5:Ψ.sp "_law_mixed"=eB){n d v:Int}{x y:Str}(hd:Ql d<=1048576)(hx:xA x=true)(hy:xA y=true)(hn:x≠y)(v0:0<=v)(v1:v<=999999999)(q:RZ Z) :
  YA Ψ (fun _=>False) OF Z [some (.nv (.d (.int n))),s1,s2,s3,some (.nv (.d (.int d))),some (.nv (.d (.int (n % 6)))),some (.nv (.d (.str x))),some (.nv (.d (.str y))),some (.nv (.d (.int v))),s9]:=by
 delta OF;simp?[↓cA (md:=[]) h1 rfl rfl];rw[zE];intro z hz;simp?[↓cA (md:=[]) h4 rfl rfl];rw[fK];intro w hw;simp?[↓kA];exact⟨FF (by decide),je h1 h5 hd hx hy hn v0 v1 hz hw q⟩
theorem TY(h1:Ψ.sp "_law_name_by"=OA)(h4:Ψ.sp "_law_word_by"=hB)(h5:Ψ.sp "_law_mixed"=eB){n d v:Int}{x y:Str}(hd:Ql d<=1048576)(hx:xA x=true)(hy:xA y=true)(hn:x≠y)(v0:0<=v)(v1:v<=999999999)(q:RZ Z) :
  YA Ψ (fun _=>False) DE Z [some (.nv (.d (.int n))),s1,s2,s3,some (.nv (.d (.int d))),some (.nv (.d (.int (n % 6)))),some (.nv (.d (.str x))),some (.nv (.d (.str y))),some (.nv (.d (.int v))),s9]:=by
 delta DE;simp?[↓kA];exact AA (fun _=>Oh hx hy hn q) fun _=>AA (fun _=>Nh h4 hx hy v0 v1 q) fun _=>Mh h1 h4 h5 hd hx hy hn v0 v1 q
theorem Ed(h1:Ψ.sp "_law_name_by"=OA)(h3:Ψ.sp "_law_rank"=yE)(h4:Ψ.sp "_law_word_by"=hB)(h5:Ψ.sp "_law_mixed"=eB){n b c d v:Int}{x y:Str}(hd:Ql d<=1048576)(hx:xA x=true)(hy:xA y=true)(v0:0<=v)(v1:v<=999999999)(q:RZ Z) :
  YA Ψ (fun _=>False) BE Z [some (.nv (.d (.int n))),s1,some (.nv (.d (.int b))),some (.nv (.d (.int c))),some (.nv (.d (.int d))),some (.nv (.d (.int (n % 6)))),some (.nv (.d (.str x))),some (.nv (.d (.str y))),some (.nv (.d (.int v))),s9]:=by
 delta BE;simp?[↓kA];exact AA (fun _=>Sh h3 hx q) fun _=>AA (fun _=>Rh hx q) fun _=>AA (fun _=>Ph fun y hy hn=>TY h1 h4 h5 hd hx hy hn v0 v1 q) fun e=>TY h1 h4 h5 hd hx hy (by simpa using e) v0 v1 q
end
theorem uX{Ψ:PEv}(h1:Ψ.sp "_law_name_by"=OA)(h2:Ψ.sp "_law_from"=mF)(h3:Ψ.sp "_law_rank"=yE)(h4:Ψ.sp "_law_word_by"=hB)(h5:Ψ.sp "_law_mixed"=eB)(ds Q E)(h:jD.run ds Q E):ds.length=KG.length/\YA Ψ (fun _=>False) eI (aA jD KG.length Q) (bA EM jD.md ds):=by obtain⟨n,a,b,c,d,rfl,hd,q⟩:=h;refine uA [some (.nv (.d (.int n))),some (.nv (.d (.int a))),some (.nv (.d (.int b))),some (.nv (.d (.int c))),some (.nv (.d (.int d))),none,none,none,none,none] rfl rfl rfl ?_;delta eI;simp?[↓cA (md:=[]) h1 rfl rfl,↓cA (md:=[]) h2 rfl rfl,↓zE,↓KQ];exact fun x hx y hy=>⟨by decide,fun v v0 v1=>Ed h1 h3 h4 h5 hd hx hy v0 v1 fun h vs g l _=>q h vs g l⟩
theorem V0:∀c:Nat,33<=c->c<=126->wT c=false:=by
 intro c h1 h2;have key:∀i:Fin 127,33<=i.val->wT i.val=false:=by decide +kernel
 exact key ⟨c,by omega⟩ h1
theorem uD(a b:Str):(a++b).cps.toList=a.cps.toList++b.cps.toList:=by show(a.cps++b.cps).toList=_;rw[WI]
theorem aH:(QA " ").length=1:=by decide +kernel
theorem uE(k:Int):(gG (QA " ") k).cps.toList=QI k.toNat 32:=by
 rw[rF,show(QA " ").cps.toList=[32] by decide +kernel];induction k.toNat with
 |zero=>rfl
 |succ n ih=>rw[Qf,qB,ih,Qf];rfl
def VN(w:Str):Prop:=w.cps.toList≠[]/\w.length<=20/\∀c∈w.cps.toList,33<=c/\c<=126
theorem VN.free{w:Str}(h:VN w):32∉w.cps.toList:=fun z=>by have:=h.2.2 32 z;omega
theorem bH.w{w:Str}(h:bH w):VN w:=⟨h.1,by have:=h.2.1;omega,h.2.2⟩
noncomputable def KD:PSp where
 md:=[]
 run:=fun ds Q _=>∃(ws:List Str) (n:Int),ds=[.d (.list (ws.map PyData.str)),.d (.int n)]/\ws.length<=15/\(∀w∈ws,VN w)/\∀r,Lib.wordsOf r=ws->r.length<=900->Q (.d (.str r)) []
 mono:=fun h _ z=>by obtain⟨ws,n,e,l,o,q⟩:=z;exact⟨ws,n,e,l,o,fun r h1 h2=>h _ _ (q r h1 h2)⟩
theorem OS{ws:List Str}{n:Int}{K:T->List T->Prop}{E:XE}(hl:ws.length<=15)(ho:∀w∈ws,VN w)(q:∀r,Lib.wordsOf r=ws->r.length<=900->K (.d (.str r)) []):bC KD [.d (.list (ws.map PyData.str)),.d (.int n)] K E:=⟨ws,n,rfl,hl,ho,q⟩
def Op(ws rest:List Str)(ρ:zA):Prop :=
 ∃(done:List Str) (n':Int) (row:Str) (o3:Option Sl),ws=done++rest /\
  ρ=[some (.nv (.d (.list (ws.map PyData.str)))),some (.nv (.d (.int n'))),some (.nv (.d (.str row))),o3] /\
  row.length<=2+23 * done.length/\(∀c∈row.cps.toList,c=32∨33<=c/\c<=126)/\∀k,wc (row.cps.toList++k) []=done.map (fun w=>w.cps.toList)++wc k []
theorem Xd{Ψ:PEv}{E:XE}{ws:List Str}{row:Str}{Q:T->List T->Prop}(q:∀r,Lib.wordsOf r=ws->r.length<=900->Q (.d (.str r)) [])(hr:row.length<=900)(hc:∀c∈row.cps.toList,c=32∨33<=c/\c<=126)(hw0:wc row.cps.toList []=ws.map fun w=>w.cps.toList):Q (.d (.str (wu row))) []/\Q (.d (.str row)) []:=by
 have hb:∀c∈row.cps.toList,wT c=true->c=32:=fun c h1 h2=>by rcases hc c h1 with h|h;exact h;rw[V0 c h.1 h.2]at h2;cases h2
 refine⟨q _ (yL ?_) ?_,q _ (yL hw0) hr⟩;rw[eW,hw0];exact hb;obtain⟨m,e⟩:=NI row hb;have e:=congrArg W6 e;rw[Qc,Qh,Qh]at e;have:(wu row).length<=row.length:=by show(wu row).cps.size<=row.cps.size;omega
 omega
theorem vX{Ψ:PEv}(ds Q E)(h:KD.run ds Q E):ds.length=ZG.length/\YA Ψ (fun _=>False) oI (aA KD ZG.length Q) (bA TM KD.md ds):=by
 obtain⟨ws,n,rfl,hl,ho,q⟩:=h;refine uA [some (.nv (.d (.list (ws.map PyData.str)))),some (.nv (.d (.int n))),none,none] rfl rfl rfl ?_;have hz:sizeLine=16777216:=QX;delta oI;simp_arith[↓kA];refine⟨by omega,by omega,by rw[aH];omega,?_⟩;rw[<- LG PyData.str];refine xE (fun(w:Str)=>T.d (.str w)) (Op ws) ?_ ?_ _ _ ?_
 ·rintro ρ ⟨done,n',row,o3,e,rfl,hr,hc,hw⟩
  rw[Q7]at e;subst e;have hw0:=hw [];rw[Q7]at hw0;have hw0:wc row.cps.toList []=ws.map fun w=>w.cps.toList:=by rw[hw0];simp[wc]
  obtain⟨q1,q2⟩:=Xd (Ψ:=Ψ) (E:=E) q (by omega) hc hw0;delta OH;simp_arith[↓kA];exact AA (fun _=>⟨by omega,q1⟩) fun _=>q2
 ·rintro w rest ρ N hN ⟨done,n',row,o3,e,rfl,hr,hc,hw⟩
  have hwm:w∈ws:=by rw[e];simp
  have hdl:done.length+1<=ws.length:=by rw[e];simp
  obtain⟨t1,t2,t3⟩:=ho w hwm;have tf:=(ho w hwm).free;delta nJ;simp_arith[↓kA];have rl:=eG (QA " ") (1+n' / 3 % 3);rw[aH]at rl;refine⟨by omega,by omega,by omega,by rw[aH];omega,?_,?_⟩;rw[Q1];omega
  ·refine hN _ ⟨done++[w],_,_,_,by rw[e];simp,rfl,?_,?_,?_⟩
   ·rw[Q1,Q1,Qc,Wk]
    omega
   intro c h;rw[uD,uD,uE]at h;rcases Q2.mp h with h|h;rcases Q2.mp h with h|h
   ·exact hc c h
   exact .inr (t3 c h);exact .inl (qT h);intro k;obtain⟨m,hm⟩:∃m,(1+n' / 3 % 3).toNat=m+1:=⟨(1+n' / 3 % 3).toNat - 1,by omega⟩
   rw[uD,uD,uE,hm,qy,qy,hw,L5 _ _ _ tf t1];simp
 refine⟨[],n,_,none,rfl,rfl,?_,?_,?_⟩
 ·rw[eG,aH,wd]
  omega
 intro c h;rw[uE]at h;exact .inl (qT h);intro k;rw[uE,dH];rfl
noncomputable def Nd:D->T
 | .list l=>.lst (l.map T.d)
 |x=>.d x
theorem Ld(x:D):AE (.d x)=some (Nd x):=by
 cases x with
 |list l=>simp only[AE,T.vw,HA,Q5,Nd]
 |_=>rfl
noncomputable def ZT:Nat->D->Bool
 |_,.none=>true
 |_,.int _=>true
 |_,.str _=>true
 |n+1,.list l=>l.all fun x=>ZT n x
 |n+1,.tuple l=>l.all fun x=>ZT n x
 |_,_=>false
noncomputable def OB(n:Nat):PSp where
 md:=[.kq,.kq]
 run:=fun ds Q _=>∃x,ds=[Nd x,Nd x]/\ZT n x=true/\Q (.d (.bool true)) []
 mono:=fun h _ z=>by obtain⟨x,e,o,q⟩:=z;exact⟨x,e,o,h _ _ q⟩
theorem Lg{x:D}{n:Bool}{md:List Md}{xs:List (T×Bool)}{C:List T->Prop}:sD (.kq::md) ((.d x,n)::xs) C=sD md xs fun ts=>C (Nd x::ts):=vo (by rw[yA];exact Ld x)
theorem mL{n:Nat}{x:D}{K:T->List T->Prop}{E:XE}(o:ZT n x=true)(q:K (.d (.bool true)) []):bC (OB n) [Nd x,Nd x] K E:=⟨x,rfl,o,q⟩
theorem lL{Ψ:PEv}{Z:PEnds}{x:D}{s2 s3:Option Sl}(h1:isD "list" x=some false)(h2:isD "tuple" x=some false)(q:YA Ψ (fun _=>False) MD Z [some (.nv (.d x)),some (.nv (.d x)),s2,s3]):YA Ψ (fun _=>False) pC Z [some (.nv (.d x)),some (.nv (.d x)),s2,s3]:=by delta pC;simp?[↓tN h1 rfl,↓tN h2 rfl];exact q
theorem gH{Ψ:PEv}(x:D)(hx:x=.none∨(∃n,x=.int n)∨∃z,x=.str z){Q:T->List T->Prop}{s2 s3:Option Sl}(q:Q (.d (.bool true)) []):YA Ψ (fun _=>False) pC (eZ Q) [some (.nv (.d x)),some (.nv (.d x)),s2,s3]:=by
 rcases hx with rfl|⟨n,rfl⟩| ⟨z,rfl⟩
 refine lL rfl rfl ?_;delta MD CM;simp?[↓kA];exact q;refine lL rfl rfl ?_;delta MD DM;simp?[↓kA];exact q;refine lL rfl rfl ?_;delta MD BM;simp?[↓kA];exact q
theorem TZ{Ψ:PEv}(ds Q E)(h:(OB 0).run ds Q E):ds.length=jF.length/\YA Ψ (fun _=>False) pC (aA (OB 0) jF.length Q) (bA AM (OB 0).md ds):=by
 obtain⟨x,rfl,o,q⟩:=h;cases x with
 |none=>exact uA _ rfl rfl rfl (gH .none (.inl rfl) q)
 |int n=>exact uA _ rfl rfl rfl (gH (.int n) (.inr (.inl ⟨n,rfl⟩)) q)
 |str z=>exact uA _ rfl rfl rfl (gH (.str z) (.inr (.inr ⟨z,rfl⟩)) q)
 |_=>cases o
theorem HN{Ψ:PEv}{n:Nat}(h1:Ψ.sp "_law_same"=OB n){Z:PEnds}(a b:Option Sl):∀(xs:List (D×D)) (ρ:zA),(∀o2 o3,Z.nx [a,b,o2,o3])->((∀p∈xs,p.1=p.2/\ZT n p.1=true)/\∃o2 o3,ρ=[a,b,o2,o3])->ZH (YA Ψ (fun _=>False) aI) (.tp [2,3]) Z (xs.map fun p=>T.d (.tuple [p.1,p.2])) ρ:=by intro xs ρ hz w;refine xE (fun(p:D×D)=>T.d (.tuple [p.1,p.2])) (fun xs ρ=>(∀p∈xs,p.1=p.2/\ZT n p.1=true)/\∃o2 o3,ρ=[a,b,o2,o3]) ?_ ?_ xs ρ w;rintro ρ ⟨_,o2,o3,rfl⟩;exact hz o2 o3;rintro⟨x,y⟩ xs ρ N hN ⟨hp,o2,o3,rfl⟩;obtain⟨e,o⟩:=hp (x,y) QK;have e:x=y:=e;subst e;delta aI;simp only[↓bg,↓Z5,QAF,QAE];simp?[↓cA (md:=[.kq,.kq]) h1 rfl rfl,↓Lg];refine mL o ?_;simp?[↓kA];exact hN _ ⟨fun p hp'=>hp p (QG _ hp'),_,_,rfl⟩
theorem jL{n:Nat}:∀(l:List D),(l.all fun x=>ZT n x)=true->∀p∈l.zip l,p.1=p.2/\ZT n p.1=true
 |[],_,p,hp=>by cases hp
 |x::l,h,p,hp=>by rw[Qw,QN]at h;rcases QL.mp hp with rfl|hp;exact⟨rfl,h.1⟩;exact jL l h.2 p hp
theorem GW{Ψ:PEv}{n:Nat}(h1:Ψ.sp "_law_same"=OB n){l:List D}(o:(l.all fun x=>ZT n x)=true){Q:T->List T->Prop}(q:Q (.d (.bool true)) []):YA Ψ (fun _=>False) pC (eZ Q) [some (.nv (.lst (l.map T.d))),some (.nv (.lst (l.map T.d))),none,none]:=by delta pC;simp?[↓kA];delta sI;simp?[↓kA];delta tI;simp?[↓kA];refine HN h1 _ _ (l.zip l) _ (fun _ _=>?_) ⟨jL l o,none,none,rfl⟩;simp?[US,LC,qN];exact q
theorem OY{Ψ:PEv}{n:Nat}(h1:Ψ.sp "_law_same"=OB n){l:List D}(o:(l.all fun x=>ZT n x)=true){Q:T->List T->Prop}(q:Q (.d (.bool true)) []):YA Ψ (fun _=>False) pC (eZ Q) [some (.nv (.d (.tuple l))),some (.nv (.d (.tuple l))),none,none]:=by delta pC;simp?[↓kA];delta sI;simp?[↓kA];delta tI;simp?[↓kA];refine HN h1 _ _ (l.zip l) _ (fun _ _=>?_) ⟨jL l o,none,none,rfl⟩;simp?[↓kA];exact q
theorem C7{Ψ:PEv}{n:Nat}(h1:Ψ.sp "_law_same"=OB n)(ds Q E)(h:(OB (n+1)).run ds Q E):ds.length=jF.length/\YA Ψ (fun _=>False) pC (aA (OB (n+1)) jF.length Q) (bA AM (OB (n+1)).md ds):=by
 obtain⟨x,rfl,o,q⟩:=h;cases x with
 |none=>exact uA _ rfl rfl rfl (gH .none (.inl rfl) q)
 |int n=>exact uA _ rfl rfl rfl (gH (.int n) (.inr (.inl ⟨n,rfl⟩)) q)
 |str z=>exact uA _ rfl rfl rfl (gH (.str z) (.inr (.inr ⟨z,rfl⟩)) q)
 |bool _=>cases o
 |dict _=>cases o
 |list l=>exact uA _ rfl rfl rfl (GW h1 o q)
 |tuple l=>exact uA _ rfl rfl rfl (OY h1 o q)
theorem Good.txts{h:Str}{vs:List D}(g:Good h vs):∀d∈(PyData.str h::vs),bH (O5 d)/\((∃z,d=.str z)∨∃n:Int,d=.int n/\0<=n/\n<=999999999):=by obtain⟨f,_,fl⟩:=g.fm;intro d hd;rcases QL.mp hd with rfl|hd;exact⟨g.hd,.inl ⟨h,rfl⟩⟩;exact fl.all d hd
noncomputable def XB:PSp where
 md:=[]
 run:=fun ds Q _=>∃w:Str,ds=[.d (.str w)]/\w.length<=sizeLine/\Q (.d (.bool (rA w))) []
 mono:=fun h _ z=>by obtain⟨w,e,l,q⟩:=z;exact⟨w,e,l,h _ _ q⟩
theorem mE{w:Str}{K:T->List T->Prop}{E:XE}(hl:w.length<=sizeLine):bC XB [.d (.str w)] K E=K (.d (.bool (rA w))) []:=propext ⟨fun⟨_,e,_,q⟩=>by cases e;exact q,fun q=>⟨w,rfl,hl,q⟩⟩
theorem lP{Ψ:PEv}(ds Q E)(h:XB.run ds Q E):ds.length=YF.length/\YA Ψ (fun _=>False) vH (aA XB YF.length Q) (bA ZK XB.md ds):=by
 obtain⟨w,rfl,hl,q⟩:=h;refine uA [some (.nv (.d (.str w))),none] rfl rfl rfl ?_;unfold rA at q;delta vH;simp_arith[↓kA];refine⟨hl,AA (fun c=>?_) fun c=>⟨hl,AA (fun c2=>?_) fun c2=>?_⟩⟩;rw[dF (by simp at c;omega)]at q;exact q;rw[dF (show ¬ w.length<=8 by simp at c2;omega),qg,Qy]at q;exact q;rw[dT (show 1<=w.length by simp at c;omega),dT (show w.length<=8 by simp at c2;omega)]at q;refine xE (fun c=>T.d (PyData.str ⟨#[c]⟩)) (fun l ρ=>∃o,ρ=[some (.nv (.d (.str w))),o]/\l.all (fun c=>decide (c∈vE.cps.toList))=aE w vE) ?_ ?_ _ _ ⟨none,rfl,rfl⟩;rintro _ ⟨o,rfl,e⟩;simp_arith[↓kA];rw[<- e]at q;exact q;rintro c l _ N hN ⟨o,rfl,e⟩;rw[Qw]at e;delta RH;simp_arith[↓kA];have e2:inStr (QA "abcdefghijklmnopqrstuvwxyz") ⟨#[c]⟩=decide (c∈vE.cps.toList):=rfl;rw[e2];cases hc:decide (c∈vE.cps.toList) with
 |false=>rw[hc]at e;rw[<- e]at q;exact q
 |true=>rw[hc]at e;exact hN _ ⟨_,rfl,e⟩
noncomputable def uC:PSp where
 md:=[]
 run:=fun ds Q _=>∃w:Str,ds=[.d (.str w)]/\w.length<=sizeLine/\Q (.d (.bool (xA w))) []
 mono:=fun h _ z=>by obtain⟨w,e,l,q⟩:=z;exact⟨w,e,l,h _ _ q⟩
theorem gN{w:Str}{K:T->List T->Prop}{E:XE}(hl:w.length<=sizeLine):bC uC [.d (.str w)] K E=K (.d (.bool (xA w))) []:=propext ⟨fun⟨_,e,_,q⟩=>by cases e;exact q,fun q=>⟨w,rfl,hl,q⟩⟩
theorem mP{Ψ:PEv}(h1:Ψ.sp "_law_is_word"=XB)(h2:Ψ.sp "_law_keywords"=BA)(ds Q E)(h:uC.run ds Q E):ds.length=ZF.length/\YA Ψ (fun _=>False) xH (aA uC ZF.length Q) (bA KK uC.md ds):=by
 obtain⟨w,rfl,hl,q⟩:=h;refine uA [some (.nv (.d (.str w)))] rfl rfl rfl ?_;unfold xA at q;delta xH;simp_arith[↓cA (md:=[]) h1 rfl rfl,↓cA (md:=[]) h2 rfl rfl,↓mE hl,↓aD];cases hw:rA w with
 |false=>rw[hw]at q;exact q
 |true=>rw[hw]at q;exact⟨.inl ⟨rfl,OJ⟩,q⟩
noncomputable def KB:PSp where
 md:=[]
 run:=fun ds Q _=>∃w:Str,ds=[.d (.str w)]/\w.length<=sizeLine/\Q (.d (.int (if vF w=true then RA w else -1))) []
 mono:=fun h _ z=>by obtain⟨w,e,l,q⟩:=z;exact⟨w,e,l,h _ _ q⟩
theorem MI{w:Str}{K:T->List T->Prop}{E:XE}(hl:w.length<=sizeLine):bC KB [.d (.str w)] K E=K (.d (.int (if vF w=true then RA w else -1))) []:=propext ⟨fun⟨_,e,_,q⟩=>by cases e;exact q,fun q=>⟨w,rfl,hl,q⟩⟩
theorem X3{c:Nat}(h:decide (c∈OC.cps.toList)=true):QCY (QA "0123456789") ⟨#[c]⟩=((c - 48:Nat):Int):=by
 rw[PV,QN]at h;have h1:=of_decide_eq_true h.1;have h2:=of_decide_eq_true h.2;have key:∀i:Fin 10,QCY (QA "0123456789") ⟨#[48+i.val]⟩=((i.val:Nat):Int):=by decide +kernel
 have:=key ⟨c - 48,by omega⟩;have e:48+(c - 48)=c:=by omega
 simp only[e]at this;exact this
theorem HQ{Ψ:PEv}(ds Q E)(h:KB.run ds Q E):ds.length=XG.length/\YA Ψ (fun _=>False) JI (aA KB XG.length Q) (bA jN KB.md ds):=by
 obtain⟨w,rfl,hl,q⟩:=h;refine uA [some (.nv (.d (.str w))),none,none] rfl rfl rfl ?_;have hlen:w.cps.toList.length=w.length:=Qh;unfold vF at q;delta JI;simp_arith[↓kA];refine⟨hl,AA (fun c=>?_) fun c=>⟨hl,AA (fun c2=>?_) fun c2=>⟨hl,?_⟩⟩⟩;rw[dF (by simp at c;omega)]at q;exact q;rw[dF (show ¬ w.length<=9 by simp at c2;omega),qg,Qy]at q;exact q;rw[dT (show 1<=w.length by simp at c;omega),dT (show w.length<=9 by simp at c2;omega)]at q;have loop:(w.cps.toList.head? != some 48||decide (w.length=1))=true->ZH (YA Ψ (fun _=>False) IF) (.nm 2) { nx:=fun ρ2=>YA Ψ (fun _=>False) ((PT.ret (.var 1)).seq .nil) (eZ Q) (List.modify ρ2 2 lR),rt:=(eZ Q).rt,bk:=(eZ Q).bk,ct:=(eZ Q).ct } (w.cps.toList.map fun c=>.d (.str ⟨#[c]⟩)) [some (.nv (.d (.str w))),some (.nv (.d (.int 0))),none]:=by
  intro hz;rw[hz]at q;refine xE (fun c=>T.d (PyData.str ⟨#[c]⟩)) (fun l ρ=>∃(v:Nat) (o:Option Sl),ρ=[some (.nv (.d (.str w))),some (.nv (.d (.int (v:Int)))),o]/\l.all (fun c=>decide (c∈OC.cps.toList))=aE w OC/\l.foldl (fun acc c=>acc * 10+(c - 48)) v=QAe w.cps.toList) ?_ ?_ _ _ ⟨0,none,rfl,rfl,rfl⟩;rintro _ ⟨v,o,rfl,e,hv⟩;simp_arith[↓kA];rw[<- e]at q;have hv:v=QAe w.cps.toList:=hv;have e2:(v:Int)=RA w:=by rw[hv];rfl
  rw[e2];exact q;rintro c l _ N hN ⟨v,o,rfl,e,hv⟩;rw[Qw]at e;rw[QA5]at hv;delta IF;simp_arith[↓kA];have e2:inStr (QA "0123456789") ⟨#[c]⟩=decide (c∈OC.cps.toList):=rfl;rw[e2];cases hc:decide (c∈OC.cps.toList) with
  |false=>rw[hc]at e;rw[<- e]at q;exact q
  |true =>
   rw[hc]at e;simp_arith[↓kA];have:(v:Int) * 10+((c - 48:Nat):Int)=((v * 10+(c - 48):Nat):Int):=by omega
   rw[X3 hc,this];exact⟨Y5.ok (.inr ⟨by decide,by decide⟩),hN _ ⟨v * 10+(c - 48),_,rfl,e,hv⟩⟩
 obtain⟨x,cs,hc⟩:∃x cs,w.cps.toList=x::cs:=by
  cases hc:w.cps.toList with
  |nil=>rw[hc]at hlen;simp at hlen;simp at c;omega
  |cons x cs=>exact⟨x,cs,rfl⟩
 have a0:mC w.cps.toList 0=some x:=by rw[hc];exact gB (j:=0) rfl
 refine AA (fun c3=>⟨hl,DB.mk (a:=x) a0 (AA (fun c4=>?_) fun c4=>?_)⟩) fun c3=>loop ?_;have e4:(⟨#[x]⟩:Str)=QA "0":=of_decide_eq_true c4;have e5:QA "0"=⟨#[48]⟩:=by decide +kernel
 rw[e5]at e4;have e6:x=48:=by injection e4 with e4;injection e4 with e4;injection e4
 subst e6;rw[hc,dF (show ¬ w.length=1 by simp at c3;omega)]at q;rw[show((48::cs).head? != some 48||false)=false by rfl,Qy]at q;exact q;refine loop ?_;rw[hc];have:x≠48:=fun z=>by subst z;exact c4 (dT (by decide +kernel))
 simp[this];rw[dT (show w.length=1 by simp at c3 c;omega),QB8]
theorem ub{Ψ:PEv}{E:XE}{ρ:zA}:∀(l:List Str) {Q:List (T×Bool)->zA->Prop},(pe Ψ (C5 l) E).a [] ρ Q=Q (l.map fun x=>(.d (.str x),false)) ρ
 |[],_=>rfl
 |x::l,Q=>ub l (Q:=fun xs ρ2=>Q ((.d (.str x),false)::xs) ρ2)
theorem B1{Ψ:PEv}{E:XE}{ρ:zA}{l:List Str}{K:TK}(hl:l.length<=100):cB Ψ (.lst (C5 l)) E ρ K=K (.lst ((l.map PyData.str).map T.d)) true ρ:=by show((pe Ψ (C5 l) E).a [] ρ fun xs ρ1=>LF xs=true/\xs.length<=sizeLine/\K (.lst (ED xs)) true ρ1)=_;have hz:sizeLine=16777216:=QX;rw[ub,UU,QJ,LG];exact propext ⟨fun h=>h.2.2,fun h=>⟨dQ l,by omega,h⟩⟩
noncomputable def cL:Str:=QA " !\"#$&'()*+,-./0123456789:;<=>?@ABCDEFGHIJKLMNOPQRSTUVWXYZ[\\]^_`"++QA "abcdefghijklmnopqrstuvwxyz{|}~"
theorem XW:cL.length=94/\∀i:Fin 94,1<=i.val->33<=cL.cps.toList.getD i.val 0/\cL.cps.toList.getD i.val 0<=126:=by decide +kernel
noncomputable def jC:PSp where
 md:=[]
 run:=fun ds Q _=>∃n:Int,ds=[.d (.int n)]/\(1<=n/\n<=93)/\∀c,33<=c->c<=126->Q (.d (.str ⟨#[c]⟩)) []
 mono:=fun h _ z=>by obtain⟨w,e,l,q⟩:=z;exact⟨w,e,l,fun c h1 h2=>h _ _ (q c h1 h2)⟩
theorem YQ{n:Int}{K:T->List T->Prop}{E:XE}(h:1<=n/\n<=93)(q:∀c,33<=c->c<=126->K (.d (.str ⟨#[c]⟩)) []):bC jC [.d (.int n)] K E:=⟨n,rfl,h,q⟩
theorem mT{Ψ:PEv}(ds Q E)(h:jC.run ds Q E):ds.length=eF.length/\YA Ψ (fun _=>False) jH (aA jC eF.length Q) (bA iK jC.md ds):=by
 obtain⟨n,rfl,⟨h1,h2⟩,q⟩:=h;refine uA [some (.nv (.d (.int n))),none] rfl rfl rfl ?_;have hz:sizeLine=16777216:=QX;delta jH;simp?[↓kA];have e:n % 94=n:=by omega
 rw[e];obtain⟨l1,l2⟩:=XW;have hl:cL.cps.toList.length=94:=by rw[Qh];exact l1
 refine⟨by rw[hz];decide +kernel,?_⟩;show cL.length<=sizeLine/\DB (mC cL.cps.toList n) _;refine⟨by omega,?_⟩;obtain⟨v,e1,e2⟩:=JC (xs:=cL.cps.toList) (i:=n) (by omega) (by omega);have:=l2 ⟨n.toNat,by omega⟩ (by show 1<=n.toNat;omega);rw[wC,e2]at this;exact DB.mk e1 (q v this.1 this.2)
noncomputable def Ri:List Str:=["1000000000",gG (QA "9") 9,gG (QA "9") 10,"persons","See","by","By"]
noncomputable def O7:List Str:=keys++gF++fF++Ri
theorem Ie{Ψ:PEv}{E:XE}{ρ:zA}{K:TK}(k:K (.lst ((Ri.map PyData.str).map T.d)) true ρ):cB Ψ cF E ρ K:=by
 have hz:sizeLine=16777216:=QX;unfold cF;simp?[↓kA]
 repeat' (first|exact k|apply And.intro)
 all_goals first|omega|decide | (rw[hz];decide +kernel)
theorem N7:O7.length=49/\∀w∈O7,w.cps.toList≠[]/\w.length<=20/\∀c∈w.cps.toList,33<=c/\c<=126:=by decide +kernel
noncomputable def VD:PSp where
 md:=[]
 run:=fun ds Q _=>∃n:Int,ds=[.d (.int n)]/\∀w,VN w->Q (.d (.str w)) []
 mono:=fun h _ z=>by obtain⟨w,e,q⟩:=z;exact⟨w,e,fun c h1=>h _ _ (q c h1)⟩
theorem pL{n:Int}{K:T->List T->Prop}{E:XE}:bC VD [.d (.int n)] K E=∀w,VN w->K (.d (.str w)) []:=propext ⟨fun⟨_,e,q⟩=>q,fun q=>⟨n,rfl,q⟩⟩
theorem bX{Ψ:PEv}(h1:Ψ.sp "_law_keywords"=BA)(ds Q E)(h:VD.run ds Q E):ds.length=VG.length/\YA Ψ (fun _=>False) iI (aA VD VG.length Q) (bA IM VD.md ds):=by obtain⟨n,rfl,q⟩:=h;refine uA [some (.nv (.d (.int n))),none] rfl rfl rfl ?_;have hz:sizeLine=16777216:=QX;have e1:∀{ρ:zA}{K:TK},cB Ψ KI (fun _=>False) ρ K=K (.lst ((gF.map PyData.str).map T.d)) true ρ:=B1 (by decide);have e2:∀{ρ:zA}{K:TK},cB Ψ ZI (fun _=>False) ρ K=K (.lst ((fF.map PyData.str).map T.d)) true ρ:=B1 (by decide);delta iI;simp?[↓cA (md:=[]) h1 rfl rfl,↓aD,↓e1,↓e2];refine⟨by rw[hz];decide,by rw[hz];decide,Ie ?_⟩;simp?[↓kA];refine⟨by rw[hz];decide,?_⟩;rw[<- wm,<- wm,<- wm];show DB (mC (O7.map PyData.str) (n % 49)) _;obtain⟨l1,l2⟩:=N7;obtain⟨v,a1,a2⟩:=JC (xs:=O7) (i:=n % 49) (by omega) (by rw[l1];omega);exact DB.mk (a:=.str v) (by rw[IB,a1];rfl) (q v (l2 v (Qn a2)))
theorem YV:∀{l:List D},(∀x∈l,x.canLay0=true/\x.depth<=1)->wt l=true/\W9 l<=1
 |[],_=>by simp[wt,W9]
 |x::l,h=>by obtain⟨h1,h2⟩:=h x QK;obtain⟨i1,i2⟩:=YV (l:=l) fun y hy=>h y (QG _ hy);simp only[wt,W9,h1,i1,Bool.and_self,true_and];omega
theorem aT{l:List D}(h:∀x∈l,x.canLay0=true/\x.depth<=1):NE (.list l):=by obtain⟨h1,h2⟩:=YV h;refine⟨?_,?_⟩;simp only[Wd];exact h1;simp only[QAI];omega
theorem G7(l:List Int):NE (.list (l.map PyData.int)):=aT fun x hx=>by obtain⟨s,hs,rfl⟩:=Q0.mp hx;simp only[Wd,QAI];exact⟨by simp,by omega⟩
theorem NQ(l:List Bool):NE (.list (l.map PyData.bool)):=aT fun x hx=>by obtain⟨s,hs,rfl⟩:=Q0.mp hx;simp only[Wd,QAI];exact⟨by simp,by omega⟩
def Sg(w:Str):Prop:=w.length<=20/\∀c∈w.cps.toList,33<=c/\c<=126
theorem VN.e{w:Str}(h:VN w):Sg w:=h.2
theorem B7{l:List Str}(h:∀s∈l,VN s):NE (.list (l.map PyData.str)):=aT fun x hx=>by obtain⟨s,hs,rfl⟩:=Q0.mp hx;simp only[Wd,QAI];refine⟨?_,by omega⟩;unfold PyData.strOk;rw[<- QCX];exact Qk.mpr fun c hc=>by have:=(h s hs).2.2 c hc;simp;omega
theorem sH{P:T->Prop}{body:T->(Option T->Prop)->Prop}:∀(xs acc:List T) (Q:List T->Prop),(∀x∈xs,∀R:Option T->Prop,R none->(∀y,P y->R (some y))->body x R)->acc.length+xs.length<=sizeLine->(∀ys:List T,ys.length<=xs.length->(∀y∈ys,P y)->Q (acc++ys))->AC body xs acc Q
 |[],acc,Q,_,hl,q=>⟨by simpa using hl,by simpa using q [] (Qa _) fun _ z=>by cases z⟩
 |x::xs,acc,Q,h,hl,q=>by
  rw[AC];rw[QH]at hl;have hx:=fun z hz=>h z (QG x hz);refine h x QK _ ?_ fun y hy=>?_;exact sH xs acc Q hx (by omega) fun ys hys hp=>q ys (by rw[QH];omega) hp;refine⟨by omega,sH xs (acc++[y]) Q hx (by rw[Qc];simp;omega) fun ys hys hp=>?_⟩;have:=q (y::ys) (by rw[QH,QH];omega) fun z hz=>by rcases QL.mp hz with rfl|hz;exact hy;exact hp z hz
  simpa using this
theorem y0{α:Type}{P:α->Prop}{f:α->T}{ys:List T}(hp:∀y∈ys,∃q,P q/\y=f q):∃qs:List α,ys=qs.map f/\∀q∈qs,P q:=by
 induction ys with
 |nil=>exact⟨[],rfl,fun _ z=>by cases z⟩
 |cons y ys ih=>obtain⟨qs,e,hq⟩:=ih fun z hz=>hp z (QG _ hz);obtain⟨q0,h0,e0⟩:=hp y QK;refine⟨q0::qs,by rw[QV,e0,e],fun q hq'=>?_⟩;rcases QL.mp hq' with rfl|hq';exact h0;exact hq q hq'
theorem NK{n:Nat}{i:Int}(h0:0<=i)(h1:i<n):vO n i=some i.toNat:=by unfold vO;rw[if_pos h0,if_pos h1]
theorem Xh{ws:List Str}{i:Int}{v:Str}{Q:T->Prop}(h0:0<=i)(h1:i<ws.length)(q:Q (.lst (((ws.set i.toNat v).map PyData.str).map T.d))):Kd (.lst ((ws.map PyData.str).map T.d)) (.int i) (.str v) Q:=by refine⟨_,i,i.toNat,rfl,rfl,NK h0 (by simpa using h1),?_⟩;rw[QBC,QBC]at q;exact q
theorem cW{P:Str->Prop}{ws:List Str}{k:Nat}{v:Str}(h:∀w∈ws,P w)(hv:P v):∀w∈ws.set k v,P w:=fun w hw=>by rcases QAR hw with hw|rfl;exact h w hw;exact hv
noncomputable def CC:PSp where
 md:=[]
 run:=fun ds Q _=>∃(ws:List Str) (n:Int),ds=[.d (.list (ws.map PyData.str)),.d (.int n)]/\ws.length<=100/\(∀w∈ws,VN w)/\∀vs:List Str,vs.length=ws.length->(∀w∈vs,VN w)->Q (.lst ((vs.map PyData.str).map T.d)) []
 mono:=fun h _ z=>by obtain⟨ws,n,e,l,o,q⟩:=z;exact⟨ws,n,e,l,o,fun r h1 h2=>h _ _ (q r h1 h2)⟩
theorem AO{ws:List Str}{n:Int}{K:T->List T->Prop}{E:XE}(hl:ws.length<=100)(ho:∀w∈ws,VN w)(q:∀vs:List Str,vs.length=ws.length->(∀w∈vs,VN w)->K (.lst ((vs.map PyData.str).map T.d)) []):bC CC [.d (.list (ws.map PyData.str)),.d (.int n)] K E:=⟨ws,n,rfl,hl,ho,q⟩
theorem cg:sB.length=8/\∀w∈sB,w.cps.toList≠[]/\w.length<=20/\∀c∈w.cps.toList,33<=c/\c<=126:=by decide +kernel
theorem OQ{Ψ:PEv}(h1:Ψ.sp "_law_number"=KB)(ds Q E)(h:CC.run ds Q E):ds.length=oE.length/\YA Ψ (fun _=>False) zG (aA CC oE.length Q) (bA aJ CC.md ds):=by
 obtain⟨ws,n,rfl,hl,ho,q⟩:=h;refine uA [some (.nv (.d (.list (ws.map PyData.str)))),some (.nv (.d (.int n))),none,none] rfl rfl rfl ?_;have hz:sizeLine=16777216:=QX;have e1:∀{ρ:zA}{K:TK},cB Ψ nG (fun _=>False) ρ K=K (.lst ((sB.map PyData.str).map T.d)) true ρ:=B1 (by decide);have ll:(ws.map PyData.str).length=ws.length:=QJ ..;delta zG;simp?[ll];refine⟨by omega,by omega,?_⟩;refine sH (P:=fun y=>∃k:Int,(0<=k/\k<ws.length)/\y=.d (.int k)) _ _ _ (fun x hx R r0 r1=>?_) ?_ fun ys hys hp=>?_;obtain⟨k,hk,rfl⟩:=Q0.mp hx;have hk:=wH.mp hk;obtain⟨w,a1,a2⟩:=JC (xs:=ws) (i:=(k:Int)) (by omega) (by omega);have a3:mC (ws.map PyData.str) (k:Int)=some (.str w):=by rw[IB,a1];rfl
 have wl:w.length<=sizeLine:=by have:=(ho w (Qn a2)).2.1;omega
 simp?[↓cA (md:=[]) h1 rfl rfl,↓IA a3,↓MI wl];exact AA (fun _=>r1 _ ⟨k,⟨by omega,by omega⟩,rfl⟩) fun _=>r0;rw[QJ,QAg];show 0+_<=_;omega;obtain⟨js,rfl,hj⟩:=y0 hp;rw[Qz,LG PyData.int];simp?[↓e1,cG];refine⟨QAm _,G7 js,AA (fun c=>?_) fun c=>q ws rfl ho⟩;have jl:0<js.length:=by
  cases js with
  |nil=>cases c
  |cons _ _=>simp
 obtain⟨b1,b2⟩:=cg;obtain⟨v,a1,a2⟩:=JC (xs:=sB) (i:=n % 8) (by omega) (by rw[b1];omega);have a3:mC (sB.map PyData.str) (n % 8)=some (.str v):=by rw[IB,a1];rfl
 have m0:=wq (n / 8) (show(js.length:Int)≠0 by omega);have m1:=wG (n / 8) (show(0:Int)<js.length by omega);obtain⟨j,a4,a5⟩:=JC (xs:=js) (i:=n / 8 % js.length) m0 m1;have a6:mC (js.map PyData.int) (n / 8 % js.length)=some (.int j):=by rw[IB,a4];rfl
 have lj:(js.map PyData.int).length=js.length:=QJ ..;have hj':=hj j (Qn a5);simp?[↓IA a3,lj,↓IA a6];refine⟨by omega,Xh hj'.1 hj'.2 ?_⟩;exact q _ (by rw[qM]) (cW ho (b2 v (Qn a2)))
theorem u6:∀i:Fin 10,∀k:Fin 12,(Qt none (some (k.val:Int)) 1 i.val).length<=9:=by decide +kernel
theorem x6:∀i:Fin 10,∀k:Fin 12,(Qt (some (k.val:Int)) none 1 i.val).length<=9:=by decide +kernel
theorem IU{w:Str}{l u:Option Int}(h:w.length<=9)(hf:(Qt l u 1 w.length).length<=9):(qS w l u).length<=9/\∀c∈(qS w l u).cps.toList,c∈w.cps.toList:=by
 unfold qS;split;exact⟨h,fun c hc=>hc⟩;refine⟨?_,fun c hc=>?_⟩
 ·show(QAQ _ (Qt l u 1 w.length)).toArray.size<=9
  rw[QM];exact qC (QAf _ _) hf
 have hc:c∈QAQ (fun x=>w.cps[x]?) (Qt l u 1 w.length):=by simpa using hc
 obtain⟨a,_,e⟩:=wZ.mp hc;exact Wp.mpr (QBB e)
theorem iQ{w:Str}{k:Int}(h:w.length<=9)(k0:0<=k)(k1:k<=11):(qS w none (some k)).length<=9/\∀c∈(qS w none (some k)).cps.toList,c∈w.cps.toList:=by have:=u6 ⟨w.length,by omega⟩ ⟨k.toNat,by omega⟩;exact IU h (by rw[show((k.toNat:Nat):Int)=k by omega]at this;exact this)
theorem eQ{w:Str}{k:Int}(h:w.length<=9)(k0:0<=k)(k1:k<=11):(qS w (some k) none).length<=9/\∀c∈(qS w (some k) none).cps.toList,c∈w.cps.toList:=by have:=x6 ⟨w.length,by omega⟩ ⟨k.toNat,by omega⟩;exact IU h (by rw[show((k.toNat:Nat):Int)=k by omega]at this;exact this)
theorem Sg.app{a b:Str}(h1:∀c∈a.cps.toList,33<=c/\c<=126)(h2:∀c∈b.cps.toList,33<=c/\c<=126)(hl:a.length+b.length<=20):Sg (a++b):=by refine⟨by rw[Q1];exact hl,fun c hc=>?_⟩;rw[uD]at hc;rcases Q2.mp hc with hc|hc;exact h1 c hc;exact h2 c hc
theorem Vh{ws:List Str}{i:Int}{k:Nat}{v:Str}{Q:T->Prop}(h:vO ws.length i=some k)(q:Q (.lst (((ws.set k v).map PyData.str).map T.d))):Kd (.lst ((ws.map PyData.str).map T.d)) (.int i) (.str v) Q:=by refine⟨_,i,k,rfl,rfl,by rw[QJ,QJ];exact h,?_⟩;rw[QBC,QBC]at q;exact q
theorem T1{n:Nat}{i:Int}(h0:0<=i)(h1:i<n):∃k,vO n (i - 1)=some k/\k<n:=by by_cases z:1<=i;exact⟨_,NK (by omega) (by omega),by omega⟩;refine⟨(i - 1+n).toNat,?_,by omega⟩;unfold vO;rw[if_neg (by omega),if_pos (by omega)]
theorem HV{k:Nat}{ws:List Str}{w:Str}:bG ((ws.map PyData.str).map T.d) k (.d (.str w))=((bG ws k w).map PyData.str).map T.d:=by unfold bG;simp
theorem GV{k:Nat}{ws:List Str}{w:Str}{P:Str->Prop}(h:∀x∈ws,P x)(hw:P w):∀x∈bG ws k w,P x:=fun x hx=>by
 unfold bG at hx;rcases Q2.mp hx with hx|hx;exact h x (List.mem_of_mem_take hx);rcases QL.mp hx with rfl|hx
 ·exact hw
 exact h x (List.mem_of_mem_drop hx)
theorem LV{k:Nat}{ws:List Str}{w:Str}:(bG ws k w).length=ws.length+1:=by unfold bG;rw[Qc,QH,Wl,QAs];omega
theorem gU{α β:Type}(f:α->β):∀(l:List α) (k:Nat),(l.map f).eraseIdx k=(l.eraseIdx k).map f
 |[],_=>rfl
 |_::_,0=>rfl
 |x::l,k+1=>by show f x::(l.map f).eraseIdx k=_;rw[gU f l k];rfl
noncomputable abbrev QS(Q:T->List T->Prop):Prop:=∀us:List Str,us.length<=14->(∀w∈us,VN w)->Q (.lst ((us.map PyData.str).map T.d)) []
section
variable{Ψ:PEv}{Q:T->List T->Prop}{s0 s1 s2 s3 s4 s5 s6 s7:Option Sl}
theorem r9{vs:List Str}(hv:∀w∈vs,Sg w)(hl:vs.length<=14)(q:QS Q):YA Ψ (fun _=>False) UE (eZ Q) [s0,s1,s2,s3,some (.own (.lst ((vs.map PyData.str).map T.d))),s5,s6,s7]:=by
 have hz:sizeLine=16777216:=QX;delta UE;simp?[↓kA];refine sH (P:=fun y=>∃w:Str,VN w/\y=.d (.str w)) _ _ _ (fun x hx R r0 r1=>?_) ?_ fun ys hys hp=>?_;obtain⟨d,hd,rfl⟩:=Q0.mp hx;obtain⟨w,hw,rfl⟩:=Q0.mp hd;simp?[↓kA];refine AA (fun c=>r1 _ ⟨w,⟨fun z=>?_,(hv w hw).1,(hv w hw).2⟩,rfl⟩) fun c=>r0;have:w=QA "":=by have e:w.cps=#[]:=Array.toList_eq_nil_iff.mp z;cases w;cases e;decide +kernel
 rw[this]at c;revert c;decide +kernel;rw[QJ,QJ];show 0+_<=_;omega;obtain⟨us,rfl,hu⟩:=y0 hp;rw[QJ,QJ,QJ]at hys;rw[Qz,LG PyData.str];exact q us (by omega) hu
variable{ws vs:List Str}{a way n:Int}{w0:Str}{sp:Int}
structure SpI(ws vs:List Str)(a way:Int)(w0:Str)(sp:Int)(k:Int):Prop where
 ok:∀w∈ws,bH w
 few:ws.length<=13
 a0:0<=a
 a1:a<ws.length
 at0:mC ws a=some w0
 sp0:0<=sp
 sp1:sp<=w0.length
 hv:∀w∈vs,Sg w
 hl:vs.length<=14
 now:k<=way->vs=ws
noncomputable abbrev Ch(s0 s5:Option Sl)(vs:List Str)(a way n:Int)(w0:Str)(sp:Int):zA:=[s0,some (.nv (.d (.int way))),some (.nv (.d (.int a))),some (.nv (.d (.int n))),some (.own (.lst ((vs.map PyData.str).map T.d))),s5,some (.nv (.d (.str w0))),some (.nv (.d (.int sp)))]
theorem SpI.wok{k:Int}(I:SpI ws vs a way w0 sp k):bH w0:=by obtain⟨j,_,e,_⟩:=IK I.at0;exact I.ok _ (Qn e)
theorem SpI.set{k i:Int}{v:Str}{m:Nat}(I:SpI ws vs a way w0 sp k)(hv:Sg v)(hw:way<i):SpI ws (vs.set m v) a way w0 sp i :=
 ⟨I.ok,I.few,I.a0,I.a1,I.at0,I.sp0,I.sp1,fun w h=>by rcases QAR h with h|rfl;exact I.hv w h;exact hv,by rw[qM];exact I.hl,fun z=>absurd z (by omega)⟩
theorem SpI.next{k i:Int}(I:SpI ws vs a way w0 sp k)(h:k<=i):SpI ws vs a way w0 sp i:={ I with now:=fun z=>I.now (by omega) }
theorem SpI.six{k:Int}(I:SpI ws vs a way w0 sp k)(h:k<=way){v:Str}{W:T->Prop}(q:W (.lst (((vs.set a.toNat v).map PyData.str).map T.d))):Kd (.lst ((vs.map PyData.str).map T.d)) (.int a) (.str v) W :=
 Vh (by rw[I.now h];exact NK I.a0 I.a1) q
theorem p9(I:SpI ws vs a way w0 sp 7)(q:QS Q):YA Ψ (fun _=>False) VE (eZ Q) (Ch s0 s5 vs a way n w0 sp):=by have hz:sizeLine=16777216:=QX;delta VE;simp?[↓kA];refine AA (fun c=>?_) fun _=>r9 I.hv I.hl q;have c:way=7:=of_decide_eq_true c;have e:=I.now (by omega);have h0:=I.a0;have h1:=I.a1;have h2:=I.few;rw[e];refine⟨h0,by simp;omega,by simp;omega,?_⟩;rw[HV];exact r9 (GV (fun x hx=>(I.ok x hx).w.e) I.wok.w.e) (by rw[LV];omega) q
theorem o9(I:SpI ws vs a way w0 sp 6)(q:QS Q):YA Ψ (fun _=>False) KE (eZ Q) (Ch s0 s5 vs a way n w0 sp):=by
 have hz:sizeLine=16777216:=QX;delta KE;simp?[↓kA];refine AA (fun c=>?_) fun _=>p9 (I.next (by decide)) q;have c:way=6:=of_decide_eq_true c;have e:=I.now (by omega);obtain⟨k,k1,k2⟩:=T1 I.a0 I.a1;obtain⟨v,hv⟩:∃v,ws[k]?=some v:=⟨_,qt k2⟩
 have av:mC (vs.map PyData.str) (a - 1)=some (.str v):=by rw[e,IB,show mC ws (a - 1)=some v by unfold mC;rw[k1];exact hv];rfl
 refine DB.mk av (I.six (by omega) ?_);refine Vh (k:=k) (by rw[qM,e];exact k1) ?_;exact p9 ((I.set (k:=6) (i:=7) (I.ok v (Qn hv)).w.e (by omega)).set I.wok.w.e (by omega)) q
theorem n9(I:SpI ws vs a way w0 sp 5)(q:QS Q):YA Ψ (fun _=>False) ZE (eZ Q) (Ch s0 s5 vs a way n w0 sp):=by have hz:sizeLine=16777216:=QX;have ww:=I.wok;have h0:=I.sp0;have h1:=I.sp1;have h9:=ww.2.1;obtain⟨l1,c1⟩:=iQ (k:=sp) h9 h0 (by omega);obtain⟨l2,c2⟩:=eQ (k:=sp+1) h9 (by omega) (by omega);delta ZE;simp?[↓kA];refine AA (fun c=>?_) fun _=>o9 (I.next (by decide)) q;have c:way=5:=of_decide_eq_true c;refine⟨by omega,by omega,by omega,I.six (by omega) ?_⟩;exact o9 (I.set (.app (fun c hc=>ww.2.2 c (c1 c hc)) (fun c hc=>ww.2.2 c (c2 c hc)) (by omega)) (by omega)) q
theorem m9(h1:Ψ.sp "_law_sign_by"=jC)(I:SpI ws vs a way w0 sp 4)(q:QS Q):YA Ψ (fun _=>False) JE (eZ Q) (Ch s0 s5 vs a way n w0 sp):=by
 have hz:sizeLine=16777216:=QX;have ww:=I.wok;have h0:=I.sp0;have h1':=I.sp1;have h9:=ww.2.1;obtain⟨l1,c1⟩:=iQ (k:=sp) h9 h0 (by omega);obtain⟨l2,c2⟩:=eQ (k:=sp) h9 (by omega) (by omega);delta JE;simp?[↓cA (md:=[]) h1 rfl rfl];refine AA (fun c=>?_) fun _=>n9 (I.next (by decide)) q;have c:way=4:=of_decide_eq_true c;refine⟨by omega,YQ ⟨by omega,by omega⟩ fun x x0 x1=>?_⟩;simp?[↓kA];have e1:(⟨#[x]⟩:Str).length=1:=rfl;refine⟨by rw[e1];omega,by omega,by rw[Q1,e1];omega,I.six (by omega) ?_⟩;refine n9 (I.set (.app (fun c hc=>?_) (fun c hc=>ww.2.2 c (c2 c hc)) (by rw[Q1,e1];omega)) (by omega)) q;rw[uD]at hc;rcases Q2.mp hc with hc|hc;exact ww.2.2 c (c1 c hc);have:c=x:=by simpa using hc
 omega
theorem l9(h1:Ψ.sp "_law_sign_by"=jC)(I:SpI ws vs a way w0 sp 3)(q:QS Q):YA Ψ (fun _=>False) iE (eZ Q) (Ch s0 s5 vs a way n w0 sp):=by have hz:sizeLine=16777216:=QX;delta iE;simp?[↓kA];refine AA (fun c=>?_) fun _=>m9 h1 (I.next (by decide)) q;have c:way=3:=of_decide_eq_true c;have e:=I.now (by omega);obtain⟨j,j1,j2⟩:=JC I.a0 I.a1;refine⟨a.toNat,.d (.str j),?_,?_,?_⟩;rw[e,QJ,QJ];exact NK I.a0 I.a1;rw[e,Qv,Qv,j2];rfl;rw[gU,gU];refine m9 h1 ⟨I.ok,I.few,I.a0,I.a1,I.at0,I.sp0,I.sp1,fun w h=>I.hv w (List.mem_of_mem_eraseIdx h),qC (List.length_eraseIdx_le _ _) I.hl,fun z=>absurd z (by omega)⟩ q
end
structure SpP(ws:List Str):Prop where
 ok:∀w∈ws,bH w
 ne:0<ws.length
 few:ws.length<=13
 ag:ws[0]?=some (QA "against")->3<=ws.length
 te:ws[0]?=some (QA "tell")->4<=ws.length
noncomputable def IC:PSp where
 md:=[]
 run:=fun ds Q _=>∃(ws:List Str) (way a n:Int),ds=[.d (.list (ws.map PyData.str)),.d (.int way),.d (.int a),.d (.int n)]/\SpP ws/\QS Q
 mono:=fun h _ z=>by obtain⟨ws,y,a,n,e,o,q⟩:=z;exact⟨ws,y,a,n,e,o,fun r h1 h2=>h _ _ (q r h1 h2)⟩
theorem NS{ws:List Str}{way a n:Int}{K:T->List T->Prop}{E:XE}(ho:SpP ws)(q:QS K):bC IC [.d (.list (ws.map PyData.str)),.d (.int way),.d (.int a),.d (.int n)] K E:=⟨ws,way,a,n,rfl,ho,q⟩
theorem C3(x y:Str):Qo (.str x) (.str y)=decide (x=y):=by simp[Qo,BEq.beq]
theorem kX{Ψ:PEv}(h1:Ψ.sp "_law_at_bound"=CC)(h2:Ψ.sp "_law_odd_by"=VD)(h3:Ψ.sp "_law_sign_by"=jC)(ds Q E)(h:IC.run ds Q E):ds.length=YG.length/\YA Ψ (fun _=>False) nI (aA IC YG.length Q) (bA SM IC.md ds):=by
 obtain⟨ws,way,a,n,rfl,⟨ho,h0,hl,ag,te⟩,q⟩:=h;refine uA [some (.nv (.d (.list (ws.map PyData.str)))),some (.nv (.d (.int way))),some (.nv (.d (.int a))),some (.nv (.d (.int n))),none,none,none,none] rfl rfl rfl ?_;have hz:sizeLine=16777216:=QX;have ll:(ws.map PyData.str).length=ws.length:=QJ ..;have ow:∀w∈ws,VN w:=fun w hw=>(ho w hw).w;obtain⟨h,a1,a2⟩:=JC (xs:=ws) (i:=0) (by omega) (by omega);have a0:mC (ws.map PyData.str) 0=some (.str h):=by rw[IB,a1];rfl
 delta nI;simp_arith[↓cA (md:=[]) h1 rfl rfl,↓cA (md:=[]) h2 rfl rfl,↓pL,↓IA a0,ll];refine AA (fun _=>AO (by omega) ow fun vs e hv=>?_) fun _=>AA (fun _=>?_) fun _=>AA (fun _=>?_) fun _=>?_;simp_arith[↓kA];exact q vs (by omega) hv;refine⟨by omega,fun w hw=>?_⟩;have m0:=wq a (show((ws.length:Int)+1)≠0 by omega);have m1:=wG a (show(0:Int)<ws.length+1 by omega);have lm:((ws.map PyData.str).map T.d).length=ws.length:=by rw[QJ,QJ]
 refine⟨m0,by rw[lm];omega,by rw[lm];omega,?_⟩;rw[HV];exact q _ (by rw[LV];omega) (GV ow hw);have a2:ws[0]?=some h:=a2;have fin:∀(k:Int) (s5:Option Sl),1<=k->k<ws.length->DB (mC (ws.map PyData.str) (k - 1)) fun d=>Kd (.lst ((ws.map PyData.str).map T.d)) (.int k) d fun t'=>Q t' []:=by intro k s5 k0 k1;obtain⟨v,b1,b2⟩:=JC (xs:=ws) (i:=k - 1) (by omega) (by omega);refine DB.mk (a:=.str v) (by rw[IB,b1];rfl) (Xh (by omega) k1 ?_);exact q _ (by rw[qM];omega) (cW ow (ow v (Qn b2)))
 have fl:([PyData.str (QA "against"),PyData.str (QA "tell")].all YB)=true:=rfl;have an:([PyData.str (QA "against"),PyData.str (QA "tell")].any fun y=>Qo y (PyData.str h))=(decide (QA "against"=h)||(decide (QA "tell"=h)||false)):=by rw[qG,qG,C3,C3];rfl
 delta NH;simp_arith[an];refine⟨by omega,.inl ⟨rfl,rfl⟩,AA (fun c=>⟨by omega,?_⟩) fun _=>q ws (by omega) ow⟩;by_cases e:h=QA "tell";rw[dT e];subst e;refine DB.mk (a:=.int 3) rfl ?_;simp_arith[↓kA];exact fin 3 none (by decide) (by have:=te a2;omega);rw[dF e];have e2:QA "against"=h:=by by_cases z:QA "against"=h;exact z;rw[dF z,dF (fun z=>e z.symm)]at c;cases c
 subst e2;refine DB.mk (a:=.int 2) rfl ?_;simp_arith[↓kA];exact fin 2 none (by decide) (by have:=ag a2;omega);have m0:=wq a (show(ws.length:Int)≠0 by omega);have m1:=wG a (show(0:Int)<ws.length by omega);obtain⟨w0,b1,b2⟩:=JC (xs:=ws) (i:=a % ws.length) m0 m1;have b3:mC (ws.map PyData.str) (a % ws.length)=some (.str w0):=by rw[IB,b1];rfl
 have wo:=ho w0 (Qn b2);have w9:=wo.2.1;have n0:=wq n (show((w0.length:Int)+1)≠0 by omega);have n1:=wG n (show(0:Int)<w0.length+1 by omega);simp_arith[↓IA b3,↓cA (md:=[]) h2 rfl rfl,↓pL];have I:SpI ws ws (a % ws.length) way w0 (n % (w0.length+1)) 2:=⟨ho,hl,m0,m1,b1,n0,by omega,fun w hw=>(ow w hw).e,by omega,fun _=>rfl⟩
 refine⟨by omega,by omega,by omega,AA (fun c=>?_) fun _=>l9 h3 (I.next (by decide)) q⟩;have c:way=2:=of_decide_eq_true c;intro v hv;exact I.six (by omega) (l9 h3 (I.set hv.e (by omega)) q)
noncomputable def yV:List Str:=["person","matter","against","see","tell"]
noncomputable def BW:List D:=[.str "nrrd",.str "n",.str "nn",.str "tnnw",.str "tnnnw"]
theorem Pj{Ψ:PEv}{E:XE}{ρ:zA}{K:TK}:cB Ψ bK E ρ K=K (.d (.dict (mG yV BW))) false ρ:=by show((_/\_/\_/\_)/\K (.d (.dict (mG yV BW))) false ρ)=_;exact propext ⟨And.right,fun h=>⟨⟨by decide +kernel,by decide,rfl,rfl⟩,h⟩⟩
noncomputable def L9:List Str:=["r","d","t"]
noncomputable def Ge:List D:=[.tuple [.int 0,.int 99],.tuple [.int 1,.int 4],.tuple [.int 0,.int 999999999]]
theorem xn{Ψ:PEv}{E:XE}{ρ:zA}{K:TK}:cB Ψ TH E ρ K=K (.d (.dict (mG L9 Ge))) false ρ:=by
 have hz:sizeLine=16777216:=QX;unfold TH;simp_arith[↓kA];refine propext ⟨fun h=>?_,fun h=>?_⟩
 ·repeat (first|exact h|replace h:=h.2)
 refine⟨by omega,by omega,by omega,by decide +kernel,?_⟩;first|exact h|exact⟨by decide,h⟩| exact⟨by decide,rfl,h⟩| exact⟨by decide,rfl,rfl,h⟩
theorem Mk{Ψ:PEv}{E:XE}{ρ:zA}{Rt:T->zA->Prop}{z:Str}:mD Ψ E Rt (.str z) ρ=Rt (.d (.str z)) ρ:=propext ⟨fun h=>h.2,fun h=>⟨rfl,h⟩⟩
noncomputable def JB(h:Str)(ws:List Str):Bool:=decide (h=QA "tell")&&(decide (7<ws.length+1)&&(decide (ws.length+1<14)&&decide (ws[5]?=some (QA "by"))))
noncomputable def CA(h:Str)(ws:List Str):Str:=match (yV.zip BW).lookup h with
 |some (.str s)=>if JB h ws=true then QA "tnnnwb"++gG (QA "n") ((ws.length:Int) - 6) else s
 |_=>QA ""
noncomputable def RE:PSp where
 md:=[]
 run:=fun ds Q _=>∃(h:Str) (ws:List Str),ds=[.d (.list ((h::ws).map PyData.str))]/\ws.length<=1000/\Q (.d (.str (CA h ws))) []
 mono:=fun h _ z=>by obtain⟨p,w,e,l,q⟩:=z;exact⟨p,w,e,l,h _ _ q⟩
theorem HW{h:Str}{ws:List Str}{K:T->List T->Prop}{E:XE}(hl:ws.length<=1000)(q:K (.d (.str (CA h ws))) []):bC RE [.d (.list ((h::ws).map PyData.str))] K E:=⟨h,ws,rfl,hl,q⟩
theorem SZ{Ψ:PEv}(ds Q E)(h:RE.run ds Q E):ds.length=EH.length/\YA Ψ (fun _=>False) iH (aA RE EH.length Q) (bA ZO RE.md ds):=by
 obtain⟨h,ws,rfl,hl,q⟩:=h;refine uA [some (.nv (.d (.list ((h::ws).map PyData.str)))),none] rfl rfl rfl ?_;have hz:sizeLine=16777216:=QX;have ll:((h::ws).map PyData.str).length=ws.length+1:=by simp
 have a0:mC ((h::ws).map PyData.str) 0=some (.str h):=gB (j:=0) rfl;have hk:yV≠[]/\yV.length=BW.length:=⟨by decide,rfl⟩
 unfold CA at q;cases lk:(yV.zip BW).lookup h with
 |none =>
  rw[lk]at q;have ls:((yV.zip BW).lookup h).isSome=false:=by rw[lk];rfl
  delta iH;simp_arith[↓Pj,↓IA a0,↓Gi hk,ls,cond_true,↓Mk];exact q
 |some d =>
  have ls:((yV.zip BW).lookup h).isSome=true:=by rw[lk];rfl
  obtain⟨s,rfl⟩:∃s,d=.str s:=by
   obtain⟨p,hp,_,rfl⟩:=aa lk;have key:∀p∈yV.zip BW,∃s,p.2=.str s:=by intro p hp;simp only[yV,BW,WS,QB5,QL,qN,or_false]at hp;rcases hp with rfl|rfl|rfl|rfl|rfl<;>exact⟨_,rfl⟩
   exact key p hp
  rw[lk]at q;have q:Q (.d (.str (if JB h ws=true then QA "tnnnwb"++gG (QA "n") ((ws.length:Int) - 6) else s))) []:=q;delta iH;simp_arith[↓Pj,↓IA a0,↓Gi hk,ls,cond_true,↓Hi hk lk,ll];unfold JB at q;have no:(decide (h=QA "tell")&&(decide (7<ws.length+1)&&(decide (ws.length+1<14)&&decide (ws[5]?=some (QA "by")))))=false->Q (.d (.str s)) []:=fun z=>by rw[z]at q;exact q
  refine AA (fun c1=>AA (fun c2=>AA (fun c3=>?_) fun c3=>?_) fun c2=>?_) fun c1=>?_;have c2':7<ws.length+1:=by simp at c2;omega
  have c3':ws.length+1<14:=by simp at c3;omega
  obtain⟨w6,e6⟩:∃w,ws[5]?=some w:=⟨_,qt (by omega)⟩
  have a6:mC ((h::ws).map PyData.str) 6=some (.str w6):=by refine gB (j:=6) ?_;rw[Qv];show(ws[5]?).map PyData.str=_;rw[e6];rfl
  rw[e6]at no q;refine DB.mk a6 ?_;simp_arith[↓kA];refine AA (fun c4=>?_) fun c4=>?_;have c4:w6=QA "by":=of_decide_eq_true c4;subst c4;rw[c1,dT c2',dT c3',dT rfl]at q;have nl:(QA "n").length=1:=by decide +kernel
  have tl:(QA "tnnnwb").length=6:=by decide +kernel
  have e:((ws.length+1:Nat):Int) - 7=(ws.length:Int) - 6:=by omega
  rw[e];refine⟨by omega,by omega,by rw[nl];omega,?_,q⟩;rw[eG,nl,tl];omega;refine no ?_;rw[dF (fun z=>c4 (dT (QW z))),Qy,Qy,Qy];refine no ?_;rw[dF (show ¬ ws.length+1<14 by simp at c3;omega),qg,Qy,Qy];refine no ?_;rw[dF (show ¬ 7<ws.length+1 by simp at c2;omega),qg,Qy];refine no ?_;rw[show decide (h=QA "tell")=false by simpa using c1,qg]
noncomputable def VF:List Str:=["name","rank","floor","needs","time","word","by"]
noncomputable def FC(p:Str):Nat:=if decide (p=QA "name")=true then 110 else if decide (p=QA "word")=true then 119 else if decide (p=QA "by")=true then 98 else if decide (p=QA "needs")=true then 100 else if decide (p=QA "time")=true then 116 else 114
noncomputable def XF(d:D):List D:=if XA d=true then[] else[d]
noncomputable def fH:PSp where
 md:=[]
 run:=fun ds Q _=>∃(p w:Str),ds=[.d (.str ⟨#[FC p]⟩),.d (.str w)]/\p∈VF/\w.length<=sizeLine/\(p="by"->w="by")/\Q (.lst ((XF (zB p w)).map T.d)) []
 mono:=fun h _ z=>by obtain⟨p,w,e,l,l2,l3,q⟩:=z;exact⟨p,w,e,l,l2,l3,h _ _ q⟩
theorem RY{p w:Str}{K:T->List T->Prop}{E:XE}(hp:p∈VF)(hl:w.length<=sizeLine)(hb:p="by"->w="by")(q:K (.lst ((XF (zB p w)).map T.d)) []):bC fH [.d (.str ⟨#[FC p]⟩),.d (.str w)] K E:=⟨p,w,rfl,hp,hl,hb,q⟩
theorem LK{c d:Nat}:((⟨#[c]⟩:Str)=⟨#[d]⟩)=(c=d):=propext ⟨fun e=>by injection e with e;injection e with e;injection e,fun e=>by rw[e]⟩
theorem tQ:QA "n"=⟨#[110]⟩/\QA "w"=⟨#[119]⟩/\QA "b"=⟨#[98]⟩:=by decide +kernel
theorem i0{w:Str}{a b:Int}(ha:0<=a):(if(decide (a<=if vF w=true then RA w else -1)&&decide ((if vF w=true then RA w else -1)<=b))=true then[PyData.int (if vF w=true then RA w else -1)] else[])=XF (iB a b w):=by
 unfold iB DG;cases hn:vF w with
 |false=>simp only[Qi,if_false];rw[dF (show ¬ a<=-1 by omega)];rfl
 |true=>simp only[if_true];split<;>rfl
section
variable{Ψ:PEv}{Q:T->List T->Prop}{w:Str}
theorem SI(h3:Ψ.sp "_law_number"=KB){c:Nat}{a b:Int}(hl:w.length<=sizeLine)(n1:c≠110)(n2:c≠119)(n3:c≠98)(ha:0<=a)(lk:(L9.zip Ge).lookup ⟨#[c]⟩=some (.tuple [.int a,.int b]))(q:Q (.lst ((XF (iB a b w)).map T.d)) []):YA Ψ (fun _=>False) ND (eZ Q) [some (.nv (.d (.str ⟨#[c]⟩))),some (.nv (.d (.str w))),none,none,none]:=by
 have hz:sizeLine=16777216:=QX;obtain⟨s1,s2,s3⟩:=tQ;have hk:L9≠[]/\L9.length=Ge.length:=⟨by decide,rfl⟩
 delta ND;simp?[s1,s2,s3,LK,dF n1,dF n2,dF n3,↓cA (md:=[]) h3 rfl rfl,↓MI hl,↓xn,↓Hi hk lk];rw[<- i0 ha]at q;generalize (if vF w=true then RA w else -1)=v at q ⊢;cases c1:decide (a<=v) with
 |false=>rw[c1]at q;simp?[↓kA];exact⟨by omega,by omega,q⟩
 |true=>rw[c1]at q;simp?[↓kA];generalize decide (v<=b)=z at q ⊢;cases z<;>exact⟨by omega,by decide,by decide,by rw[hz];decide,q⟩
theorem F7(h1:Ψ.sp "_law_is_name"=uC)(h2:Ψ.sp "_law_is_word"=XB)(h3:Ψ.sp "_law_number"=KB)(ds Q E)(h:fH.run ds Q E):ds.length=XJ.length/\YA Ψ (fun _=>False) ND (aA fH XJ.length Q) (bA lS fH.md ds):=by
 obtain⟨p,w,rfl,hp,hl,hb,q⟩:=h;refine uA [some (.nv (.d (.str ⟨#[FC p]⟩))),some (.nv (.d (.str w))),none,none,none] rfl rfl rfl ?_;have hz:sizeLine=16777216:=QX;obtain⟨s1,s2,s3⟩:=tQ;simp only[VF,QL,qN,or_false]at hp;rcases hp with rfl|rfl|rfl|rfl|rfl|rfl|rfl;have e:FC (QA "name")=110:=by decide +kernel
 rw[e];have q:Q (.lst ((XF (if xA w=true then .str w else .none)).map T.d)) []:=q;delta ND;simp?[s1,LK,↓cA (md:=[]) h1 rfl rfl,↓gN hl];cases hn:xA w<;>(rw[hn]at q;exact⟨by omega,by decide,by decide,by rw[hz];decide,q⟩)
 have e:FC (QA "rank")=114:=by decide +kernel
 rw[e];exact SI h3 hl (by decide) (by decide) (by decide) (by decide) (show(L9.zip Ge).lookup ⟨#[114]⟩=some (.tuple [.int 0,.int 99]) by kernel_rfl) q;have e:FC (QA "floor")=114:=by decide +kernel
 rw[e];exact SI h3 hl (by decide) (by decide) (by decide) (by decide) (show(L9.zip Ge).lookup ⟨#[114]⟩=some (.tuple [.int 0,.int 99]) by kernel_rfl) q;have e:FC (QA "needs")=100:=by decide +kernel
 rw[e];exact SI h3 hl (by decide) (by decide) (by decide) (by decide) (show(L9.zip Ge).lookup ⟨#[100]⟩=some (.tuple [.int 1,.int 4]) by kernel_rfl) q;have e:FC (QA "time")=116:=by decide +kernel
 rw[e];exact SI h3 hl (by decide) (by decide) (by decide) (by decide) (show(L9.zip Ge).lookup ⟨#[116]⟩=some (.tuple [.int 0,.int 999999999]) by kernel_rfl) q;have e:FC (QA "word")=119:=by decide +kernel
 rw[e];have q:Q (.lst ((XF (if rA w=true then .str w else .none)).map T.d)) []:=q;delta ND;simp?[s1,s2,LK,show ¬ (119=110) by decide,↓cA (md:=[]) h2 rfl rfl,↓mE hl];cases hn:rA w<;>(rw[hn]at q;exact⟨by omega,by decide,by decide,by rw[hz];decide,q⟩)
 have e:FC (QA "by")=98:=by decide +kernel
 rw[e];have eb:w=QA "by":=hb rfl;subst eb;have wb:rA (QA "by")=true:=by decide +kernel
 have q:Q (.lst ([PyData.str (QA "by")].map T.d)) []:=q;delta ND;simp?[s1,s2,s3,LK,show ¬ (98=110) by decide,show ¬ (98=119) by decide,↓cA (md:=[]) h2 rfl rfl,↓mE hl,wb];first|exact⟨by omega,by decide,by decide,by rw[hz];decide,q⟩| exact⟨by omega,by rw[hz];decide,q⟩| exact⟨by omega,by omega,q⟩
end
theorem l8{h s:Str}{f ws:List Str}(nt:h≠QA "tell")(e1:GF.lookup h=some f)(e2:(yV.zip BW).lookup h=some (.str s)):GA h (ws.length+1)=some f/\CA h ws=s:=by refine⟨?_,?_⟩;unfold GA;rw[dF nt,if_neg (by decide)];exact e1;unfold CA JB;rw[e2,dF nt];rfl
def Jl(h:Str)(ws f:List Str):Prop:=GA h (ws.length+1)=some f/\(CA h ws).cps.toList=f.map FC/\f≠[]/\(∀p∈f,p∈VF)/\∀p∈f.zip ws,p.1=QA "by"->p.2=QA "by"
theorem pH{h s:Str}{f ws:List Str}(nt:h≠QA "tell")(e1:GF.lookup h=some f)(e2:(yV.zip BW).lookup h=some (.str s))(e3:s.cps.toList=f.map FC/\f≠[]/\(∀p∈f,p∈VF)/\∀p∈f,p≠QA "by"):Jl h ws f:=by obtain⟨g1,g2⟩:=l8 (ws:=ws) nt e1 e2;exact⟨g1,by rw[g2];exact e3.1,e3.2.1,e3.2.2.1,fun p hp z=>absurd z (e3.2.2.2 p.1 (ql hp).1)⟩
theorem ZJ{h:Str}{ws f:List Str}(e:GA h (ws.length+1)=some f)(n:ws.length≠f.length∨(iA f ws).any XA=true):pF h ws=none:=by
 unfold pF;rw[e];have:lF (some f) ws=none:=by show(if ws.length=f.length then(if(iA f ws).any XA=true then none else some (iA f ws)) else none)=none;rcases n with n|n;rw[if_neg n];rw[n];split<;>rfl
 rw[this]
theorem NW{h:Str}{ws f:List Str}(e:GA h (ws.length+1)=some f)(n:ws.length=f.length)(a:(iA f ws).any XA=false):pF h ws=if pG h (iA f ws)=true then some (iA f ws) else none:=by
 unfold pF;rw[e];have:lF (some f) ws=some (iA f ws):=by show(if ws.length=f.length then(if(iA f ws).any XA=true then none else some (iA f ws)) else none)=_;rw[if_pos n,a];rfl
 rw[this]
theorem OE:LA.map FC=(QA "tnnnw").cps.toList/\LA.map FC++[98]=(QA "tnnnwb").cps.toList/\(∀p∈LA,p∈VF)/\(∀p∈LA,p≠QA "by")/\FC (QA "by")=98/\FC (QA "name")=110/\(QA "n").cps.toList=[110]/\(QA "name")∈VF/\(QA "by")∈VF/\(QA "name")≠QA "by":=by decide +kernel
theorem OW(k:Nat):(gG (QA "n") (k:Int)).cps.toList=QI k 110:=by
 rw[rF,OE.2.2.2.2.2.2.1];induction k with
 |zero=>rfl
 |succ k ih =>
  have e:((k+1:Nat):Int).toNat=k+1:=by omega
  have e2:((k:Nat):Int).toNat=k:=by omega
  rw[e2]at ih;rw[e,Qf,qB,ih,Qf];rfl
theorem bY{k:Nat}:∀p∈xQ k,p∈VF:=fun p hp=>by rcases QL.mp hp with rfl|hp;exact OE.2.2.2.2.2.2.2.2.1;rw[qT hp];exact OE.2.2.2.2.2.2.2.1
theorem Rc{k:Nat}{us:List Str}(h0:us[0]?=some (QA "by")∨us=[]):∀p∈(xQ k).zip us,p.1=QA "by"->p.2=QA "by":=fun p hp e=>by
 cases us with
 |nil=>unfold xQ at hp;cases hp
 |cons u us =>
  have hu:u=QA "by":=by rcases h0 with h0|h0;exact QW h0;cases h0
  unfold xQ at hp;rcases QL.mp hp with rfl|hp;exact hu;have:=qT (ql hp).1;rw[this]at e;exact absurd e OE.2.2.2.2.2.2.2.2.2
theorem Nj(ws:List Str)(h:5<=ws.length):∃a b c d e r,ws=a::b::c::d::e::r:=by
 match ws,h with
 |a::b::c::d::e::r,_=>exact⟨a,b,c,d,e,r,rfl⟩
theorem J3(h:Str)(ws:List Str):(∃f,Jl h ws f)∨(pF h ws=none/\(CA h ws=QA ""∨((CA h ws).length≠ws.length/\(CA h ws).length<=5))):=by
 by_cases c1:h=QA "person";subst c1;exact .inl ⟨["name","rank","floor","needs"],pH (s:="nrrd") (by decide +kernel) (by decide +kernel) (by kernel_rfl) (by decide +kernel)⟩;by_cases c2:h=QA "matter";subst c2;exact .inl ⟨["name"],pH (s:="n") (by decide +kernel) (by decide +kernel) (by kernel_rfl) (by decide +kernel)⟩;by_cases c3:h=QA "against";subst c3;exact .inl ⟨["name","name"],pH (s:="nn") (by decide +kernel) (by decide +kernel) (by kernel_rfl) (by decide +kernel)⟩;by_cases c4:h=QA "see";subst c4;exact .inl ⟨["time","name","name","word"],pH (s:="tnnw") (by decide +kernel) (by decide +kernel) (by kernel_rfl) (by decide +kernel)⟩;by_cases c5:h=QA "tell";subst c5;have e2:(yV.zip BW).lookup (QA "tell")=some (.str (QA "tnnnw")):=by kernel_rfl
 obtain⟨t1,t2,t3,t4,t5,t6,t7,t8,t9,t10⟩:=OE;by_cases rg:8<=ws.length+1/\ws.length+1<=13;have ef:GA (QA "tell") (ws.length+1)=some (LA++xQ (ws.length+1 - 7)):=by unfold GA;rw[if_pos (by decide +kernel),if_pos rg]
 obtain⟨w6,e6⟩:∃w,ws[5]?=some w:=⟨_,qt (by omega)⟩
 obtain⟨k,hk⟩:∃k,ws.length=k+6:=⟨ws.length - 6,by omega⟩
 by_cases b6:w6=QA "by";subst b6;have tb:JB (QA "tell") ws=true:=by unfold JB;rw[dT rfl,dT (by omega),dT (by omega),dT e6];rfl
 have es:CA (QA "tell") ws=QA "tnnnwb"++gG (QA "n") ((ws.length:Int) - 6):=by unfold CA;rw[e2];show(if JB (QA "tell") ws=true then _ else _)=_;rw[if_pos tb]
 refine .inl ⟨_,ef,?_,?_,?_,?_⟩;rw[es,uD,<- t2,show(ws.length:Int) - 6=(k:Int) by omega,OW];unfold xQ;rw[wm,QV,t5,List.map_replicate,t6,show ws.length+1 - 7=k by omega,qy];rfl;intro z;have:=congrArg W6 z;unfold xQ at this;simp at this;intro p hp;rcases Q2.mp hp with hp|hp;exact t3 p hp;exact bY p hp;intro p hp e;obtain⟨a,b,c,d,x,r,rfl⟩:=Nj ws (by omega);have ez:(LA++xQ ((a::b::c::d::x::r).length+1 - 7)).zip (a::b::c::d::x::r)=LA.zip [a,b,c,d,x]++(xQ ((a::b::c::d::x::r).length+1 - 7)).zip r:=rfl;rw[ez]at hp;rcases Q2.mp hp with hp|hp;exact absurd e (t4 _ (ql hp).1);exact Rc (.inl e6) p hp e;have tb:JB (QA "tell") ws=false:=by unfold JB;rw[e6,dF (fun z=>b6 (QW z)),Qy,Qy,Qy]
 have es:CA (QA "tell") ws=QA "tnnnw":=by unfold CA;rw[e2];show(if JB (QA "tell") ws=true then _ else _)=_;rw[tb];rfl
 refine .inr ⟨ZJ ef (.inr ?_),.inr ⟨?_,by rw[es];decide +kernel⟩⟩;obtain⟨a,b,c,d,x,r,rfl⟩:=Nj ws (by omega);cases r with
 |nil=>cases e6
 |cons u r =>
  have eu:u=w6:=QW e6;subst eu;have en:XA (zB (QA "by") u)=true:=by unfold zB;rw[if_neg (by decide +kernel),if_neg (by decide +kernel),if_pos (by decide +kernel),dF b6];rfl
  refine QCW.mpr ⟨zB (QA "by") u,?_,en⟩;have:(QA "by",u)∈(LA++xQ ((a::b::c::d::x::u::r).length+1 - 7)).zip (a::b::c::d::x::u::r):=by have ez:(LA++xQ ((a::b::c::d::x::u::r).length+1 - 7)).zip (a::b::c::d::x::u::r)=LA.zip [a,b,c,d,x]++(QA "by",u)::(QI ((a::b::c::d::x::u::r).length+1 - 7) (QA "name")).zip r:=rfl;rw[ez];exact Qb _ QK
  exact Q0.mpr ⟨_,this,rfl⟩
 rw[es,show(QA "tnnnw").length=5 by decide +kernel];omega;have ef:GA (QA "tell") (ws.length+1)=some LA:=by unfold GA;rw[if_pos (by decide +kernel),if_neg rg]
 have tb:JB (QA "tell") ws=false:=by unfold JB;by_cases z:7<ws.length+1;rw[dF (show ¬ ws.length+1<14 by omega),qg,Qy,Qy];rw[dF z,qg,Qy]
 have es:CA (QA "tell") ws=QA "tnnnw":=by unfold CA;rw[e2];show(if JB (QA "tell") ws=true then _ else _)=_;rw[tb];rfl
 refine .inl ⟨LA,ef,by rw[es,t1],by decide +kernel,t3,fun p hp e=>absurd e (t4 _ (ql hp).1)⟩;refine .inr ⟨?_,.inl ?_⟩
 ·have:GA h (ws.length+1)=none:=by
   unfold GA;rw[dF c5,if_neg (by decide)];show qO h [(QA "person",_),(QA "matter",_),(QA "against",_),(QA "see",_),(QA "tell",_)]=none;simp only[Qe,beq_eq_false_iff_ne.mpr c1,beq_eq_false_iff_ne.mpr c2,beq_eq_false_iff_ne.mpr c3,beq_eq_false_iff_ne.mpr c4,beq_eq_false_iff_ne.mpr c5,QCl]
  unfold pF;rw[this];rfl
 unfold CA;have:(yV.zip BW).lookup h=none:=by show qO h [(QA "person",_),(QA "matter",_),(QA "against",_),(QA "see",_),(QA "tell",_)]=none;simp only[Qe,beq_eq_false_iff_ne.mpr c1,beq_eq_false_iff_ne.mpr c2,beq_eq_false_iff_ne.mpr c3,beq_eq_false_iff_ne.mpr c4,beq_eq_false_iff_ne.mpr c5,QCl]
 rw[this]
noncomputable def kJ:List Str->List D
 |[]=>[.none]
 |h::ws=>match pF h ws with
  |some vs=>[.list (.str h::vs)]
  |none=>[]
noncomputable def UD:PSp where
 md:=[]
 run:=fun ds Q _=>∃ws:List Str,ds=[.d (.list (ws.map PyData.str))]/\ws.length<=15/\(∀w∈ws,VN w)/\Q (.lst ((kJ ws).map T.d)) []
 mono:=fun h _ z=>by obtain⟨w,e,l,o,q⟩:=z;exact⟨w,e,l,o,h _ _ q⟩
theorem SS{ws:List Str}{K:T->List T->Prop}{E:XE}(hl:ws.length<=15)(ho:∀w∈ws,VN w)(q:K (.lst ((kJ ws).map T.d)) []):bC UD [.d (.list (ws.map PyData.str))] K E:=⟨ws,rfl,hl,ho,q⟩
noncomputable def vP(p:Str×Str):D:=zB p.1 p.2
theorem SK:∀l:Mo,(l.flatMap fun p=>XF (vP p)).length<=l.length
 |[]=>Qa _
 |p::l=>by
  rw[QAh,Qc,QH];have:=SK l;have:(XF (vP p)).length<=1:=by unfold XF;split<;>simp
  omega
theorem oM:∀l:Mo,((l.map vP).any XA=false/\(l.flatMap fun p=>XF (vP p))=l.map vP)∨((l.map vP).any XA=true/\(l.flatMap fun p=>XF (vP p)).length<l.length)
 |[]=>.inl ⟨rfl,rfl⟩
 |p::l=>by
  rw[QAh,QV,qG,QH];have le:=SK l;cases e:XA (vP p) with
  |true=>refine .inr ⟨rfl,?_⟩;unfold XF;rw[if_pos e];simp only[Qz];have:=SK l;unfold XF at this;omega
  |false =>
   have eo:XF (vP p)=[vP p]:=by unfold XF;rw[e];rfl
   rw[eo];rcases oM l with⟨h1,h2⟩| ⟨h1,h2⟩
   exact .inl ⟨h1,by rw[h2];rfl⟩;exact .inr ⟨h1,by rw[Qc,Wk];omega⟩
theorem jd{h:Str}{ws f:List Str}(e:GA h (ws.length+1)=some f)(n:ws.length=f.length)(a:(iA f ws).any XA=false):(h=QA "against"->∃x y,(iA f ws)[0]?=some (.str x)/\(iA f ws)[1]?=some (.str y)/\(!decide (x=y))=pG h (iA f ws))/\(h=QA "tell"->∃x y,(iA f ws)[1]?=some (.str x)/\(iA f ws)[2]?=some (.str y)/\(!decide (x=y))=pG h (iA f ws)):=by
 have hv:lF (GA h (ws.length+1)) ws=some (iA f ws):=by rw[e];show(if ws.length=f.length then(if(iA f ws).any XA=true then none else some (iA f ws)) else none)=_;rw[if_pos n,a];rfl
 generalize iA f ws=vs at hv;have at1:∀{i:Nat}{d x:D},mC (d::vs) ((i+1:Nat):Int)=some x->vs[i]?=some x:=fun {i d x} u=>by
  unfold mC at u;cases e1:vO (d::vs).length ((i+1:Nat):Int) with
  |none=>rw[e1]at u;cases u
  |some k=>rw[e1]at u;unfold vO at e1;rw[if_pos (by omega)]at e1;split at e1;cases e1;exact u;cases e1
 have key:∀{p q:Nat},sC.lookup h=some (.tuple [.int ((p+1:Nat):Int),.int ((q+1:Nat):Int)])->∃x y,vs[p]?=some (.str x)/\vs[q]?=some (.str y)/\(!decide (x=y))=pG h vs:=fun {p q} l=>by
  rcases aY hv with⟨u,_⟩| ⟨i,j,x,y,u1,u2,u3,u4⟩
  rw[l]at u;cases u;rw[l]at u1;injection u1 with u1;injection u1 with u1;injection u1 with u1 u5;injection u5 with u5;injection u1 with u1;injection u5 with u5;subst u1 u5;exact⟨x,y,at1 u2,at1 u3,u4⟩
 exact⟨fun z=>key (p:=0) (q:=1) (by subst z;kernel_rfl),fun z=>key (p:=1) (q:=2) (by subst z;kernel_rfl)⟩
theorem Kn{Ψ:PEv}{E:XE}{r:PT}{Z:PEnds}{i:Nat}{d:D}{ρ:zA}:JQ Ψ E r Z i (.lst [.d d]) true ρ=JQ Ψ E r Z i (.lst ([d].map T.d)) true ρ:=rfl
theorem BY(p:Str):FC p<128:=by
 unfold FC
 repeat' split
 all_goals decide
theorem len_str{z:Str}{l:List Nat}(h:z.cps.toList=l):z.length=l.length:=by rw[<- h,Qh];rfl
theorem cX{Ψ:PEv}(h1:Ψ.sp "_law_shape"=RE)(h2:Ψ.sp "_law_part"=fH)(ds Q E)(h:UD.run ds Q E):ds.length=UG.length/\YA Ψ (fun _=>False) yG (aA UD UG.length Q) (bA yN UD.md ds):=by
 obtain⟨ws,rfl,hl,ho,q⟩:=h;refine uA [some (.nv (.d (.list (ws.map PyData.str)))),none,none,none,none] rfl rfl rfl ?_;have hz:sizeLine=16777216:=QX;have ok:=B7 ho;cases ws with
 |nil=>delta yG;simp_arith[↓kA];exact⟨by omega,ok,by omega,q⟩
 |cons h ws =>
  have hlc:ws.length+1<=15:=by simpa using hl
  have hl':ws.length<=1000:=by omega
  have em:((h::ws).map PyData.str).isEmpty=false:=rfl;have a0:mC ((h::ws).map PyData.str) 0=some (.str h):=gB (j:=0) rfl;have ll:((h::ws).map PyData.str).length=ws.length+1:=by simp
  have ct:eM ((h::ws).map PyData.str) (some 1) none=ws.map PyData.str:=by unfold eM;simp[HT.sIx];exact WY (by simp)
  have wl:∀w∈ws,w.length<=sizeLine:=fun w hw=>by have:=(ho w (QG _ hw)).2.1;omega
  delta yG;simp_arith[em,↓cA (md:=[]) h1 rfl rfl];refine⟨by omega,ok,HW hl' ?_⟩;have q0:pF h ws=none->Q (.lst []) []:=fun z=>by have q:Q (.lst ((match pF h ws with|some vs=>[PyData.list (.str h::vs)]|none=>[]).map T.d)) []:=q;rw[z]at q;exact q
  have q1:∀vs,pF h ws=some vs->Q (.lst [.d (.list (.str h::vs))]) []:=fun vs z=>by have q:Q (.lst ((match pF h ws with|some vs=>[PyData.list (.str h::vs)]|none=>[]).map T.d)) []:=q;rw[z]at q;exact q
  have es:(QA "").length=0:=by decide +kernel
  rcases J3 h ws with⟨f,g1,g2,g3,g4,g5⟩| ⟨rn,sn⟩
  ·have sl:=len_str g2
   rw[QJ]at sl;have f0:0<f.length:=List.length_pos_iff.mpr g3;have ne:decide (CA h ws=QA "")=false:=dF fun z=>by rw[z,es]at sl;omega
   simp_arith[ne,ll];have fp:=(lM g1).1;refine⟨by omega,AA (fun c=>?_) fun c=>?_⟩;refine⟨by omega,q0 (ZJ g1 (.inl fun z=>?_))⟩;rw[dT (by omega)]at c;cases c
   ·have el:ws.length=f.length:=by
     by_cases z:((CA h ws).length:Int)=((ws.length+1:Nat):Int) - 1;omega;rw[dF z]at c;exact absurd rfl c
    have asc:(CA h ws).cps.all (· < 128)=true:=by rw[<- QCX,g2,QA9];exact Qk.mpr fun p _=>dT (BY p)
    have ez:wB (fun p=>T.d (PyData.tuple [p.fst,p.snd])) (((CA h ws).cps.toList.map fun c=>PyData.str ⟨#[c]⟩).zip (ws.map PyData.str))=(f.zip ws).map fun p:Str×Str=>T.d (PyData.tuple [.str ⟨#[FC p.1]⟩,.str p.2]):=by rw[g2,qp,List.zip_map,qp];rfl
    simp_arith[↓IA a0,↓Hh ct,↓Kn,↓ym asc,ez];refine⟨by omega,?_⟩;refine xE (fun p:Str×Str=>T.d (PyData.tuple [.str ⟨#[FC p.1]⟩,.str p.2])) (fun rest ρ=>∃done o3 o4,f.zip ws=done++rest/\ρ=[some (.nv (.d (.list ((h::ws).map PyData.str)))),some (.nv (.d (.str (CA h ws)))),some (.nv (.d (.list (.str h::done.flatMap fun p=>XF (vP p))))),o3,o4]) ?_ ?_ _ _ ⟨[],none,none,rfl,rfl⟩
    ·rintro _ ⟨done,o3,o4,e,rfl⟩
     rw[Q7]at e;subst e;simp_arith[ll,↓IA a0];have lz:(f.zip ws).length=ws.length:=by rw[WT];omega
     rcases oM (f.zip ws) with⟨na,ef⟩| ⟨na,lt⟩
     rw[ef];have na:(iA f ws).any XA=false:=na;have lv:(iA f ws).length=ws.length:=by unfold iA;rw[QJ,lz]
     obtain⟨ua,ut⟩:=jd g1 el na;have rs:=NW g1 el na;have ev:(f.zip ws).map vP=iA f ws:=rfl;rw[ev];generalize iA f ws=vs at *;rw[lv,dT rfl];simp_arith[↓kA];have yes:pG h vs=true->1<=sizeLine/\Q (.lst [.d (.list (.str h::vs))]) []:=fun z=>⟨by omega,q1 vs (by rw[rs,z];rfl)⟩
     have no:pG h vs=false->0<=sizeLine/\Q (.lst []) []:=fun z=>⟨by omega,q0 (by rw[rs,z];rfl)⟩
     by_cases ca:h=QA "against";obtain⟨x,y,x1,x2,x3⟩:=ua ca;have ct:decide (h=QA "tell")=false:=dF fun z=>by rw[ca]at z;revert z;decide +kernel
     rw[dT ca,ct];refine DB.mk (a:=.str x) (gB (j:=1) (by rw[Q9];exact x1)) (DB.mk (a:=.str y) (gB (j:=2) (by rw[Q9];exact x2)) ?_);simp_arith[↓kA];cases hd:decide (x=y) with
     |true=>rw[hd]at x3;exact no x3.symm
     |false=>rw[hd]at x3;exact yes x3.symm
     rw[dF ca];by_cases ct:h=QA "tell";obtain⟨x,y,x1,x2,x3⟩:=ut ct;rw[dT ct];refine DB.mk (a:=.str x) (gB (j:=2) (by rw[Q9];exact x1)) (DB.mk (a:=.str y) (gB (j:=3) (by rw[Q9];exact x2)) ?_);simp_arith[↓kA];cases hd:decide (x=y) with
     |true=>rw[hd]at x3;exact no x3.symm
     |false=>rw[hd]at x3;exact yes x3.symm
     rw[dF ct];refine yes ?_;unfold pG;rw[dF ca,dF ct];rfl;rw[dF (by omega)];exact⟨by omega,q0 (ZJ g1 (.inr na))⟩
    ·rintro⟨p,w⟩ rest _ N hN ⟨done,o3,o4,e,rfl⟩
     have hm:(p,w)∈f.zip ws:=by rw[e];simp
     have hp:=ql hm;delta oJ;simp_arith[↓cA (md:=[]) h2 rfl rfl];refine RY (g4 p hp.1) (wl w hp.2) (g5 _ hm) ?_;simp_arith[↓kA];have fl:=SK (done++[(p,w)]);have lz:(f.zip ws).length<=ws.length:=by rw[WT];omega
     rw[e]at lz;have efm:((done++[(p,w)]).flatMap fun p=>XF (vP p))=(done.flatMap fun p=>XF (vP p))++XF (zB p w):=by rw[List.flatMap_append,QAh,List.flatMap_nil,Q7];rfl
     rw[efm,Qc,Qc,Wk]at fl;rw[Qc,QH]at lz;rw[<- efm];exact⟨by omega,hN _ ⟨done++[(p,w)],_,_,by rw[e];simp,rfl⟩⟩
  simp_arith[ll];have q0:=q0 rn;have sl:(CA h ws).length<=5:=by rcases sn with sn|sn;rw[sn,es];decide;exact sn.2
  refine AA (fun c=>⟨by omega,q0⟩) fun c=>⟨by omega,AA (fun c2=>⟨by omega,q0⟩) fun c2=>?_⟩
  rcases sn with sn|sn;exact absurd (dT sn) c;rw[dF (fun z=>sn.1 (by omega))]at c2;exact absurd rfl c2
def m5(Ψ:PEv):Prop:=∀x∈[QA "WorldError","BadRow","Misplaced","Twice","NoName","TooMany","Unfinished"],Ψ.va x=some (IJ x)
theorem Zn{Ψ:PEv}{E:XE}{r:PT}{Z:PEnds}{i:Nat}{a b c:D}{ρ:zA}:JQ Ψ E r Z i (.lst [.d a,.d b,.d c]) true ρ=JQ Ψ E r Z i (.lst ([a,b,c].map T.d)) true ρ:=rfl
noncomputable def GB:PSp where
 md:=[]
 run:=fun ds Q _=>∃pl:Int,ds=[.d (HF "BadRow" pl),.d (.int 0),.d (.int pl)]/\Q (.d (.bool true)) []
 mono:=fun h _ z=>by obtain⟨w,e,q⟩:=z;exact⟨w,e,h _ _ q⟩
theorem rL{pl:Int}{K:T->List T->Prop}{E:XE}(q:K (.d (.bool true)) []):bC GB [.d (HF (QA "BadRow") pl),.d (.int 0),.d (.int pl)] K E:=⟨pl,rfl,q⟩
theorem UW:NE (.list [.bool true,.bool false,.bool false,.bool false,.bool false,.bool false])/\NE (.list ((qK (QAA 6)).map fun(k:Nat)=>PyData.bool (decide ((k:Int)=0))))/\Qo (.list [.bool true,.bool false,.bool false,.bool false,.bool false,.bool false]) (.list ((qK (QAA 6)).map fun(k:Nat)=>PyData.bool (decide ((k:Int)=0))))=true:=by refine⟨NQ [true,false,false,false,false,false],?_,by decide +kernel⟩;have:=NQ ((qK (QAA 6)).map fun(k:Nat)=>decide ((k:Int)=0));rw[qp]at this;exact this
theorem mN{Ψ:PEv}(v:m5 Ψ)(ds Q E)(h:GB.run ds Q E):ds.length=nD.length/\YA Ψ (fun _=>False) SD (aA GB nD.length Q) (bA cH GB.md ds):=by
 obtain⟨pl,rfl,q⟩:=h;refine uA [some (.nv (.d (HF "BadRow" pl))),some (.nv (.d (.int 0))),some (.nv (.d (.int pl))),none] rfl rfl rfl ?_;have hz:sizeLine=16777216:=QX;have v0:=v (QA "WorldError") (by simp);have v1:=v (QA "BadRow") (by simp);have v2:=v (QA "Misplaced") (by simp);have v3:=v (QA "Twice") (by simp);have v4:=v (QA "NoName") (by simp);have v5:=v (QA "TooMany") (by simp);have v6:=v (QA "Unfinished") (by simp);have e0:decide (QA "WorldError"=QA "BadRow"∨QA "WorldError"=QA "WorldError")=true:=by decide +kernel
 have e1:decide (QA "BadRow"=QA "BadRow"∨QA "BadRow"=QA "WorldError")=true:=by decide +kernel
 have e2:decide (QA "Misplaced"=QA "BadRow"∨QA "Misplaced"=QA "WorldError")=false:=by decide +kernel
 have e3:decide (QA "Twice"=QA "BadRow"∨QA "Twice"=QA "WorldError")=false:=by decide +kernel
 have e4:decide (QA "NoName"=QA "BadRow"∨QA "NoName"=QA "WorldError")=false:=by decide +kernel
 have e5:decide (QA "TooMany"=QA "BadRow"∨QA "TooMany"=QA "WorldError")=false:=by decide +kernel
 have e6:decide (QA "Unfinished"=QA "BadRow"∨QA "Unfinished"=QA "WorldError")=false:=by decide +kernel
 obtain⟨k1,k2,k3⟩:=UW;delta SD;simp?[↓dE v0,↓dE v1,↓dE v2,↓dE v3,↓dE v4,↓dE v5,↓dE v6,↓e0,↓e1,↓e2,↓e3,↓e4,↓e5,↓e6,↓Zn];refine⟨by omega,by omega,by omega,?_⟩;refine xF (fun k:Nat=>T.d (PyData.int (k:Int))) (fun k=>T.d (.bool (decide ((k:Int)=0)))) _ _ _ (fun k hk R hR=>?_) (by rw[hz];decide) ?_;simp?[↓kA];exact hR;rw[Qz,LG fun k:Nat=>PyData.bool (decide ((k:Int)=0))];simp?[↓kA];refine⟨k1,k2,?_⟩;rw[k3];simp?[↓kA];exact q
theorem GY{i:Nat}{t:T}{ρ:zA}:Od (some i) t ρ=ρ.set i (some (.nv (.d t.er))):=rfl
theorem vn{ds:List D}:T.er (.lst (ds.map T.d))=.list ds:=by show PyData.list (ersT (ds.map T.d))=_;rw[oC]
theorem R7(a b:Int)(w:Str):ZT 0 (iB a b w)=true:=by
 unfold iB DG;cases vF w with
 |false=>rfl
 |true=>show ZT 0 (if(decide (a<=RA w)&&decide (RA w<=b))=true then .int (RA w) else .none)=true;split<;>rfl
theorem M5(p w:Str):ZT 0 (zB p w)=true:=by
 unfold zB
 repeat' split
 all_goals first|rfl|exact R7 _ _ _
theorem Id{h:Str}{ws:List Str}{vs:List D}(e:pF h ws=some vs):ZT 1 (.list (.str h::vs))=true:=by
 show((PyData.str h::vs).all fun x=>ZT 0 x)=true;rw[Qw];refine w4.mpr ⟨rfl,?_⟩;unfold pF at e;cases hf:GA h (ws.length+1) with
 |none=>rw[hf]at e;cases e
 |some f =>
  rw[hf]at e;cases hv:lF (some f) ws with
  |none=>rw[hv]at e;cases e
  |some us =>
   rw[hv]at e;have hv:(if ws.length=f.length then(if(iA f ws).any XA=true then none else some (iA f ws)) else none)=some us:=hv;split at hv;split at hv
   ·cases hv
   cases hv;have e:(if pG h (iA f ws)=true then some (iA f ws) else none)=some vs:=e;split at e;cases e;unfold iA;rw[QA9];exact Qk.mpr fun p _=>M5 p.1 p.2;cases e;cases hv
noncomputable def FD:PSp where
 md:=[]
 run:=fun ds Q _=>∃(ws:List Str) (n:Int),ds=[.d (.list (ws.map PyData.str)),.d (.int n)]/\ws.length<=15/\(∀w∈ws,VN w)/\Q (.d (.bool true)) []
 mono:=fun h _ z=>by obtain⟨w,n,e,l,o,q⟩:=z;exact⟨w,n,e,l,o,h _ _ q⟩
theorem MW{ws:List Str}{n:Int}{K:T->List T->Prop}{E:XE}(hl:ws.length<=15)(ho:∀w∈ws,VN w)(q:K (.d (.bool true)) []):bC FD [.d (.list (ws.map PyData.str)),.d (.int n)] K E:=⟨ws,n,rfl,hl,ho,q⟩
theorem IZ{Ψ:PEv}(h1:Ψ.sp "_law_judged"=UD)(h2:Ψ.sp "row_of"=SE)(h3:Ψ.sp "_law_spaced"=KD)(h4:Ψ.sp "_law_same"=OB 1)(h5:Ψ.sp "_law_is_refused"=GB)(v:m5 Ψ)(ds Q E)(h:FD.run ds Q E):ds.length=jI.length/\YA Ψ (fun _=>False) kK (aA FD jI.length Q) (bA VO FD.md ds):=by
 obtain⟨ws,n,rfl,hl,ho,q⟩:=h;refine uA [some (.nv (.d (.list (ws.map PyData.str)))),some (.nv (.d (.int n))),none,none,none,none,none] rfl rfl rfl ?_;have hz:sizeLine=16777216:=QX;have v0:=v (QA "WorldError") (by simp);delta kK;simp?[↓cA (md:=[]) h1 rfl rfl];refine⟨⟨by decide,by decide,by decide⟩,by decide,by decide,SS hl ho ?_⟩;simp?[↓Hg h2 rfl v0,↓cA (md:=[]) h3 rfl rfl];refine⟨by decide,OS hl ho fun r hr hrl=>?_⟩;simp?[↓kA];generalize n / 10 ^ QAA 9=m;have p0:0<=1+m % 400:=by omega
 have p1:1+m % 400<=10000:=by omega
 generalize 1+m % 400=pl at p0 p1;refine⟨r,pl,rfl,⟨hrl,p0,p1,fun w hw=>?_⟩,?_⟩;rw[hr]at hw;have:=(ho w hw).2.1;omega;cases ws with
 |nil=>have a0:mC [PyData.none] 0=some .none:=rfl;refine .inl ⟨hr,?_⟩;simp?[GY,kJ,↓IA a0,↓cA (md:=[.kq,.kq]) h4 rfl rfl,↓Lg];refine mL (x:=.none) rfl ?_;simp?[↓kA];exact q
 |cons h ws =>
  refine .inr ⟨h,ws,hr,?_⟩;cases hv:pF h ws with
  |some vs =>
   refine .inl ⟨vs,rfl,?_⟩;have ej:kJ (h::ws)=[.list (.str h::vs)]:=by show(match pF h ws with|some vs=>[PyData.list (.str h::vs)]|none=>[])=_;rw[hv]
   have a0:mC [PyData.list (.str h::vs)] 0=some (.list (.str h::vs)):=rfl;rw[ej];simp?[GY,vn,↓IA a0,↓cA (md:=[.kq,.kq]) h4 rfl rfl,↓Lg];refine mL (x:=.list (.str h::vs)) (Id hv) ?_;simp?[↓kA];exact q
  |none =>
   refine .inr ⟨rfl,?_⟩;have ej:kJ (h::ws)=[]:=by show(match pF h ws with|some vs=>[PyData.list (.str h::vs)]|none=>[])=_;rw[hv]
   rw[ej];simp?[↓cA (md:=[]) h5 rfl rfl];rw[if_neg (by decide)];refine rL ?_;simp?[↓kA];exact q
theorem HC{ns:List Int}(h:∀n∈ns,Ql n<=1048576)(k:Int):Ql (YM ns k)<=1048576:=by
 unfold YM;rw[wC];cases e:ns[k.toNat]? with
 |none=>decide
 |some v=>exact h v (Qn e)
theorem IE{ns:List Int}{k:Int}{K:T->List T->Prop}{E:XE}(h:0<=k):bC ZC [.lst ((ns.map PyData.int).map T.d),.d (.int k)] K E=K (.d (.int (YM ns k))) []:=by refine propext ⟨fun⟨ns',k',e,_,q⟩=>?_,fun q=>⟨ns,k,rfl,h,q⟩⟩;injection e with e1 e2;injection e2 with e2 _;injection e2 with e2;injection e2 with e2;injection e1 with e1;have e1:=(QBq fun a b e=>by injection e).mp e1;have e1:=(QBq fun a b e=>by injection e).mp e1;subst e1 e2;exact q
theorem n8{h:Str}{vs:List D}(g:Good h vs)(hv:vs.length<=12):SpP ((PyData.str h::vs).map O5):=by
 obtain⟨f,hf,fl⟩:=g.fm;have l:=fl.len;refine⟨fun w hw=>?_,by simp,by simp;omega,fun e=>?_,fun e=>?_⟩;obtain⟨d,hd,rfl⟩:=Q0.mp hw;exact(Good.txts g d hd).1;have e:h=QA "against":=QW e;subst e;have:GA (QA "against") (vs.length+1)=some [QA "name","name"]:=by unfold GA;rw[if_neg (by decide +kernel)];decide +kernel
 rw[this]at hf;cases hf;have:vs.length=2:=l.symm;simp;omega;have e:h=QA "tell":=QW e;subst e;have:5<=f.length:=by unfold GA at hf;rw[if_pos (by decide +kernel)]at hf;split at hf;cases hf;rw[Qc,EC.1];omega;cases hf;rw[EC.1];omega
 simp;omega
def LW(s:T)(ρ:zA):Prop:=∃o1 o2 o3 o4 o5 o6 o7 o8,ρ=[some (.nv s),o1,o2,o3,o4,o5,o6,o7,o8]
section
variable{Ψ:PEv}{Z:PEnds}{ns:List Int}{k:Int}
theorem Jj(h1:Ψ.sp "_law_mixed"=eB)(h2:Ψ.sp "_law_cell_at"=ZC)(h3:Ψ.sp "_law_row_by"=jD)(h4:Ψ.sp "_law_spoilt"=IC)(h5:Ψ.sp "_law_holds"=FD)(hb:∀n∈ns,Ql n<=1048576)(hk:0<=k)
  (hz:∀ρ,LW (.lst ((ns.map PyData.int).map T.d)) ρ->Z.nx ρ) (o2 o3 o4 o5 o6 o7 o8:Option Sl) :
  YA Ψ (fun _=>False) bQ Z [some (.nv (.lst ((ns.map PyData.int).map T.d))),some (.nv (.d (.int k))),o2,o3,o4,o5,o6,o7,o8]:=by
 have hs:sizeLine=16777216:=QX;have c1:0<=k+1:=by omega
 have c2:0<=k+2:=by omega
 have c3:0<=k+3:=by omega
 have c4:0<=k+4:=by omega
 delta bQ;simp?[↓cA (md:=[]) h1 rfl rfl,↓cA (md:=[.kq]) h2 rfl rfl,↓cA (md:=[]) h3 rfl rfl,↓YJ,↓IE hk,↓IE c1,↓IE c2,↓IE c3,↓IE c4];refine⟨HC hb _,HC hb _,HC hb _,HC hb _,HC hb _,HC hb _,RS (HC hb _) fun h vs g hv=>?_⟩;have sp:=n8 g hv;simp?[↓kA];refine xF T.d (fun d=>T.d (.str (O5 d))) (PyData.str h::vs) [] _ (fun d hd R hR=>?_) ?_ ?_;rcases(Good.txts g d hd).2 with⟨z,rfl⟩| ⟨m,rfl,m0,m1⟩
 ·simp?[↓kA]
  exact hR
 simp?[↓kA];refine⟨?_,hR⟩;by_cases e:m.natAbs=0;rw[e];decide;rw[QBR e];exact QBo (show m.natAbs<=2 ^ 30 by omega) (Nat.pow_lt_pow_right (by decide) (by decide));rw[QH];show 0+_<=_;omega;have e:(PyData.str h::vs).map (fun d=>PyData.str (O5 d))=((PyData.str h::vs).map O5).map PyData.str:=by rw[qp];rfl
 rw[Qz,LG (fun d=>PyData.str (O5 d)),e];generalize (PyData.str h::vs).map O5=ws at sp;simp?[↓cA (md:=[]) h1 rfl rfl,↓cA (md:=[.kq]) h2 rfl rfl,↓cA (md:=[]) h4 rfl rfl,↓YJ,↓IE c3];refine⟨HC hb _,NS sp fun us ul uo=>?_⟩;simp?[↓cA (md:=[]) h5 rfl rfl];refine MW (by omega) uo ?_;simp?[↓kA];exact hz _ ⟨_,_,_,_,_,_,_,_,rfl⟩
end
theorem Ee{Ψ:PEv}(h1:Ψ.sp "_law_mixed"=eB)(h2:Ψ.sp "_law_cell_at"=ZC)(h3:Ψ.sp "_law_row_by"=jD)(h4:Ψ.sp "_law_spoilt"=IC)(h5:Ψ.sp "_law_holds"=FD)(ds Q E)(h:CL.run ds Q E):ds.length=IS.length/\YA Ψ (fun _=>False) C4 (aA CL IS.length Q) (bA rc CL.md ds):=by
 obtain⟨ns,hl,hb,rfl,q⟩:=h;refine uA [some (.nv (.lst ((ns.map PyData.int).map T.d))),none,none,none,none,none,none,none,none] rfl rfl rfl ?_;delta C4;simp?[↓kA];have hm:(1:Int)<=(if((wB PyData.int ns).length:Int) > 1 then((wB PyData.int ns).length:Int) else 1)/\(if((wB PyData.int ns).length:Int) > 1 then((wB PyData.int ns).length:Int) else 1)<=63:=by rw[QJ];split<;>omega
 refine⟨by omega,by omega,?_⟩;refine xE (fun(m:Nat)=>T.d (PyData.int (0+(m:Int) * 5))) (fun _ ρ=>LW (.lst ((ns.map PyData.int).map T.d)) ρ) ?_ ?_ _ _ ⟨_,_,_,_,_,_,_,_,rfl⟩;rintro ρ ⟨o1,o2,o3,o4,o5,o6,o7,o8,rfl⟩;simp?[↓kA];exact q;rintro m xs ρ N hN ⟨o1,o2,o3,o4,o5,o6,o7,o8,rfl⟩;simp?[↓kA];exact Jj h1 h2 h3 h4 h5 hb (by omega) hN _ _ _ _ _ _ _
end L2.L3.K3
namespace L2.L3
open PySem PySem.Spec PyProof.Rows L2.L3.Q
theorem GL{α β γ δ ε:Type}{o:Option α}{f:α->β×γ}{g:α->δ}{k:α->ε}{a:β×γ}{b:δ}{c:ε}(h1:o.map (fun s=>((f s).1,g s))=some (a.1,b))(h2:o.map (fun s=>(f s).2)=some a.2)(h3:o.map k=some c):o.map (fun s=>(f s,(g s,k s)))=some (a,(b,c)):=by
 cases o with
 |none=>cases h1
 |some s=>obtain⟨e1,e2⟩:=WH (QW h1);have e3:(f s).2=a.2:=QW h2;have e4:k s=c:=QW h3;show some (f s,(g s,k s))=some (a,(b,c));rw[e2,e4,<- Prod.eta (f s),e1,e3]
theorem uU{h:Heap}:∀(as:List Addr),(El as h).In h
 |[],a,o,e=>nomatch e
 |b::as,a,o,e=>by
  unfold El at e;rw[qz]at e;cases c:h.get? b with
  |none=>rw[c]at e;exact uU as a o e
  |some o' =>
   rw[c]at e;have e:qO a ((b,o')::El as h)=some o:=e;rw[Qe]at e;cases d:a==b with
   |true=>rw[d]at e;cases e;rw[beq_iff_eq.mp d];exact c
   |false=>rw[d]at e;exact uU as a o e
theorem Y3{K:QC}{x q:Str}{st:Stmt}{f:Addr}{fd:FuncData}{oc:Value}{od:Option Addr}{osl:Array (Option Value)}(hl:K.lookup f=some ⟨oc,od,.func fd,osl⟩)(h:e8 fd (WA K fd.code q&&qU K (.ref f))=e8 (qI x q (RC st) (EB st) (oA st) .none .none .none .none none .none .none) true):∃fd,Fun K x q st f fd:=by obtain⟨a1,a2,a3,a4,a5,a6,a7,a8,a9,a10,a11,a12,a13,a14,a15⟩:=fd;unfold e8 at h;injection h with h1 h2;injection h2 with h2 h3;injection h1 with b1 h1;injection h1 with b2 h1;injection h1 with b3 h1;injection h1 with b4 b5;injection h2 with c1 h2;injection h2 with c2 h2;injection h2 with c3 c4;obtain⟨d1,d2⟩:=w4.mp h3;simp only at b1 b2 b3 b4 b5 c1 c2 c3 c4 d1;subst b1 b2 b3 b4 b5 c1 c2 c3 c4;exact⟨_,Pf hl d1 d2⟩
theorem LY{K:QC}{x:Str}{st:Stmt}(h:bU K x=iR x st)(hn:(iR x st).isSome=true):eS K x st:=by
 have hd:iR x st=some (e8 (qI x x (RC st) (EB st) (oA st) .none .none .none .none none .none .none) true):=by cases st<;>first|rfl|cases hn
 rw[hd]at h;unfold bU at h;split at h;rename_i f hf;split at h;rename_i hl;obtain⟨fd,F⟩:=Y3 hl (QW h);exact⟨f,fd,hf,F⟩;cases h;cases h
theorem d6{K:QC}{x:Str}(h:XT K x=true):qZ K mainGlobals x=some none:=by unfold XT at h;split at h;assumption;cases h
theorem NY(u:Value):Gh u=(FW u).map QBp:=by cases u<;>rfl
theorem Td{K:QC}{x:Str}{d:D}(h:Ic K x=some d):NM K x d:=by
 unfold Ic at h;split at h;rename_i u hu;rw[NY]at h;cases e:FW u with
 |none=>rw[e]at h;cases h
 |some p=>obtain⟨v,d'⟩:=p;rw[e]at h;cases h;have ok:=(MS (K:=K) e).2;refine⟨u,v,hu,?_,ok⟩;unfold FW at e;split at e<;>cases e<;>rfl
 cases h
theorem g6(its:List Value):its.map Gh=(its.map FW).map fun o=>o.map QBp:=by rw[qp];exact QBY fun u _=>NY u
theorem OU{K:QC}{f:Addr}{ds:List D}(h:tupD K f=some (ds.map some))(hz:ds.length<=sizeLine):∀F,Rep K F (.ref f) (.tuple ds):=by unfold tupD at h;split at h;rename_i t od its n sl hl;split at h;rename_i et;subst et;injection h with h;exact zZ (its:=its.toList) (by simpa using hl) ((g6 _).symm.trans h) hz;cases h;cases h
noncomputable def HS:D->Bool
 | .tuple ds=>decide (ds.length<=1000)
 |_=>true
theorem M3{K:QC}{w:World}:∀(es:List DictEntry) (kds:List (Str×D)),es.map (Sd K)=kds.map (X8 w)->(kds.all fun p=>HS p.2)=true->Ent K w es kds
 |[],[],_,_=>.nil
 |[],_::_,h,_=>by cases h
 |_::_,[],h,_=>by cases h
 |⟨hs,ky,u⟩::es,(x,d)::kds,h,z=>by
  have hz:sizeLine=16777216:=QX;rw[QV,QV]at h;obtain⟨h1,h2⟩:=QAq h;rw[Qw,QN]at z;have r:=M3 es kds h2 z.2;unfold Sd X8 at h1;injection h1 with a1 h1;injection h1 with a2 a3;have a1:hs=WB w.params x:=a1;have a2:Yj ky=some x:=a2;have a3:Pd K u=Rj d:=a3;subst a1;obtain⟨t,rfl⟩:∃t,ky=.str x t:=by
   cases ky with
   |str y t=>cases a2;exact⟨t,rfl⟩
   |_=>cases a2
  unfold Pd at a3;cases e:Th u with
  |some f =>
   obtain rfl:u=.ref f:=by
    cases u with
    |ref g=>cases e;rfl
    |_=>cases e
   rw[e]at a3;cases d with
   |tuple ds=>have a3:(none,tupD K f)=((none,some (ds.map some)):Option D×Option (List (Option D))):=a3;have zz:ds.length<=1000:=of_decide_eq_true z.1;exact .cons rfl (OU (WH a3).2 (by omega)) r
   |_=>cases(WH a3).1
  |none =>
   rw[e]at a3;cases d with
   |tuple ds=>cases(WH a3).2
   |_=>exact .sc ((NY u).symm.trans (WH a3).1) r
theorem DW{K:QC}{w:World}{x:Str}{kds:List (Str×D)}(h:aM K x=some (kds.map (X8 w)))(hn:FG (kds.map We)=true)(hz:(kds.all fun p=>HS p.2)=true):vN w K x kds:=by unfold aM at h;split at h;rename_i a ha;split at h;rename_i hs;split at h;rename_i t es ep sl hl;split at h;rename_i et;obtain⟨rfl,es0⟩:=et;injection h with h;have:sl=#[]:=Array.eq_empty_of_size_eq_zero es0;subst this;exact⟨a,es,ep,ha,hs,hl,M3 _ _ h hz,kD hn⟩;cases h;cases h;cases h;cases h
theorem HY{K:QC}{x:Str}{ds:List D}(h:zd K x=some (ds.map some))(hz:ds.length<=sizeLine):NM K x (.tuple ds):=by unfold zd at h;split at h;rename_i f hf;exact⟨_,_,hf,rfl,OU h hz⟩;cases h
theorem walk_seenW{l:PySem.W.OpenLaw}{k:Nat}{q:Program}{loose:List Str}{XP:(Str->Option Value)->Heap->Prop}{YP:World->Heap->Prop}{d:DefRec}{x:Str}{Fs:World->QC->Prop}
  (hn:l.most=some 63) (hdf:d.params.defaults=[]) (hr:Room k callerA) (hY:∀(w:World) (h:Heap),YP w h->∃K:QC,K.In h/\Fs w K)
  (F:∀(w:World) (mg:Str->Option Value) (fa:Addr) (h:Heap) (K:QC),K.In h->Fs w K->h.Ns mainGlobals mg->mg d.name=some (.ref fa) ->
   ∃fd:FuncData,(∀(s:Shared) (u:Value),BindsTo s fd ⟨[u],[]⟩ [(x,u)]) /\
    ∀base:Heap,K.In base->base.Ns mainGlobals mg->FnOk l.prog w K mg base (n5 l.prog w K) k fa fd [x] (lift K CL)) :
  PySem.W.WalkO q loose XP YP l.row.toRowW d [] (fun f vs=>PySem.call f vs):=by
 intro w s₀ s₁ mg mb G Y fa o pm cd doc dV kV ho hd hcd hD hmg hg args vals as hpre hlay hrd hwl hlo;obtain rfl:dV=.none:=PySem.W.Dflts.none hD hdf;obtain rfl:kV=.none:=PySem.W.Dflts.noKw hD;obtain⟨a,vs,ns,rfl,rfl,hobj,hints,hlen⟩:=Att.script_of hn hpre hwl;obtain⟨K,KX,fs⟩:=hY w _ Y;obtain⟨fd,hb,hF⟩:=F w mg fa _ K KX fs G.T.g hmg;refine PySem.W.enter_call (Wg (G1 KX G.T.g G.T.b G.T.builtins G.T.nolimit hg hobj hints (qC hlen (by decide)) hr hF hb (fun H hO hS=>sf _ H a ns hlen (M8 hlay) hS) fun H e s'=>fun z=>pY z) fun r s' hq=>?_);obtain⟨rfl,h2,h3,h4⟩:=hq;exact⟨.inl ⟨.bool true,.bool true,[],rfl,fun _=>rfl,.bool true,Att.post_true l _,fun _=>⟨List.Pairwise.nil,fun _ hm=>(nomatch hm)⟩⟩,h2,h3,h4⟩
theorem Dh{sl:Array (Option Value)}(h:Vm sl=true):∃k0 k1 k2 k3 k5,sl=#[k0,k1,k2,k3,some (.builtin "ValueError.__new__"),k5]:=by unfold Vm at h;split at h;rename_i k0 k1 k2 k3 n k5 e;have e2:=Qd h;subst e2;exact⟨k0,k1,k2,k3,k5,Wm.mp e⟩;cases h
theorem rY{l:List Value}(h:Qzq l=true):l=cN:=by unfold Qzq at h;split at h;obtain⟨h1,h2⟩:=jA h;obtain⟨h2,h3⟩:=jA h2;obtain⟨h3,h4⟩:=jA h3;rw[Qd h1,Qd h2,Qd h3,Qd h4];rfl;cases h
theorem df{W C:Addr}{l:List Value}(h:gf W C l=true):l=.ref C::gE W C:=by unfold gf at h;split at h;obtain⟨h1,h2⟩:=jA h;have e:=Qd h1;subst e;unfold gE;split at h2;rename_i e;rw[if_pos e,rY h2];rename_i e;rw[if_neg e];unfold Mn at h2;split at h2;obtain⟨h3,h4⟩:=jA h2;rw[Qd h3,rY h4];cases h2;cases h
theorem B2{o:Option (Option Value)}{a:Addr}(h:C2 o a=true):o=some (some (.ref a)):=by unfold C2 at h;split at h;rw[Qd h];cases h
theorem uM{o:Option (Option Value)}{i:String}(h:oR o i=true):o=some (some (.builtin i)):=by unfold oR at h;split at h;rw[Qd h];cases h
theorem DV{o:Option (Option Value)}(h:b8 o=true):o=some none:=by unfold b8 at h;split at h;rfl;cases h
theorem u8{o:Option Value}{i:String}(h:Hf o i=true):o=some (.type i):=by unfold Hf at h;split at h;rw[Qd h];cases h
theorem FV{o:Option Addr}{a:Addr}(h:Lf o a=true):o=some a:=by unfold Lf at h;split at h;rw[Qd h];cases h
theorem P7{W C:Addr}{x:Str}{o:Option Obj}(h:yf W C x o=true):(∃nm q N bs sn sub ab col dd k0 k1 k2 k3 k5,o=some (excClassObj nm q C N bs (gE W C) true sn sub ab col dd k0 k1 k2 k3 k5 "ValueError.__new__"))/\o.any (L2.L3.clsNm x)=true:=by
 unfold yf at h;split at h;rename_i t dd cd sl;obtain⟨h1,h⟩:=jA h;obtain⟨h2,h⟩:=jA h;obtain⟨h3,h⟩:=jA h;obtain⟨h4,h⟩:=jA h;obtain⟨h5,h6⟩:=jA h;obtain⟨nm,bs,mro,ns,qn,hd,sn,sub,ab,col,hdel⟩:=cd;obtain⟨k0,k1,k2,k3,k5,rfl⟩:=Dh h5;have e1:=Qd h1;have e2:=df h2;have e4:hdel=false:=by simpa using h4
 have e3:hd=true:=h3;simp only at e2;subst e1 e2 e3 e4;exact⟨⟨nm,qn,ns,bs,sn,sub,ab,col,dd,k0,k1,k2,k3,k5,rfl⟩,h6⟩;cases h
theorem Va{K:QC}{C:Addr}{x:Str}(h:zn K (Q.wOf K) (Q.iOf K) C x=true):((K.lookup (L2.L3.wOf K)).any (L2.L3.clsNm "WorldError")=true->ExC K C x)/\L2.L3.clsAt K x=some C/\(K.lookup C).any (L2.L3.clsNm x)=true:=by unfold zn at h;obtain⟨h1,h⟩:=jA h;obtain⟨h2,h⟩:=jA h;obtain⟨h3,h⟩:=jA h;obtain⟨h4,h⟩:=jA h;obtain⟨h5,h⟩:=jA h;obtain⟨h6,h⟩:=jA h;obtain⟨h7,h⟩:=jA h;obtain⟨h8,h⟩:=jA h;obtain⟨h9,h10⟩:=jA h;obtain⟨o1,o2⟩:=P7 h1;exact⟨fun hw=>⟨⟨o1,B2 h2,u8 h3,uM h4,uM h5,DV h6,DV h7,uM h8,h9⟩,FV h10,o2,hw⟩,FV h10,o2⟩
theorem zm{K:QC}(h:tH K "WorldError"=true):(K.lookup (L2.L3.wOf K)).any (L2.L3.clsNm "WorldError")=true:=by
 unfold tH at h;split at h;rename_i C hC;obtain⟨_,e,o⟩:=Va h;have:L2.L3.wOf K=C:=by unfold L2.L3.wOf;rw[e];rfl
 rw[this];exact o;cases h
theorem MY{K:QC}{x:Str}(h:tH K x=true)(hw:tH K "WorldError"=true):NM K x (IJ x):=by have w:=zm hw;unfold tH at h;split at h;rename_i C hC;exact⟨.ref C,.ref C,hC,rfl,fun F=>.cls ((Va h).1 w)⟩;cases h
noncomputable def dn:Nat->(List Value->Prop)->Prop
 |0,p=>p []
 |n+1,p=>∀u,dn n fun us=>p (u::us)
theorem Dl:∀{n:Nat}{p:List Value->Prop},dn n p->∀us:List Value,us.length=n->p us
 |0,_,h,us,e=>by rw[WU.mp e];exact h
 |_+1,_,_,[],e=>nomatch e
 |_+1,_,h,u::us,e=>Dl (h u) us (WJ e)
def Bn(x q:Str)(st:Stmt)(ps:List Str):Prop:=∀(kV doc pm:Value) (an:Option Addr) (cdv ct:Value),dn ps.length fun us=>bindArgs (qI x q (RC st) (EB st) (oA st) .none kV doc pm an cdv ct) ⟨us,[]⟩=pure (ps.zip us)
theorem Z8{K:QC}{P:Program}{w:World}{mg:Str->Option Value}{base:Heap}{st:Stmt}(h:PK K=bM st)(hn:(bM st).isSome=true)(B:IniB st)(hm:mg "ValueError"=none)
  (hb:Bn "__init__" "WorldError.__init__" st ["self","words","place"]):lY P w K mg base:=by
 have hd:bM st=some (e8 (qI "__init__" "WorldError.__init__" (RC st) (EB st) (oA st) .none .none .none .none none .none .none) true):=by cases st<;>first|rfl|cases hn
 rw[hd]at h;unfold PK at h;split at h;rename_i hl;obtain⟨fd,F⟩:=Y3 hl (QW h);exact⟨_,fun k=>Af F B hm,F.binds fun a b c d e f=>Dl (hb a b c d e f)⟩;cases h
noncomputable def Pg:List (Str×D):=tT.map (fun p=>(p.1,.tuple p.2))++(sT++cT.map fun x=>(x,IJ x))
structure Cx(P:Program)(w:World)(K:QC)(h:Heap)(mg:Str->Option Value):Prop where
 X:K.In h
 G:h.Ns mainGlobals mg
 V:∀p∈Pg,NM K p.1 p.2
 B:∀p∈dT,vN w K p.1 p.2
 N:∀y∈nT,qZ K mainGlobals y=some none
 D:∀p∈fT,eS K p.1 (top p.2)
 er:∀base,lY P w K mg base
theorem LD{α:Type}{d:α}:∀{l:List α}{i:Nat},QB7 i l.length=true->l.getD i d∈l
 |[],_,h=>nomatch h
 |_::_,0,_=>.head _
 |_::_,_+1,h=>.tail _ (LD (Nat.blt_eq.mpr (Nat.lt_of_succ_lt_succ (Nat.blt_eq.mp h))))
theorem D1{α:Type}{l:List (Str×α)}{p:Str×α}(nd:(l.map We).Nodup)(h:p∈l):l.lookup p.1=some p.2:=by
 induction l with
 |nil=>cases h
 |cons a l ih=>obtain⟨x,s⟩:=a;rw[QV,qk]at nd;rw[Qe];rcases QL.mp h with rfl|h;rw[beq_self_eq_true];have hm:p.1∈l.map We:=List.mem_map_of_mem h;have hx:(p.1==x)=false:=beq_eq_false_iff_ne.mpr fun z=>nd.1 (by rw[<- z];exact hm);rw[hx];exact ih nd.2 h
theorem C1{α:Type}{a:α}{g:Str}:∀(l:List Str) (r:List α) (i:Nat),g≠l.getD i ""->(l.zip (r.set i a)).lookup g=(l.zip r).lookup g
 |[],_,_,_=>rfl
 |_::_,[],_,_=>rfl
 |x::l,s::r,0,h=>by have h:g≠x:=h;show qO g ((x,a)::l.zip r)=qO g ((x,s)::l.zip r);rw[Qe,Qe,beq_eq_false_iff_ne.mpr h]
 |x::l,s::r,i+1,h=>by show qO g ((x,s)::l.zip (r.set i a))=qO g ((x,s)::l.zip r);rw[Qe,Qe,C1 l r i h]
noncomputable def S7:List Str:=fT.map We
noncomputable def fx(i:Nat):Str×Nat:=fT.getD i ("",0)
noncomputable def tbl(r:List PSp):PEv:=b9 (S7.zip r) Pg dT
theorem cK{r:List PSp}(i:Nat)(h:QB7 i Pg.length=true:=by rfl):(tbl r).va (Pg.getD i ("",.none)).1=some (Pg.getD i ("",.none)).2:=D1 (kD (by kernel_rfl)) (LD h)
theorem A3{r:List PSp}(i:Nat)(h:QB7 i dT.length=true:=by rfl):(tbl r).dc (dT.getD i ("",[])).1=some (dT.getD i ("",[])).2:=D1 (kD (by kernel_rfl)) (LD h)
theorem Bh{r:List PSp}(nd:FG ((S7.zip r).map We)=true)(i:Nat)(h:QB7 i (S7.zip r).length=true):(tbl r).sp ((S7.zip r).getD i ("",X5)).1=((S7.zip r).getD i ("",X5)).2:=by show(qO _ _).getD X5=_;rw[D1 (kD nd) (LD h)];rfl
noncomputable def nB(n:Need)(fs:List Str):Bool:=n.fn.all (fun x=>fs.contains x)&&((n.va.all fun x=>(Pg.map We).contains x)&&((n.dc.all fun x=>(dT.lookup x).isSome)&&n.no.all (fun x=>nT.contains x)))
section
variable{P:Program}{w:World}{K:QC}{h base:Heap}{mg:Str->Option Value}{r r':List PSp}{R:PSp}{fs:List Str}{k:Nat}{b:PT}{n:Need}{N ps:List Str}
theorem np{Ψ:PEv}(h:∀ts Q (E:XE),R.run ts Q E->ts.length=ps.length/\YA Ψ (fun _=>False) b (aA R ps.length Q) (bA N R.md ts)):∀ts Q E,R.run ts Q E->ts.length=ps.length/\∃E':XE,(∀x,E' x->E x)/\YA Ψ E' b (aA R ps.length Q) (bA N R.md ts) :=
 fun ts Q E z=>⟨(h ts Q E z).1,_,fun _ z=>z.elim,(h ts Q E z).2⟩
theorem hv(C:Cx P w K h mg)(A:∀g∈fs,dD P w K mg base (tbl r) (k+2) g)(i:Nat)(VB:mB n b N ps (top (fx i).2)=true)
  (body:∀ts Q E,R.run ts Q E->ts.length=ps.length/\∃E':XE,(∀x,E' x->E x)/\YA (tbl r) E' b (aA R ps.length Q) (bA N R.md ts)) (hR:(tbl r').sp (fx i).1=R) (hc:SL (zC 0 R.md ps.length) b=true:=by kernel_rfl)
  (hb:Bn (fx i).1 (fx i).1 (top (fx i).2) ps:=by(repeat intro _);rfl)
  (hn:nB n fs=true:=by kernel_rfl) (hi:QB7 i fT.length=true:=by rfl):dD P w K mg base (tbl r') (k+3) (fx i).1:=by
 obtain⟨h1,hn⟩:=jA hn;obtain⟨h2,hn⟩:=jA hn;obtain⟨h3,h4⟩:=jA hn;exact j3 C.X C.G (C.D _ (LD hi)) VB hc (fun a b c d e f=>Dl (hb a b c d e f)) (fun g hg=>A g (LO h1 g hg)) (LU C.X C.G C.V C.B h2 h3) (fun y hy=>C.N y (LO h4 y hy)) (fun _=>⟨QCm 2 k,C.er base⟩) body hR
theorem hc(A:∀g∈fs,dD P w K mg base (tbl r) (k+2) g){x:Str}(Z:dD P w K mg base (tbl r) (k+3) x):∀g∈x::fs,dD P w K mg base (tbl r) (k+1+2) g:=by intro g hg;rcases QL.mp hg with rfl|hg;exact Z;exact(A g hg).mono (Wa _)
theorem hm(A:∀g∈fs,dD P w K mg base (tbl r) (k+2) g):∀g∈fs,dD P w K mg base (tbl r) (k+1+2) g:=fun g hg=>(A g hg).mono (Wa _)
theorem h0(C:Cx P w K h mg)(i:Nat)(VB:mB n b N ps (top (fx i).2)=true)(hb:Bn (fx i).1 (fx i).1 (top (fx i).2) ps:=by(repeat intro _);rfl)(hi:QB7 i fT.length=true:=by rfl)(e:(tbl r).sp (fx i).1=X5:=by kernel_rfl):dD P w K mg base (tbl r) (k+1) (fx i).1 :=
 VX C.X C.G (C.D _ (LD hi)) VB (fun a b c d e f=>Dl (hb a b c d e f)) (by rw[e];exact fun _ _ _ z=>z.elim)
theorem hl(C:Cx P w K h mg)(A:∀g∈fs,dD P w K mg base (tbl r) (k+2) g){x q:Str}{st:Stmt}{f:Addr}{fd:FuncData}(F:Fun K x q st f fd)(VB:mB n b N ps st=true)
  (body:∀ts Q E,R.run ts Q E->ts.length=ps.length/\∃E':XE,(∀x,E' x->E x)/\YA (tbl r) E' b (aA R ps.length Q) (bA N R.md ts)) (hc:SL (zC 0 R.md ps.length) b=true:=by kernel_rfl) (hn:nB n fs=true:=by kernel_rfl):FnOk P w K mg base (n5 P w K) (k+3) f fd ps (lift K R):=by
 obtain⟨h1,hn⟩:=jA hn;obtain⟨h2,hn⟩:=jA hn;obtain⟨h3,h4⟩:=jA hn;exact OV F VB hc (fun g hg=>A g (LO h1 g hg)) (LU C.X C.G C.V C.B h2 h3) (fun y hy=>QAK C.X C.G (C.N y (LO h4 y hy))) (fun _=>⟨QCm 2 k,C.er base⟩) body
theorem hs(A:∀g∈fs,dD P w K mg base (tbl r) (k+2) g){i:Nat}(Z:dD P w K mg base (tbl (r.set i R)) (k+3) (fx i).1)(hf:fs.contains (fx i).1=false:=by kernel_rfl)(e:(fx i).1=S7.getD i "":=by rfl):∀g∈(fx i).1::fs,dD P w K mg base (tbl (r.set i R)) (k+1+2) g:=by intro g hg;rcases QL.mp hg with rfl|hg;exact Z;refine((A g hg).mono (Wa _)).to ?_;show(qO _ _).getD X5=(qO _ _).getD X5;rw[C1];rintro rfl;rw[e,QU.mpr hg]at hf;cases hf
theorem Tj(X:K.In h)(G:h.Ns mainGlobals mg)(e:seen K=due w)(c:seenC K=dueC)(hF:(fT.all fun p=>(iR p.1 (top p.2)).isSome)=true)(hT:(tT.all fun p=>decide (p.2.length<=1000))=true)(hD:(dT.all fun p=>FG (p.2.map We)&&p.2.all fun p=>HS p.2)=true)
  (hC:cT.contains "WorldError"=true) (er:(∀y∈nT,mg y=none)->PK K=bM Zm->∀base,lY P w K mg base):Cx P w K h mg:=by
 injection e with e1 e;injection e with e2 e;injection e with e3 e;injection e with e4 e5;injection c with c1 c2;have e1:=wU.mp e1;have e2:=wU.mp e2;have e3:=wU.mp e3;have e4:=wU.mp e4;have e5:=wU.mp e5;have c1:=wU.mp c1;have hz:sizeLine=16777216:=QX;have nn:∀y∈nT,qZ K mainGlobals y=some none:=fun y hy=>d6 (e4 y hy);refine⟨X,G,fun p hp=>?_,fun p hp=>?_,nn,fun p hp=>LY (e1 p hp) (Qk.mp hF p hp),er (fun y hy=>QAK X G (nn y hy)) c2⟩;rcases Q2.mp hp with hp|hp
 ·obtain⟨q,hq,rfl⟩:=Q0.mp hp
  have:=of_decide_eq_true (Qk.mp hT q hq);exact HY (e2 q hq) (by omega)
 rcases Q2.mp hp with hp|hp
 ·exact Td (e3 p hp)
 obtain⟨x,hx,rfl⟩:=Q0.mp hp;exact MY (c1 x hx) (c1 _ (QU.mp hC));obtain⟨d1,d2⟩:=jA (Qk.mp hD p hp);exact DW (e5 p hp) d1 d2
end
end L2.L3
namespace L2.L3.K3
open PySem PySem.W PySem.Spec PyProof.Rows L2 L2.L3 L2.L3.Lib L2.L3.Q
noncomputable def y6:List PSp:=[eB,ZC,yC,BA,OA,mF,yE,hB,jD,KB,CC,VD,jC,IC,RE,XB,uC,fH,UD,XC,lB,YC,yD,xC,vB,UC,vC,BC,HB,SE,KD,OB 1,GB,FD,CL]
theorem eA(i:Nat)(h:QB7 i (S7.zip y6).length=true:=by rfl):(tbl y6).sp ((S7.zip y6).getD i ("",X5)).1=((S7.zip y6).getD i ("",X5)).2:=Bh (by kernel_rfl) i h
theorem u9:m5 (tbl y6):=by intro x hx;simp only[QL,qN,or_false]at hx;rcases hx with rfl|rfl|rfl|rfl|rfl|rfl|rfl<;>kernel_rfl
theorem all{P:Program}{w:World}{K:Frag}{h:Heap}{mg:Str->Option Value}{fa:Addr}(C:Cx P w K h mg)(hfa:mg "law"=some (.ref fa)) :
  ∃fd:FuncData,(∀(s:Shared) (u:Value),BindsTo s fd ⟨[u],[]⟩ [("_law_script",u)])/\∀base:Heap,K.In base->base.Ns mainGlobals mg->FnOk P w K mg base (n5 P w K) 39 fa fd ["_law_script"] (lift K CL):=by
 refine af C.X C.G (C.D (fx 34) (LD rfl)) rfl hfa (eA 34) (fun _ _ _ _ _ _ us hl=>by obtain⟨u,rfl⟩:=List.length_eq_one_iff.mp hl;rfl) fun base kb nb f fd F _=>?_;have A:∀g∈([]:List Str),dD P w K mg base (tbl y6) (0+2) g:=nofun;have A:=hc A (hv C A 0 eU (np EZ) (eA 0));have A:=hc A (hv C A 1 yQ (np YT) (eA 1));have A:=hc A (hv C A 2 PP (np eT) (eA 2));have A:=hc A (hv C A 3 iN (np LQ) (eA 3));have A:=hc A (hv C A 4 OP (np (rT (eA 2) (eA 3))) (eA 4));have A:=hc A (hv C A 5 kY (np L7) (eA 5));have A:=hc A (hv C A 6 yY (np (D7 (eA 5))) (eA 6));have A:=hc A (hv C A 7 MP (np (lT (eA 3) (eA 4))) (eA 7));have A:=hc A (hv C A 8 TR (np (uX (eA 4) (eA 5) (eA 6) (eA 7) (eA 0))) (eA 8));have A:=hc A (hv C A 9 IR (np HQ) (eA 9));have A:=hc A (hv C A 10 JN (np (OQ (eA 9))) (eA 10));have A:=hc A (hv C A 11 ER (np (bX (eA 3))) (eA 11));have A:=hc A (hv C A 12 NP (np mT) (eA 12));have A:=hc A (hv C A 13 PR (np (kX (eA 10) (eA 11) (eA 12))) (eA 13));have A:=hc A (hv C A 14 aU (np SZ) (eA 14));have A:=hc A (hv C A 15 IP (np lP) (eA 15));have A:=hc A (hv C A 16 jQ (np (mP (eA 15) (eA 3))) (eA 16));have A:=hc A (hv C A 17 zY (np (F7 (eA 16) (eA 15) (eA 9))) (eA 17));have A:=hc A (hv C A 18 jS (np (cX (eA 14) (eA 17))) (eA 18));have A:=hc A (hv C A 19 NR (np FQ) (eA 19));have A:=hc A (hv C A 20 YN (np nN) (eA 20));have A:=hc A (hv C A 21 JU (np (iT (eA 20) (cK 2) (cK 4))) (eA 21));have A:=hc A (hv C A 22 YU (np (JT (eA 21) (cK 0))) (eA 22));have A:=hc A (hv C A 23 LP (np (gP (eA 20) (cK 3) (cK 5))) (eA 23));have A:=hc A (hv C A 24 jK (np (HJ (eA 23))) (eA 24));have A:=hc A (hv C A 25 OR (np (GQ (eA 22) (eA 21) (eA 24) (cK 1) (A3 1))) (eA 25));have A:=hc A (hv C A 26 HP (np (fP (eA 25))) (eA 26));have A:=hc A (hv C A 27 yS (np (MQ (A3 0) (cK 6))) (eA 27));have A:=hc A (hv C A 28 ZN (np (oN (A3 2))) (eA 28));have A:=hc A (hv C A 29 jY (xX (eA 19) (eA 26) (eA 27) (eA 28) (cK 8)) (eA 29));have A:=hc A (hv C A 30 SR (np vX) (eA 30));have S:=hs A (h0 (r:=y6.set 31 X5) C 31 yK);have A:=hm A;have Z:=hv (r':=y6.set 31 (OB 0)) C S 31 yK (np TZ) (by kernel_rfl);have S:=hs A Z;have A:=hm A;have Z:=hv (r':=y6) C S 31 yK (np (C7 (by kernel_rfl))) (eA 31);have A:=hc A Z;have A:=hc A (hv C A 32 FK (np (mN u9)) (eA 32));have A:=hc A (hv C A 33 iU (np (IZ (eA 18) (eA 29) (eA 30) (eA 31) (eA 32) u9)) (eA 33));exact hl C A F vg (np (Ee (eA 0) (eA 1) (eA 8) (eA 13) (eA 33)))
theorem Kj:IniB Zm:=⟨⟨_,_,_,_,_,_,_,_,_,_,rfl,rfl⟩,RG (by kernel_rfl),by kernel_rfl,by kernel_rfl,by kernel_rfl,by kernel_rfl⟩
theorem fin{w:World}{mg:Str->Option Value}{fa:Addr}{h:Heap}{K:Frag}(X:K.In h)(e:seen K=due w/\seenC K=dueC)(G:h.Ns mainGlobals mg)(hfa:mg "law"=some (.ref fa)) :
  ∃fd:FuncData,(∀(s:Shared) (u:Value),BindsTo s fd ⟨[u],[]⟩ [("_law_script",u)])/\∀base:Heap,K.In base->base.Ns mainGlobals mg->FnOk QZ w K mg base (n5 QZ w K) 39 fa fd ["_law_script"] (lift K CL) :=
 all (Tj X G e.1 e.2 (by kernel_rfl) (by kernel_rfl) (by kernel_rfl) (by kernel_rfl) fun n c base=>Z8 c (by kernel_rfl) Kj (n _ (QU.mp (by kernel_rfl))) (by(repeat intro _);rfl)) hfa
noncomputable def hk:Hook:=⟨R4×T4,fun s=>(seen (fr s),seenC (fr s)),fun w=>(due w,dueC),fun w h=>∃K:Frag,K.In h/\seen K=due w/\seenC K=dueC,fun _ _ e=>⟨_,uU _,(WH e).1,(WH e).2⟩,fun _ _ _ ⟨K,X,e⟩ k=>⟨K,X.keeps k,e⟩⟩
theorem left:LeftO QZ qv ls xt (Hook.obs hk) (Hook.val hk) 5950:=fun w=>by have e:=World.withFollow_self w "special-get-raises";cases hb:w.params.followText "special-get-raises"<;>rw[hb]at e;have h1:=A8 w;have h2:=P8 w;have h3:=D8 w;unfold ends at h1 h2 h3;rw[e]at h1 h2 h3;exact GL h1 h2 h3;have h1:=Cg w;have h2:=Xg w;have h3:=xg w;unfold ends at h1 h2 h3;rw[e]at h1 h2 h3;exact GL h1 h2 h3
end L2.L3.K3
open PySem PySem.W PyProof.Rows
set_option maxRecDepth 100000 in
set_option maxHeartbeats 0 in
theorem PySem.Challenge.cw_quoteweave_k04_bad_rows_holds : PySem.Challenge.rw_quoteweave_k04_bad_rows.Holds := by
 refine holds_law (by kernel_rfl) fun said=>?_;refine holds_open (q:=L2.L3.Q.qv) (loose:=L2.L3.Q.ls) (Xt:=L2.L3.Q.xt) (XP:=XL L2.L3.Q.qv []) (Yf:=Hook.obs L2.L3.K3.hk) (Ya:=Hook.val L2.L3.K3.hk) (YP:=Hook.says L2.L3.K3.hk) (N:=5950) L2.L3.K3.left (Hook.of L2.L3.K3.hk) (Hook.keeps L2.L3.K3.hk) (fun s e=>xl_of s (w4.mp e).1) XL.keeps (by rfl) (by rfl) (by rfl) (fun s e=>recFacts_of (w4.mp e).2) (by rfl) (by first|assumption|decide +kernel) (by decide +kernel) ⟨rfl,rfl,rfl,rfl,rfl,by decide +kernel⟩ ?hw ?hc
 case hw=>w_witness2
 case hc=>exact L2.L3.walk_seenW (l:=qa) (k:=39) (x:="_law_script") (Fs:=fun w K=>L2.L3.Q.seen K=L2.L3.Q.due w/\L2.L3.Q.seenC K=L2.L3.Q.dueC) rfl rfl ⟨rfl,by decide,by decide⟩ (fun w h Y=>Y) fun w mg fa h K X e G m=>L2.L3.K3.fin X e G m
