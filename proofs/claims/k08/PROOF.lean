import PyProof.Rows.All
import Wide.All
import OpenK.AllK
import Wide.FinOn
import Lean
import PyProof.EqAt
import PyProof.EqKinds
import PyProof.TupleCall
import PySem.Challenge.RW_quoteweave_k08_unfinished_too_many
set_option Elab.async false
set_option linter.all false
set_option compiler.extract_closed false
set_option bootstrap.genMatcherCode false
set_option genInjectivity false
set_option genSizeOf false
set_option maxRecDepth 100000
set_option maxHeartbeats 4000000
open PySem.Str renaming ofString->QA,length_append->qY,join->QAv,length->QCg,empty->QDp
open PySem.W renaming Frag->QC,kia_one->qL,fnOf->qZ,keepIn->qq,nsIn->qw,findIn->wD,codeIn->WX,kitOne->WZ,mroIn->QAU,clsIn->QAV,WData->QAX,mg_of->QAY,hideAll_get->QAb,callWith_K->QAp,mg_none_of->QAu,lookIn->QAy,methodObj->QA3,hasDictIn->QA5,kitx_list->QA6,cellsFrom_some->QBW,instObj->QBg,hideAll_none->QBr,typeIn->QBw,of_hideAll->QCK,kitx_tuple->QCN,kitx_dict->QCd,plainGet->QC8,hideAll->QDR,kitMeta->QDa
open Bool renaming false_ne_true->QD,and_eq_true->Qc,false_eq_true->Qo,or_eq_true->ql,or_eq_false_iff->wU,eq_iff_iff->wb,not_eq_true'->wx,not_true->w6,not_false->WW,and_eq_true_iff->QAR,and_true->QAS,true_and->QAT,true_or->QAn,and_false->QAx,or_false->QBJ,false_or->QBK,or_true->QBf,false_and->QBv,and_self->QCX
open PySem.PyData renaming str->Jz,int->j0
open PySem.Value renaming none->j1,ref->j2
open PySem renaming wpAny_bind->QE,wpAny_pure->QT,wpAny_field->qF,wpAny_loadPart_at->qM,mem_of_lookup->qQ,wpAny_mono->qU,wpAny_holding->qi,wpAny_truthy_bool->qp,wpAny_callSpecial?_slot->qt,Spec->qu,wpAny_newObj_type->wA,wpAny_Call_Name_kw->wL,sizeLine_eq->wP,codeAny_call_builtin->wT,wpAny_setField_rec->wo,wpAny_seqItems->wt,wpAny_call_entry->WA,call_meets->WC,wpAny_execs_nil->WI,codeAny_mono->WJ,wpAny_standAt->WR,wpAny_pyIter_list->WS,wpAny_isSubtype_exc->Wf,wpAny_passesOwn->Wp,strLen_append->Ws,strKind->Wu,wpAny_pyNext_list_item->Wy,wpAny_Call_method_late->W0,wpAny_setField->QAA,wpAny_execs_cons->QAI,wpAny_updateSeq_pair->QAN,wpAny_binaryOp_repeat_ref->QA1,wpAny_call->QA8,typeIs_str->QBB,wpAny_onRaise->QBO,wpAny_pyNext_list_end->QBi,typeIs_int->QBq,refuseLoop_ref->QBx,wpAt_of_wpAny->QB4,intBits_le_64->QCM,wpAny_pyIter_tuple->QCR,wpAny_assign_Name->QCb,wpAny_sequenceKey->QCe,slot_list_getitem->QCf,wpAny_rule->QCl,wpAny_pyIter_enum->QCm,concat_meets->QC0,wpAny_typeOf->QC1,seqIndex_neg->QC2,noFill_tuple_add->QC9,wpAny_getItem_of->QDA,wpAny_madeBy_exc->QDB,wpAny_pyIter_zip->QDH,seqSlot_of->QDI,strKind_is->QDM,seqIndex_of->QDT,wpAt_bind->QDU,wpAny_letGo->QDZ,wpAny_Name->QDj,wpAny_load->QDk,strKind_is->QDm,Str->QDo
open PySem.Heap renaming get?_push_of_some->QF,lt_size->QS,get?_push_size->QY,size_push->qW,get?_update_other->qd,SameBut->wG,get?_update_self->wI,size_after_update->WE,get?_push_cases->QAM,ExtBut->QAg,get?_push_at->QBC,get?_update_ne->QB5,IsList->QB8,IsListIter->QDY
open List renaming length_map->QG,range->QH,mem_cons_of_mem->QI,length_append->QJ,replicate->QK,mem_cons_self->QL,length_cons->QM,size_toArray->QN,mem_cons->QO,map_cons->QR,getElem?_eq_some_iff->QZ,mem_map->Qa,contains_iff_mem->Qb,getElem?_map->Qd,append_nil->Qe,mem_range->Qf,mem_append_right->Qg,filterMap_eq_nil_iff->Qh,getElem?_append_right->Qj,lookup_cons->Ql,mem_append->Qp,all_eq_true->Qr,replicate_succ->Qs,filterMap_map->Qt,nil_append->Qu,getElem?_append_left->Qw,getElem?_set_ne->Qy,getD_eq_getElem?_getD->Q0,isEmpty_iff->Q3,map_append->Q5,forall_mem_cons->Q7,map_map->Q8,append_assoc->Q9,length_range->qA,all_cons->qB,getElem?_eq_getElem->qC,mem_singleton->qD,getElem?_set_self->qH,mem_append_left->qJ,length_replicate->qN,getElem?_eq_none->qP,not_mem_nil->qT,flatten_cons->qV,mem_of_getElem?->qa,filterMap_append->qg,any_cons->qj,take_of_length_le->qz,length_nil->wF,nodup_cons->wH,map_nil->wJ,contains_cons->wN,getElem?_drop->wO,length_drop->wQ,getElem?_replicate->wW,ext_getElem?->wY,getElem?_set->wZ,filterMap_cons->wa,length_set->we,lookup->wf,getElem?_range->wg,take_append_drop->wq,map_inj_left->wz,getElem?_cons_succ->w4,getElem_mem->WB,map->WG,foldl_cons->WK,length_singleton->WL,find?_cons->WM,cons_append->Wc,length_take->Wd,length->We,map_congr_left->Wi,filterMap_some->Wj,eq_of_mem_replicate->Wm,length_eq_zero_iff->Ww,append_eq_nil_iff->W5,filter_eq_nil_iff->W6,nodup_append->W7,mem_iff_getElem?->QAG,filterMap_filter->QAH,zipIdx_cons->QAJ,getElem?_modify->QAO,mem_of_mem_drop->QAQ,set->QAZ,foldl->QAa,of_mem_zip->QAc,forIn_cons->QAd,range_succ->QAi,mem_map_of_mem->QAj,mem_filterMap->QAo,filter_append->QAw,forIn_nil->QA0,range_add->QA2,any_eq_false->QA4,pairwise_map->QBG,append_cancel_right->QBH,getElem?_cons_zero->QBI,map_take->QBS,drop_length->QBV,drop_eq_nil_of_le->QBb,map_eq_append_iff->QBc,modify_succ_cons->QBd,modify_zero_cons->QBe,mem_filter->QBh,getD->QBj,zipIdx_nil->QBk,length_zip->QBm,length_filter_le->QBn,mem_of_mem_take->QBt,pairwise_append->QBu,nodup_nil->QBy,filterMap->QBz,getElem_of_mem->QB6,dropWhile_cons->QCE,filter_eq_self->QCF,set_cons_zero->QCG,set_cons_succ->QCH,zip_cons_cons->QCV,foldl_append->QCu,all_map->QC5,any_map->QC7,any_eq_true->QDG,filter_cons->QDN,append_inj'->QDP,take_left'->QDg,drop->QDq
open PySem.Challenge renaming pw_quoteweave_k08_unfinished_too_many->QU,rw_quoteweave_k08_unfinished_too_many->qe
open False renaming elim->QV
open Option.some renaming inj->QW,injEq->Qx
open Nat renaming le_refl->QX,ne_of_lt->Qk,lt_of_lt_of_le->Qm,le_trans->qG,add_sub_cancel_left->qR,le_add_right->qh,lt_irrefl->wE,ne_of_gt->Wk,zero_add->QAC,log2_lt->QAe,lt_or_ge->QAr,lt_of_le_of_lt->QAt,exists_eq_add_of_le->QBR,min_le_right->QBT,min_eq_left->QBo,pow_lt_pow_right->QBs,zero_le->QB1,le_succ->QB3,not_lt->QCi,lt_succ_of_lt->QCj,le_of_lt->QCw,mul_comm->QC3,toDigits->QC6,min_eq_right->QDO,blt->QDh,le_add_left->QDi
open Int renaming emod_lt_of_pos->Qi,emod_nonneg->Qv,eq_ofNat_of_zero_le->qS,toNat->wk,toNat_of_nonneg->Wg,toNat_natCast->W8,emod_eq_of_lt->QCv,natCast_mul->QDX
open LawfulBEq renaming eq_of_beq->Qn
open Ne renaming symm->Qz
open PySem.PyData renaming eqv->Q2,canLayAll0->wC,depthAll->wK,depth->WN,keyHash->WY,canLay0->QAB
open PySem.Builtin.SmallTypes renaming nextOf->Q4,ownedTupleIsFree->qm,fitsIndex->wX,ownedTupleHandOut->Wb
open Array renaming length_toList->Q6,toList_append->w9,getElem?_eq_some_iff->QAm,getElem?_map->QCQ,toList->QCx,toList_inj->QDF
open Option renaming map_some->qK,map_none->wy,isSome_iff_exists->QA9,getD_some->QDC
open PySem.Txt renaming split->qO,join->wm,slice->QAF,slice_le->QC4
open Function renaming comp_def->qX
open PySem.Builtin.Int renaming intBits->qf
open Prod renaming fst->qk,snd->QCW
open PySem.Builtin.Str renaming occurrences->qr,strKind->QB7
open PySem.F renaming slot_tuple_iterator_next->qy,called_enumerate->ww,slot_zip_next->WO,slot_dict_get->WP,excBase_ValueError->WV,args_tuple_iterator_next_1->Wn,entry_tuple_iterator_next->Wt,plainAttrs_list->Wv,slot_tuple_mul->QAK,slot_int_rmul->QAf,entry_enumerate_new->QAh,args_str_split_2->QAs,slot_dict_getitem->QAz,args_tuple_add_2->QBA,attr_ValueError->QBD,entry_str_split->QBE,entry_tuple_add->QBM,args_zip_next_1->QBP,plainAttrs_dict->QBQ,slot_str_split->QBU,slot_tuple_add->QBX,entry_zip_next->QBY,entry_dict_get->QBZ,plainAttrs_str->QBa,type_dict_get->QBl,store_ValueError->QCP,args_tuple_mul_2->QCS,args_int_rmul_2->QCk,slot_tuple_rmul->QCn,entry_tuple_mul->QCo,slot_int_index->QDD,entry_int_rmul->QDE,entry_bexc_ga->QDV,fills_int_mul->QDW
open PySem.SeqAt renaming EqAt->wB
open PySem.Builtin.List renaming listTooLong->wM
open Lean.Parser.Tactic renaming tacticSeq->wV
open PyProof.Rows renaming callWith_type1->wd,slot_tuple_getitem->wu,slot_tuple_getitem->Wr,subscriptTail_builtinR->Wz,callWith_builtin1->QAD,entry_tuple_getitem->QB0,assignInOrder_cons->QCL,args_tuple_getitem->QCO,assignInOrder_nil->QCc,Subscript_->QDl,split_le->QDn
open List.cons renaming injEq->wj,inj->QAW
open PySem.Builtin.Slice renaming slicePlaces->wr,sliceAdjust->Wa,sliceApplied->QAk
open PySem.Builtin.Tuple renaming tupleExact->wv,tupleTooMany->WU,tupleItemsOf->QAl
open PySem.W.WData renaming weightAll->w8,weight->QAP
open PySem.Calls renaming callWith_builtin->WD,Name_function_global->WT,spliced_cons->Wq,evalArgs_plain->QAL,spliced_nil->QA7,loadGlobal_global->QBL
open PySem.Obj renaming data_mapFields->WF,isFreed_of_fields->QAE,mapFields->QBN,mapSeq->QBp,cls_mapFields->QCh
open PySem.Stmt.FunctionDef renaming elim->WH
open PySem.W.KIN renaming signs_num->WQ
open Prod.mk renaming inj->Wh,injEq->QCa
open Nat.succ renaming inj->Wl
open PySem.Paired renaming length->Wo
open Classical renaming not_and_iff_not_or_not->Wx
open Iff renaming rfl->W9
open PySem.Code renaming quiet_builtin->QAq,isFrame->QCz
open PySem.Expr.FormattedValue renaming elim->QBF
open PySem.EntryCells renaming newEntry->QB2
open PySem.Heap.SameBut renaming update->QB9
open PySem.Shared renaming heap->QCA
open PySem.Expr.Attribute renaming elim->QCB
open PySem.Expr.Subscript renaming elim->QCC
open PySem.Expr.JoinedStr renaming elim->QCD
open PySem.SeqAt.EqAt renaming int_str->QCI,str_int->QCJ
open PySem.Expr.Constant renaming elim->QCT
open PySem.Expr.ListComp renaming elim->QCU
open PySem.StrLaws renaming join_split->QCY,split_free->QCZ,sliceText->QCt
open PySem.Expr.UnaryOp renaming elim->QCp
open PySem.Expr.Compare renaming elim->QCq
open PySem.NumText renaming digitsVal->QCr,AllDigits->QCs
open PySem.Around renaming under->QCy
open PySem.Expr.BoolOp renaming elim->QDJ
open PySem.Stmt.Assign renaming elim->QDK
open PySem.Stmt.Return renaming elim->QDL
open Sum.inr renaming inj->QDQ
open PyProof.Rows.IsTup renaming new->QDS
open PySem.Expr.BinOp renaming elim->QDb
open PySem.Expr.IfExp renaming elim->QDc
open PySem.Expr.Slice renaming elim->QDd
open PySem.Expr.Tuple renaming elim->QDe
open PySem.Stmt.Raise renaming elim->QDf
theorem dF{p:Prop}[Decidable p](h:¬p):decide p=false:=_root_.decide_eq_false h
theorem dT{p:Prop}[Decidable p](h:p):decide p=true:=_root_.decide_eq_true h
abbrev BB:=List (PySem.Addr×PySem.Obj)
abbrev CB:=PySem.Value -> PySem.Shared -> Prop
abbrev iA:=PySem.Addr -> Prop
abbrev P3:=List (QDo×QDo)
open Option renaming some->jb,none->js
open Bool renaming true->j3,false->Kz
open PySem renaming Value->ky,sizeLine->ke,Addr->kl,Shared->kt,wpAny->ka,model->Vz,Program->vb,mainGlobals->vl,World->vu,Heap->v6,starEach->Xz,compareOp->xf,PyData->x0,Around->x2,FuncData->x3,strIterType->Yz,Stmt->y1,bootBuiltins->Zz,assignEach->Z1,eval->zz,binaryOp->z4,sysModules->Gz,rawInt->gz,Scope->gV,Paired->ge,backTo->gl,IsPair->gn,attributeBase->gi,ExceptHandler->Hz,foldedSetIterable->hR,Operator->hT,DictEntry->hI,valueAt->hW,checkBuiltinCall->h8,swappedStores->h9,letOwnedTupleGo->Fz,Keyword->fy,CmpOp->fb,keywordEach->ft,NameKind->fa,holding->Dz,getItem->DC,assign->dy,Model->db,sliceBounds->dn,IsZip->dr,swapsWith->dt,call->dw,backToKw->d3,IsPart->d4,isInstance->d7,GenState->d8,bindArgs->Bz,subscripted->Bn,ZipApart->b0,BindsTo->Cz,codeAny->cv,setFlight->cC,noteFrame->c5,relabel->c6,assignInOrder->Ez,behindInMarks->ej,Meets->eg,Comprehension->eH,typeLookup->ef,IntMulOk->eN,cLine->eI,callerA->ei,Const->e4,tupleKind->e5,pyNext->e6,onTheHeap->Lz,field->L0,wpAny_specialOf->L4,codeAny_of_tree->lz,wpAny_stack_any->lf,standAt->le,OsState->lL,builtinsNs->ln,wpAny_Expr_any->lw,bindC->l4,PlainAttrs->l9,firstArgMember->Mz,intBits_add_le->mz,seq_tuple_add->mf,evalPart_none->mm,call_list_seq->mu,comprehension->mi,wpAny_attempt->m5,sub_enumerate->m7,checkTypeCall->m8,PassesOwn->m9,lastMarks->Nz,cellsFrom->nj,atKey->nL,setItem->nl,pyIter->nU,typeOf->na,Drawn->ni,callWith->nq
open Pure renaming pure->n5
open ToString renaming toString->n6
theorem n7.{u}{c:Prop}{d:Decidable c}(h:¬c){α:Sort u}{t e:α}:ite c t e=e:=_root_.if_neg h
theorem n8.{u}{c:Prop}{d:Decidable c}(h:c){α:Sort u}{t e:α}:ite c t e=t:=_root_.if_pos h
theorem n9{a b:Prop}(h:a)(k:¬a):b:=_root_.absurd h k
theorem Pz{a b:Prop}(h:a<->b):a=b:=_root_.propext h
theorem pz{p:Prop}[Decidable p](h:decide p=true):p:=_root_.of_decide_eq_true h
theorem zzd(h:True:=by decide):True:=trivial
theorem zzi(h:∀_:True,True=True:=by intro _;rfl):True:=trivial
theorem zzk(h:True=True:=by kernel_rfl):True:=trivial
theorem zzr(h:True=True:=by rfl):True:=trivial
theorem zzu(h:True=True:=by with_unfolding_all rfl):True:=trivial
theorem pu.{u,v}{α:Sort u}{β:Sort v}{a b:α}(f:α->β)(h:a=b):f a=f b:=_root_.congrArg f h
local macro_rules | `($x.$i:fieldIdx)=>if i.raw.isFieldIdx?==some 9 then `(($x).length) else Lean.Macro.throwUnsupported
open Lean in
def zzp:Nat->Syntax->Syntax
 | 0,s=>s
 | n+1,s=>let g:=Syntax.node .none
  if s.isIdent then g `Lean.Parser.Tactic.rcasesPat.one #[s] else if s.getKind==`Lean.Parser.Term.hole then g `Lean.Parser.Tactic.rcasesPat.ignore #[s[0]] else
  g `Lean.Parser.Tactic.rcasesPat.tuple #[.atom .none "⟨",g `null (s[1].getArgs.map λx=>if x.isAtom then x else g `Lean.Parser.Tactic.rcasesPatLo #[g `Lean.Parser.Tactic.rcasesPatMed #[g `null #[zzp n x]],g `null #[]]),.atom .none "⟩"]
local macro_rules | `(tactic| let $p:term:=$e:term)=>`(tactic| obtain $(⟨zzp 9 p⟩):rcasesPat:=$e)
set_option hygiene false in
local macro_rules | `(tactic| omega)=>`(tactic| first|decide|with_reducible assumption|exact L2.szL (by decide)|exact L2.szA (by with_reducible assumption) (by decide)|lia|omega (config:={})|(have:=PySem.sizeLine_eq;first|lia|omega (config:={})))
local macro_rules
 | `(%[ $xs,*|$n ])=>do
  let c:=n.raw.isNatLit?
  if c==none then Lean.Macro.throwUnsupported
  let b:=c==some 1
  let r:Lean.Term:=xs.getElems.foldr (λ(x r:Lean.Term)=>Lean.Syntax.mkApp (Lean.mkIdent (if b then `PX.acons else `PT.seq)) #[x,r]) (Lean.mkIdent (if b then `PX.anil else `PT.nil))
  return r
def zza:="Th ma aa Uh Di LU Lp Zq Vq Kq Ut Yh On Bt G9 Ag Gg Ys Ja Lh Ph Ca PU OU Ih ji Yt Yy gu yy ur kr Hs Ls Rg F9 Fg jg Ef Rf Sf Kl Jr lr Go Fo Do Lo xA Mh Rh Ka Oh Nh Sh Ah si Vi Ji Zi Hi Dh Fi Fh Gi Li Gh su Ht Bh xa Ch tu Yi AY RU Xi MU NU Ki ai Da lh ya mh Ni Ma EU IU Eh ki yi Pt Xa ui xi ci Ot Tt vi zi Va iy Vy Jy Ky py ay sy Bx Xx Ux uy vy xy jy Te jo Hx Uy Xy uY Gr Hr Ex Ax Tx Sx Rx Px Ox Nx Mx Lx di Fx Gx At oi zy Mi Os Xh Vh nh rh oh Kh Jh ph Vt Kt Dt Zh Ct Ig Eg Dg Cg Ds Gs Lg Ng Hg Mg Ug Bg Sg Og D9 Pg L9 yx Jx Mr Nr Af Rq Mq Pq yg Aq Tq Oq Nq Tf Aw Co Ei Ho Tw xx Xv nr gr Ew Iw No Mo kf Oo Yq ig Jg AE reduceIte"
def zzb:="LG fF gE jL T.isD lockA uH lock kill fC Tg.ix jD isMut frzAt BW pE.eq_1 pE.eq_2 EM.eq_1 EM.eq_2 EM.eq_3 EM.eq_4 P7 O7 N7 UJ.eq_1 List.modify_succ_cons List.modify_zero_cons Option.map_some List.length_cons List.length_nil List.getElem?_cons_zero List.getElem?_cons_succ List.cons_append List.nil_append List.set_cons_zero List.set_cons_succ Nat.reduceAdd Nat.reduceSub Nat.zero_add Bool.and_true Bool.true_and Bool.not_true Bool.not_false Bool.or_true Bool.true_or Bool.or_false Bool.false_or Bool.and_false Bool.false_and if_true if_false Bool.false_eq_true true_and and_true false_implies ne_eq reduceCtorEq not_false_eq_true not_true_eq_false implies_true forall_const Int.reduceLT Int.reduceLE Int.reducePow Int.reduceNeg Nat.reducePow and_self eq_self Option.some.injEq Sl.own.injEq Sl.bor.injEq and_assoc decide_true decide_false"
open Lean in
def zzc (s:String)(b:Bool):TSyntaxArray `Lean.Parser.Tactic.simpLemma:=(s.splitOn " ").toArray.map λx=>⟨.node .none `Lean.Parser.Tactic.simpLemma #[mkNullNode (if b then #[.node .none `Lean.Parser.Tactic.simpPre #[.atom .none "↓"]] else #[]),mkNullNode,mkIdent x.toName]⟩
set_option hygiene false in
local macro_rules
 | `(tactic| simp! $c:optConfig [$ls,*])=>`(tactic| simp $c:optConfig only [$ls,*,$(zzc zza true),*,$(zzc zzb false),*])
set_option hygiene false in
local macro_rules
 | `(#[$xs,*])=>if xs.getElems.isEmpty then Lean.Macro.throwUnsupported else `(⟨$xs,*⟩)
 | `(())=>`(by omega)
local macro_rules | `(command| def $d $s:optDeclSig $v:declVal)=>`(command| noncomputable def $d:declId $s:optDeclSig $v:declVal)
abbrev LS:=List QDo
abbrev LN:=List Nat
abbrev LJ:=List Int
abbrev LW:=List PySem.Value
namespace L2.L3.Q
open PySem PySem.W PySem.Spec PyProof.Rows
def Fu(x:List kl)(h:v6):QC:=x.filterMap λa=>(h.get? a).map λo=>(a,o)
noncomputable abbrev Ae:=(Str×Str×Arguments×FuncBody×gV)×(kl×List (Str×kl)×ky×kl)×Bool
def E8(h:x3)(b:Bool):Ae:=((h.name,h.qualname,h.params,h.body,h.scope),(h.globals,h.closure,h.defaults,h.builtins),b)
def FW(K:QC)(x:Str):Option Ae:=match qw K vl x with
 |some (jb (.ref f))=>(match K.lookup f with
  |some #[_,_,.func fd,_]=>jb (E8 fd (WX K fd.code x&&qq K (.ref f)))|_=>js)
 |_=>js
def CN(x:Str)(st:y1):Option Ae:=if k:st.ctorIdx=0 then @WH (λ_=>Option Ae) st k λ_ a b _ _ _ sc _ _ _=>jb (E8 (qZ x x a b sc .none .none .none .none js .none .none) j3) else js
def Op:ky->Option x0
 | .int i _=>jb (.int i)|.str z _=>jb (.str z)|.bool b=>jb (.bool b)|.none=>jb .none|_=>js
def tupD(K:QC)(f:kl):Option (List (Option x0)):=match K.lookup f with
 |some #[.type t,_,.seq its _,_]=>if t="tuple" then jb (its.toList.map Op) else js|_=>js
def Oj:ky->Option kl
 | .ref f=>jb f|_=>js
def Cj(K:QC)(u:ky):Option x0×Option (List (Option x0)):=match Oj u with
 |some f=>(js,tupD K f)|none=>(Op u,js)
def Ks:x0->Option x0×Option (List (Option x0))
 | .tuple h=>(js,jb (h.map jb))|d=>(jb d,js)
def zm:ky->Option Str
 | .str z _=>jb z|_=>js
noncomputable abbrev Ee:=Int×Option Str×Option x0×Option (List (Option x0))
def Dj(K:QC)(e:hI):Ee:=(e.hash,zm e.key,Cj K e.val)
def fe(w:vu)(p:Str×x0):Ee:=(WY w.params p.1,jb p.1,Ks p.2)
def PN(K:QC)(x:Str):Option (List Ee):=match qw K vl x with
 |some (jb (.ref a))=>if(a==Gz)=Kz then(match K.lookup a with
  |some #[.type t,js,.dict es _,sl]=>if t="dict"/\sl.size=0 then jb (es.toList.map (Dj K)) else js|_=>js) else js
 |_=>js
def xj(K:QC)(x:Str):Option (List (Option x0)):=match qw K vl x with
 |some (jb (.ref f))=>tupD K f|_=>js
def vj(K:QC)(x:Str):Option PyData:=match qw K vl x with
 |some (jb u)=>Op u|_=>js
def jW(K:QC)(x:Str):Bool:=match qw K vl x with
 |some js=>j3|_=>Kz
def clsNm(x:Str)(o:Obj):Bool:=match o.data with
 | .cls h=>h.name==x|_=>Kz
def clsAt(K:QC)(x:Str):Option Addr:=(K.find? λp=>clsNm x p.2).map (·.1)
def wOf(K:QC):Addr:=(clsAt K "WorldError").getD 0
def iOf(K:QC):Addr:=match wD K (.ref (wOf K)) "__init__" with
 |some (jb (.ref f))=>f|_=>0
def F8(o:Option (Option ky))(a:kl):Bool:=match o with
 |some (jb (.ref b))=>b==a|_=>Kz
def ZN(o:Option (Option ky))(i:String):Bool:=match o with
 |some (jb (.builtin j))=>j==i|_=>Kz
def Nd(o:Option (Option ky)):Bool:=match o with
 |some js=>j3|_=>Kz
def iN(o:Option ky)(i:String):Bool:=match o with
 |some (.type j)=>j==i|_=>Kz
def im(o:Option kl)(a:kl):Bool:=match o with
 |some b=>b==a|_=>Kz
def vx(h:Array (Option ky)):Bool:=match h.toList with
 |[_,_,_,_,o,_]=>ZN (jb o) "ValueError.__new__"|_=>Kz
def Nu:LW->Bool
 |[a,b,c,d]=>iN (jb a) "ValueError" && (iN (jb b) "Exception" && (iN (jb c) "BaseException" && iN (jb d) "object"))|_=>Kz
def jx(W:kl):LW->Bool
 | .ref b::r=>b==W&&Nu r|_=>Kz
def Jl(W C:kl):LW->Bool
 | .ref a::r=>a==C&&(if C=W then Nu r else jx W r)|_=>Kz
def Ek(W C:kl)(x:Str)(o:Option Obj):Bool:=match o with
 |some #[.type t,_,.cls cd,sl]=>t == "type" && (Jl W C cd.mro&&(cd.hasDict&&(!cd.hasDel&&(vx sl&&cd.name==x))))|_=>Kz
def aw(K:QC)(W f C:kl)(x:Str):Bool:=Ek W C x (K.lookup C)&&(F8 (wD K (.ref C) "__init__") f&&(iN (QBw K (.ref f)) "function" && (ZN (wD K (.ref C) "__setattr__") "object.__setattr__" && (ZN (wD K (.ref C) "__getattribute__") "BaseException.__getattribute__" && (Nd (wD K (.ref C) "__getattr__")&&(Nd (wD K (.ref C) "place")&&(ZN (wD K (.ref C) "__class__") "object.__class__" && (qq K (.ref C)&&im (clsAt K x) C))))))))
def LH(K:QC)(x:Str):Bool:=match qw K vl x with
 |some (jb (.ref C))=>aw K (wOf K) (iOf K) C x|_=>Kz
def zM(K:QC):Option Ae:=match K.lookup (iOf K) with
 |some #[_,_,.func fd,_]=>jb (E8 fd (WX K fd.code "WorldError.__init__" && qq K (.ref (iOf K))))|_=>js
def LI(st:y1):Option Ae:=if k:st.ctorIdx=0 then @WH (λ_=>Option Ae) st k λ_ a b _ _ _ sc _ _ _=>jb (E8 (qZ "__init__" "WorldError.__init__" a b sc .none .none .none .none js .none .none) j3) else js
def top(i:Nat):Stmt:=QU.main.body.getD i (.Pass #[0,0,0,0])
def kT:LN:=[1,2,3,4,5,6,7,9,10,11,12,13,14,15,16,17,18,20,21,22,23,24,25,26,27,28,29,30,32,33,34,35,36,37,38,39,40,41,42,43,45,46,47,48,49,50,51,52,53,54,55,56,57,58,59,60]
def qv:Program:={ QU with main:={ QU.main with body:=kT.map top } }
noncomputable abbrev ua:=List (Option Ae)×List (Option (List (Option x0)))×List (Option x0)×List Bool×List (Option (List Ee))
noncomputable abbrev da:=List Bool×Option Ae
def Cs(st:y1):Stmt:=if k:st.ctorIdx=2 then @Stmt.ClassDef.elim (λ_=>y1) st k λ_ _ _ b _ _ _ _ _ _ _=>b.getD 0 (.Pass #[0,0,0,0]) else .Pass #[0,0,0,0]
def sv:Stmt:=Cs (top 1)
def fT:List (Str×Nat):=([("_law_draw",46),("_law_next",47),("_law_keywords",45),("_law_name",48),("_law_against",49),("_law_event",50),("_law_world",51),("_law_lines",52),("_law_spread",53),("words_in",14),("is_made_of",15),("is_word",16),("is_name",17),("number_in",18),("number_within",29),("value_of",28),("values_by",26),("form_for",27),("are_unlike",30),("row_of",25),("names_of",41),("is_told",39),("quote_in",42),("has_stranger",40),("check_row",38),("entry_of",43),("read_world",37),("_law_caught",55),("_law_is_refused",54),("_law_ends_right",56),("_law_many_lines",57),("_law_twisted",58),("_law_counted",59),("law",60)]:List (String×Nat)).map λp=>(QA p.1,p.2)
def tT:List (Str×List x0):=[("KEYWORDS",[.str "person",.str "matter",.str "against",.str "see",.str "tell",.str "by",.str "at",.str "who",.str "what",.str "since",.str "tellers",.str "wordings",.str "apart",.str "leans",.str "hidden",.str "strike",.str "quote",.str "ground",.str "cut"]),("NAMED",[.str "name",.str "person",.str "matter"]),("MOST",[.int 10,.int 6,.int 15,.int 80])]
def sT:List (Str×x0):=[("LETTERS",.str "abcdefghijklmnopqrstuvwxyz"),("FIGURES",.str "0123456789"),("MOST_LETTERS",.int 8),("MOST_FIGURES",.int 9),("MOST_QUOTED",.int 6),("WORDING_ENDS",.int 6)]
def cT:LS:=(["WorldError","BadRow","Misplaced","Twice","NoName","TooMany","Unfinished"]:List String).map QA
def nT:LS:=(["ValueError","all","any","bool","enumerate","int","isinstance","len","list","max","raise","range","str","tuple","zip"]:List String).map QA
def dT:List (Str×List (Str×x0)):=[("FORMS",[("person",.tuple [.str "name",.str "rank",.str "floor",.str "needs"]),("matter",.tuple [.str "name"]),("against",.tuple [.str "name",.str "name"]),("see",.tuple [.str "time",.str "name",.str "name",.str "word"]),("tell",.tuple [.str "time",.str "name",.str "name",.str "name",.str "word"])]),("RANGES",[("rank",.tuple [.int 0,.int 99]),("floor",.tuple [.int 0,.int 99]),("needs",.tuple [.int 1,.int 4]),("time",.tuple [.int 0,.int 999999999]),("number",.tuple [.int 0,.int 999999999])]),("UNLIKE",[("against",.tuple [.int 1,.int 2]),("tell",.tuple [.int 2,.int 3])]),("SECTIONS",[("person",.int 0),("matter",.int 1),("against",.int 2),("see",.int 3),("tell",.int 3)]),("PEOPLE_AT",[("see",.tuple [.int 2]),("tell",.tuple [.int 2,.int 3])]),("MATTERS_AT",[("against",.tuple [.int 1,.int 2]),("see",.tuple [.int 3]),("tell",.tuple [.int 4])])]
def seenC(K:Frag):da:=(cT.map (LH K),zM K)
def dueC:da:=(cT.map λ_=>j3,LI sv)
def seen(K:Frag):ua:=(fT.map λp=>FW K p.1,tT.map λp=>xj K p.1,sT.map λp=>vj K p.1,nT.map (jW K),dT.map λp=>PN K p.1)
def due(w:vu):ua:=(fT.map λp=>CN p.1 (top p.2),tT.map λp=>jb (p.2.map jb),sT.map λp=>jb p.2,nT.map λ_=>j3,dT.map λp=>jb (p.2.map (fe w)))
def fr(s:kt):Frag:=Fu [3,6,4,31,30,28,27,44,43,56,55,68,67,80,79,92,91,104,103,107,112,111,117,116,124,123,131,130,138,137,139,140,141,142,143,144,145,146,147,148,149,150,151,152,153,154,161,160,166,165,173,172,180,179,187,186,194,193,195,196,197,198,199,200,201,202,203,210,209,215,214,222,221,227,226,232,231,239,238,246,245,253,252,260,259,267,266,272,271,279,278,284,283,289,288,294,293,301,300,306,305,313,312,318,317,323,322,330,329,335,334,340,339] s.1
def ls:LS:=["FORMS","RANGES","UNLIKE","SECTIONS","PEOPLE_AT","MATTERS_AT"]
def xt(s:kt):Bool:=xlAt qv [] s&&recOk (RowW.records qe.row.toRowW) s
def ends(w:vu)(b:Bool){α:Type}(f:kt->α):Option α:=(openEnds treeTable QU (w.withFollow "special-get-raises" b) 6278).map f
def os(s:kt):=openSeen qv ls (importedModules QU.main.body) xt j3 s
def Me:∀w:vu,ends w Kz (λs=>((os s).1,seen (fr s)))=jb ((openGood qv ls).1,due (w.withFollow "special-get-raises" Kz)):=by intro w;kernel_rfl
def ae:∀w:vu,ends w Kz (λs=>seenC (fr s))=jb dueC:=by intro w;kernel_rfl
def Ce:∀w:vu,ends w Kz (λs=>(os s).2)=jb (openGood qv ls).2:=by intro w;kernel_rfl
def Nn:∀w:vu,ends w j3 (λs=>((os s).1,seen (fr s)))=jb ((openGood qv ls).1,due (w.withFollow "special-get-raises" j3)):=by intro w;kernel_rfl
def Em:∀w:vu,ends w j3 (λs=>seenC (fr s))=jb dueC:=by intro w;kernel_rfl
def Fn:∀w:vu,ends w j3 (λs=>(os s).2)=jb (openGood qv ls).2:=by intro w;kernel_rfl
end L2.L3.Q
namespace L2
open PySem PySem.Spec PyProof.Rows
noncomputable abbrev AD:=Sum Int Str
def KP:AD->ky->Bool
 | .inl k,v=>Value.isInt k v|.inr x,v=>Value.isStrOf x v
def Av(w:vu):AD->Int
 | .inl k=>hashInt k|.inr x=>hashStr w x
def iB:∀{k:AD}{v:ky},KP k v=j3->(∃i t,k=Sum.inl i/\v=Value.int i t)∨(∃x t,k=Sum.inr x/\v=Value.str x t)
 | .inl i,v,h=>by let#[t,e]:=Value.isInt_shape (k:=i) (v:=v) h;exact .inl #[i,t,rfl,e]|.inr x,v,h=>by let#[t,e]:=Value.isStrOf_shape (x:=x) (v:=v) h;exact .inr #[x,t,rfl,e]
def V0(i:Int)(t:Tok):KP (.inl i) (.int i t)=true:=by simp[KP,Value.isInt]
def K0(x:Str)(t:Tok):KP (.inr x) (.str x t)=true:=by simp[KP,Value.isStrOf]
def Il(a b:Int):decide ((Sum.inl a:AD)=Sum.inl b)=(a==b):=by by_cases e:a=b;subst e;simp;have h:¬ (Sum.inl a:AD)=Sum.inl b:=λq=>e (Sum.inl.inj q);rw[dF h];exact(beq_eq_false_iff_ne.mpr e).symm
def Tl(a b:Str):decide ((Sum.inr a:AD)=Sum.inr b)=decide (a=b):=by by_cases e:a=b;subst e;simp;have h:¬ (Sum.inr a:AD)=Sum.inr b:=λq=>e (QDQ q);rw[dF h,dF e]
def El(a:Int)(b:Str):decide ((Sum.inl a:AD)=Sum.inr b)=false:=dF (λq=>nomatch q)
def Al(a:Str)(b:Int):decide ((Sum.inr a:AD)=Sum.inl b)=false:=dF (λq=>nomatch q)
def LB(prog:vb)(w:vu):PySem.KeyKind prog w AD where
 is:=KP
 hash:=Av w
 inj:=λv a b l z=>by
  rcases iB l with⟨i,t,rfl,rfl⟩| ⟨x,t,rfl,rfl⟩
  rcases iB z with⟨j,u,rfl,e⟩| ⟨y,u,rfl,e⟩
  ·injection e with e1 _;rw[e1]
  exact nomatch e;rcases iB z with⟨j,u,rfl,e⟩| ⟨y,u,rfl,e⟩
  ·exact nomatch e
  injection e with e1 _;rw[e1]
 byValue:=λk v h=>by rcases iB h with⟨i,t,rfl,rfl⟩| ⟨x,t,rfl,rfl⟩<;>rfl
 pyHash:=λhv h=>by
  rcases iB hv with⟨i,t,rfl,rfl⟩| ⟨x,t,rfl,rfl⟩
  exact wpAny_pyHash_int h;exact wpAny_pyHash_str h
 eqBool:=λg hv h=>by
  rcases iB g with⟨i,t,rfl,rfl⟩| ⟨x,t,rfl,rfl⟩
  rcases iB hv with⟨j,u,rfl,rfl⟩| ⟨y,u,rfl,rfl⟩
  ·rw[Il]at h;exact wpAny_eqBool_int h
  rw[El]at h;exact QCI i t y u _ _ _ _ h;rcases iB hv with⟨j,u,rfl,rfl⟩| ⟨y,u,rfl,rfl⟩
  ·rw[Al]at h;exact QCJ x t j u _ _ _ _ h
  rw[Tl]at h;exact wpAny_eqBool_str h
 «strs»:=λk x t v h=>by
  rcases iB h with⟨i,u,rfl,e⟩| ⟨y,u,rfl,e⟩
  exact nomatch e;injection e with e1 _;subst e1;cases v<;>rfl
def JT(prog:vb)(w:vu)(i:Int)(t:Tok):(LB prog w).is (.inl i) (.int i t)=true:=V0 i t
def iT(prog:vb)(w:vu)(x:Str)(t:Tok):(LB prog w).is (.inr x) (.str x t)=true:=K0 x t
set_option genInjectivity true in
inductive V where
 |non|bl (b:Bool)|int (i:Int)|str (x:Str)|byt (b:Array UInt8)|flt (b:UInt64)|ref (a:kl)|ty (n:String)
 deriving DecidableEq
abbrev LV:=List V
def ZA:V->ky->Prop
 | .non,u=>u=j1|.bl b,u=>u=Value.bool b|.int i,u=>∃t,u=Value.int i t|.str x,u=>∃t,u=Value.str x t|.byt b,u=>∃t,u=Value.bytes b t|.flt b,u=>∃t,u=Value.float b t|.ref a,u=>u=j2 a|.ty n,u=>u=Value.type n
noncomputable abbrev YA:LV->LW->Prop:=ge ZA
def YA.length(r:YA xs us):xs.9=us.length:=Wo r
def YA.get:∀{xs:LV}{us:LW}{i:Nat}{x:V},YA xs us->xs[i]?=jb x->∃u,us[i]?=jb u/\ZA x u
 |_,_,_,_,.nil,e=>by simp at e|_,_,0,_,.cons r _,e=>by simp at e;subst e;exact#[_,rfl,r]|_,_,i+1,x,.cons _ t,e=>by let#[u,y,h]:=YA.get (i:=i) (x:=x) t (by simpa using e);exact#[u,by simpa using y,h]
def YA.set(r:ZA x u):∀{xs:LV}{us:LW}(i:Nat),YA xs us->YA (xs.set i x) (us.set i u)
 |_,_,_,.nil=>.nil|_,_,0,.cons _ t=>.cons r t|_,_,i+1,.cons q t=>.cons q (YA.set r i t)
def YA.append(r:YA xs us)(s:YA ys h):YA (xs++ys) (us++h):=by
 induction r with|nil=>exact s|cons a _ i=>exact .cons a i
def YA.take:∀{xs:LV}{us:LW}(n:Nat),YA xs us->YA (xs.take n) (us.take n)
 |_,_,0,_=>.nil|_,_,_+1,.nil=>.nil|_,_,n+1,.cons r t=>.cons r (YA.take n t)
def YA.drop:∀{xs:LV}{us:LW}(n:Nat),YA xs us->YA (xs.drop n) (us.drop n)
 |_,_,0,r=>r|_,_,_+1,.nil=>.nil|_,_,n+1,.cons _ t=>YA.drop n t
def xK:Option V->Option ky->Prop
 |some v,jb u=>ZA v u|none,js=>True|_,_=>False
def KV{h:Type}:List (h×V)->List (h×ky)->Prop:=ge λ(p:h×V) (q:h×ky)=>p.1=q.1/\ZA p.2 q.2
def kV:AD->V
 | .inl i=>.int i|.inr x=>.str x
inductive HO where
 |lst (xs:LV)
 |tup (xs:LV)
 |dK (kvs:List (AD×V))|dT (kvs:List (List AD×V))
 |set (S:Int->Bool) (n:Nat)
 |ins (C dx:kl) (fs:List (Str×V))
 |own (x:kl)
 |xd (fs:List (Str×V))
 |met (f x:kl)
 |rng (lo hi:Int)
 |frz (o:Obj) (u:HO)
 |tbl (ps:Array ky)
 |ext (φ:v6->Prop)
noncomputable abbrev Hp:=kl->Option HO
def LA(H:Hp)(a:kl)(o:HO):Hp:=λb=>if b=a then jb o else H b
def fA:LA H a o a=jb o:=by unfold LA;rw[n8 rfl]
def vA(h:b≠a):LA H a o b=H b:=by unfold LA;rw[n7 h]
def Ta:LA (LA H a o) a u=LA H a u:=by funext b;unfold LA;split<;>rfl
def CA{H:Hp}(h:H a=jb o)(h':H b=js):a≠b:=by intro e;subst e;rw[h]at h';cases h'
section
variable(P:vb)(w:vu)
def NA(H:Hp)(h:v6)(a:kl):HO->Prop
 | .lst k=>k.9<=ke/\∃(z:LW) (n:Nat),YA k z/\h.get? a=jb { cls:=.type "list",data:=.seq z.toArray n }|.tup k=>k.9<=ke/\∃z:LW,YA k z/\IsTup h a z.toArray|.dK y=>y.9<=ke/\(a==Gz)=Kz/\∃vs,KV y vs/\h.DictOf (LB P w) a vs|.dT y=>y.9<=ke/\(a==Gz)=Kz/\∃k:List (List AD×kl×ky),
   ge (λ(p:List AD×V) (q:List AD×kl×ky)=>p.1=q.1/\H q.2.1=jb (.tup (p.1.map kV))/\ZA p.2 q.2.2) y k /\
   ∃o l X,h.get? a=jb o/\o.ExactDict/\o.data=.dict l X/\l.toList=k.map (entryOfKey (e5 (LB P w)))/\(k.map (·.1)).Nodup
 | .set S n=>h.SetOf (intKind P w) a S n|.ins C e fs=>H e=jb (.own a)/\fs.9<=1000/\e≠a/\h.get? a=jb (QBg C e) /\
   ∃b,h.Ns1 e b/\(∀f,xK (fs.lookup f) (b f))/\PySem.Within b (fs.map (·.1))
 | .own _=>∃o,h.get? a=jb o|.xd fs=>∃b,h.Ns1 a b/\∀f,xK (fs.lookup f) (b f)|.rng r s=>∃t u v,h.get? a=jb { cls:=.type "range",data:=.fields (List.toArray [.int r t,.int s u,.int 1 v]) }|.frz o u=>h.get? a=jb o/\NA H h a u|.tbl m=>h.get? a=jb { cls:=.none,data:=.fields m }|.met f x=>h.get? a=jb (QA3 (.ref f) (.ref x))|.ext g=>g h/\(∃o,h.get? a=jb o)/\∀j i:v6,g j->(∀o,j.get? a=jb o->i.get? a=jb o)->g i
def SH(H:Hp)(h:v6):Prop:=∀a o,H a=jb o->NA P w H h a o
end
section
variable{P:vb}{w:vu}{H H':Hp}{h h':v6}{a:kl}{o:HO}
def NA.lt(x:NA P w H h a o):a<h.1.size:=by
 cases o with|lst k=>let#[_,_,_,_,e]:=x;exact QS e|tup k=>let#[_,_,_,p]:=x;exact p.lt|dK z=>let#[_,_,_,_,o,_,_,e,_]:=x;exact QS e|dT z=>let#[_,_,_,_,o,_,_,e,_]:=x;exact QS e|set S n=>let#[o,_,_,_,e,_]:=x;exact QS e|ins C m fs=>let#[_,_,_,e,_]:=x;exact QS e|own y=>let#[_,e]:=x;exact QS e|xd fs=>let#[_,#[_,_,_,e,_],_]:=x;exact QS e|rng j l=>let#[_,_,_,e]:=x;exact QS e|frz i u=>let#[e,_]:=x;exact QS e|tbl g=>exact QS (show h.get? a=jb _ from x)|met f y=>exact QS (show h.get? a=jb _ from x)|ext b=>let#[_,#[_,e],_]:=x;exact QS e
def Paired.mapP{α x:Type}{F G:α->x->Prop}{l₁:List α}{l₂:List x}(r:ge F l₁ l₂)(f:∀a b,F a b->G a b):ge G l₁ l₂:=by
 induction r with|nil=>exact .nil|cons a _ i=>exact .cons (f _ _ a) i
def NA.stay(x:NA P w H h a o)(k:∀b u,(b=a∨H b=jb (.own a))->h.get? b=jb u->h'.get? b=jb u)
  (A:∀b,H b=jb (.own a)->H' b=jb (.own a)) (K:∀b xs,H b=jb (.tup xs)->H' b=jb (.tup xs)):NA P w H' h' a o:=by
 induction o with|lst xs=>let#[z,l,n,r,e]:=x;exact#[z,l,n,r,k _ _ (.inl rfl) e]|tup xs=>let#[z,l,r,g,e,c]:=x;exact#[z,l,r,g,k _ _ (.inl rfl) e,c]|dK X=>let#[z,y,vs,r,g,i,j,e,c]:=x;exact#[z,y,vs,r,g,i,j,k _ _ (.inl rfl) e,c]|dT X=>let#[z,y,xs,r,g,i,j,e,c]:=x;exact#[z,y,xs,Paired.mapP r λp q z=>#[z.1,K _ _ z.2.1,z.2.2],g,i,j,k _ _ (.inl rfl) e,c]|set S n=>let#[g,i,j,t,e,c]:=x;exact#[g,i,j,t,k _ _ (.inl rfl) e,c]|ins C I fs=>let#[d,z,Z,e,s,#[m,i,j,B,c],r]:=x;exact#[A _ d,z,Z,k _ _ (.inl rfl) e,s,#[m,i,j,k _ _ (.inr d) B,c],r]|own y=>let#[g,e]:=x;exact#[g,k _ _ (.inl rfl) e]|xd fs=>let#[s,#[m,i,j,e,c],r]:=x;exact#[s,#[m,i,j,k _ _ (.inl rfl) e,c],r]|rng F G=>let#[t,u,v,e]:=x;exact#[t,u,v,k _ _ (.inl rfl) e]|frz g u W=>let#[e,q]:=x;exact#[k _ _ (.inl rfl) e,W q]|tbl Y=>have e:h.get? a=jb { cls:=.none,data:=.fields Y }:=x;show h'.get? a=jb { cls:=.none,data:=.fields Y };exact k a _ (.inl rfl) e|met f y=>have e:h.get? a=jb (QA3 (.ref f) (.ref y)):=x;show h'.get? a=jb (QA3 (.ref f) (.ref y));exact k a _ (.inl rfl) e|ext E=>let#[p,#[o,e],st]:=x;exact#[st _ _ p λo q=>k _ _ (.inl rfl) q,#[o,k _ _ (.inl rfl) e],st]
def SH.lt(x:SH P w H h)(e:H a=jb o):a<h.1.size:=(x a o e).lt
def SH.fresh(x:SH P w H h)(e:h.1.size<=a):H a=none:=by
 cases q:H a with|none=>rfl|some u=>exact n9 (Qm (x.lt q) e) (wE _)
def SH.kept(x:SH P w H h)(k:∀b u,h.get? b=jb u->h'.get? b=jb u):SH P w H h':=λa o e =>
 (x a o e).stay (λb u _ q=>k b u q) (λ_ q=>q) λ_ _ q=>q
def SH.laid(x:SH P w H h)(k:∀b u,h.get? b=jb u->h'.get? b=jb u)(g:h.1.size<=a)(new:NA P w (LA H a o) h' a o):SH P w (LA H a o) h':=λb u e=>by have y:=x.fresh g;by_cases z:b=a;subst z;rw[fA]at e;cases e;exact new;rw[vA z]at e;exact(x b u e).stay (λc v _ q=>k c v q) (λc q=>by rw[vA (CA q y)];exact q) λc i q=>by rw[vA (CA q y)];exact q
end
def Rd(H:Hp)(a:kl)(u:HO):Prop:=H a=jb u∨∃o,H a=jb (.frz o u)
def Rd.ok(r:Rd H a u)(x:SH P w H h):NA P w H h a u:=by
 rcases r with r|⟨o,r⟩
 exact x a u r;let#[_,q]:=x a _ r;exact q
def bu:Option HO->Prop
 |some (.lst _)=>True|some (.dK _)=>True|some (.dT _)=>True|some (.set _ _)=>True|some (.ins _ _ _)=>True|some (.ext _)=>True|_=>False
section
variable{P:vb}{w:vu}{H:Hp}{h h':v6}{x e:kl}{a:HO}
def SH.write(ok:SH P w H h)(m:bu (H x))(s:e=x∨H e=jb (.own x))(k:∀b u,b≠e->h.get? b=jb u->h'.get? b=jb u)(o:∃u,h'.get? e=jb u)
  (new:NA P w (LA H x a) h' x a):SH P w (LA H x a) h':=λb u q=>by
 have i:∀c y,H c=jb (.own y)->c≠x:=λc y r z=>by subst z;rw[r]at m;exact m
 have j:∀c l,H c=jb (.tup l)->c≠x:=λc l r z=>by subst z;rw[r]at m;exact m
 by_cases n:b=x;subst n;rw[fA]at q;cases q;exact new;rw[vA n]at q;by_cases g:b=e;have p:H b=jb (.own x):=by rcases s with z|z;exact n9 (g.trans z) n;rw[g];exact z
 rw[q]at p;cases p;let#[v,hv]:=o;exact#[v,by rw[g];exact hv];refine(ok b u q).stay (λc v hc r=>k c v ?_ r) (λc r=>by rw[vA (i c b r)];exact r) λc l r=>by rw[vA (j c l r)];exact r
 rcases hc with rfl|hc;exact g;rintro rfl;rcases s with z|z;exact i c b hc z;rw[hc]at z;cases z;exact n rfl
end
structure Un(fs ex:List kl)(H H':Hp)(h h':v6):Prop where
 keep:∀b o,h.get? b=jb o->H b=js->b∉fs->b∉ex->h'.get? b=jb o
 slot:∀b o,h.get? b=jb o->H b=js->b∈fs->b∉ex->∃sl,h'.get? b=jb { o with slots:=sl }
 free:∀b o,h.get? b=jb o->H b=js->b∉ex->H' b=js
 there:∀b o,h.get? b=jb o->b∉ex->∃o',h'.get? b=jb o'
 tups:∀b xs,H b=jb (.tup xs)->H' b=jb (.tup xs)
 frzs:∀b o u,H b=jb (.frz o u)->H' b=jb (.frz o u)
 tbls:∀b ps,H b=jb (.tbl ps)->∃more,H' b=jb (.tbl (ps++more))
section
variable{y v ex w:List kl}{H d g:Hp}{h c f h':v6}{a x e:kl}{o:HO}
def Un.any(u:Un y ex H d h c)(q:h.get? b=jb z)(n:H b=js)(k:b∉ex):∃j,c.get? b=jb { z with slots:=j }:=by by_cases i:b∈y;exact u.slot b z q n i k;exact#[z.slots,u.keep b z q n i k]
def Un.kept(k:∀b u,h.get? b=jb u->h'.get? b=jb u):Un y ex H H h h' :=
 #[λb z q _ _ _=>k b z q,λb z q _ _ _=>#[z.slots,k b z q],λ_ _ _ n _=>n,λb z q _=>#[z,k b z q],λ_ _ q=>q,λ_ _ _ q=>q,λ_ i q=>#[#[],by rw[q];simp]]
def Un.refl:Un y ex H H h h:=Un.kept λ_ _ q=>q
def Un.laid(k:∀b u,h.get? b=jb u->h'.get? b=jb u)(j:h.1.size<=a)(z:H a=js):Un y ex H (LA H a o) h h' where
 keep:=λb u q _ _ _=>k b u q
 slot:=λb u q _ _ _=>#[u.slots,k b u q]
 free:=λb u q n _=>by rw[vA (Qk (Qm (QS q) j))];exact n
 there:=λb u q _=>#[u,k b u q]
 tups:=λb i q=>by rw[vA (CA q z)];exact q
 frzs:=λb u i q=>by rw[vA (CA q z)];exact q
 tbls:=λb l q=>#[#[],by rw[vA (CA q z),q];simp]
def Un.write(j:bu (H x))(Y:e=x∨H e=jb (.own x))(k:∀b u,b≠e->h.get? b=jb u->h'.get? b=jb u)(m:∃u,h'.get? e=jb u):Un y ex H (LA H x o) h h':=by
 have p:∀b,H b=js->b≠x:=λb n z=>by subst z;rw[n]at j;exact j
 have s:∀b,H b=js->b≠e:=λb n z=>by subst z;rcases Y with r|r;exact p b n r;rw[n]at r;cases r
 have l:∀b u,H b=jb u->¬ bu (jb u)->b≠x:=λb u q nm z=>by subst z;rw[q]at j;exact nm j
 refine#[λb u q n _ _=>k b u (s b n) q,λb u q n _ _=>#[u.slots,k b u (s b n) q],λb u q n _=>by rw[vA (p b n)];exact n,λb u q _=>?_,
  λb X q=>by rw[vA (l b _ q λz=>z)];exact q,λb u X q=>by rw[vA (l b _ q λz=>z)];exact q,λb Z q=>#[#[],by rw[vA (l b _ q λz=>z),q];simp]]
 by_cases i:b=e;subst i;exact m;exact#[u,k b u i q]
def Un.mono(u:Un y ex H d h c)(l:∀b∈y,b∈v)(j:∀b∈ex,b∈w):Un v w H d h c :=
 #[λb i q n m k=>u.keep b i q n (λz=>m (l b z)) λz=>k (j b z),λ_ _ q n _ k=>u.any q n λz=>k (j _ z),λb i q n k=>u.free b i q n λz=>k (j b z),λb i q k=>u.there b i q λz=>k (j b z),u.tups,u.frzs,u.tbls]
end
def Vu(h:v6)(H:Hp):List Addr:=(QH h.1.size).filter λa=>(H a).isSome
def JR(h:v6)(H:Hp):Heap:=QDR h (Vu h H)
def R0(h:v6)(H:Hp):(JR h H).1.size=h.1.size:=PySem.W.hideAll_size _ _
def P8{h:v6}{H:Hp}(e:h.get? b=jb o)(n:H b=js):(JR h H).get? b=jb o :=
 QAb _ e λx=>by have q:(H b).isSome=true:=(QBh.mp x).2;rw[n]at q;simp at q
def jd(e:(JR h H).get? b=jb o):h.get? b=jb o/\H b=none:=by
 have y:h.get? b=jb o:=QCK (Vu h H) e;refine#[y,?_];cases q:H b with|none=>rfl|some x=>have u:b∈Vu h H:=QBh.mpr #[Qf.mpr (QS y),by simp[q]];have z:(JR h H).get? b=none:=QBr (Vu h H) u;rw[z]at e;cases e
structure Mod(K:QC)(mg:Str->Option ky)(base:v6):Prop where
 kin:K.In base
 glob:base.Ns vl mg
 blt:∃mb,base.Ns ln mb/\∀x:Str,x≠"__name__"->mb x=Zz x
 nolimit:base.NoLimit
structure Cx where
 prog:vb
 w:vu
 K:QC
 mg:Str->Option ky
 base:v6
 A:x2
 N:LS
 s₀:kt
 H₀:Hp
 env:Env
 outer:List Env
 stack:List Env
 ex:List kl
 fn:Str->Bool
 calm:Bool
 pn:BB
 xe:ky->kt->Prop
def HP(l:List Env):List Addr:=l.filterMap (·.frame)
noncomputable abbrev Cx.fs(X:Cx):List Addr:=HP X.outer
def Zt(sc:gV)(x:Str):Prop:=sc.names.lookup x=jb .local∨sc.names.lookup x=jb .cell∨sc.names.lookup x=jb .free
def du(sc:gV)(x:Str):Prop:=sc.names.lookup x=jb .local∨sc.names.lookup x=jb .cell
def Nw(env:Env)(h:v6)(m:Str->Option ky)(x:Str)(u:ky):Prop :=
 (env.kindOf x=jb .local/\m x=jb u)∨((env.kindOf x=jb .cell∨env.kindOf x=jb .free)/\∃c,env.cells.lookup x=jb c/\h.IsCell c (jb u))
structure Cx.Ok(X:Cx):Prop where
 mod:Mod X.K X.mg X.base
 kind:X.env.scope.kind=.function
 glob:X.env.globals=vl
 blt:X.env.builtins=ln
 above:X.s₀.1.1.size<=X.env.locals
 inj:∀x y c,X.env.cells.lookup x=jb c->X.env.cells.lookup y=jb c->x=y
 has:∀x,(X.env.kindOf x=jb .cell∨X.env.kindOf x=jb .free)->∃c,X.env.cells.lookup x=jb c
 cab:∀x c,X.fn x=j3->X.env.cells.lookup x=jb c->X.s₀.1.1.size<=c
 hd:X.calm=j3->X.A.handled=js
 frames:X.A.frames=jb X.stack
 stk:X.stack=X.outer∨(X.stack=X.env::X.outer/\X.env.frame=jb X.env.locals)
 exf:∀b∈X.ex,b≠X.env.locals/\∀x c,X.env.cells.lookup x=jb c->c≠b
 bs:∀b o,X.base.get? b=jb o->X.s₀.1.get? b=jb o/\X.H₀ b=js
 bsz:X.base.1.size<=X.s₀.1.1.size
 noex:∀b o,X.base.get? b=jb o->b∉X.ex
 exfs:∀b∈X.ex,b∉X.fs
 funs:X.s₀.1.FunFrames X.base X.outer
 frf:∀b∈X.fs,X.H₀ b=js
structure Inv(X:Cx)(pins:BB)(σ:List (Option V))(H:Hp)(s:kt):Prop where
 ok:X.Ok
 os:s.os=X.s₀.os
 bare:AllBare s.gens
 base:Un X.fs X.ex X.H₀ H X.s₀.1 s.1
 loc:∃m,s.1.Ns X.env.locals m/\∀(i:Nat) (x:Str) (v:V),X.N[i]?=jb x->σ[i]?=jb (jb v)->Zt X.env.scope x->∃u,ZA v u/\Nw X.env s.1 m x u
 cell:∀x c,X.env.cells.lookup x=jb c->∃v,s.1.IsCell c v
 free:H X.env.locals=js
 freeC:∀x c,X.env.cells.lookup x=jb c->H c=js
 pin:∀p∈X.pn++pins,s.1.get? p.1=jb p.2/\H p.1=js/\p.1≠X.env.locals/\p.1∉X.fs/\∀v,p.2.data≠.cell v
 hok:SH X.prog X.w H s.1
 len:σ.9=X.N.9
section
variable{X:Cx}{f:BB}{σ:List (Option V)}{H H':Hp}{s:kt}{h':v6}
def Cx.Ok.nofr(ok:X.Ok)(e:X.base.get? b=jb o):b∉X.fs:=λh=>by have:=(ok.funs.mem h).1;rw[e]at this;cases this
def Inv.bs(I:Inv X f σ H s):∀b o,X.base.get? b=jb o->s.1.get? b=jb o/\H b=none:=λb o e =>
 #[I.base.keep b o (I.ok.bs b o e).1 (I.ok.bs b o e).2 (I.ok.nofr e) (I.ok.noex b o e),I.base.free b o (I.ok.bs b o e).1 (I.ok.bs b o e).2 (I.ok.noex b o e)]
def Inv.bk(I:Inv X f σ H s):∀b o,X.base.get? b=jb o->s.1.get? b=jb o:=λb o e=>(I.bs b o e).1
def Inv.mod(I:Inv X f σ H s):Mod X.K X.mg X.base:=I.ok.mod
def Inv.kIn(I:Inv X f σ H s):X.K.In s.heap:=I.ok.mod.kin.keeps I.bk
def Inv.fr(I:Inv X f σ H s):∃m,Fr X.base X.env.locals s.1 m :=
 let#[m,h,_]:=I.loc
 #[m,h,I.bk,qG I.ok.bsz I.ok.above]
def Inv.lt(I:Inv X f σ H s):X.env.locals<s.1.1.size:=let#[_,h,_]:=I.loc;h.lt
def Inv.sz(I:Inv X f σ H s):X.s₀.1.1.size<=s.1.1.size:=qG I.ok.above (QCw I.lt)
def Inv.nofs(I:Inv X f σ H s)(h:s.1.1.size<=a):a∉X.fs:=λy=>by let#[_,o,x,_]:=I.ok.funs.mem y;exact n9 (Qm (QS x) (qG I.sz h)) (wE _)
def Inv.cne(I:Inv X f σ H s):∀x c,X.env.cells.lookup x=jb c->c≠X.env.locals:=λx c e z=>by let#[v,o,u,hd]:=I.cell x c e;let#[m,#[k,a,b,h,y,_],_]:=I.loc;rw[z,h]at u;cases u;rw[y]at hd;cases hd
def Inv.funs(I:Inv X f σ H s):s.1.FunFrames X.base X.outer:=by
 have all:∀(l:List Env),(∀b∈HP l,b∈X.fs)->X.s₀.1.FunFrames X.base l->s.1.FunFrames X.base l:=by
  intro l;induction l with|nil=>intro _ _;trivial|cons j r k=>intro u hl;let#[hk,#[L,o,h,i,g,hd],a]:=hl;have y:L∈X.fs:=u L (by unfold HP;rw[wa,h];exact QL);let#[m,e]:=I.base.slot L o g (I.ok.frf L y) y λz=>I.ok.exfs L z y;exact#[hk,#[L,_,h,i,e,hd],k (λb x=>u b (by unfold HP;rw[wa,h];exact QI _ x)) a]
 exact all X.outer (λ_ x=>x) I.ok.funs
def Inv.stack(I:Inv X f σ H s):s.1.FunFrames X.base X.stack:=by
 rcases I.ok.stk with e|⟨e,x⟩
 rw[e];exact I.funs;rw[e];let#[m,h,_]:=I.loc;refine .cons (by rw[I.ok.kind];decide) x h ?_ I.funs;exact Heap.get?_none_of_le (qG I.ok.bsz I.ok.above)
def Inv.stkSub(I:Inv X f σ H s):∀b∈HP X.stack,b∈X.env.locals::X.fs:=λb h=>by
 rcases I.ok.stk with e|⟨e,x⟩
 rw[e]at h;exact QI _ h;rw[e]at h;unfold HP at h;rw[wa,x]at h;exact h
def Inv.stkFree(I:Inv X f σ H s):∀b∈HP X.stack,H b=none:=λb h=>by rcases QO.mp (I.stkSub b h) with e|h;rw[e];exact I.free;let#[_,o,x,_]:=I.ok.funs.mem h;exact I.base.free b o x (I.ok.frf b h) λz=>I.ok.exfs b z h
def Inv.step{g':Array d8}{t':Nat}{d':ni}{ch:List kl}(I:Inv X f σ H s)
  (a:∀b∈ch,(b∈X.ex∨X.s₀.1.1.size<=b)/\b≠X.env.locals/\(∀x c,X.env.cells.lookup x=jb c->c≠b)/\∀p∈X.pn++f,p.1≠b)
  (keep:∀b o,b≠X.env.locals->b∉X.fs->b∉ch->s.1.get? b=jb o->H b=js->h'.get? b=jb o)
  (Z:∀b o,b≠X.env.locals->b∈X.fs->b∉ch->s.1.get? b=jb o->H b=js->∃N,h'.get? b=jb { o with slots:=N }) (free:∀b o,b∉ch->s.1.get? b=jb o->H b=js->H' b=js)
  (W:∀b o,b∉ch->s.1.get? b=jb o->∃E,h'.get? b=jb E)
  (B:∀b xs,H b=jb (.tup xs)->H' b=jb (.tup xs)) (J:∀b o u,H b=jb (.frz o u)->H' b=jb (.frz o u)) (C:∀b ps,H b=jb (.tbl ps)->∃G,H' b=jb (.tbl (ps++G)))
  (ns:∀m,s.1.Ns X.env.locals m->h'.Ns X.env.locals m) (hok:SH X.prog X.w H' h') (hg:AllBare g') :
  Inv X f σ H' { s with heap:=h',gens:=g',drawn:=d',toks:=t' }:=by
 have F:∀b o,X.s₀.1.get? b=jb o->b≠X.env.locals:=λb o e=>Qk (Qm (QS e) I.ok.above);have j:∀b o,X.s₀.1.get? b=jb o->b∉X.ex->b∉ch:=λb o e h K=>by rcases(a b K).1 with z|z;exact h z;exact n9 (Qm (QS e) z) (wE _)
 have g:∀x c,X.env.cells.lookup x=jb c->∀v,s.1.IsCell c v->h'.IsCell c v:=λx c e v zz=>by let#[o,A,hd]:=zz;have y:c∉ch:=λz=>(a c z).2.2.1 x c e rfl;by_cases hc:c∈X.fs;let#[N,q]:=Z c o (I.cne x c e) hc y A (I.freeC x c e);exact#[_,q,hd];exact#[o,keep c o (I.cne x c e) hc y A (I.freeC x c e),hd]
 refine#[I.ok,I.os,hg,#[λb o e n K h=>?_,λb o e n K h=>?_,λb o e n h=>?_,λb o e h=>?_,λb xs e=>B b xs (I.base.tups b xs e),λb o xs e=>J b o xs (I.base.frzs b o xs e),λb ps e=>?_],?_,λx c e=>?_,?_,λx c e=>?_,λp Q=>?_,hok,I.len];exact keep b o (F b o e) K (j b o e h) (I.base.keep b o e n K h) (I.base.free b o e n h);let#[N,Y]:=I.base.slot b o e n K h;let#[M,L]:=Z b _ (F b o e) K (j b o e h) Y (I.base.free b o e n h);exact#[M,L];let#[E,Y]:=I.base.there b o e h;exact free b E (j b o e h) Y (I.base.free b o e n h);let#[E,Y]:=I.base.there b o e h;exact W b E (j b o e h) Y;let#[S,Y]:=I.base.tbls b ps e;let#[R,L]:=C b _ Y;exact#[S++R,by rw[L,Array.append_assoc]];let#[m,hn,hl]:=I.loc;refine#[m,ns m hn,λi x v Y L e3=>?_];let#[u,r,l]:=hl i x v Y L e3;refine#[u,r,?_];rcases l with l|⟨k,c,e,z⟩
 exact .inl l;exact .inr #[k,c,e,g x c e _ z];let#[v,z]:=I.cell x c e;exact#[v,g x c e v z];let#[m,#[o,_,_,A,_],_]:=I.loc;exact free _ o (λz=>(a _ z).2.1 rfl) A I.free;let#[v,o,A,hd]:=I.cell x c e;exact free c o (λz=>(a c z).2.2.1 x c e rfl) A (I.freeC x c e);let#[e,n,P,O,d]:=I.pin p Q;have y:p.1∉ch:=λz=>(a p.1 z).2.2.2 p Q rfl;exact#[keep p.1 p.2 P O y e n,free p.1 p.2 y e n,P,O,d]
def Inv.un(I:Inv X f σ H s)(u:Un X.fs [] H H' s.1 h')(hok:SH X.prog X.w H' h'):Inv X f σ H' { s with heap:=h',toks:=t' }:=by let#[m,#[o,Y,Z,a,r],_]:=id I.loc;let#[l,j]:=u.any a I.free (by simp);exact I.step (g':=s.gens) (d':=s.drawn) (ch:=[]) (λ_ z=>nomatch z) (λb o _ x _ e n=>u.keep b o e n x (by simp)) (λb o _ x _ e n=>u.slot b o e n x (by simp)) (λb o _ e n=>u.free b o e n (by simp)) (λb o _ e=>u.there b o e (by simp)) u.tups u.frzs u.tbls (λq i=>by let#[p,y,k,h,g]:=i;rw[a]at h;cases h;exact#[_,y,k,j,g]) hok I.bare
def Inv.call(I:Inv X f σ H s)(u:Un (HP X.stack) ch H H' s.1 h')(hok:SH X.prog X.w H' h')(q:AllBare g')(y:∀b∈ch,(b∈X.ex∨X.s₀.1.1.size<=b)/\b≠X.env.locals/\(∀x c,X.env.cells.lookup x=jb c->c≠b)/\∀p∈X.pn++f,p.1≠b) :
  Inv X f σ H' { s with heap:=h',gens:=g',drawn:=d',toks:=t' }:=by
 let#[m,#[o,A,B,i,r],_]:=id I.loc;let#[Z,k]:=u.any i I.free λz=>(y _ z).2.1 rfl;exact I.step (ch:=ch) y (λb o k Y hc e n=>u.keep b o e n (λz=>(QO.mp (I.stkSub b z)).elim k Y) hc) (λb o _ _ hc e n=>u.any e n hc) (λb o hc e n=>u.free b o e n hc) (λb o hc e=>u.there b o e hc) u.tups u.frzs u.tbls (λK l=>by let#[W,a,g,h,j]:=l;rw[i]at h;cases h;exact#[_,a,g,k,j]) hok q
def Inv.turned(I:Inv X f σ H s)(k:∀b o,b≠it->s.1.get? b=jb o->h'.get? b=jb o)(g:H it=js)(y:it≠X.env.locals)(Z:it∈X.ex∨X.s₀.1.1.size<=it)(Y:∀x c,X.env.cells.lookup x=jb c->c≠it)(l:∀p∈X.pn++f,p.1≠it):Inv X f σ H { s with heap:=h',toks:=t' }:=by
 have h:∀b u,H b=jb u->b≠it:=λb u e z=>by rw[z,g]at e;cases e
 refine I.step (g':=s.gens) (d':=s.drawn) (ch:=[it]) (λb j=>?_) (λb o _ _ hc e _=>k b o (λz=>hc (by simp[z])) e) (λb o _ _ hc e _=>#[o.slots,k b o (λz=>hc (by simp[z])) e]) (λ_ _ _ _ n=>n)
  (λb o hc e=>#[o,k b o (λz=>hc (by simp[z])) e]) (λ_ _ e=>e) (λ_ _ _ e=>e) (λb A e=>#[#[],by rw[e];simp]) (λm i=>?_) (λb u e=>?_) I.bare
 have e:b=it:=by simpa using j
 subst e;exact#[Z,y,Y,l];let#[o,W,K,a,r]:=i;exact#[o,W,K,k _ o (Qz y) a,r];refine(I.hok b u e).stay (λc v hc q=>k c v ?_ q) (λ_ q=>q) λ_ _ q=>q;rcases hc with z|z;rw[z];exact h b u e;exact h c _ z
def Inv.tok(I:Inv X f σ H s)(t:Nat):Inv X f σ H { s with toks:=t }:=I.un (h':=s.1) (t':=t) Un.refl I.hok
def Inv.kept(I:Inv X f σ H s)(k:∀b u,s.1.get? b=jb u->h'.get? b=jb u):Inv X f σ H { s with heap:=h',toks:=t' }:=I.un (Un.kept k) (I.hok.kept k)
def Inv.laid(I:Inv X f σ H s)(k:∀b u,s.1.get? b=jb u->h'.get? b=jb u)(h:s.1.1.size<=a)(new:NA X.prog X.w (LA H a o) h' a o) :
  Inv X f σ (LA H a o) { s with heap:=h',toks:=t' }:=I.un (Un.laid k h (I.hok.fresh h)) (I.hok.laid k h new)
def Inv.write(I:Inv X f σ H s)(y:bu (H x))(z:e=x∨H e=jb (.own x))(k:∀b u,b≠e->s.1.get? b=jb u->h'.get? b=jb u)(h:∃u,h'.get? e=jb u)(new:NA X.prog X.w (LA H x o) h' x o):Inv X f σ (LA H x o) { s with heap:=h',toks:=t' }:=I.un (Un.write y z k h) (I.hok.write y z k h new)
def Inv.pins_of(I:Inv X f σ H s)(h:∀p∈x,s.1.get? p.1=jb p.2/\H p.1=js/\p.1≠X.env.locals/\p.1∉X.fs/\∀v,p.2.data≠.cell v):Inv X x σ H s :=
 #[I.ok,I.os,I.bare,I.base,I.loc,I.cell,I.free,I.freeC,λp y=>(Qp.mp y).elim (λz=>I.pin p (qJ _ z)) (h p),I.hok,I.len]
def xN{N:LS}(h:N.Nodup){i j:Nat}{x:Str}(a:N[i]?=jb x)(b:N[j]?=jb x):i=j:=by let#[k,z]:=QZ.mp a;let#[u,y]:=QZ.mp b;exact(List.getElem_inj h).mp (z.trans y.symm)
def jP{Q:Unit->kt->Prop}(I:Inv X f σ H s)(hN:X.N.Nodup)(O:X.N[i]?=jb x)(Z:du X.env.scope x)(r:ZA v u)(h:∀s',Inv X f (σ.set i (jb v)) H s'->(∃a,wG a s.1 s'.1/\(a=X.env.locals∨X.env.cells.lookup x=jb a))->Q Unit.unit s')(hf:X.fn x=j3∨X.env.scope.names.lookup x=jb .local):ka M A (storeName X.env x u) Q E s:=by
 let#[m,hn,hl]:=id I.loc;have P:(X.env.scope.kind==.class||(X.env.scope.kind==.module&&X.env.locals != X.env.globals))=false:=by rw[I.ok.kind];rfl
 have B:i<σ.length:=by rw[I.len];exact(QZ.mp O).1
 have cne:=I.cne;have l:∀{a:kl}{h':v6},(∃o,s.1.get? a=jb o/\H a=js)->wG a s.1 h'->SH X.prog X.w H h':=λ{a h'} ha g b ob e=>by let#[_,_,W]:=ha;refine(I.hok b ob e).stay (λc w' hc q=>(g.2 c ?_).trans q) (λ_ q=>q) λ_ _ q=>q;rintro rfl;rcases hc with rfl|hc;rw[W]at e;cases e;rw[W]at hc;cases hc
 rcases Z with hk|hk;refine wpAny_storeName_local hk hn (λh' hn' g=>?_) P;let#[oL,_,_,hoL,_]:=id hn;refine h _ #[I.ok,I.os,I.bare,#[λb o e n G Z=>?_,λb o e n G Z=>?_,I.base.free,λb o e Z=>?_,I.base.tups,I.base.frzs,I.base.tbls],#[_,hn',λj y v' Y K e3=>?_],λy c e=>?_,I.free,I.freeC,λp hp=>?_,l #[oL,hoL,I.free] g,by simpa using I.len] #[_,g,.inl rfl];exact(g.2 b (Qk (Qm (QS e) I.ok.above))).trans (I.base.keep b o e n G Z);let#[sl,Y]:=I.base.slot b o e n G Z;exact#[sl,(g.2 b (Qk (Qm (QS e) I.ok.above))).trans Y];let#[o',Y]:=I.base.there b o e Z;exact#[o',(g.2 b (Qk (Qm (QS e) I.ok.above))).trans Y];by_cases C:j=i
 ·subst C
  rw[O]at Y;cases Y;rw[qH B]at K;cases K;exact#[u,r,.inl #[hk,by simp]]
 rw[Qy (Qz C)]at K;let#[u',r',q]:=hl j y v' Y K e3;refine#[u',r',?_];rcases q with⟨k,e⟩| ⟨k,c,e,z⟩
 refine .inl #[k,?_];have:y≠x:=λe=>C (xN hN Y (e▸O));simp[this,e];exact .inr #[k,c,e,z.sameBut g (cne y c e)];let#[w',z]:=I.cell y c e;exact#[w',z.sameBut g (cne y c e)];let#[e,n,ne,nf,d]:=I.pin p hp;exact#[(g.2 p.1 ne).trans e,n,ne,nf,d];have F:X.fn x=true:=by rcases hf with z|z;exact z;rw[z]at hk;cases hk
 let#[c,hc]:=I.ok.has x (.inl hk);let#[w',z]:=I.cell x c hc;refine wpAny_storeName_cell I.ok.kind hk hc z (λh' S g=>?_);let#[oc,L,J]:=id z;refine h { s with heap:=h' } #[I.ok,I.os,I.bare,#[λb o e n G Z=>?_,λb o e n G Z=>?_,I.base.free,λb o e Z=>?_,I.base.tups,I.base.frzs,I.base.tbls],#[m,hn.sameBut g (Qz (cne x c hc)),λj y v' Y K e3=>?_],λy c' e=>?_,I.free,I.freeC,λp hp=>?_,l #[oc,L,I.freeC x c hc] g,by simpa using I.len] #[c,g,.inr hc];exact(g.2 b (Qk (Qm (QS e) (I.ok.cab x c F hc)))).trans (I.base.keep b o e n G Z);let#[sl,Y]:=I.base.slot b o e n G Z;exact#[sl,(g.2 b (Qk (Qm (QS e) (I.ok.cab x c F hc)))).trans Y];let#[o',Y]:=I.base.there b o e Z;exact#[o',(g.2 b (Qk (Qm (QS e) (I.ok.cab x c F hc)))).trans Y];by_cases C:j=i
 ·subst C
  rw[O]at Y;cases Y;rw[qH B]at K;cases K;exact#[u,r,.inr #[.inl hk,c,hc,S]]
 rw[Qy (Qz C)]at K;let#[u',r',q]:=hl j y v' Y K e3;refine#[u',r',?_];rcases q with q|⟨k,c',e,z'⟩
 exact .inl q;refine .inr #[k,c',e,z'.sameBut g ?_];rintro rfl;exact C (xN hN Y (I.ok.inj _ _ _ e hc▸O));by_cases R:c'=c
 ·subst R;exact#[_,S]
 let#[w2,z2]:=I.cell y c' e;exact#[w2,z2.sameBut g R];let#[e,n,ne,nf,d]:=I.pin p hp;refine#[(g.2 p.1 ?_).trans e,n,ne,nf,d];intro q;rw[q,L]at e;have q':oc=p.2:=QW e;exact d w' (by rw[<- q'];exact J)
def tM{Q:Unit->kt->Prop}(I:Inv X f σ H s)(a:X.N.Nodup)(z:X.N[i]?=jb x)(y:du X.env.scope x)(r:ZA v u)(h:∀s',Inv X f (σ.set i (jb v)) H s'->Q Unit.unit s')(k:X.fn x=j3∨X.env.scope.names.lookup x=jb .local):ka M A (storeName X.env x u) Q E s :=
 jP I a z y r (λs' b _=>h s' b) k
def Inv.call'{s':kt}(I:Inv X f σ H s)(z:s'.os=s.os)(u:Un (HP X.stack) ch H H' s.1 s'.1)(hok:SH X.prog X.w H' s'.1)(k:AllBare s'.gens)(h:∀b∈ch,(b∈X.ex∨X.s₀.1.1.size<=b)/\b≠X.env.locals/\(∀x c,X.env.cells.lookup x=jb c->c≠b)/\∀p∈X.pn++f,p.1≠b):Inv X f σ H' s':=by
 let#[h',g',d',t',y]:=s';have e:y=s.os:=z;subst e;exact I.call (g':=g') (t':=t') (d':=d') u hok k h
end
noncomputable abbrev XK:=ky->Option kl->Hp->Prop
noncomputable abbrev St:=List (Option V)
noncomputable abbrev VK:=V->Hp->Prop
noncomputable abbrev TE:=St->Hp->VK->Prop
noncomputable abbrev TT:=St->Hp->(Bool->Hp->Prop)->Prop
noncomputable abbrev TA:=St->Hp->(LV->Hp->Prop)->Prop
structure Ends where
 nx:St->Hp->Prop
 rt:VK
 bk:St->Hp->Prop:=λ_ _=>False
 ct:St->Hp->Prop:=λ_ _=>False
noncomputable abbrev TS:=Ends->St->Hp->Prop
def EP(X:Cx)(h:BB)(σ:St)(Q:VK)(u:ky)(s':kt):Prop:=∃v x,Inv X h σ x s'/\ZA v u/\Q v x
def TP(X:Cx)(h:BB)(σ:St)(Q:Bool->Hp->Prop)(b:Bool)(s':kt):Prop:=∃x,Inv X h σ x s'/\Q b x
def AP(X:Cx)(h:BB)(σ:St)(Q:LV->Hp->Prop)(us:LW)(s':kt):Prop:=∃vs x,Inv X h σ x s'/\YA vs us/\Q vs x
def SP(X:Cx)(x:BB)(D:Ends)(f:Flow)(s':kt):Prop :=
 match f with
 | .next=>∃h y,Inv X x h y s'/\D.nx h y|.brk=>∃h y,Inv X x h y s'/\D.bk h y|.cont=>∃h y,Inv X x h y s'/\D.ct h y|.ret u=>∃v h y,Inv X x h y s'/\ZA v u/\D.rt v y
def PE(X:Cx)(e:Expr)(t:TE):Prop :=
 ∀(h:BB) (s:kt) (x:St) (H:Hp) (Q:VK),Inv X h x H s->t x H Q->ka (Vz X.prog X.w) X.A (zz e X.env) (EP X h x Q) X.xe s
def PT(X:Cx)(e:Expr)(t:TT):Prop :=
 ∀(h:BB) (s:kt) (x:St) (H:Hp) (Q:Bool->Hp->Prop),Inv X h x H s->t x H Q->ka (Vz X.prog X.w) X.A (isTrue e X.env (zz e X.env)) (TP X h x Q) X.xe s
def PW(X:Cx)(e:Expr)(t:TT):Prop :=
 ∀(x:Sem ky) (h:BB) (s:kt) (y:St) (H:Hp) (Q:Bool->Hp->Prop),Inv X h y H s->t y H Q->ka (Vz X.prog X.w) X.A (isTrue e X.env x) (TP X h y Q) X.xe s
def PW.pt(h:PW X e t):PT X e t:=h _
def PA(X:Cx)(z:List Expr)(t:TA):Prop :=
 ∀(y:Pos) (h:BB) (s:kt) (x:St) (H:Hp) (Q:LV->Hp->Prop),Inv X h x H s->t x H Q->ka (Vz X.prog X.w) X.A (spliced (gl y (Xz z X.env))) (AP X h x Q) X.xe s
def PS(X:Cx)(st:y1)(t:TS):Prop :=
 ∀(h:BB) (s:kt) (x:St) (H:Hp) (D:Ends),Inv X h x H s->t D x H->ka (Vz X.prog X.w) X.A (exec st X.env) (SP X h D) X.xe s
def X3(X:Cx)(st:List y1)(t:TS):Prop :=
 ∀(h:BB) (s:kt) (x:St) (H:Hp) (D:Ends),Inv X h x H s->t D x H->ka (Vz X.prog X.w) X.A (execs st X.env) (SP X h D) X.xe s
def lI{α:Type}{t:Sem α}{Q Q':α->kt->Prop}{M:db}{A:x2}{E:CB}{s:kt}(h:ka M A t Q E s)(y:∀a s,Q a s->Q' a s):ka M A t Q' E s:=qU h y λ_ _ x=>x
def yE{Q':CB}(h:ka M A t (EP X x σ Q) E s)(k:∀u s v H,Inv X x σ H s->ZA v u->Q v H->Q' u s):ka M A t Q' E s:=lI h λu s q=>by let#[v,H,a,b,c]:=q;exact k u s v H a b c
def Eo{Q':Bool->kt->Prop}(h:ka M A t (TP X x σ Q) E s)(k:∀u s H,Inv X x σ H s->Q u H->Q' u s):ka M A t Q' E s:=lI h λu s q=>by let#[H,a,c]:=q;exact k u s H a c
def ZX{Q':LW->kt->Prop}(h:ka M A t (AP X x σ Q) E s)(k:∀u s v H,Inv X x σ H s->YA v u->Q v H->Q' u s):ka M A t Q' E s:=lI h λu s q=>by let#[v,H,a,b,c]:=q;exact k u s v H a b c
section
variable{X:Cx}
def bin{a b:Expr}{ta z:TE}(Z:PE X a ta)(Y:PE X b z){k:BB}{s:kt}{σ:St}{H:Hp}{R:V->V->Hp->Prop}(I:Inv X k σ H s)(h:ta σ H λx l=>z σ l λy e=>R x y e)
  {α:Type}{Q:α->kt->Prop}{f:ky->ky->Sem α}
  (r:∀v u j x y e,Inv X k σ e j->ZA x v->ZA y u->R x y e->ka (Vz X.prog X.w) X.A (f v u) Q X.xe j) :
  ka (Vz X.prog X.w) X.A (zz a X.env) (λv i=>ka (Vz X.prog X.w) X.A (zz b X.env) (λu g=>ka (Vz X.prog X.w) X.A (f v u) Q X.xe g) X.xe i) X.xe s:=by
 refine yE (Z k s σ H _ I h) λv m x l K o q=>?_;refine yE (Y k m σ l _ K q) λu j y e W n p=>?_;exact r v u j x y e W o n p
def ZQ(i:Nat):TE:=λh H Q=>∃v,h[i]?=jb (jb v)/\Q v H
def tC(v:V):TE:=λ_ H Q=>Q v H
def sK(j:X.N[i]?=jb x)(hv:Zt X.env.scope x)(hd:autoParam ((x==("__debug__":Str))=false) zzd._auto_1)(k:autoParam ((x==("__classdict__":Str))=false) zzd._auto_1):PE X (.Name x pos) (ZQ i):=by
 intro z s a H Q I h;let#[v,e,h]:=h;let#[m,b,hl]:=I.loc;let#[u,r,l]:=hl i x v j e hv;have fin:EP X z a Q u s:=#[v,H,I,r,h]
 rcases l with⟨hk,g⟩| ⟨hk,c,hc,y⟩
 exact QDj (wpAny_loadName_local I.ok.kind hk b g fin) hd;rcases hk with hk|hk
 ·exact QDj (wpAny_loadName_cell I.ok.kind hk hc y fin) hd
 exact QDj (wpAny_loadName_free I.ok.kind hk hc y fin k) hd
def U6{i j pos}:PE X (.Constant (.int i) j pos) (tC (.int i)):=λ_ _ _ H _ I h=>wpAny_Constant_int #[.int i,H,I.tok _,#[_,rfl],h]
def Gf{b j pos}:PE X (.Constant (.bool b) j pos) (tC (.bl b)):=λ_ _ _ H _ I h=>Constant_bool #[.bl b,H,I,rfl,h]
def V6{j pos}:PE X (.Constant .none j pos) (tC .non):=λ_ _ _ H _ I h=>Constant_none #[.non,H,I,rfl,h]
def SM{x j pos}:PE X (.Constant (.str x) j pos) (tC (.str x)):=λ_ _ _ H _ I h=>Calls.Constant_str #[.str x,H,I.tok _,#[_,rfl],h]
def Gl(X:Cx)(x:Str):Prop:=X.env.kindOf x=jb .globalImplicit
def FJ{Q:CB}(I:Inv X y σ H s)(k:Gl X x)(z:X.mg x=jb u)(h:Q u s)(hd:autoParam ((x==("__debug__":Str))=false) zzd._auto_1):ka (Vz X.prog X.w) X.A (zz (.Name x pos) X.env) Q E s :=
 WT I.ok.kind k (QBL (by rw[I.ok.glob];exact I.mod.glob.keeps I.bk) z h) hd
def oG{Q:CB}(I:Inv X y σ H s)(a:Gl X x)(k:X.mg x=js)(hv:Zz x=jb u)(h:Q u s)(z:autoParam (x≠"__name__") zzd._auto_1)(hd:autoParam ((x==("__debug__":Str))=false) zzd._auto_1):ka (Vz X.prog X.w) X.A (zz (.Name x pos) X.env) Q E s:=by
 let#[g,e,b]:=I.mod.blt;exact WT I.ok.kind a (Calls.loadGlobal_builtin (by rw[I.ok.glob];exact I.mod.glob.keeps I.bk) k (by rw[I.ok.blt];exact e.keeps I.bk) ((b x z).trans hv) h) hd
def uc(z:Gl X x)(y:X.mg x=jb u)(r:ZA v u)(hd:autoParam ((x==("__debug__":Str))=false) zzd._auto_1):PE X (.Name x pos) (tC v) :=
 λ_ _ _ H _ I h=>FJ I z y #[v,H,I,r,h] hd
def Yc(k:Gl X x)(z:X.mg x=js)(hv:Zz x=jb u)(r:ZA v u)(y:autoParam (x≠"__name__") zzd._auto_1)(hd:autoParam ((x==("__debug__":Str))=false) zzd._auto_1):PE X (.Name x pos) (tC v) :=
 λ_ _ _ H _ I h=>oG I k z hv #[v,H,I,r,h] y hd
variable{a b:Expr}{ta z:TE}{pos:Pos}
variable{k g:TT}{rest:List Expr}
def fv(t u:TT):TT:=λh H Q=>t h H λc x=>if c=j3 then u h x Q else Q Kz x
def Ay(t u:TT):TT:=λh H Q=>t h H λc x=>if c=j3 then Q j3 x else u h x Q
def Eu(t:TT):TT:=λh H Q=>t h H λc x=>Q (!c) x
def Mb(u:PT X a k):PW X (.BoolOp .And [a] pos) k:=by
 intro i x s y H Q I h;refine isTrue_and (lI (u x s y H Q I h) λc j e=>?_);cases c with|true=>exact isTrue_and_nil e|false=>exact e
def Tj(u:PT X a k):PW X (.BoolOp .Or [a] pos) k:=by
 intro i x s y H Q I h;refine isTrue_or (lI (u x s y H Q I h) λc j e=>?_);cases c with|false=>exact isTrue_or_nil e|true=>exact e
def P5(n:PT X a k)(m:PW X (.BoolOp .And (b::rest) pos) g):PW X (.BoolOp .And (a::b::rest) pos) (fv k g):=by
 intro j x s y H Q I h;refine isTrue_and (Eo (n x s y H _ I h) λc l i e u=>?_);cases c with|true=>exact m j x l y i Q e u|false=>exact#[i,e,u]
def Bf(n:PT X a k)(m:PW X (.BoolOp .Or (b::rest) pos) g):PW X (.BoolOp .Or (a::b::rest) pos) (Ay k g):=by
 intro j x s y H Q I h;refine isTrue_or (Eo (n x s y H _ I h) λc l i e u=>?_);cases c with|true=>exact#[i,e,u]|false=>exact m j x l y i Q e u
def Aj(u:PT X a k):PT X (.UnaryOp .Not a pos) (Eu k):=by intro x s y H Q I h;exact isTrue_not (u x s y H (λc e=>Q (!c) e) I h)
def Vp(ta z:TE):TE:=λh H Q=>ta h H λx y=>∃c,x=.bl c/\if c=j3 then z h y Q else Q (.bl Kz) y
def Au(ta z:TE):TE:=λh H Q=>ta h H λx y=>∃c,x=.bl c/\if c=j3 then Q (.bl j3) y else z h y Q
def K6{op}(h:PE X a t):PE X (.BoolOp op [a] pos) t:=λx s y H Q I u=>BoolOp_one (h x s y H Q I u)
def G6(o:PE X a ta)(n:PE X (.BoolOp .And (b::rest) pos) z):PE X (.BoolOp .And (a::b::rest) pos) (Vp ta z):=by
 intro y s e H Q I h;refine BoolOp_and (yE (o y s e H _ I h) λv l x j i m u=>?_);let#[c,rfl,u]:=u;cases m;refine qp ?_;cases c with|true=>exact n y l e j Q i u|false=>exact#[.bl Kz,j,i,rfl,u]
def Cf(o:PE X a ta)(n:PE X (.BoolOp .Or (b::rest) pos) z):PE X (.BoolOp .Or (a::b::rest) pos) (Au ta z):=by
 intro y s e H Q I h;refine BoolOp_or (yE (o y s e H _ I h) λv l x j i m u=>?_);let#[c,rfl,u]:=u;cases m;refine qp ?_;cases c with|false=>exact n y l e j Q i u|true=>exact#[.bl j3,j,i,rfl,u]
def Ey(t:TT)(ta z:TE):TE:=λh H Q=>t h H λc x=>if c=j3 then ta h x Q else z h x Q
def B6(hc:PT X c k)(m:PE X a ta)(l:PE X b z):PE X (.IfExp c a b pos) (Ey k ta z):=by
 intro x s y H Q I h;refine wpAny_IfExp (Eo (hc x s y H _ I h) λd u j i e=>?_);cases d with|true=>exact m x u y j Q i e|false=>exact l x u y j Q i e
end
def mD(K:QC)(H:Hp)(a:kl)(xs:LV):Prop :=
 Rd H a (.lst xs) ∨
  ∃(o:Obj) (h:Array ky) (n:Nat),K.lookup a=jb o/\o.cls=.type "list"/\o.dict=js/\o.data=.seq h n/\h.size<=ke/\YA xs h.toList
def GE(K:QC)(H:Hp)(a:kl)(xs:LV):Prop :=
 Rd H a (.tup xs) ∨
  ∃(o:Obj) (h:Array ky) (n:Nat),K.lookup a=jb o/\o.cls=.type "tuple"/\o.data=.seq h n/\h.size<=ke/\YA xs h.toList
def cO:ky->Option V
 | .none=>jb .non|.bool b=>jb (.bl b)|.int i _=>jb (.int i)|.str x _=>jb (.str x)|.bytes b _=>jb (.byt b)|.float b _=>jb (.flt b)|.ref a=>jb (.ref a)|.type n=>jb (.ty n)|_=>js
def ZA.abs(r:ZA x u):cO u=jb x:=by
 cases x with|non=>cases r;rfl|bl _=>cases r;rfl|int _=>let#[t,rfl]:=r;rfl|str _=>let#[t,rfl]:=r;rfl|byt _=>let#[t,rfl]:=r;rfl|flt _=>let#[t,rfl]:=r;rfl|ref _=>cases r;rfl|ty _=>cases r;rfl
def ZA.inj(r:ZA x u)(q:ZA y u):x=y:=QW (r.abs.symm.trans q.abs)
def YA.inj(r:YA xs us):YA ys us->xs=ys:=by
 induction r generalizing ys with|nil=>intro h;cases h;rfl|cons a _ i=>intro h;cases h with|cons b t=>rw[a.inj b,i t]
section
variable{X:Cx}{x:BB}{σ:St}{H:Hp}{s:kt}{a:kl}{xs ys:LV}
def mD.of{K:QC}(h:H a=jb (.lst xs)):mD K H a xs:=.inl (.inl h)
def GE.of{K:QC}(h:H a=jb (.tup xs)):GE K H a xs:=.inl (.inl h)
def Inv.list(I:Inv X x σ H s)(h:mD X.K H a xs):∃its:LW,YA xs its/\PlainL s.1 a its.toArray/\xs.9<=sizeLine:=by
 rcases h with h|⟨o,its,n,hk,hc,hd,y,u,r⟩
 let#[z,its,n,r,e]:=h.ok I.hok;exact#[its,r,#[_,n,e,rfl,rfl,rfl],z];refine#[its.toList,r,#[o,n,I.kIn a o hk,hc,hd,by simpa using y],?_];have e:=r.9;simp only[Q6]at e;omega
def Inv.tuple(I:Inv X x σ H s)(h:GE X.K H a xs):∃its:LW,YA xs its/\IsTup s.1 a its.toArray/\xs.9<=sizeLine:=by
 rcases h with h|⟨o,its,n,hk,hc,y,u,r⟩
 let#[z,its,r,p]:=h.ok I.hok;exact#[its,r,p,z];refine#[its.toList,r,#[o,I.kIn a o hk,hc,n,by simpa using y],?_];have e:=r.9;simp only[Q6]at e;omega
def Inv.list_inj(I:Inv X x σ H s)(h:mD X.K H a xs)(h':mD X.K H a ys):xs=ys:=by
 let#[z,r,#[o,n,e,_,_,d],_]:=I.list h;let#[y,b,#[g,i,u,_,_,k],_]:=I.list h';rw[e]at u;cases u;rw[d]at k;injection k with d1 _;have:z=y:=by simpa using pu QCx d1
 subst this;exact r.inj b
def Inv.tuple_inj(I:Inv X x σ H s)(h:GE X.K H a xs)(h':GE X.K H a ys):xs=ys:=by
 let#[z,r,#[o,e,_,n,d],_]:=I.tuple h;let#[y,b,#[g,u,_,i,k],_]:=I.tuple h';rw[e]at u;cases u;rw[d]at k;injection k with d1 _;have:z=y:=by simpa using pu QCx d1
 subst this;exact r.inj b
end
noncomputable abbrev Cx.wish(X:Cx)(E:CB):Cx:={ X with xe:=E }
noncomputable abbrev Cx.nox(X:Cx):Cx:=X.wish λ_ _=>False
def Cx.Ok.wish{X:Cx}(ok:X.Ok)(E:CB):(X.wish E).Ok :=
 #[ok.mod,ok.kind,ok.glob,ok.blt,ok.above,ok.inj,ok.has,ok.cab,ok.hd,ok.frames,ok.stk,ok.exf,ok.bs,ok.bsz,ok.noex,ok.exfs,ok.funs,ok.frf]
def Cx.Ok.unwish{X:Cx}(ok:(X.wish E).Ok):X.Ok :=
 #[ok.mod,ok.kind,ok.glob,ok.blt,ok.above,ok.inj,ok.has,ok.cab,ok.hd,ok.frames,ok.stk,ok.exf,ok.bs,ok.bsz,ok.noex,ok.exfs,ok.funs,ok.frf]
section
variable{X:Cx}{x:BB}{σ:St}{H:Hp}{s:kt}{E:CB}
def Inv.wish(I:Inv X x σ H s)(E:CB):Inv (X.wish E) x σ H s:=#[I.ok.wish E,I.os,I.bare,I.base,I.loc,I.cell,I.free,I.freeC,I.pin,I.hok,I.len]
def Inv.unwish(I:Inv (X.wish E) x σ H s):Inv X x σ H s:=#[I.ok.unwish,I.os,I.bare,I.base,I.loc,I.cell,I.free,I.freeC,I.pin,I.hok,I.len]
def SP.unwish{D:Ends}(h:SP (X.wish E) x D f s'):SP X x D f s':=by
 cases f with|next=>let#[y,z,I,q]:=h;exact#[y,z,I.unwish,q]|brk=>let#[y,z,I,q]:=h;exact#[y,z,I.unwish,q]|cont=>let#[y,z,I,q]:=h;exact#[y,z,I.unwish,q]|ret u=>let#[v,y,z,I,r,q]:=h;exact#[v,y,z,I.unwish,r,q]
def X3.nox{st:List y1}{t:TS}(h:X3 X.nox st t):X3 X st t:=λx s σ H D I y =>
 qU (h x s σ H D (I.wish _) y) (λ_ _ q=>q.unwish) λ_ _ z=>QV z
end
section
variable{X:Cx}{st:y1}{rest:List y1}{t u:TS}{e:Expr}{te:TE}{pos:Pos}
def Jp:TS:=λD h H=>D.nx h H
def Ru(t u:TS):TS:=λD h H=>t { D with nx:=u D } h H
def TX:X3 X [] Jp:=λ_ _ x H _ I h=>WI #[x,H,I,h]
def FM(b:PS X st t)(a:X3 X rest u):X3 X (st::rest) (Ru t u):=by
 intro x s z H D I h;refine QAI (lI (b x s z H { D with nx:=u D } I h) λf k q=>?_);cases f with|next=>let#[y,i,g,q]:=q;exact a x k y i D g q|ret v=>exact q|brk=>exact q|cont=>exact q
def Ob(z:PS X st t):X3 X [st] t:=by
 intro x s y H D I h;refine QAI (lI (z x s y H D I h) λf k q=>?_);cases f with|next=>exact WI q|ret v=>exact q|brk=>exact q|cont=>exact q
def Inv.quiet(I:Inv X h σ H s):interactive X.env=false:=by simp[interactive,I.ok.kind]
def Yp(te:TE):TS:=λD h H=>te h H λ_ x=>D.nx h x
def GQ(b:PE X e te)(a:autoParam (dt e js pos.line X.env=n5 false) zzr._auto_1):PS X (.Expr e pos) (Yp te):=by intro y s z H D I h;exact lw (yE (b y s z H _ I h) λv j x i g l k=>#[z,i,g,k]) I.quiet a
def Tu(te:TE):TS:=λD h H=>te h H D.rt
def Ij(b:PE X e te):PS X (.Return (jb e) pos) (Tu te):=by intro y s z H D I h;exact wpAny_Return_some (yE (b y s z H _ I h) λv j x i g k a=>#[x,z,i,g,k,a])
def zv(c:TT)(t u:TS):TS:=λD h H=>c h H λb x=>if b=j3 then t D h x else u D h x
def pq(hc:PT X c tc)(l:X3 X a t)(j:X3 X b u):PS X (.If c a b pos) (zv tc t u):=by
 intro x s y H D I h;refine wpAny_If (Eo (hc x s y H _ I h) λd z i g k=>?_);cases d with|true=>exact l x z y i D g k|false=>exact j x z y i D g k
end
noncomputable abbrev TG:=V->St->Hp->(St->Hp->Prop)->Prop
noncomputable abbrev Re:=LV->St->Hp->(St->Hp->Prop)->Prop
def PG(X:Cx)(h:Expr)(t:TG):Prop :=
 ∀(x:BB) (s:kt) (z:St) (H:Hp) (v:V) (u:ky) (Q:St->Hp->Prop),Inv X x z H s->ZA v u->t v z H Q ->
  ka (Vz X.prog X.w) X.A (dy h X.env u) (λ_ a=>∃y k,Inv X x y k a/\Q y k) X.xe s
def Xo(X:Cx)(k:List Expr)(t:Re):Prop :=
 ∀(h:BB) (s:kt) (y:St) (H:Hp) (vs:LV) (z:LW) (Q:St->Hp->Prop),Inv X h y H s->YA vs z->t vs y H Q ->
  ka (Vz X.prog X.w) X.A (Ez ((Z1 k X.env).map (·.2)) z) (λ_ a=>∃x u,Inv X h x u a/\Q x u) X.xe s
noncomputable abbrev Rn:=V->V->V->Hp->(Hp->Prop)->Prop
def ju(X:Cx)(t:Rn):Prop :=
 ∀(h:BB) (s:kt) (x:St) (H:Hp) (o i v:V) (y z u:ky) (Q:Hp->Prop),Inv X h x H s->ZA o y->ZA i z->ZA v u->t o i v H Q ->
  ka (Vz X.prog X.w) X.A (nl y z u) (λ_ a=>∃k,Inv X h x k a/\Q k) X.xe s
section
variable{X:Cx}{pos:Pos}
def AT(i:Nat):TG:=λv h H Q=>Q (h.set i (jb v)) H
def AL(b:X.N.Nodup)(k:X.N[i]?=jb x)(z:du X.env.scope x)(a:X.fn x=j3∨X.env.scope.names.lookup x=jb .local):PG X (.Name x pos) (AT i):=by intro y s g H v u Q I r h;exact QCb (tM I b k z r (λj e=>#[_,H,e,h]) a)
def Ar:Re:=λvs h H Q=>vs=[]/\Q h H
def T8(t:TG)(u:Re):Re:=λvs x H Q=>∃v r,vs=v::r/\t v x H λh y=>u r h y Q
def kc:Xo X [] Ar:=by intro x s y H vs z Q I r h;let#[e,h]:=h;subst e;cases r;exact QCc #[y,H,I,h]
def CS(l:PG X e t)(j:Xo X y u)(i:autoParam ((Z1 (e::y) X.env).map (·.2)=dy e X.env::(Z1 y X.env).map (·.2)) zzr._auto_1):Xo X (e::y) (T8 t u):=by
 intro x s k H vs q Q I r h;let#[v,p,m,h]:=h;subst m;cases r with|cons r b=>rw[i];refine QCL (lI (l x s k H _ _ _ I r h) λ_ a zz=>?_);let#[z,o,n,g]:=zz;exact j x a z o _ _ Q n b g
def gw(K:QC)(n:Nat)(t:Re):TG:=λv x H Q=>∃a h,v=.ref a/\GE K H a h/\h.9=n/\t h x H Q
def pk(hc:X.calm=j3)(h:Xo X y t)(Z:autoParam ((Z1 y X.env).9=n) zzr._auto_1)(g:autoParam ((Z1 y X.env).findIdx? (·.1)=none) zzr._auto_1):PG X (.Tuple y k pos) (gw X.K n t):=by
 intro x s i H v u Q I r z;let#[a,l,A,Y,hl,z]:=z;subst A;cases r;let#[m,j,q,C]:=I.tuple Y;refine assign_Tuple_tuple (I.ok.hd hc) q (by simp[Z,<- hl,j.9]) g λW p=>?_;have B:Inv X x i H { s with heap:=W }:=I.kept (t':=s.toks) λb o e=>p b o (Qk (QS e)) e;exact h x _ i H l _ Q B (by simpa using j) z
def Sr(to x:TE)(t:Rn):TG:=λv h H Q=>to h H λo u=>x h u λi z=>t o i v z λy=>Q h y
def r6(Z:PE X o to)(W:PE X i e)(Y:ju X t)(K:autoParam (∀v,dy (.Subscript o i pos) X.env v=(do
   let k <- Dz [v] (zz o X.env)
   let a <- Dz [v,k] (zz i X.env)
   le pos
   Dz [v,k,a] (nl k a v)
   release [v,k,a] [])) zzi._auto_1):PG X (.Subscript o i pos) (Sr to e t):=by
 intro z s b H v u Q I r h;rw[K];refine QE (qi (yE (Z z s b H _ I h) λk j x G C m q=>?_));refine QE (qi (yE (W z j b G _ C q) λa g y F B l p=>?_));refine QE (WR (QE (qi (lI (Y z g b F x y v k a u _ B m l r p) λ_ J zz=>?_))));let#[E,A,n]:=zz;exact wpAny_release #[b,E,A,n]
def oj(te:TE)(g:TG):TS:=λD h H=>te h H λx y=>g x h y D.nx
def UV(m:PE X e te)(l:PG X z g)(j:autoParam (swapsWithSole [z] e pos.line X.env=n5 false) zzr._auto_1)(i:autoParam (h9 [z] e X.env=n5 none) zzr._auto_1)(n:autoParam ((Z1 [z] X.env).map (·.2)=[dy z X.env]) zzr._auto_1):PS X (.Assign [z] e pos) (oj te g):=by
 intro y s u H D I h;refine wpAny_Assign_stores (yE (m y s u H _ I h) λv k x p o a b=>?_) j i;rw[n];exact lI (l y k u p x v _ o a b) λ_ r q=>q
def A5(n:X.N.Nodup)(j:X.N[i]?=jb x)(b:du X.env.scope x)(m:PE X e te)(g:autoParam (dt e (jb (.Name x pos')) pos.line X.env=n5 false) zzr._auto_1)(l:X.fn x=j3∨X.env.scope.names.lookup x=jb .local) :
  PS X (.Assign [.Name x pos'] e pos) (oj te (AT i)):=by
 intro z s u H D I h;refine wpAny_Assign_Name (yE (m z s u H _ I h) λv Y y q p k a=>?_) g;exact tM p n j b k (λr o=>#[_,q,o,a]) l
end
structure It where
 go:Nat->Hp->Prop
 yld:Nat->Hp->V->Hp->Prop
 stop:Nat->Hp->Prop
def zL(X:Cx)(h:BB)(H:Hp)(b:kl):Prop :=
 H b=js/\b≠X.env.locals/\b∉X.fs/\(b∈X.ex∨X.s₀.1.1.size<=b)/\(∀x c,X.env.cells.lookup x=jb c->c≠b)/\∀p∈X.pn++h,p.1≠b
def Inv.fpOk{H':Hp}(I:Inv X h σ H s)(y:s.1.1.size<=b)(k:H' b=js):zL X h H' b:=by refine#[k,Wk (Qm I.lt y),I.nofs y,.inr (qG I.sz y),λx c e z=>?_,λp u z=>?_];let#[v,q]:=I.cell x c e;exact n9 (Qm q.lt (by rw[z];exact y)) (wE _);exact n9 (Qm (QS (I.pin p u).1) (by rw[z];exact y)) (wE _)
structure Turn(P:vb)(w:vu)(K:QC)(tg:Expr)(J:It)(fp:List kl)(it:kl)(tn:Nat->v6->Prop):Prop where
 mem:it∈fp
 obj:∀i h,tn i h->∀b∈fp,∃o,h.get? b=jb o/\∀v,o.data≠.cell v
 keep:∀i h h',tn i h->(∀b∈fp,∀o,h.get? b=jb o->h'.get? b=jb o)->tn i h'
 item:∀(X:Cx),X.prog=P->X.w=w->X.K=K->X.calm=j3->∀(i:Nat) (pins:BB) (s:kt) (σ:St) (H:Hp) (E:CB),Inv X pins σ H s->(∀b∈fp,zL X pins H b)->tn i s.1->J.go i H ->
  ka (Vz P w) X.A (e6 (.ref it)) (λr s1=>∃u,r=jb u /\
   ka (Vz P w) X.A (Fz tg (.ref it) u) (λ_ s2=>∃x H',Inv X pins σ H' s2/\ZA x u/\J.yld i H x H'/\tn (i+1) s2.1/\∀b∈fp,H' b=js) E s1) E s
 done:∀(X:Cx),X.prog=P->X.w=w->X.K=K->X.calm=j3->∀(i:Nat) (pins:BB) (s:kt) (σ:St) (H:Hp) (E:CB),Inv X pins σ H s->(∀b∈fp,zL X pins H b)->tn i s.1->J.stop i H ->
  ka (Vz P w) X.A (e6 (.ref it)) (λr s1=>r=js/\Inv X pins σ H s1) E s
 self:∀(A:x2) (i:Nat) (s:kt) (Q:CB) (E:CB),tn i s.1->Q (.ref it) s->ka (Vz P w) A (nU (.ref it)) Q E s
noncomputable abbrev TI:=St->Hp->(It->Hp->Prop)->Prop
def Mw(X:Cx)(h:BB)(σ:St)(k:Expr)(R:It->Hp->Prop)(x:ky)(z:kt):Prop :=
 ∃(it:kl) (u:List kl) (tn:Nat->v6->Prop) (J:It) (y:Hp),x=.ref it/\Inv X h σ y z/\Turn X.prog X.w X.K k J u it tn/\tn 0 z.1/\(∀b∈u,zL X h y b)/\R J y
def PI(X:Cx)(u x:Expr)(z:TI):Prop :=
 ∀(h:BB) (s:kt) (y:St) (H:Hp) (R:It->Hp->Prop),Inv X h y H s->z y H R ->
  ka (Vz X.prog X.w) X.A (zz x X.env) (λv k=>ka (Vz X.prog X.w) X.A (nU v) (Mw X h y u R) X.xe k) X.xe s
def aY{s:kt}{Q:Unit->kt->Prop}(z:s.1.get? it=jb o)(hc:o.cls=.type n)(hd:o.data=.fields vs)(k:["enumerate","zip","dict_itemiterator","dict_reverseitemiterator","odict_iterator","itertools.zip_longest","itertools.pairwise"].contains n=Kz)(x:Q Unit.unit s):ka M A (Fz y (.ref it) u) Q E s:=by
  unfold Fz;cases y<;>first
    |exact QT x
    | (cases u<;>first
        |exact QT x
        | (refine QE (QDk z ?_)
           rw[hc,hd];show ka M A (if(["enumerate","zip","dict_itemiterator","dict_reverseitemiterator","odict_iterator","itertools.zip_longest","itertools.pairwise"].contains n&&vs[0]?==jb (gz _))=j3 then _ else _) Q E s;rw[n7 (by intro h;rw[k,QBv]at h;cases h)];exact QT x))
def my(K:QC)(a:kl):It :=
 #[λi H=>∃h x,mD K H a h/\h[i]?=jb x,λi H x y=>y=H/\∀h,mD K H a h->h[i]?=jb x,λi H=>∃h,mD K H a h/\h.9<=i]
def gy(K:QC)(a:kl):It :=
 #[λi H=>∃h x,GE K H a h/\h[i]?=jb x,λi H x y=>y=H/\∀h,GE K H a h->h[i]?=jb x,λi H=>∃h,GE K H a h/\h.9<=i]
def Sw(h:Int)(n:Nat):It:=#[λi _=>i<n,λi H x y=>y=H/\x=.int (h+i),λi _=>n<=i]
def bZ{P:vb}{w:vu}{K:QC}{O:Expr}(a it:kl):Turn P w K O (my K a) [it] it (λi h=>h.IsListIter it a i) where
 mem:=by simp
 obj:=λi h st b g=>by
  have e:b=it:=by simpa using g
  subst e;let#[o,e,c,d]:=st;exact#[o,e,λv z=>by rw[d]at z;cases z]
 keep:=λi h n st k=>st.at λo e=>k it (by simp) o e
 item:=by intro X A Z B hc i y s M H E I m st W;subst A Z B;let#[N,x,l,Y]:=W;let#[r,q,p,S]:=I.list l;let#[u,hu,R]:=q.get Y;let#[L,J,f2,G,F,C]:=m it (by simp);refine Wy st p.isList (x:=u) (by simpa using hu) λn j Q=>?_;have I1:Inv X y M H { s with heap:=n }:=I.turned (t':=s.toks) (λb o g e=>(Q.2 b g).trans e) L J G F C;let#[o,e,c,d]:=id j;exact#[u,rfl,aY (s:={ s with heap:=n }) e c d (by decide) #[x,H,I1,R,#[rfl,λys hy=>by rw[I.list_inj hy l];exact Y],j,λb g=>(m b g).1]]
 done:=by intro X A Z B hc i y s M H E I m st W;subst A Z B;let#[N,l,Y]:=W;let#[r,q,p,S]:=I.list l;let#[L,J,f2,G,F,C]:=m it (by simp);have hl:=q.9;exact QBi (I.ok.hd hc) st p.isList (by simp;omega) λn eb=>#[rfl,I.turned (t':=s.toks) (λb o g e=>eb b o g e) L J G F C]
 self:=λ_ _ _ _ _ st h=>wpAny_pyIter_listiter st h
def fV{P:vb}{w:vu}{K:QC}{O:Expr}(a it:kl):Turn P w K O (gy K a) [it] it (λi h=>h.IsTupleIter it a i) where
 mem:=by simp
 obj:=λi h st b j=>by
  have e:b=it:=by simpa using j
  subst e;let#[o,e,c,d]:=st;exact#[o,e,λv z=>by rw[d]at z;cases z]
 keep:=λi h q st k=>st.at λo e=>k it (by simp) o e
 item:=by intro X A Z B hc i y s M H E I n st W;subst A Z B;let#[N,x,m,Y]:=W;let#[g,r,p,S]:=I.tuple m;let#[u,hu,R]:=r.get Y;let#[L,J,f2,G,F,C]:=n it (by simp);refine wpAny_pyNext_tuple_item st (show s.1.IsTuple a g.toArray from p) (x:=u) (by simpa using hu) λq l Q=>?_;have I1:Inv X y M H { s with heap:=q }:=I.turned (t':=s.toks) (λb o j e=>(Q.2 b j).trans e) L J G F C;let#[o,e,c,d]:=id l;exact#[u,rfl,aY (s:={ s with heap:=q }) e c d (by decide) #[x,H,I1,R,#[rfl,λys hy=>by rw[I.tuple_inj hy m];exact Y],l,λb j=>(n b j).1]]
 done:=by intro X A Z B hc i y s M H E I n st W;subst A Z B;let#[N,m,Y]:=W;let#[g,r,p,S]:=I.tuple m;let#[L,J,f2,G,F,C]:=n it (by simp);have hl:=r.9;exact wpAny_pyNext_tuple_end (I.ok.hd hc) st (show s.1.IsTuple a g.toArray from p) (by simp;omega) λq eb=>#[rfl,I.turned (t':=s.toks) (λb o j e=>eb b o j e) L J G F C]
 self:=λ_ _ _ _ _ st h=>wpAny_pyIter_tupleiter st h
def hV{P:vb}{w:vu}{K:QC}{J:Expr}(it:kl)(a:Int)(n:Nat):Turn P w K J (Sw a n) [it] it (λi h=>IsRangeIter h it (a+(i:Nat) * 1) ((n:Int) - (i:Nat)) 1) where
 mem:=by simp
 obj:=λi h st b y=>by
  have e:b=it:=by simpa using y
  subst e;exact#[_,st,λv z=>by have G:Data.fields _=Data.cell v:=z;cases G]
 keep:=λi h j st k=>k it (by simp) _ st
 item:=by intro X p l q hc i x s C H E I g st m;subst p l q;let#[B,A,M,Z,Y,r]:=g it (by simp);have W:=Walks.range (prog:=X.prog) (w:=X.w) (I.ok.hd hc) it a 1 n;refine W.item i s _ _ m st λv j F hv u L=>?_;let#[t,rfl]:=hv;have O:Inv X x C H { s with heap:=j,toks:=F }:=I.turned (λb o y e=>L b o (by simpa using y) e) B A Z Y r;refine#[_,rfl,aY (s:={ s with heap:=j,toks:=F }) (n:="range_iterator") u rfl rfl (by decide) #[.int (a+i),H,O,#[t,?_],#[rfl,rfl],u,λb y=>(g b y).1]];rw[Int.mul_one]
 done:=by intro X p l q hc i x s C H E I g st m;subst p l q;let#[B,A,M,Z,Y,r]:=g it (by simp);exact wpAny_pyNext_range_end (I.ok.hd hc) st (by have:n<=i:=m;omega) λj N=>#[rfl,I.turned (t':=s.toks) (λb o y e=>N b o y e) B A Z Y r]
 self:=λ_ _ _ _ _ st h=>wpAny_pyIter_rangeiter st h
section
variable{X:Cx}{y:Expr}
def L5{R:It->Hp->Prop}{h x:Int}(I:Inv X z σ H s)(m:-(2 ^ 62)<=h)(l:h<2 ^ 62)(j:-(2 ^ 62)<=x)(i:x<2 ^ 62)(q:R (Sw h (x - h).toNat) H):ka (Vz X.prog X.w) X.A (nU (.ref s.1.1.size)) (Mw X z σ y R) E { s with heap:=s.1.push { cls:=.type "range",data:=.fields (List.toArray [.int h t,.int x u,.int 1 v]) },toks:=k }:=by
 refine wpAny_pyIter_range (IsRange.new ..) (small_one m l j i) ?_;have a:Inv X z σ H { s with heap:=s.1.push { cls:=.type "range",data:=.fields (List.toArray [.int h t,.int x u,.int 1 v]) },toks:=k }:=I.kept λb o e=>QF _ e;refine#[(s.1.push { cls:=.type "range",data:=.fields (List.toArray [.int h t,.int x u,.int 1 v]) }).1.size,[(s.1.push { cls:=.type "range",data:=.fields (List.toArray [.int h t,.int x u,.int 1 v]) }).1.size],_,_,H,rfl,
  a.kept (t':=k) λb o e=>QF _ e,hV _ h (x - h).toNat,?_,λb g=>?_,q]
 have p:h+((0:Nat):Int) * 1=h:=by simp
 have n:(((x - h).toNat:Nat):Int) - ((0:Nat):Int)=Builtin.Range.rangeSize h x 1:=by rw[rangeSize_one];split<;>omega
 show IsRangeIter _ _ (h+((0:Nat):Int) * 1) ((((x - h).toNat:Nat):Int) - ((0:Nat):Int)) 1;rw[p,n];exact QY _ rfl;have e:b=(s.1.push { cls:=.type "range",data:=.fields (List.toArray [.int h t,.int x u,.int 1 v]) }).1.size:=by simpa using g
 subst e;exact a.fpOk (QX _) (a.hok.fresh (QX _))
def uv(b:TI)(g:TG)(e:TS):TS:=λD h H=>b h H λJ l=>∃W:Nat->Nat->St->Hp->Prop,(∃m,W 0 m h l)/\∀i m h H,W i m h H ->
 (J.stop i H/\D.nx h H)∨(J.go i H/\∃N:St->Hp->Prop,(∀z u,N z u->∃a,a < m/\W (i+1) a z u)/\∀x u,J.yld i H x u->g x h u λk j=>e { D with nx:=N,ct:=N,bk:=D.nx } k j)
def PM(x:List kl)(h:v6):BB:=x.filterMap λb=>(h.get? b).map λo=>(b,o)
def lG{h:v6}(z:b∈x)(e:h.get? b=jb o):(b,o)∈PM x h:=QAo.mpr #[b,z,by rw[e];rfl]
def FZ(z:p∈PM x h):p.1∈x/\h.get? p.1=jb p.2:=by
 let#[b,u,e]:=QAo.mp z;cases q:h.get? b with|none=>rw[q]at e;cases e|some o=>rw[q]at e;have k:(b,o)=p:=QW e;subst k;exact#[u,q]
def Inv.pinned(I:Inv X h σ H s)(i:∀b∈x,zL X h H b)(g:∀b∈x,∃o,s.1.get? b=jb o/\∀v,o.data≠.cell v):Inv X (h++PM x s.1) σ H s :=
 I.pins_of λp a=>(Qp.mp a).elim (λz=>I.pin p (Qg _ z)) λz=>by let#[u,e]:=FZ z;let#[m,l,j,_]:=i p.1 u;let#[o,k,d]:=g p.1 u;rw[e]at k;cases k;exact#[e,m,l,j,d]
def Inv.unpinned(I:Inv X (h++pl) σ H s):Inv X h σ H s:=I.pins_of λp x=>I.pin p (Qg _ (qJ _ x))
def vk(O:m9 (Vz X.prog X.w) X.A X.env X.xe)(hc:X.calm=j3)(hi:PI X y p wi)(hg:PG X y g)(q:X3 X body tb)(hs:autoParam (∀x,hR p X.env x=n5 x) zzi._auto_1):PS X (.For y p body [] pos) (uv wi g tb):=by
 intro k s σ H D I h;refine wpAny_For (lI (hi k s σ H _ I h) λv s1 h1=>lI h1 λitv s2 h2=>?_) hs;let#[it,Q,tn,J,H2,e,I2,T,st2,f2,W,#[m0,w0],F]:=h2;subst e;have l:∀{B:Hp},(∀b∈Q,B b=js)->∀b∈Q,zL X k B b:=λhn b q=>#[hn b q,(f2 b q).2]
 refine codeAny_forLoop_any (λn s'=>∃i j B,Inv X k j B s'/\tn i s'.1/\(∀b∈Q,B b=js)/\W i n j B) ?_ m0 #[0,σ,H2,I2,st2,λb q=>(f2 b q).1,w0];rintro n s3 ⟨i,a,R,I3,L,P,w3⟩;rcases F i n a R w3 with⟨G,qn⟩| ⟨go,N,hN,step⟩
 refine Wp O (lI (T.done X rfl rfl rfl hc i k s3 a R X.xe I3 (l P) L G) λr s4 zz=>?_);let#[hr,I4]:=zz;subst hr;exact WI #[a,R,I4,qn];refine Wp O (lI (T.item X rfl rfl rfl hc i k s3 a R X.xe I3 (l P) L go) λr s4 zz=>?_);let#[u,hr,h4]:=zz;subst hr;refine Wp O (lI h4 λ_ s5 zz=>?_);let#[x,H5,I5,r5,y5,E,fr5]:=zz;have I5':=I5.pinned (l fr5) (T.obj _ _ E);refine Wp O (lI (hg _ s5 a H5 x u _ I5' r5 (step x H5 y5)) λ_ s6 zz=>?_);let#[S,H6,I6,q6]:=zz;refine Wp O (lI (q _ s6 S H6 _ I6 q6) λf s7 C=>?_);have Y:∀{z:St}{K:Hp},Inv X (k++PM Q s5.1) z K s7->N z K->∃m,m<n/\∃i j B,Inv X k j B s7/\tn i s7.1/\(∀b∈Q,B b=js)/\W i m j B:=λ{z K} Z M=>by let#[m',hm,w7]:=hN z K M;refine#[m',hm,i+1,z,K,Z.unpinned,T.keep _ _ _ E λb q o e=>(Z.pin (b,o) (Qg _ (Qg _ (lG q e)))).1,λb q=>?_,w7];let#[o,e,d]:=T.obj _ _ E b q;exact(Z.pin (b,o) (Qg _ (Qg _ (lG q e)))).2.1
 cases f with|next=>let#[z,K,Z,M]:=C;exact Y Z M|cont=>let#[z,K,Z,M]:=C;exact Y Z M|brk=>let#[z,K,Z,C]:=C;exact#[z,K,Z.unpinned,C]|ret v=>let#[x7,z,K,Z,r7,C]:=C;exact#[x7,z,K,Z.unpinned,r7,C]
end
noncomputable abbrev R2:=V->V->Hp->VK->Prop
def HE(X:Cx)(f:ky->ky->Sem ky)(r:R2):Prop :=
 ∀(h:BB) (s:kt) (z:St) (H:Hp) (x y:V) (v u:ky) (Q:VK),Inv X h z H s->ZA x v->ZA y u->r x y H Q ->
  ka (Vz X.prog X.w) X.A (f v u) (EP X h z Q) X.xe s
def vC(X:Cx)(f:ky)(r:LV->Hp->VK->Prop):Prop :=
 ∀(h:BB) (s:kt) (x:St) (H:Hp) (y:LV) (z:LW) (Q:VK),Inv X h x H s->YA y z->r y H Q ->
  ka (Vz X.prog X.w) X.A (dw f z) (EP X h x Q) X.xe s
def Gw(X:Cx)(r:V->Hp->(Bool->Hp->Prop)->Prop):Prop :=
 ∀(h:BB) (s:kt) (y:St) (H:Hp) (x:V) (v:ky) (Q:Bool->Hp->Prop),Inv X h y H s->ZA x v->r x H Q ->
  ka (Vz X.prog X.w) X.A (truthy v) (TP X h y Q) X.xe s
def gp(r:R2)(ta z:TE):TE:=λh H Q=>ta h H λx k=>z h k λy u=>r x y u Q
def rI(C:Int->Int->Prop)(g:Int->Int->V):R2:=λx y H Q=>∃i j,x=.int i/\y=.int j/\C i j/\Q (g i j) H
def Fb(g:Int->Int->V):R2:=λx y H Q=>∃i j,x=.int i/\y=.int j/\Q (g i j) H
section
variable{X:Cx}{a b c:Expr}{ta z tc:TE}{pos:Pos}
def binT(Z:PE X a ta)(Y:PE X b z){k:BB}{s:kt}{σ:St}{H:Hp}{R:V->V->Hp->Prop}(I:Inv X k σ H s)
  (h:ta σ H λx l=>z σ l λy e=>R x y e) {Q:CB}{f:ky->ky->Sem ky}
  (r:∀v u j x y e,Inv X k σ e j->ZA x v->ZA y u->R x y e->ka (Vz X.prog X.w) X.A (f v u) Q X.xe j) :
  ka (Vz X.prog X.w) X.A (zz a X.env) (λv i=>ka (Vz X.prog X.w) X.A (zz b X.env) (λu g=>ka (Vz X.prog X.w) X.A (f v u) Q X.xe g) X.xe i) X.xe s:=by
 refine yE (Z k s σ H _ I h) λv m x l K o q=>?_;refine yE (Y k m σ l _ K q) λu j y e W n p=>?_;exact r v u j x y e W o n p
def Df(m:HE X (z4 e) r)(o:PE X a ta)(n:PE X b z):PE X (.BinOp a e b pos) (gp r ta z):=by intro k s g H Q I h;exact wpAny_BinOp (binT o n I h λv u i x y Y p l j q=>m k i g Y x y v u Q p l j q)
def ux{f:ky->ky->Sem ky}{C:Int->Int->Prop}{g:Int->Int->Int}(k:∀(i j:Int) (t u:Tok) (s:kt) (Q:CB) (E:CB),C i j->Q (.int (g i j) s.toks) { s with toks:=s.toks+1 }->ka (Vz X.prog X.w) X.A (f (.int i t) (.int j u)) Q E s) :
  HE X f (rI C λi j=>.int (g i j)):=by
 intro e s o H x y v u Q I n m h;let#[i,j,rfl,rfl,hc,q]:=h;let#[t,rfl]:=n;let#[l,rfl]:=m;exact k i j t l s _ _ hc #[.int (g i j),H,I.tok _,#[_,rfl],q]
def Cq{f:ky->ky->Sem ky}{g:Int->Int->Int}(k:∀(i j:Int) (t u:Tok) (s:kt) (Q:CB) (E:CB),Q (.int (g i j) s.toks) { s with toks:=s.toks+1 }->ka (Vz X.prog X.w) X.A (f (.int i t) (.int j u)) Q E s) :
  HE X f (Fb λi j=>.int (g i j)):=by
 intro e s o H x y v u Q I n m h;let#[i,j,rfl,rfl,q]:=h;let#[t,rfl]:=n;let#[l,rfl]:=m;exact k i j t l s _ _ #[.int (g i j),H,I.tok _,#[_,rfl],q]
def Hc{f:ky->ky->Sem ky}{g:Int->Int->Bool}(k:∀(i j:Int) (t u:Tok) (s:kt) (Q:CB) (E:CB),Q (.bool (g i j)) s->ka (Vz X.prog X.w) X.A (f (.int i t) (.int j u)) Q E s) :
  HE X f (Fb λi j=>.bl (g i j)):=by
 intro e s o H x y v u Q I n m h;let#[i,j,rfl,rfl,q]:=h;let#[t,rfl]:=n;let#[l,rfl]:=m;exact k i j t l s _ _ #[.bl (g i j),H,I,rfl,q]
def La(i j:Int):Prop:=0<=j/\j<=1000000/\i.natAbs<2 ^ 64
def TU(i j:Int):Prop:=(-(2 ^ 64)<i/\i<2 ^ 64)∨(-(2 ^ 64)<j/\j<2 ^ 64)
def TU.ok{i j:Int}(h:TU i j):eN i j:=by
 rcases h with⟨y,x⟩| ⟨y,x⟩
 exact .of_left (QCM y x);exact .of_right (QCM y x)
def op_add:HE X (z4 .Add) (Fb λi j=>.int (i+j)):=Cq λ_ _ _ _ _ _ _ q=>add_int q
def op_sub:HE X (z4 .Sub) (Fb λi j=>.int (i - j)):=Cq λ_ _ _ _ _ _ _ q=>sub_int q
def op_mod:HE X (z4 .Mod) (rI (λ_ j=>0<j) λi j=>.int (i % j)):=ux λi j _ _ _ _ _ hc q=>by have h:(0:Int)<j:=hc;exact mod_int' () (by rw[Int.fmod_eq_emod_of_nonneg i ()];exact q)
def op_pow:HE X (z4 .Pow) (rI La λi j=>.int (i ^ j.toNat)):=ux λ_ _ _ _ _ _ _ hc q=>pow_int_small hc.1 hc.2.1 hc.2.2 q
end
def Kb:V->V->Bool
 | .non,.non=>j3 | .non,.int _=>j3 | .int _,.non=>j3 | .non,.bl _=>j3 | .bl _,.non=>j3 | .non,.str _=>j3 | .str _,.non=>j3
 | .int _,.int _=>j3 | .bl _,.bl _=>j3 | .str _,.str _=>j3 | .byt _,.byt _=>j3
 | .int _,.str _=>j3 | .str _,.int _=>j3 | .bl _,.str _=>j3 | .str _,.bl _=>j3
 |_,_=>Kz
def rEq:R2:=λx y H Q=>Kb x y=j3/\Q (.bl (decide (x=y))) H
def jz:R2:=λx y H Q=>Kb x y=j3/\Q (.bl (!decide (x=y))) H
def FY{i j:Int}:decide (V.int i=V.int j)=(i==j):=by rw[wb];simp
def g9:decide (V.bl i=V.bl j)=(i==j):=by rw[wb];simp
def DY:decide (V.str i=V.str j)=(i==j):=by rw[wb];simp
def GY:decide (V.byt i=V.byt j)=(i.toList==j.toList):=by rw[wb];cases i;cases j;simp
section
variable{X:Cx}{a b c:Expr}{ta g tc:TE}{pos:Pos}
def XA{Q:VK}(I:Inv X h σ H s)(q:Q (.bl k) H)(e:k=x):EP X h σ Q (.bool x) s:=by subst e;exact#[.bl k,H,I,rfl,q]
def op_eq:HE X (xf .Eq) rEq:=by
 intro m s n H x y v u Q I l z h;let#[e,q]:=h;cases x with
 |non =>
  cases l;cases y with|non=>cases z;exact PySem.EqNone.eq_none_none (XA I q (by simp))|bl j=>cases z;exact PySem.EqNone.eq_none_bool (XA I q (by simp))|int j=>let#[k,rfl]:=z;exact PySem.EqNone.eq_none_int (XA I q (by simp))|str j=>let#[k,rfl]:=z;exact PySem.EqNone.eq_none_str (XA I q (by simp))|_=>exact n9 (show Kz=j3 from e) QD
 |bl i =>
  cases l;cases y with|non=>cases z;exact PySem.EqNone.eq_bool_none (XA I q (by simp))|bl j=>cases z;exact eq_bool (XA I q g9)|str j=>let#[k,rfl]:=z;exact PySem.EqMixed.eq_bool_str (XA I q (by simp))|_=>exact n9 (show Kz=j3 from e) QD
 |int i =>
  let#[t,rfl]:=l;cases y with|non=>cases z;exact PySem.EqNone.eq_int_none (XA I q (by simp))|int j=>let#[k,rfl]:=z;exact eq_int (XA I q FY)|str j=>let#[k,rfl]:=z;exact PySem.EqMixed.eq_int_str (XA I q (by simp))|_=>exact n9 (show Kz=j3 from e) QD
 |str i =>
  let#[t,rfl]:=l;cases y with|non=>cases z;exact PySem.EqNone.eq_str_none (XA I q (by simp))|bl j=>cases z;exact PySem.EqMixed.eq_str_bool (XA I q (by simp))|int j=>let#[k,rfl]:=z;exact PySem.EqMixed.eq_str_int (XA I q (by simp))|str j=>let#[k,rfl]:=z;exact eq_str (XA I q DY)|_=>exact n9 (show Kz=j3 from e) QD
 |byt i =>
  let#[t,rfl]:=l;cases y with|byt j=>let#[k,rfl]:=z;exact PySem.W.eq_bytes (XA I q GY)|_=>exact n9 (show Kz=j3 from e) QD
 |_=>cases y<;>exact n9 (show Kz=j3 from e) QD
def op_ne:HE X (xf .NotEq) jz:=by
 intro m s n H x y v u Q I l z h;let#[e,q]:=h;cases x with
 |non =>
  cases l;cases y with|non=>cases z;exact PySem.EqNone.ne_none_none (XA I q (by simp))|bl j=>cases z;exact PySem.EqNone.ne_none_bool (XA I q (by simp))|int j=>let#[k,rfl]:=z;exact PySem.EqNone.ne_none_int (XA I q (by simp))|str j=>let#[k,rfl]:=z;exact PySem.EqNone.ne_none_str (XA I q (by simp))|_=>exact n9 (show Kz=j3 from e) QD
 |bl i =>
  cases l;cases y with|non=>cases z;exact PySem.EqNone.ne_bool_none (XA I q (by simp))|bl j=>cases z;exact ne_bool (XA I q (pu not g9))|str j=>let#[k,rfl]:=z;exact PySem.EqMixed.ne_bool_str (XA I q (by simp))|_=>exact n9 (show Kz=j3 from e) QD
 |int i =>
  let#[t,rfl]:=l;cases y with|non=>cases z;exact PySem.EqNone.ne_int_none (XA I q (by simp))|int j=>let#[k,rfl]:=z;exact ne_int (XA I q (pu not FY))|str j=>let#[k,rfl]:=z;exact PySem.EqMixed.ne_int_str (XA I q (by simp))|_=>exact n9 (show Kz=j3 from e) QD
 |str i =>
  let#[t,rfl]:=l;cases y with|non=>cases z;exact PySem.EqNone.ne_str_none (XA I q (by simp))|bl j=>cases z;exact PySem.EqMixed.ne_str_bool (XA I q (by simp))|int j=>let#[k,rfl]:=z;exact PySem.EqMixed.ne_str_int (XA I q (by simp))|str j=>let#[k,rfl]:=z;exact ne_str (XA I q (pu not DY))|_=>exact n9 (show Kz=j3 from e) QD
 |byt i =>
  let#[t,rfl]:=l;cases y with|byt j=>let#[k,rfl]:=z;exact PySem.W.ne_bytes (XA I q (pu not GY))|_=>exact n9 (show Kz=j3 from e) QD
 |_=>cases y<;>exact n9 (show Kz=j3 from e) QD
def op_lt:HE X (xf .Lt) (Fb λi j=>.bl (decide (i<j))):=Hc λ_ _ _ _ _ _ _ q=>lt_int q
def op_le:HE X (xf .LtE) (Fb λi j=>.bl (decide (i<=j))):=Hc λ_ _ _ _ _ _ _ q=>le_int q
def op_gt:HE X (xf .Gt) (Fb λi j=>.bl (decide (j<i))):=Hc λ_ _ _ _ _ _ _ q=>gt_int q
def op_ge:HE X (xf .GtE) (Fb λi j=>.bl (decide (j<=i))):=Hc λ_ _ _ _ _ _ _ q=>ge_int q
def KZ:HE X (xf .In) (λx y H Q=>∃i j,x=.str i/\y=.str j/\Q (.bl (!(qr j i 0 j.9 1).isEmpty)) H):=by intro z s l H x y v u Q I e k h;let#[i,j,rfl,rfl,q]:=h;let#[t,rfl]:=e;let#[m,rfl]:=k;exact in_str (XA I q rfl)
def Gk:HE X (xf .Is) (λx y H Q=>y=.non/\Q (.bl (decide (x=.non))) H):=by
 intro k s i H x y v u Q I z e h;let#[rfl,q]:=h;cases e;refine is_none_gen (XA I q ?_);cases x<;>first
  | (cases z;rfl)
  | (let#[t,rfl]:=z;rfl)
def Cc:HE X (xf .IsNot) (λx y H Q=>y=.non/\Q (.bl (!decide (x=.non))) H):=by
 intro k s i H x y v u Q I z e h;let#[rfl,q]:=h;cases e;refine isnot_none_gen (XA I q ?_);cases x<;>first
  | (cases z;rfl)
  | (let#[t,rfl]:=z;rfl)
def AQ:HE X (xf .NotIn) (λx y H Q=>∃i j,x=.str i/\y=.str j/\Q (.bl (!(!(qr j i 0 j.9 1).isEmpty))) H):=by intro z s l H x y v u Q I e k h;let#[i,j,rfl,rfl,q]:=h;let#[t,rfl]:=e;let#[m,rfl]:=k;exact notIn_str (XA I q rfl)
def HE.or(h:HE X f r)(h':HE X f r'):HE X f (λx y H Q=>r x y H Q∨r' x y H Q):=by intro z s k H x y v u Q I i e q;rcases q with q|q;exact h z s k H x y v u Q I i e q;exact h' z s k H x y v u Q I i e q
def gc(m:HE X (xf k) r)(p:PE X a ta)(o:PE X b g)(n:ej k b=Kz):PE X (.Compare a [k] [b] pos) (gp r ta g):=by intro z s e H Q I h;exact wpAny_Compare1 (binT p o I h λv u i x y Z Y l j q=>m z i e Z x y v u Q Y l j q) n
def df(t:TE):TT:=λh H Q=>t h H λx y=>∃k,x=.bl k/\Q k y
def Nb(K:HE X (xf l) r)(C:PE X a ta)(B:PE X b g)(A:ej l b=Kz):PT X (.Compare a [l] [b] pos) (df (gp r ta g)):=by
 intro i s j H Q I h;refine wpAny_isTrue_Compare1 (yE (C i s j H _ I h) λv n x M G q W=>yE (B i n j M _ G W) λu m y L F p Z =>
  yE (K i m j L x y v u _ F q p Z) λc N z J E o #[k,e,Y]=>?_) A
 subst e;cases o;exact qp #[J,E,Y]
def mV(r r':R2)(ta g tc:TE):TE:=λh H Q=>ta h H λx l=>g h l λy j=>r x y j λz u=>∃k,z=.bl k /\
 (if k=j3 then tc h u λe i=>r' y e i Q else Q (.bl Kz) u)
def C6(N:HE X (xf m) r)(n:HE X (xf j) r')(R:PE X a ta)(P:PE X b g)(hc:PE X c tc)(O:autoParam (Nz [m,j] [b,c]=false) zzu._auto_1):PE X (.Compare a [m,j] [b,c] pos) (mV r r' ta g tc):=by
 intro i s l H Q I h;refine Compare_chain (yE (R i s l H _ I h) λv C x H1 I1 G M=>chain_link (yE (P i C l H1 _ I1 M) λu B y H2 I2 o L =>
  yE (N i B l H2 x y v u _ I2 G o L) λd A z Y q F #[k,e,p]=>?_)) O
 subst e;cases F;refine qp ?_;cases k with|false=>exact ite_ff #[.bl Kz,Y,q,rfl,p]|true=>exact ite_tt (chain_last (yE (hc i A l Y _ q p) λW K Z H4 S E J=>n i K l H4 y Z u W Q S o E J))
def T5(R:HE X (xf m) r)(n:HE X (xf j) r')(ha:PE X a ta)(hb:PE X b g)(hc:PE X c tc)(S:autoParam (Nz [m,j] [b,c]=false) zzu._auto_1):PT X (.Compare a [m,j] [b,c] pos) (df (mV r r' ta g tc)):=by
 intro i s l H Q I h;refine isTrue_chain (yE (ha i s l H _ I h) λv C x H1 I1 J O=>test_link (yE (hb i C l H1 _ I1 O) λu B y H2 I2 o N =>
  yE (R i B l H2 x y v u _ I2 J o N) λd A z Y q G #[k,e,p]=>?_)) S
 subst e;cases G;refine qp ?_;cases k with|false=>let#[k',e',P]:=p;cases e';exact ite_ff #[Y,q,P]|true=>refine ite_tt (test_last (yE (hc i A l Y _ q p) λW K Z H4 I4 F M=>yE (n i K l H4 y Z u W _ I4 o F M) λd' s5 z2 H5 I5 E #[k2,e2,L]=>?_));subst e2;cases E;exact qp #[H5,I5,L]
def Pn(K:QC)(x:V)(H:Hp)(k:Bool):Prop :=
 match x with
 | .non=>k=Kz|.bl b=>k=b|.int i=>k=(i != 0)|.str y=>y.9<=ke/\k=((y.9:Int) != 0)|.byt y=>y.size<=ke/\k=((y.size:Int) != 0)|.ref p=>(∃h,mD K H p h/\k=!h.isEmpty)∨(∃h,GE K H p h/\k=!h.isEmpty)∨∃z,H p=jb (.dK z)/\k=!z.isEmpty|_=>False
def XW{x:Type}{h:List (x×V)}{vs:List (x×ky)}(r:KV h vs):(!vs.isEmpty)=!h.isEmpty:=by cases r<;>rfl
def YN(r:YA xs its):(!its.toArray.isEmpty)=!xs.isEmpty:=by cases r<;>simp
def CI:(ke:Nat)<2 ^ 63:=by rw[wP];decide
def G4:Gw X (λx H Q=>∃k,Pn X.K x H k/\Q k H):=by
 intro A s F H x v Q I n h;let#[k,e,q]:=h;have hl:=CI;have G:ke=16777216:=wP;cases x with
 |non=>cases n;have z:k=false:=e;subst z;exact truthy_none #[H,I,q]|bl b=>cases n;have z:k=b:=e;subst z;exact qp #[H,I,q]|int i=>let#[t,rfl]:=n;have z:k=(i != 0):=e;subst z;exact PySem.P.truthy_int #[H,I,q]|str y=>let#[t,rfl]:=n;obtain⟨C,z⟩:y.9<=ke/\k=((y.9:Int) != 0):=e;subst z;exact PySem.P.truthy_str () #[H,I.tok _,q]|byt y=>let#[t,rfl]:=n;obtain⟨C,z⟩:y.size<=ke/\k=((y.size:Int) != 0):=e;subst z;exact PySem.W.truthy_bytes () #[H,I.tok _,q]|ref p =>
  cases n;have z:(∃l,mD X.K H p l/\k=!l.isEmpty)∨(∃l,GE X.K H p l/\k=!l.isEmpty)∨∃u,H p=jb (.dK u)/\k=!u.isEmpty:=e;rcases z with⟨l,o,z⟩| ⟨l,o,z⟩| ⟨u,o,z⟩
  subst z;let#[Z,r,Y,B]:=I.list o;have j:=r.9;exact wpAny_truthy_list Y.isList (by simp only[QN];omega) #[H,I.tok _,by rw[YN r];exact q];subst z;let#[Z,r,Y,B]:=I.tuple o;have j:=r.9;exact truthy_tuple Y (by simp only[QN];omega) #[H,I.tok _,by rw[YN r];exact q];subst z;obtain⟨B,E,vs,r,m⟩:u.9<=ke/\(p==Gz)=Kz/\∃vs,KV u vs/\s.1.DictOf (LB X.prog X.w) p vs:=I.hok p _ o;have j:u.9=vs.length:=Wo r;exact wpAny_truthy_dict E m () #[H,I.tok _,by rw[XW r];exact q]
 |_=>exact(show False from e).elim
def FV:HE X (z4 .Add) (λx y H Q=>∃i j,x=.str i/\y=.str j/\i.9+j.9<=ke/\Q (.str (i++j)) H):=by intro z s n H x y v u Q I l e h;let#[i,j,rfl,rfl,m,q]:=h;let#[t,rfl]:=l;let#[k,rfl]:=e;exact add_str (λk o=>#[.str (i++j),H,I.tok _,#[_,rfl],q]) m
def ME(r:YA [x] us):∃u,us=[u]/\ZA x u:=by
 cases r with|cons y h=>cases h;exact#[_,rfl,y]
def tS(r:YA [x,y] us):∃u h,us=[u,h]/\ZA x u/\ZA y h:=by
 cases r with
 |cons i e =>
  cases e with|cons k z=>cases z;exact#[_,_,rfl,i,k]
def G2(hc:X.calm=j3):vC X (.builtin "max") (λxs H Q=>∃i j,xs=[.int i,.int j]/\Q (.int (if j > i then j else i)) H):=by
 intro y s z H xs l Q I r h;let#[i,j,rfl,q]:=h;let#[u,e,rfl,#[t,rfl],#[n,rfl]]:=tS r;refine max_two_ints (I.ok.hd hc) λo m k=>#[_,H,I.kept k,?_,q]
 by_cases x:j > i;rw[n8 x,n8 x];exact#[_,rfl];rw[n7 x,n7 x];exact#[_,rfl]
def vQ:vC X (.type "int") (λxs H Q=>(∃i,xs=[.int i]/\Q (.int i) H)∨∃k,xs=[.bl k]/\Q (.int (if k then 1 else 0)) H):=by
 intro x s z H xs e Q I r h;rcases h with⟨i,rfl,q⟩| ⟨k,rfl,q⟩
 let#[u,rfl,t,rfl]:=ME r;exact call_int_int #[.int i,H,I,#[_,rfl],q];let#[u,rfl,y]:=ME r;cases y;exact call_int_bool #[.int (if k then 1 else 0),H,I.tok _,#[_,rfl],q]
def TR:vC X (.type "str") (λxs H Q=>∃i,xs=[.int i]/\i.natAbs.log2<1920/\Q (.str (n6 i)) H):=by intro x s z H xs k Q I r h;let#[i,rfl,y,q]:=h;let#[u,rfl,t,rfl]:=ME r;exact PySem.P.str_of_int y #[.str _,H,I.tok _,#[_,rfl],q]
end
structure ObjM(h:v6)(x dx C:kl)(mA:Str->Option ky):Prop where
 obj:h.get? x=jb (QBg C dx)
 ns:h.Ns1 dx mA
 ne:dx≠x
def iP{h:v6}(n:h.Ns1 g k):∃u,h.get? g=jb u/\∀name,QAy name u=jb (k name):=by
 let#[o,b,p,j,hd,hk,_,l]:=n;refine#[o,j,λname=>?_];have e:=l name;unfold nsFind findBy at e;rw[<- Array.find?_toList]at e;unfold QAy;rw[hd];dsimp only;split;rename_i y q;rw[q]at e;exact pu jb e;rename_i q;rw[q]at e;have a:b.toList.any (·.refKey)=false:=by rw[QA4];intro y i;let#[z,t,x]:=hk y (Array.mem_toList_iff.mp i);simp[DictEntry.refKey,x]
 have m:¬ b.toList.any (·.refKey)=true:=by rw[a];exact QD
 rw[n7 m];exact pu jb e
def ObjM.look(I:ObjM h x u C z):∃y,PySem.W.InstAt h x (QBg C u) C (jb y)/\∀name,QAy name y=jb (z name) :=
 let#[y,k,hl]:=iP I.ns
 #[y,#[I.obj,rfl,rfl,k],hl]
def xK.some_of(r:xK (jb v) o):∃u,o=jb u/\ZA v u:=by
 cases o with|none=>exact(show False from r).elim|some u=>exact#[u,rfl,r]
def A0(r:ZA v u):PySem.W.handedIn u=true:=by
 cases v with|non=>cases(show u=j1 from r);rfl|bl b=>cases(show u=Value.bool b from r);rfl|int i=>let#[t,e]:=(show ∃t,u=Value.int i t from r);cases e;rfl|str x=>let#[t,e]:=(show ∃t,u=Value.str x t from r);cases e;rfl|byt b=>let#[t,e]:=(show ∃t,u=Value.bytes b t from r);cases e;rfl|flt b=>let#[t,e]:=(show ∃t,u=Value.float b t from r);cases e;rfl|ref a=>cases(show u=j2 a from r);rfl|ty n=>cases(show u=Value.type n from r);rfl
section
variable{P:vb}{w:vu}{H H':Hp}{h h':v6}{a C y:kl}{x u:List (Str×V)}
def Td(hok:SH P w H h)(e:H a=jb (.ins C y x)):∃k,ObjM h a y C k/\(∀f,xK (x.lookup f) (k f))/\PySem.Within k (x.map (·.1))/\x.9<=1000/\H y=jb (.own a):=by
 let#[d,z,g,b,k,n,r,q]:=(show NA P w H h a (.ins C y x) from hok a _ e)
 exact#[k,#[b,n,g],r,q,z,d]
end
structure Cls(K:QC)(C:kl):Prop where
 pg:QC8 K C QDp=j3
 hd:QA5 K C=j3
 po:PySem.W.plainOver K C=j3
 sa:wD K (.ref C) "__setattr__"=jb (jb (.builtin "object.__setattr__"))
def Cls.get{K:QC}{C:kl}(c:Cls K C)(f:Str):QC8 K C f=true:=c.pg
section
variable{X:Cx}{x:BB}{σ:St}{H:Hp}{s:kt}{a C z:kl}{y:List (Str×V)}{f:Str}{v:V}{A:x2}{E:CB}
def De{f:Str}{s:kt}(k:gi e f env (zz e env)=zz e env)(h:ka (Vz prog w) A (zz e env) (λo u=>ka (Vz prog w) A (getAttr o f j3) Q E u) E s):ka (Vz prog w) A (zz (.Attribute e f pos) env) Q E s :=
 Attribute_any_ h (by rw[arm_eval_Attribute,k])
end
section
variable{X:Cx}{v:BB}{σ:St}{H:Hp}{s:kt}{A:x2}{E:CB}{Q:CB}{c:ky}{b:Bool}
inductive TyOf(K:QC)(H:Hp):V->ky->Prop where
 |non:TyOf K H .non (.type "NoneType")
 |bl (x:Bool):TyOf K H (.bl x) (.type "bool")
 |int (i:Int):TyOf K H (.int i) (.type "int")
 |str (x:Str):TyOf K H (.str x) (.type "str")
 |flt (x:UInt64):TyOf K H (.flt x) (.type "float")
 |lst {a:kl}{xs:LV}(e:H a=jb (.lst xs)):TyOf K H (.ref a) (.type "list")
 |frz {a:kl}{o:Obj}{xs:LV}(e:H a=jb (.frz o (.lst xs))):TyOf K H (.ref a) (.type "list")
 |tup {a:kl}{xs:LV}(e:H a=jb (.tup xs)):TyOf K H (.ref a) (.type "tuple")
 |dK {a:kl}{kvs:List (AD×V)}(e:H a=jb (.dK kvs)):TyOf K H (.ref a) (.type "dict")
 |dT {a:kl}{kvs:List (List AD×V)}(e:H a=jb (.dT kvs)):TyOf K H (.ref a) (.type "dict")
 |ins {a C dx:kl}{fs:List (Str×V)}(e:H a=jb (.ins C dx fs)) (cl:Cls K C) (ha:wD K (.ref C) "__class__"=jb (jb (.builtin "object.__class__")))
   (hn:PySem.W.specialIn K (.builtin "object.__class__") "__get__"=jb (jb (.builtin "getset_descriptor.__get__"))) (htk:PySem.W.takesIn K (.builtin "object.__class__")=jb j3)
   (hm:QAU K C (.type "object")=jb j3):TyOf K H (.ref a) (.ref C)
def U0(I:Inv X v σ H s)(k:ZA x u)(ty:TyOf X.K H x t)(e:WZ X.K t c=jb b)(h:∀B,Q (.bool b) { s with toks:=B }) :
  ka (Vz X.prog X.w) A (dw (.builtin "isinstance") [u,c]) Q E s:=by
 cases ty with
 |non=>cases(show u=j1 from k);exact qL PySem.W.kitx_none I.kIn True.intro e (λz=>nomatch z) h
 |bl y=>cases(show u=Value.bool y from k);exact qL PySem.W.kitx_bool I.kIn True.intro e (λz=>nomatch z) h
 |int i=>let#[t,q]:=(show ∃t,u=Value.int i t from k);cases q;exact qL PySem.W.kitx_int I.kIn True.intro e (λz=>nomatch z) h
 |str y=>let#[t,q]:=(show ∃t,u=Value.str y t from k);cases q;exact qL PySem.W.kitx_str I.kIn True.intro e (λz=>nomatch z) h
 |flt y=>let#[t,q]:=(show ∃t,u=Value.float y t from k);cases q;exact qL PySem.W.kitx_float I.kIn True.intro e (λz=>nomatch z) h
 |@lst a m g =>
  cases(show u=j2 a from k);let#[_,_,n,_,j]:=(show NA X.prog X.w H s.1 a (.lst m) from I.hok a _ g)
  exact qL QA6 I.kIn #[_,j,rfl] e (λz=>nomatch z) h
 |@frz a F m g =>
  cases(show u=j2 a from k);let#[_,_,_,n,_,j]:=(show NA X.prog X.w H s.1 a (.frz F (.lst m)) from I.hok a _ g)
  exact qL QA6 I.kIn #[_,j,rfl] e (λz=>nomatch z) h
 |@tup a m g =>
  cases(show u=j2 a from k);let#[_,_,_,p]:=(show NA X.prog X.w H s.1 a (.tup m) from I.hok a _ g)
  let#[o,j,r,_]:=p;exact qL QCN I.kIn #[o,j,r] e (λz=>nomatch z) h
 |@dK a l g =>
  cases(show u=j2 a from k);let#[_,_,vs,_,p]:=(show NA X.prog X.w H s.1 a (.dK l) from I.hok a _ g)
  let#[o,N,P,j,r,_]:=p;exact qL QCd I.kIn #[o,j,r.1] e (λz=>nomatch z) h
 |@dT a l g =>
  cases(show u=j2 a from k);let#[_,_,m,_,o,N,P,j,r,_]:=(show NA X.prog X.w H s.1 a (.dT l) from I.hok a _ g)
  exact qL QCd I.kIn #[o,j,r.1] e (λz=>nomatch z) h
 |@ins a C dx fs g Z M G Y L=>cases(show u=j2 a from k);let#[S,O,_]:=Td I.hok g;let#[R,J,_]:=O.look;exact qL (PySem.W.kitx_own (Z.get _) Z.hd M G Y L) I.kIn J e (λz=>nomatch z) h
end
structure Room(k:Nat)(A:x2):Prop where
 hd:A.handled=js
 dp:A.depth+3 * k+5<recursionLimit
 un:A.units+16 * k+200<eI
def Room.mono(r:Room k A)(h:j<=k):Room j A:=#[r.hd,by have:=r.dp;omega,by have:=r.un;omega]
def Room.deeper(r:Room (k+1) A)(env:Env):Room k (A.deeper env) :=
 #[r.hd,by have:=r.dp;show A.depth+1+3 * k+5<_;omega,by have:=r.un;show A.units+3+16 * k+200<_;omega]
def JW{A:x2}:(A.under (.builtin "type.__call__" #[.ref C::us,h])).depth=A.depth+1:=by first|rfl|simp[QCy,Code.weight,Code.isCreation,Code.isGuard,Code.isCaller,Code.frames,QCz,guardIds]
def iW{A:x2}:(A.under (.builtin "type.__call__" #[.ref C::us,h])).units=A.units+1:=by first|rfl|simp[QCy,Code.cUnits,Code.frames,QCz]
def Room.make(r:Room (k+1) A)(C:kl)(us:LW)(h:List (Str×ky)):Room k (A.under (.builtin "type.__call__" #[.ref C::us,h])) :=
 #[r.hd,by have:=r.dp;rw[JW];omega,by have:=r.un;rw[iW];omega]
def Room.depth(r:Room k A):A.depth<recursionLimit:=by have:=r.dp;omega
def lj:TA:=λ_ H Q=>Q [] H
def gf(ta:TE)(z:TA):TA:=λh H Q=>ta h H λx k=>z h k λy u=>Q (x::y) u
section
variable{X:Cx}{e:Expr}{y:List Expr}{te:TE}{t:TA}{pos:Pos}
def eK:PA X [] lj:=λ_ _ _ _ H Q I h=>QA7 #[[],H,I,.nil,h]
def UD(o:PE X e te)(n:PA X y t)(m:autoParam (Xz (e::y) X.env=(Kz,zz e X.env)::Xz y X.env) zzr._auto_1):PA X (e::y) (gf te t):=by intro pos z s k H Q I h;rw[m];show ka _ _ (spliced ((Kz,zz e X.env)::gl pos (Xz y X.env))) _ _ s;refine Wq (yE (o z s k H _ I h) λu b x Y q i l=>?_);exact ZX (n pos z b k Y _ q l) λZ W a r p g j=>#[x::a,r,p,.cons i g,j]
def Pu(t:TA):TE:=λz H Q=>t z H λh x=>h.9<=ke/\∀p,x p=js->Q (.ref p) (LA x p (.tup h))
def Iu(t:TA):TE:=λz H Q=>t z H λh x=>h.9<=ke/\∀p,x p=js->Q (.ref p) (LA x p (.lst h))
def ak{x1}(h:PA X y t):PE X (.Tuple y x1 pos) (Pu t):=by intro x s i H Q I m;refine wpAny_Tuple_spliced (ZX (h pos x s i H _ I m) λl k j g a r #[z,q]=>#[by rw[<- r.9];exact z,?_]);have n:g k.1.1.size=none:=a.hok.fresh (QX _);refine#[.ref k.1.1.size,LA g k.1.1.size (.tup j),a.laid (t':=k.toks) (λb u e=>QF _ e) (QX _) ?_,rfl,q _ n];exact#[z,l,r,#[_,QY _ rfl,rfl,_,rfl]]
def Yk(h:PA X y t):PE X (.List y pos) (Iu t):=by intro x s i H Q I m;refine wpAny_List_spliced (ZX (h pos x s i H _ I m) λl k j g a r #[z,q]=>#[by rw[<- r.9];exact z,?_]);have n:g k.1.1.size=none:=a.hok.fresh (QX _);refine#[.ref k.1.1.size,LA g k.1.1.size (.lst j),a.laid (t':=k.toks) (λb u e=>QF _ e) (QX _) ?_,rfl,q _ n];exact#[z,l,0,r,QY _ rfl]
end
noncomputable abbrev Sp:=LV->Hp->VK->XK->Prop
noncomputable abbrev jV:=List Env->Hp->kt->XK->ky->kt->Prop
structure Env0(P:vb)(w:vu)(K:QC)(mg:Str->Option ky)(base:v6)(A:x2)(outer:List Env)(s:kt)(H:Hp):Prop where
 frames:A.frames=jb outer
 mod:Mod K mg base
 bs:∀b o,base.get? b=jb o->s.1.get? b=jb o/\H b=js
 bsz:base.1.size<=s.1.1.size
 funs:s.1.FunFrames base outer
 frf:∀b∈HP outer,H b=js
 hok:SH P w H s.1
 bare:AllBare s.gens
def CE(outer:List Env)(P:vb)(w:vu)(H:Hp)(s:kt)(Q:VK)(u:ky)(s':kt):Prop :=
 ∃v h,s'.os=s.os/\AllBare s'.gens/\Un (HP outer) [] H h s.1 s'.1/\SH P w h s'.1/\ZA v u/\Q v h
def CR(h:jV)(outer:List Env)(P:vb)(w:vu)(H:Hp)(s:kt)(Q:VK)(E:XK)(r:Result)(s':kt):Prop :=
 match r with
 | .ok (.ret u)=>CE outer P w H s Q u s'|.ok _=>False|.error e=>h outer H s E e s'
structure FnOk(P:vb)(w:vu)(K:QC)(mg:Str->Option ky)(base:v6)(CX:jV)(k:Nat)(f:kl)(fd:x3)(ps:LS)(sp:Sp):Prop where
 len:∀vs H Q E,sp vs H Q E->vs.9=ps.9
 run:∀(A:x2) (outer:List Env) (s:kt) (H:Hp) (args:Args) (us:LW) (vs:LV) (Q:VK) (E:XK),Room k A->Env0 P w K mg base A outer s H->Cz s fd args (ps.zip us)->YA vs us->sp vs H Q E ->
  cv (Vz P w) A (.call (.ref f) args) (CR CX outer P w H s Q E) s
def FnOk.mono{P:vb}{w:vu}{K:QC}{u:Str->Option ky}{x:v6}{b:jV}{j k:Nat}{f:kl}{a:x3}{ps:LS}{z:Sp}(F:FnOk P w K u x b j f a ps z)(h:j<=k) :
  FnOk P w K u x b k f a ps z:=#[F.len,λA y s H args e vs Q E g=>F.run A y s H args e vs Q E (g.mono h)]
def FnOk.imp{P:vb}{w:vu}{K:QC}{a:Str->Option ky}{x:v6}{e:jV}{k:Nat}{f:kl}{b:x3}{ps:LS}{u z:Sp}(F:FnOk P w K a x e k f b ps u)
  (h:∀vs H Q E,z vs H Q E->u vs H Q E):FnOk P w K a x e k f b ps z :=
 #[λvs H Q E q=>F.len vs H Q E (h _ _ _ _ q),λA y s H args g vs Q E j l m hv i=>F.run A y s H args g vs Q E j l m hv (h _ _ _ _ i)]
def Env0.make{P:vb}{w:vu}{K:QC}{x:Str->Option ky}{h:v6}{A:x2}{outer:List Env}{s:kt}{H:Hp}(e:Env0 P w K x h A outer s H)(C:kl)(us:LW)(y:List (Str×ky)) :
  Env0 P w K x h (A.under (.builtin "type.__call__" #[.ref C::us,y])) outer s H:=#[by first|exact e.frames | (simpa[QCy,Code.envs,QCz,pushEnvs]using e.frames),e.mod,e.bs,e.bsz,e.funs,e.frf,e.hok,e.bare]
section
variable{X:Cx}{x:BB}{σ:St}{H:Hp}{s s':kt}
def Inv.env0(I:Inv X x σ H s):Env0 X.prog X.w X.K X.mg X.base X.A X.stack s H :=
 #[I.ok.frames,I.ok.mod,I.bs,qG I.ok.bsz I.sz,I.stack,I.stkFree,I.hok,I.bare]
def Inv.after(I:Inv X x σ H s)(h:CE X.stack X.prog X.w H s Q u s'):EP X x σ Q u s':=by let#[v,a,os,bare,un,hok,r,q]:=h;let#[k,g,d,t,y]:=s';obtain rfl:y=s.os:=os;exact#[v,a,I.call (h':=k) (g':=g) (d':=d) (t':=t) (ch:=[]) un hok bare (λb z=>n9 z (by simp)),r,q]
end
def rf(y:Sp)(h:LV)(E:XK)(t:TA):TE:=λx H Q=>t x H λvs z=>y (vs++h) z Q E
def xF(K:QC)(y:x3)(ps:LS)(x:LW):Prop :=
 ∀(s:kt) (h:LW),K.In s.1->(h++x).9=ps.9->Cz s y #[h,[]] (ps.zip (h++x))
def xF.all{K:QC}{x:x3}{ps:LS}(h:∀us:LW,us.9=ps.9->Bz x #[us,[]]=n5 (ps.zip us)):xF K x ps []:=λs us _ hl=>by rw[Qe]at hl ⊢;exact .of_eq (h us hl)
def fO(z:jV)(X:Cx)(E:XK):Prop:=∀(h:BB) (y:St) (H:Hp) (s:kt) (e:ky) (x:kt),Inv X h y H s->z X.stack H s E e x->X.xe e x
section
variable{X:Cx}{b:jV}{k:Nat}{f C:kl}{a:x3}{ps:LS}{v:Sp}{y:LV}{z:LW}{E:XK}{x m:Str}{p pos apos:Pos}{e o:Expr}{c:List Expr}{ta:TE}{t:TA}
def K5(F:FnOk X.prog X.w X.K X.mg X.base b k f a ps v)(q:Room k X.A)(Y:xF X.K a ps z)(hd:YA y z)(n:fO b X E)(I:Inv X g σ H s)(r:YA vs us)(h:v (vs++y) H Q E):ka (Vz X.prog X.w) X.A (dw (.ref f) us) (EP X g σ Q) X.xe s:=by
 have j:YA (vs++y) (us++z):=r.append hd;have hl:(us++z).9=ps.length:=by rw[<- j.9];exact F.len _ _ _ _ h
 refine QA8 (WJ (F.run X.A X.stack s H #[us,[]] (us++z) (vs++y) Q E q I.env0 (Y s us I.kIn hl) j h) λr l i=>?_);cases r with
 |error e=>exact n g σ H s e l I i|ok Z =>
  cases Z with|ret u=>exact I.after i|next=>exact QV i|brk=>exact QV i|cont=>exact QV i
def Jc(F:FnOk X.prog X.w X.K X.mg X.base b k f a ps v)(Y:Room k X.A)(W:Gl X x)(Z:X.mg x=jb (.ref f))(hk:qq X.K (.ref f)=j3)(G:xF X.K a ps z)(hd:YA y z)(n:fO b X E)
  (J:PA X (e::c) t) (i:autoParam ((x==("__debug__":Str))=false) zzd._auto_1) (B:autoParam (Xz (e::c) X.env=(Kz,zz e X.env)::Xz c X.env) zzr._auto_1) (g:autoParam ((gl pos (Xz c X.env)).any (·.1)=false) zzr._auto_1) :
  PE X (.Call (.Name x p) (e::c) [] pos) (rf v y E t):=by
 intro u s l H Q I h;refine wL (FJ I W Z ?_ i);refine QAp (h₀:=X.base) I.ok.mod.kin hk (ZX (J pos u s l H _ I h) λL M vs N j r q=>#[j.kIn,?_]) B g;exact K5 F Y G hd n j r q
def F6(F:FnOk X.prog X.w X.K X.mg X.base b k f a ps v)(j:Room k X.A)(n:Gl X x)(l:X.mg x=jb (.ref f))(hk:qq X.K (.ref f)=j3)(q:xF X.K a ps z)(hd:YA y z)(i:fO b X E)
  (u:autoParam ((x==("__debug__":Str))=false) zzd._auto_1):PE X (.Call (.Name x p) [] [] pos) (rf v y E lj):=by
 intro g s r H Q I h;refine wL (FJ I n l ?_ u);exact PySem.W.callWith_K0 I.kIn hk (K5 (us:=[]) F j q hd i I .nil h)
end
section
variable{X:Cx}{c:jV}{k:Nat}{f C:kl}{a:x3}{ps ks:LS}{u:Sp}{E:XK}{x m:Str}{p pos apos h:Pos}{e o:Expr}{b:List Expr}{y:List fy}{te ta:TE}{t z:TA}{v:Option Str}
variable{g:LW->LW->LW}{w:LV->LV->LV}
end
structure FnScope(N P:LS)(sc:gV):Prop where
 kind:sc.kind=.function
 co:sc.isCoroutine=Kz
 gen:sc.isGenerator=Kz
 nd:N.Nodup
 pre:N.take P.9=P
 par:∀x∈P,sc.names.lookup x=jb .local∨sc.names.lookup x=jb .cell
 nofree:∀y∈sc.names,y.2≠.free
def uQ:∀{binds:List (Str×ky)}{m:Str->Option ky},(∀v,(x,v)∉binds)->bindL y binds m x=m x
 |[],_,_=>rfl|(n,v)::r,m,h=>by
  unfold bindL;rw[uQ λw z=>h w (QI _ z)];split;have:x≠n:=by rintro rfl;exact h v QL
  simp[this];rfl
def cQ:∀{binds:List (Str×ky)}{m:Str->Option ky},(∀v,(x,v)∉binds)->l4 y binds m x=m x
 |[],_,_=>rfl|(n,v)::r,m,h=>by
  unfold l4;rw[cQ λw z=>h w (QI _ z)];split;rfl;have:x≠n:=by rintro rfl;exact h v QL
  simp[this]
def bQ{y:Str->Option fa}:∀{P:LS}{vs:LW}{i:Nat}{m:Str->Option ky},P.Nodup->P[i]?=jb x->vs[i]?=jb v->y x=jb .local ->
  bindL y (P.zip vs) m x=jb v
 |[],_,_,_,_,h,_,_=>by simp at h|_::_,[],_,_,_,_,h,_=>by simp at h|p::P,w::vs,0,m,nd,h1,h2,hk=>by simp at h1 h2;subst h1;subst h2;show bindL y ((p,w)::P.zip vs) m p=_;unfold bindL;rw[uQ λv hv=>(wH.mp nd).1 (QAc hv).1,n8 hk];simp|p::P,w::vs,i+1,m,nd,h1,h2,hk=>by show bindL y ((p,w)::P.zip vs) m x=_;unfold bindL;exact bQ (i:=i) (wH.mp nd).2 (by simpa using h1) (by simpa using h2) hk
def dQ{y:Str->Option fa}:∀{P:LS}{vs:LW}{i:Nat}{m:Str->Option ky},P.Nodup->P[i]?=jb x->vs[i]?=jb v->y x≠jb .local ->
  l4 y (P.zip vs) m x=jb v
 |[],_,_,_,_,h,_,_=>by simp at h|_::_,[],_,_,_,_,h,_=>by simp at h|p::P,w::vs,0,m,nd,h1,h2,hk=>by simp at h1 h2;subst h1;subst h2;show l4 y ((p,w)::P.zip vs) m p=_;unfold l4;rw[cQ λv hv=>(wH.mp nd).1 (QAc hv).1,n7 hk];simp|p::P,w::vs,i+1,m,nd,h1,h2,hk=>by show l4 y ((p,w)::P.zip vs) m x=_;unfold l4;exact dQ (i:=i) (wH.mp nd).2 (by simpa using h1) (by simpa using h2) hk
def mF(N:LS)(vs:LV):St:=vs.map jb++QK (N.9 - vs.9) js
def LK(z:jV)(P:vb)(w:vu)(K:QC)(mg:Str->Option ky)(base:v6)(N:LS)(x:Str)(h:gV)(f:kl)(cd:ky)(A:x2)(outer:List Env)(s:kt)(H:Hp)(E:XK):Cx where
 prog:=P
 w:=w
 K:=K
 mg:=mg
 base:=base
 A:=A.deeper (envOfC x h s.1.1.size f cd)
 N:=N
 s₀:=s
 H₀:=H
 env:=envOfC x h s.1.1.size f cd
 outer:=outer
 stack:=envOfC x h s.1.1.size f cd::outer
 ex:=[]
 calm:=j3
 fn:=λ_=>j3
 pn:=[]
 xe:=λe u=>ka (Vz P w) (A.deeper (envOfC x h s.1.1.size f cd)) (leaving (envOfC x h s.1.1.size f cd) e) (λ_ y=>z outer H s E e y) (λk y=>z outer H s E k y) u
def mU{sc:gV}(h:sc.names.lookup x=jb .cell):∃c,(nj n sc.names []).lookup x=jb c:=by have q:=QBW sc.names n [] (.inl h);exact QA9.mp q
def G0{J:jV}{P:vb}{w:vu}{K:QC}{F:Str->Option ky}{m:v6}{N ps:LS}{j:Str}{g:gV}{f:kl}{cd:ky}{A:x2}{outer:List Env}{s G:kt}{H:Hp}{E:XK}{us:LW}{vs:LV}
  (S:FnScope N ps g) (hd:A.handled=js) (o:Env0 P w K F m A outer s H) (hl:vs.9=ps.9) (r:YA vs us)
  (x:InCallC s s.1.1.size (bindL (envOfC j g s.1.1.size f cd).kindOf (ps.zip us) λ_=>js) (nj (s.1.1.size+1) g.names []) (l4 (envOfC j g s.1.1.size f cd).kindOf (ps.zip us) λ_=>js) G) :
  Inv (LK J P w K F m N j g f cd A outer s H E) [] (mF N vs) H G:=by
 have M:ps.9<=N.length:=by have:=pu We S.pre;rw[Wd]at this;omega
 let#[C,Q,rfl,hk]:=x.done;have X:∀b:kl,b∉(LK J P w K F m N j g f cd A outer s H E).ex:=λb z=>n9 (show b∈([]:List kl) from z) (by simp);refine#[#[o.mod,S.kind,rfl,rfl,QX _,λy z c C l=>?_,λy Y=>?_,λy c _ h=>?_,λ_=>hd,Around.frames_deeper o.frames,.inr #[rfl,rfl],λb z=>n9 z (X b),o.bs,o.bsz,λb _ _=>X b,λb z=>n9 z (X b),o.funs,o.frf],
  rfl,o.bare,Un.kept hk,#[_,x.toInCall.ns,λi y v C l R=>?_],λy c h=>#[_,x.cell y c h],o.hok.fresh (QX _),λy c h=>?_,λp W=>n9 (show p∈([]:BB) from W) (by simp),o.hok.kept hk,?_]
 exact name_of_addr x.apart (qQ C) (qQ l);have Y:g.names.lookup y=jb .cell∨g.names.lookup y=jb .free:=Y;rcases Y with Y|Y;exact mU Y;exact n9 rfl (S.nofree _ (qQ Y));exact QCw (x.above y c (qQ h));have B:i<vs.length:=by unfold mF at l;by_cases B:i<vs.9;exact B;rw[Qj (by simpa using B)]at l;rw[wW]at l;split at l<;>cases l
 have O:vs[i]?=jb v:=by
  unfold mF at l;rw[Qw (by simpa using B),Qd]at l;cases e:vs[i]? with|none=>rw[e]at l;cases l|some a=>rw[e]at l;cases l;rfl
 let#[u,I,L]:=r.get O;have W:ps[i]?=jb y:=by rw[<- S.pre,List.getElem?_take_of_lt ()];exact C
 have Z:ps.Nodup:=by rw[<- S.pre];exact S.nd.sublist (List.take_sublist _ _)
 refine#[u,L,?_];rcases S.par y (qa W) with k|k;exact .inl #[k,bQ Z W I k];let#[c,e]:=mU (n:=s.1.1.size+1) k;refine .inr #[.inl k,c,e,?_];have q:=x.cell y c e;rw[dQ Z W I (by show g.names.lookup y≠_;rw[k];decide)]at q;exact q;exact o.hok.fresh (QCw (x.above y c (qQ h)));unfold mF;show _=N.9;rw[QJ,QG,qN];omega
def ug{K:QC}{kV:ky}{F:Sp}(lk:K.lookup f=jb #[oc,od,.func (qZ name z g body h dV kV Z pm an a ct),M])(hcd:WX K a z=j3)(S:FnScope N ps h)(len:∀vs H Q E,F vs H Q E->vs.9=ps.9)(m:∀(A:x2) (outer:List Env) (s:kt) (H:Hp) (vs:LV) (Q:VK) (E:XK),Room k (A.deeper (envOfC z h s.1.1.size f a))->F vs H Q E ->
   ∃t,X3 (LK C P w K B i N z h f a A outer s H E) body t/\t { nx:=λ_ H'=>Q .non H',rt:=Q } (mF N vs) H) :
  FnOk P w K B i C (k+1) f (qZ name z g body h dV kV Z pm an a ct) ps F:=by
 refine#[len,λA outer s H args us vs Q E R Y hb r X=>?_];have hl:=len _ _ _ _ X;have KX:K.In s.heap:=Y.mod.kin.keeps λb o e=>(Y.bs b o e).1;have O:s.1.NoLimit:=Y.mod.nolimit.keeps λb o e=>(Y.bs b o e).1;have l:∀y∈ps.zip us,h.names.lookup y.1=jb .local∨(h.names.lookup y.1=jb .cell/\((nj (s.1.1.size+1) h.names []).lookup y.1).isSome=j3):=λzz hy=>by let#[n,v]:=zz;rcases S.par n (QAc hy).1 with q|q;exact .inl q;exact .inr #[q,QBW _ _ _ (.inl q)]
 refine codeAny_call_function R.depth (KX _ _ lk) rfl S.co S.gen rfl (PySem.W.codeRec_of KX hcd) (hb _ _ _ _ ?_);refine wpAny_newFunctionEnv_cells S.kind l λenv he s1 x=>?_;subst he;refine#[O.keeps x.toInCall.keep,codeAny_func ?_];let#[t,ht,hq]:=m A outer s H vs Q E (R.deeper _) X;have I:Inv (LK C P w K B i N z h f a A outer s H E) [] (mF N vs) H s1:=G0 S R.hd Y hl r x;refine qU (ht [] s1 (mF N vs) H _ I hq) (λfl G p=>?_) λe G p=>p;have fin:∀{j:St}{H':Hp}{v:V}{u:ky},Inv (LK C P w K B i N z h f a A outer s H E) [] j H' G->ZA v u->Q v H'->CE outer P w H s Q u G :=
  λ{j H' v u} J L q=>#[v,H',J.os,J.bare,J.base,J.hok,L,q]
 cases fl with|ret u=>let#[v,j,H',J,L,q]:=p;exact fin J L q|next=>let#[j,H',J,q]:=p;exact fin (v:=V.non) (u:=j1) J rfl q|brk=>let#[_,_,_,q]:=p;exact QV q|cont=>let#[_,_,_,q]:=p;exact QV q
section
variable{X:Cx}{x:Str}{p pos:Pos}{e:Expr}{y:List Expr}{t:TA}{id T:String}{r:LV->Hp->VK->Prop}
def zx(r:LV->Hp->VK->Prop)(t:TA):TE:=λh H Q=>t h H λvs z=>r vs z Q
def iJ(hc:vC X (.builtin id) r)(n:Gl X x)(m:X.mg x=js)(hv:Zz x=jb (.builtin id))(q:PA X (e::y) t)(l:autoParam (x≠"__name__") zzd._auto_1)(k:autoParam ((x==("__debug__":Str))=false) zzd._auto_1)
  (o:autoParam (Xz (e::y) X.env=(Kz,zz e X.env)::Xz y X.env) zzr._auto_1) (u:autoParam ((gl pos (Xz y X.env)).any (·.1)=false) zzr._auto_1):PE X (.Call (.Name x p) (e::y) [] pos) (zx r t):=by
 intro z s a H Q I h;refine wL (oG I n m hv ?_ l k);exact QAD (ZX (q pos z s a H _ I h) λb g vs Z Y i j=>hc z g a Z vs b Q Y i j) o u
def JZ(hc:vC X (.type T) r)(n:Gl X x)(m:X.mg x=js)(hv:Zz x=jb (.type T))(q:PA X (e::y) t)(l:autoParam (x≠"__name__") zzd._auto_1)(k:autoParam ((x==("__debug__":Str))=false) zzd._auto_1)
  (o:autoParam (Xz (e::y) X.env=(Kz,zz e X.env)::Xz y X.env) zzr._auto_1) (u:autoParam ((gl pos (Xz y X.env)).any (·.1)=false) zzr._auto_1):PE X (.Call (.Name x p) (e::y) [] pos) (zx r t):=by
 intro z s a H Q I h;refine wL (oG I n m hv ?_ l k);exact wd (ZX (q pos z s a H _ I h) λb g vs Z Y i j=>hc z g a Z vs b Q Y i j) o u
end
end L2
namespace HT
open PySem PyProof.Rows
section
open PySem.SeqAt
open PySem.AutoSeq1 (wpAny_loadPart')
open PySem.MeetsSeq PySem.MeetsSeq2 PySem.MeetsSeq3
end
section
variable{prog:vb}{w:vu}{A:x2}{E:CB}{s:kt}
def cat_tup{vs h:LW}{Q:CB}(p:IsTup s.1 t vs.toArray)(q:IsTup s.1 b h.toArray)(hv:vs≠[])(X:h=[]->Q (.ref t) s)(r:h≠[]->Q (.ref s.1.1.size) { s with heap:=s.1.push { cls:=.type "tuple",data:=.seq (vs++h).toArray } })(hsz:vs.9+h.9<=ke):ka (Vz prog w) A (z4 .Add (.ref t) (.ref b)) Q E s:=by
 let#[#[cls,m,data,j],g,hc,n,hd]:=id p;let#[#[o,k,i,y],x,u,l,z]:=id q;simp only at hc hd u z;subst hc hd u z;have e:vs.toArray++h.toArray=(vs++h).toArray:=by simp
 by_cases a:h=[];exact QC0 #[_,g,rfl] #[_,x,rfl] QC9 mf QBX QBM (QBA _ _)
  (tuple_addW1 t b vs.toArray h.toArray n l m k j y (by simpa using hv) (by simp[a])) #[g,x,X a]
 refine QC0 #[_,g,rfl] #[_,x,rfl] QC9 mf QBX QBM (QBA _ _)
  (tuple_addW2 t b vs.toArray h.toArray n l m k j y (by simpa using hv) (by simpa using a) (by rw[QN,QN];exact hsz)) #[g,x,?_]
 rw[e];exact r a
def sIx(n d:Nat):Option Int->Nat
 |none=>d|some v=>if v<0 then(v+(n:Int)).toNat else min v.toNat n
def Hj(n d:Nat)(hd:d<=n)(o:Option Int):sIx n d o<=n:=by
 cases o with|none=>exact hd|some v=>show(if v<0 then(v+(n:Int)).toNat else min v.toNat n)<=n;by_cases hv:v<0;rw[n8 hv];omega;rw[n7 hv];exact QBT _ _
def LY(v:Int)(n d:Nat):(if v<0 then max (v+(n:Int)) 0 else min v (n:Int))=((sIx n d (jb v):Nat):Int):=by show(if v<0 then max (v+(n:Int)) 0 else min v (n:Int))=(((if v<0 then(v+(n:Int)).toNat else min v.toNat n):Nat):Int);by_cases hv:v<0;simp only[n8 hv];omega;simp only[n7 hv];omega
def hX(h x:Option Int)(n:Nat):Wa h x 1 (n:Int)=(((sIx n 0 h:Nat):Int),((sIx n n x:Nat):Int)):=by
 have y:¬ ((1:Int)<0):=()
 unfold Wa;simp only[y,if_false];refine Prod.ext ?_ ?_;cases h with|none=>rfl|some v=>exact LY v n 0
 cases x with|none=>rfl|some v=>exact LY v n n
def BV(i j:Nat):wr (i:Int) (j:Int) 1=j - i:=by
 unfold wr;have h:(1:Int) > 0:=()
 simp only[h,if_true,Int.ediv_one];split<;>omega
def ZM{Q:Option Int->kt->Prop}(p:d4 v o)(h:Q o s):ka (Vz prog w) A (Builtin.Slice.slicePartIndex v) Q E s:=by
 cases p with|none=>exact slicePart_none h|int i t=>exact slicePart_int h
def sliceApplied_gen{Q:Int×Int×Nat->kt->Prop}(i:s.1.IsSliceOf e b a .none)(pl:d4 b y)(g:d4 a u)(h:Q (((sIx n 0 y:Nat):Int),1,sIx n n u - sIx n 0 y) s):ka (Vz prog w) A (QAk (.ref e) (n5 (n:Int))) Q E s:=by
 let#[os,z,j,k]:=id i;unfold QAk Builtin.Slice.sliceFields;refine QE (QE (qF z k (x:=b) rfl (QE (qF z k (x:=a) rfl (QE (qF z k (x:=.none) rfl (QT ?_)))))));refine QE (slicePart_none ?_);show ka _ _ (if((1:Int)==0)=j3 then _ else _) _ _ s;rw[n7 (by decide)];refine QE (ZM pl (QE (ZM g (QE (QT ?_)))));show ka _ _ (match Wa y u 1 (n:Int) with | (y,u)=>n5 (y,(1:Int),wr y u 1)) _ _ s;rw[hX y u n];show ka _ _ (n5 (((sIx n 0 y:Nat):Int),(1:Int),wr ((sIx n 0 y:Nat):Int) ((sIx n n u:Nat):Int) 1)) _ _ s;rw[BV];exact QT h
def d6(xs:Array ky)(i k:Nat):((QH k).filterMap λ(m:Nat)=>xs[((i:Int)+(m:Int) * 1).toNat]?).toArray=((xs.toList.drop i).take k).toArray:=by
 have e:(λ(m:Nat)=>xs[((i:Int)+(m:Int) * 1).toNat]?)=λm=>xs[i+m]?:=by
  funext m;have:((i:Int)+(m:Int) * 1).toNat=i+m:=()
  rw[this]
 rw[e];have:=pick_run xs i k;rw[Qt]at this;have h:((λx=>xs[x]?)∘λx=>i+x)=λm=>xs[i+m]?:=rfl;rw[h]at this;rw[this]
def getItem_tuple_cut{Q:CB}(k:IsTup s.1 t x)(n:s.1.IsSliceOf a l j .none)(pl:d4 l z)(o:d4 j u)(p:¬ (sIx x.size 0 z=0/\sIx x.size x.size u=x.size))(h:Q (.ref s.1.1.size) { s with heap:=s.1.push { cls:=.type "tuple",data:=.seq ((x.toList.drop (sIx x.size 0 z)).take (sIx x.size x.size u - sIx x.size 0 z)).toArray } })(hsz:x.size<=ke):ka (Vz prog w) A (DC (.ref t) (.ref a)) Q E s:=by
 have y:sizeOk (.seq ((x.toList.drop (sIx x.size 0 z)).take (sIx x.size x.size u - sIx x.size 0 z)).toArray):=by show((x.toList.drop (sIx x.size 0 z)).take (sIx x.size x.size u - sIx x.size 0 z)).toArray.size<=ke;rw[QN,Wd,wQ,Q6];exact qG (QBT _ _) (qG (Nat.sub_le _ _) hsz)
 have Z:sIx x.size x.size u<=x.size:=Hj _ _ (QX _) u;let#[os,b,g,r]:=id n;have i:s.TypeIs (.ref a) "slice":=#[os,b,g]
 unfold DC
 try with_reducible refine qi ?_
 first|refine QE (QT ?_)|skip
 refine QE (QCe k.typeIs (by decide) ?_);refine QE (qt (name:=QA "__getitem__") k.typeIs wu
  (WA wu k.typeIs QB0 ?_ (QCO _ _)))
 show ka _ _ (QAl (.ref t) >>= _) _ _ s;refine QE (tupleItemsOf_ k ?_);refine QE (QC1 i ?_);rw[n8 (by decide)];refine QE (sliceApplied_gen n pl o ?_);have e:¬ ((((sIx x.size 0 z:Nat):Int)==0&&(1:Int)==1&&(sIx x.size x.size u - sIx x.size 0 z)==x.size)=j3):=by intro q;rw[Qc,Qc]at q;have Y:((sIx x.size 0 z:Nat):Int)=0:=Qn q.1.1;have X:sIx x.size x.size u - sIx x.size 0 z=x.size:=Qn q.2;exact p #[(),()]
 show ka _ _ (if(((sIx x.size 0 z:Nat):Int)==0&&(1:Int)==1&&(sIx x.size x.size u - sIx x.size 0 z)==x.size)=j3 then _ else _) _ _ s;rw[n7 e,d6];first
  |exact QE (m:=wv _) (wA (QT #[_,rfl,QT h]) y)
  |exact QE (m:=wv _) (wA (QE (QT (QT #[_,rfl,QT h]))) y)
  |exact QE (QE (m:=wv _) (wA (QT (QT #[_,rfl,QT h])) y))
  |exact QE (QE (m:=wv _) (wA (QT #[_,rfl,QT h]) y))
end
end HT
namespace L2
open PySem PySem.Spec PyProof.Rows
noncomputable abbrev TO:=St->Hp->(Option Int->Hp->Prop)->Prop
def PO(X:Cx)(e:Option Expr)(t:TO):Prop :=
 ∀(h:BB) (s:kt) (x:St) (H:Hp) (Q:Option Int->Hp->Prop),Inv X h x H s->t x H Q ->
  ka (Vz X.prog X.w) X.A (evalPart e X.env) (λu z=>∃o y,Inv X h x y z/\d4 u o/\Q o y) X.xe s
def Ia:TO:=λ_ H Q=>Q js H
def bp(t:TE):TO:=λh H Q=>t h H λx y=>∃i,x=.int i/\Q (jb i) y
section
variable{X:Cx}{e:Expr}{te:TE}{k c:Option Expr}{d f:TO}{pos p2:Pos}
def Ib:PO X js Ia:=by intro x s y H Q I h;rw[mm];exact QT #[js,H,I,.none,h]
def Eb(h:PE X e te):PO X (jb e) (bp te):=by intro y s z H Q I g;rw[evalPart_some];refine yE (h y s z H _ I g) λu m x l j a b=>?_;let#[i,rfl,q]:=b;let#[t,rfl]:=a;exact#[jb i,l,j,.int i t,q]
def Se(X:Cx)(r:V->Option Int->Option Int->Hp->VK->Prop):Prop :=
 ∀(h:BB) (s:kt) (y:St) (H:Hp) (x:V) (v u z:ky) (k c:Option Int) (a:kl) (Q:VK),Inv X h y H s->ZA x v->s.1.IsSliceOf a u z .none->d4 u k->d4 z c->r x k c H Q ->
  ∃T id,ef (.type T) "__getitem__"=n5 (jb (.builtin id))/\s.TypeIs v T/\ka (Vz X.prog X.w) X.A (DC v (.ref a)) (EP X h y Q) X.xe s
def Se.or(h:Se X r)(h':Se X r'):Se X (λx k c H Q=>r x k c H Q∨r' x k c H Q):=by intro y s z H x v a u k c b Q I g l j i q;rcases q with q|q;exact h y s z H x v a u k c b Q I g l j i q;exact h' y s z H x v a u k c b Q I g l j i q
def Sy(r:V->Option Int->Option Int->Hp->VK->Prop)(te:TE)(d f:TO):TE:=λh H Q=>te h H λx a=>d h a λl z=>f h z λu y=>r x l u y Q
def Z6(E:Se X r)(G:PE X e te)(hl:PO X k d)(B:PO X c f):PE X (.Subscript e (.Slice k c js p2) pos) (Sy r te d f):=by intro y s a H Q I h;refine QDl (yE (G y s a H _ I h) λv n x R O o Z=>?_);refine wpAny_Slice (lI (hl y n a R _ O Z) λi m #[l,P,N,K,Y]=>lI (B y m a P _ N Y) λg z zz=>?_);let#[u,j,M,W,p]:=zz;rw[mm];refine QT ?_;have L:Inv X y a j { z with heap:=z.1.push { cls:=.type "slice",data:=.fields (List.toArray [i,g,.none]) } }:=M.kept (t':=z.toks) λb S q=>QF _ q;let#[T,id,J,C,F]:=E y { z with heap:=z.1.push { cls:=.type "slice",data:=.fields (List.toArray [i,g,.none]) } } a j x v i g l u z.1.1.size Q L o (Heap.IsSliceOf.new ..) K W p;show ka (Vz X.prog X.w) X.A (subscriptTail e (.Slice k c js p2) v (.ref z.1.1.size)) (EP X y a Q) X.xe { z with heap:=z.1.push { cls:=.type "slice",data:=.fields (List.toArray [i,g,.none]) } };exact tail_any (ops:=[.ref z.1.1.size,v]) C J F (by with_unfolding_all rfl)
def bU(xs:LV)(k c:Option Int):LV:=(xs.drop (HT.sIx xs.9 0 k)).take (HT.sIx xs.9 xs.9 c - HT.sIx xs.9 0 k)
def tL(xs:LV)(k c:Option Int):(bU xs k c).9<=xs.length:=by unfold bU;rw[Wd,wQ];exact qG (QBT _ _) (Nat.sub_le _ _)
def Ip(K:QC):V->Option Int->Option Int->Hp->VK->Prop:=λx k c H Q=>∃a h,x=.ref a/\GE K H a h /\
 ¬ (HT.sIx h.9 0 k=0/\HT.sIx h.9 h.9 c=h.9)/\∀p,H p=js->Q (.ref p) (LA H p (.tup (bU h k c)))
def Vj:Se X (Ip X.K):=by
 intro g s W H x v B A k c C Q I l Z n m h;let#[a,z,rfl,p,Y,q]:=h;cases l;let#[u,r,j,i]:=I.tuple p;have y:u.toArray.size=z.length:=by rw[QN];exact r.length.symm
 refine#["tuple",_,wu.lookup,j.typeIs,?_];refine HT.getItem_tuple_cut j Z n m (by rw[y];exact Y) ?_ (by rw[y];exact i);rw[y];refine#[.ref s.1.1.size,_,I.laid (t':=s.toks) (o:=.tup (bU z k c)) (λb E q=>QF _ q) (QX _) ?_,rfl,q _ (I.hok.fresh (QX _))];exact#[qG (tL z k c) i,_,(r.drop (HT.sIx z.9 0 k)).take (HT.sIx z.9 z.9 c - HT.sIx z.9 0 k),QDS _ _]
def Uf(K:QC):R2:=λx y H Q=>∃a b z h,x=.ref a/\y=.ref b/\GE K H a z/\GE K H b h/\z≠[]/\z.9+h.9<=ke /\
 (h=[]->Q (.ref a) H)/\(h≠[]->∀p,H p=js->Q (.ref p) (LA H p (.tup (z++h))))
def YA.nil_iff(r:YA xs us):us=[]↔xs=[]:=by
 cases r with|nil=>simp|cons _ _=>simp
def Gc:HE X (z4 .Add) (Uf X.K):=by intro j s G H x y v u Q I Y r h;let#[a,b,p,n,rfl,rfl,F,E,C,m,W,Z]:=h;cases Y;cases r;let#[B,i,A,_]:=I.tuple F;let#[l,g,p2,_]:=I.tuple E;refine HT.cat_tup A p2 (λz=>C (i.nil_iff.mp z)) (λz=>#[.ref a,H,I,rfl,W (g.nil_iff.mp z)]) (λz=>?_) (by rw[<- i.9,<- g.9];exact m);refine#[.ref s.1.1.size,_,I.laid (t':=s.toks) (o:=.tup (p++n)) (λb J q=>QF _ q) (QX _) ?_,rfl,Z (λw=>z (g.nil_iff.mpr w)) _ (I.hok.fresh (QX _))];exact#[by rw[QJ];exact m,_,i.append g,QDS _ _]
end
def N3(n:Nat)(i:Int):Option Nat:=if 0<=i then(if i<n then jb i.toNat else js) else if -(n:Int)<=i then jb (i+n).toNat else js
def FB{α:Type}(xs:List α)(i:Int):Option α:=(N3 xs.9 i).bind λj=>xs[j]?
def mY{i:Int}(h:N3 n i=jb j):seqIndex? i n=jb j/\j<n/\-(n:Int)<=i/\i<n:=by unfold N3 at h;by_cases y:0<=i;rw[n8 y]at h;by_cases x:i<n;rw[n8 x]at h;have e:i.toNat=j:=QW h;exact#[by rw[QDT y x,e],(),(),x];rw[n7 x]at h;cases h;rw[n7 y]at h;by_cases x:-(n:Int)<=i;rw[n8 x]at h;have e:(i+n).toNat=j:=QW h;exact#[by rw[QC2 () x,e],(),x,()];rw[n7 x]at h;cases h
def vS{α:Type}{xs:List α}{i:Int}{v:α}(h:FB xs i=jb v):∃j,seqIndex? i xs.9=jb j/\xs[j]?=jb v/\j<xs.9/\-(xs.9:Int)<=i/\i<xs.length:=by
 unfold FB at h;cases e:N3 xs.9 i with|none=>rw[e]at h;cases h|some j=>rw[e]at h;let#[u,z,y,x]:=mY e;exact#[j,u,h,z,y,x]
def UA{α:Type}{xs:List α}{j:Nat}{v:α}(h:xs[j]?=jb v):FB xs (j:Int)=jb v:=by
 have x:j<xs.length:=(QZ.mp h).1;have e:N3 xs.9 (j:Int)=jb j:=by unfold N3;rw[n8 (),n8 ()];simp
 unfold FB;rw[e];exact h
def SY(b:Expr):Prop:=∀o i,Bn b Kz o i=operate [o,i] (DC o i)
def Ba(X:Cx)(r:R2):Prop :=
 ∀(k h:Expr) (z:BB) (s:kt) (a:St) (H:Hp) (x y:V) (v u:ky) (Q:VK),Inv X z a H s->ZA x v->ZA y u->r x y H Q ->
  Bn h Kz v u=operate [v,u] (DC v u)->ka (Vz X.prog X.w) X.A (subscriptTail k h v u) (EP X z a Q) X.xe s
def O3(X:Cx)(id:String)(r:V->LV->Hp->VK->Prop):Prop :=
 ∀(h:BB) (s:kt) (y:St) (H:Hp) (x:V) (z:LV) (v:ky) (u:LW) (Q:VK),Inv X h y H s->ZA x v->YA z u->r x z H Q ->
  ka (Vz X.prog X.w) X.A (dw (.builtin id) (v::u)) (EP X h y Q) X.xe s
section
variable{X:Cx}{a b:Expr}{ta Y:TE}{pos:Pos}
def Ba.or(h:Ba X r)(h':Ba X r'):Ba X (λx y H Q=>r x y H Q∨r' x y H Q):=by intro z k e s g H x y v u Q I j i q l;rcases q with q|q;exact h z k e s g H x y v u Q I j i q l;exact h' z k e s g H x y v u Q I j i q l
def O3.or{id:String}{r r':V->LV->Hp->VK->Prop}(h:O3 X id r)(h':O3 X id r'):O3 X id (λx xs H Q=>r x xs H Q∨r' x xs H Q):=by intro y s z H x xs v u Q I k e q;rcases q with q|q;exact h y s z H x xs v u Q I k e q;exact h' y s z H x xs v u Q I k e q
def Ff(l:Ba X r)(n:PE X a ta)(m:PE X b Y)(j:SY b):PE X (.Subscript a b pos) (gp r ta Y):=by intro z s k H Q I h;exact QDl (binT n m I h λv u e x y p o i g q=>l a b z e k p x y v u Q o i g q (j _ _))
def dq(K:QC):R2:=λx y H Q=>∃p h i v,x=.ref p/\y=.int i/\mD K H p h/\FB h i=jb v/\Q v H
def bq(K:QC):R2:=λx y H Q=>∃p h i v,x=.ref p/\y=.int i/\GE K H p h/\FB h i=jb v/\Q v H
def cq:R2:=λx y H Q=>∃z i c,x=.str z/\y=.int i/\z.9<=ke/\FB z.cps.toList i=jb c/\Q (.str #[(List.toArray [c])]) H
def Dd:Ba X (dq X.K):=by
 intro g l k s W H x y v u Q I G F h A;let#[p,P,i,z,rfl,rfl,J,L,q]:=h;cases G;let#[t,rfl]:=F;let#[o,r,n,R]:=I.list J;let#[j,e,O,h3,N,M]:=vS L;let#[w,C,m]:=r.get O;have hl:=r.9;have S:=CI;have fin:EP X k W Q w s:=#[z,H,I,m,q]
 by_cases B:0<=i;have Z:i.toNat=j:=by rw[QDT B M]at e;exact QW e
 exact item_listR n.isList B () (by rw[Z];simpa using C) fin A;have Z:(i+(o.toArray.size:Int)).toNat=j:=by rw[QC2 () N]at e;rw[QN,<- hl];exact QW e
 exact Wz (x:=w) n.isList.typeIs QCf.lookup
  (wpAny_getItem_list_neg (Q:=λr E=>r=w/\EP X k W Q r E) n.isList () (by rw[QN]<;>omega) () (by rw[Z];simpa using C) #[rfl,fin]) A
def km:Ba X (bq X.K):=by
 intro e g k s m H x y v u Q I W Z h B;let#[p,L,i,z,rfl,rfl,C,E,q]:=h;cases W;let#[t,rfl]:=Z;let#[A,r,n,M]:=I.tuple C;let#[j,G,F,R,P,O]:=vS E;let#[w,J,l]:=r.get F;have hl:=r.9;have N:=CI;have fin:EP X k m Q w s:=#[z,H,I,l,q]
 exact Wz (x:=w) n.typeIs Wr.lookup
  (getItem_tuple (j:=j) (Q:=λr o=>r=w/\EP X k m Q r o) n () () (by rw[QN,<- hl];exact G) (by simpa using J) #[rfl,fin]) B
def vm:Ba X cq:=by
 intro k e g s B H x y v u Q I n m h o;let#[z,i,c,rfl,rfl,E,p,q]:=h;let#[t,rfl]:=n;let#[C,rfl]:=m;let#[j,l,W,G,Z,r]:=vS p;have hl:z.cps.toList.9=z.length:=by simp[QCg]
 rw[hl]at l Z r;have F:=CI;exact tail_any (QBB s z t) slot_str_getitem.lookup (getItem_str (c:=c) (by have A:decide (i < -(2 ^ 63:Int))=false:=dF ();have K:decide (i ≥ 2 ^ 63)=false:=dF ();rw[A,K,QBJ]) (by rw[l];simpa using W) #[.str #[(List.toArray [c])],H,I.tok _,#[_,rfl],q]) o
def yz(K:QC):R2:=λx y H Q=>dq K x y H Q∨bq K x y H Q∨cq x y H Q
def xm:Ba X (yz X.K):=Dd.or (km.or vm)
def eW(its:LW)(n j:Nat)(u:ky):QBp (·.setIfInBounds j u) { cls:=.type "list",data:=.seq its.toArray n }={ cls:=.type "list",data:=.seq (its.set j u).toArray n }:=by simp[QBp]
def Inv.lst{x:BB}{σ:St}{H:Hp}{s:kt}{p:kl}{xs:LV}(I:Inv X x σ H s)(h:H p=jb (.lst xs)) :
  ∃(its:LW) (n:Nat),YA xs its/\s.1.get? p=jb { cls:=.type "list",data:=.seq its.toArray n }/\xs.9<=sizeLine:=by
 let#[z,its,n,r,e]:=I.hok p _ h;exact#[its,n,r,e,z]
def Inv.lstUpd{its its':LW}{f:Obj->Obj}(I:Inv X y σ H s)(h:H p=jb (.lst xs))(i:s.1.get? p=jb { cls:=.type "list",data:=.seq its.toArray n })(k:f { cls:=.type "list",data:=.seq its.toArray n }={ cls:=.type "list",data:=.seq its'.toArray z })(r:YA ys its')(g:ys.9<=ke)(t:Nat) :
  Inv X y σ (LA H p (.lst ys)) { s with heap:=s.1.update p f,toks:=t }:=by
 have e:(s.1.update p f).get? p=jb { cls:=.type "list",data:=.seq its'.toArray z }:=by rw[wI f i (by rw[k]<;>rfl),k]
 refine I.write (x:=p) (e:=p) (by rw[h];trivial) (.inl rfl) (λb u j q=>(qd _ _ (Qz j)).trans q) #[_,e] ?_;exact#[g,its',z,r,e]
def uP:V->V->V->Hp->(Hp->Prop)->Prop:=λo i v H Q=>∃p h k j,o=.ref p/\i=.int k/\H p=jb (.lst h)/\N3 h.9 k=jb j/\Q (LA H p (.lst (h.set j v)))
def KS:ju X uP:=by
 intro x s A H o i v L M u Q I E F C h;let#[p,B,k,j,rfl,rfl,g,J,q]:=h;cases E;let#[t,rfl]:=F;let#[y,n,r,e,G]:=I.lst g;let#[z,O,m,l]:=mY J;have hl:=r.9;have N:=CI;have K:Inv X x A (LA H p (.lst (B.set j v))) { s with heap:=s.1.update p (QBp (·.setIfInBounds j u)) } :=
  I.lstUpd g e (eW y n j u) (r.set C j) (by rw[we];exact G) s.toks
 by_cases Z:0<=k;have hk:k.toNat=j:=by rw[QDT Z l]at z;exact QW z
 exact PySem.W.ki_setAt e Z () (by rw[QN,<- hl];exact l) (by rw[hk];exact#[_,K,q]);have hk:(k+(y.toArray.size:Int)).toNat=j:=by rw[QC2 () m]at z;rw[QN,<- hl];exact QW z
 exact PySem.W.ki_setBack e () (by rw[QN,<- hl];exact m) () (by rw[hk];exact#[_,K,q])
def Kg(v:Int)(n d:Nat):max 0 (min (if v<0 then v+(n:Int) else v) (n:Int))=((HT.sIx n d (jb v):Nat):Int):=by show max 0 (min (if v<0 then v+(n:Int) else v) (n:Int))=(((if v<0 then(v+(n:Int)).toNat else min v.toNat n):Nat):Int);by_cases h:v<0;simp only[n8 h];omega;simp only[n7 h];omega
def UQ(h x:Option Int)(n:Nat):(dn h x js n).1=((HT.sIx n 0 h:Nat):Int)/\(dn h x js n).2.1=((HT.sIx n n x:Nat):Int)/\(dn h x js n).2.2=1:=by
 refine#[?_,?_,rfl];cases h with|none=>simp[dn,HT.sIx]|some i=>exact Kg i n 0
 cases x with|none=>simp[dn,HT.sIx]|some i=>exact Kg i n n
def YO(its:LW)(h x:Option Int):slicePick its.toArray h x js=((its.drop (HT.sIx its.9 0 h)).take (HT.sIx its.9 its.9 x - HT.sIx its.9 0 h)).toArray:=by let#[u,z,y]:=UQ h x its.toArray.size;unfold slicePick;rw[u,z,y];simp only[sliceRange_one,pick_run,QN]<;>rfl
def jq(K:QC):V->Option Int->Option Int->Hp->VK->Prop:=λx y z H Q=>∃a h,x=.ref a/\mD K H a h/\∀p,H p=js->Q (.ref p) (LA H p (.lst (bU h y z)))
def Jb:Se X (jq X.K):=by intro e s W H x v B A u k C Q I i Z l j h;let#[a,y,rfl,p,q]:=h;cases i;let#[m,r,g,n]:=I.list p;have z:=r.9;refine#["list",_,QCf.lookup,g.isList.typeIs,?_];refine wpAny_getItem_list_slice g.isList Z l j .none (by simp) ?_ (by rw[QN]<;>omega);rw[YO,<- z];refine#[.ref s.1.1.size,_,I.laid (t':=s.toks) (o:=.lst (bU y u k)) (λb E q=>QF _ q) (QX _) ?_,rfl,q _ (I.hok.fresh (QX _))];exact#[qG (tL y u k) n,_,0,(r.drop (HT.sIx y.9 0 u)).take (HT.sIx y.9 y.9 k - HT.sIx y.9 0 u),QY _ rfl]
def bI:V->Bool
 | .non=>j3|.bl _=>j3|.int _=>j3|.str _=>j3|_=>Kz
def de:V->V->Bool
 | .non,.non=>j3|.bl a,.bl b=>a==b|.bl a,.int b=>(if a then 1 else 0)==b|.int a,.bl b=>a==(if b then 1 else 0)|.int a,.int b=>a==b|.str a,.str b=>a==b|_,_=>Kz
def Dm(k:ZA y u)(h:ZA x v)(e:bI y=j3)(fx:bI x=j3):wB A s u v (de y x):=by
 cases y with
 |non =>
  cases k;cases x with|non=>cases h;exact wB.same _|bl b=>cases h;exact wB.none_bool b|int b=>let#[t,rfl]:=h;exact wB.none_int b t|str b=>let#[t,rfl]:=h;exact wB.none_str b t|_=>exact n9 (show Kz=j3 from fx) QD
 |bl a =>
  cases k;cases x with|non=>cases h;exact wB.bool_none a|bl b=>cases h;exact wB.bool_bool a b|int b=>let#[t,rfl]:=h;exact wB.bool_int a b t|str b=>let#[t,rfl]:=h;exact wB.bool_str a b t|_=>exact n9 (show Kz=j3 from fx) QD
 |int a =>
  let#[z,rfl]:=k;cases x with|non=>cases h;exact wB.int_none a z|bl b=>cases h;exact wB.int_bool a z b|int b=>let#[t,rfl]:=h;exact wB.int_int a z b t|str b=>let#[t,rfl]:=h;exact QCI a z b t|_=>exact n9 (show Kz=j3 from fx) QD
 |str a =>
  let#[z,rfl]:=k;cases x with|non=>cases h;exact wB.str_none a z|bl b=>cases h;exact wB.str_bool a z b|int b=>let#[t,rfl]:=h;exact QCJ a z b t|str b=>let#[t,rfl]:=h;exact wB.str_str a z b t|_=>exact n9 (show Kz=j3 from fx) QD
 |_=>exact n9 (show Kz=j3 from e) QD
def OW(x:V)(u:ky):Bool:=match u with
 | .none=>de .non x|.bool b=>de (.bl b) x|.int i _=>de (.int i) x|.str z _=>de (.str z) x|_=>Kz
def u9(r:ZA y u)(f:bI y=j3):OW x u=de y x:=by
 cases y with|non=>cases r;rfl|bl b=>cases r;rfl|int i=>let#[t,rfl]:=r;rfl|str z=>let#[t,rfl]:=r;rfl|_=>exact n9 (show Kz=j3 from f) QD
def zK:∀{xs:LV}{us:LW},YA xs us->xs.all bI=j3->us.any (OW x)=xs.any λy=>de y x
 |_,_,.nil,_=>rfl|y::xs,u::us,.cons r t,f=>by rw[qB,Qc]at f;rw[qj,qj,u9 r f.1,zK t f.2]
def xH(z:ZA x v)(fx:bI x=j3):∀{xs:LV}{us:LW},YA xs us->xs.all bI=j3->∀u∈us,wB A s u v (OW x u)
 |_,_,.nil,_=>λu h=>by cases h|y::xs,u::us,.cons r t,f=>λk h=>by rw[qB,Qc]at f;rcases QO.mp h with rfl|h;rw[u9 r f.1];exact Dm r z f.1 fx;exact xH z fx t f.2 k h
def inV(x:V)(xs:LV):Bool:=xs.any λy=>de y x
def Cv(K:QC)(z:Bool):R2:=λx y H Q=>∃p h,y=.ref p/\(mD K H p h∨GE K H p h)/\bI x=j3/\h.all bI=j3/\Q (.bl (if z then !inV x h else inV x h)) H
def VZ:HE X (xf .In) (Cv X.K Kz):=by intro j s n H x y v u Q I i l h;let#[p,o,rfl,k,fx,fs,q]:=h;cases l;rcases k with k|k;let#[z,r,e,m]:=I.list k;refine SeqAt.in_listAt (OW x) e.isList (λw g=>xH i fx r fs w (by simpa using g)) #[.bl _,H,I,rfl,?_];rw[show z.toArray.any (OW x)=z.any (OW x) by simp,zK r fs];exact q;let#[z,r,e,m]:=I.tuple k;refine SeqAt.in_tupleAt (OW x) e (λw g=>xH i fx r fs w (by simpa using g)) #[.bl _,H,I,rfl,?_];rw[show z.toArray.any (OW x)=z.any (OW x) by simp,zK r fs];exact q
def EQ:HE X (xf .NotIn) (Cv X.K j3):=by intro j s n H x y v u Q I i l h;let#[p,o,rfl,k,fx,fs,q]:=h;cases l;rcases k with k|k;let#[z,r,e,m]:=I.list k;refine SeqAt.notIn_listAt (OW x) e.isList (λw g=>xH i fx r fs w (by simpa using g)) #[.bl _,H,I,rfl,?_];rw[show z.toArray.any (OW x)=z.any (OW x) by simp,zK r fs];exact q;let#[z,r,e,m]:=I.tuple k;refine SeqAt.notIn_tupleAt (OW x) e (λw g=>xH i fx r fs w (by simpa using g)) #[.bl _,H,I,rfl,?_];rw[show z.toArray.any (OW x)=z.any (OW x) by simp,zK r fs];exact q
def jS:vC X (.builtin "len") (λxs H Q=>∃p ys,xs=[.ref p]/\(mD X.K H p ys∨GE X.K H p ys)/\Q (.int ys.9) H):=by intro g s l H xs m Q I r h;let#[p,ys,rfl,y,q]:=h;let#[u,rfl,i]:=ME r;cases i;have n:=CI;rcases y with y|y;let#[e,z,k,j]:=I.list y;have x:=z.9;exact Calls.call_len_list k.isList (by simp only[QN]<;>omega) #[.int ys.9,H,I.tok _,#[s.toks+1,by rw[QN,x]],q];let#[e,z,k,j]:=I.tuple y;have x:=z.9;exact len_tuple k (by simp only[QN]<;>omega) #[.int ys.9,H,I.tok _,#[s.toks+1,by rw[QN,x]],q]
def IR:vC X (.builtin "len") (λxs H Q=>∃z,xs=[.str z]/\z.9<=ke/\Q (.int z.9) H):=by intro x s y H xs k Q I r h;let#[z,rfl,e,q]:=h;let#[u,rfl,t,rfl]:=ME r;have g:=CI;exact len_str () #[.int z.9,H,I.tok _,#[_,rfl],q]
def vC.or(h:vC X f r)(h':vC X f r'):vC X f (λxs H Q=>r xs H Q∨r' xs H Q):=by intro x s y H xs z Q I u q;rcases q with q|q;exact h x s y H xs z Q I u q;exact h' x s y H xs z Q I u q
def ER:vC X (.type "list") (λxs H Q=>∃p ys,xs=[.ref p]/\(mD X.K H p ys∨GE X.K H p ys)/\∀l,H l=js->Q (.ref l) (LA H l (.lst ys))):=by
 intro g s C H xs F Q I r h;let#[p,ys,rfl,m,q]:=h;let#[u,rfl,E]:=ME r;cases E;have fin:∀(x:LW),YA ys x->ys.9<=ke->∀(y:v6) (k:Nat),(∀b B,s.1.get? b=jb B->y.get? b=jb B) ->
   y.get? s.1.1.size=jb { cls:=.type "list",dict:=js,data:=.seq x.toArray k,slots:=#[] }->EP X g C Q (.ref s.1.1.size) { s with heap:=y }:=λx z j y k i e =>
  #[.ref s.1.1.size,_,I.laid (t':=s.toks) i (QX _) (show NA X.prog X.w _ y _ (.lst ys) from#[j,x,k,z,e]),rfl,q _ (I.hok.fresh (QX _))]
 rcases m with m|m;let#[x,z,W,j]:=I.list m;have Z:=z.9;let#[o,A,hc,n,hd]:=W.isList;exact mu p (.inl rfl) A hc hd (λy k i e=>fin x z j y k i e) (by simp only[QN]<;>omega);let#[x,z,W,j]:=I.tuple m;have Z:=z.9;let#[o,A,hc,n,hd]:=W;exact mu p (.inr rfl) A hc hd (λy k i e=>fin x z j y k i e) (by simp only[QN]<;>omega)
def NO:vC X (.type "tuple") (λxs H Q=>∃p ys,xs=[.ref p]/\((mD X.K H p ys/\∀l,H l=js->Q (.ref l) (LA H l (.tup ys)))∨(GE X.K H p ys/\Q (.ref p) H))):=by
 intro x s j H xs C Q I r h;let#[p,ys,rfl,h]:=h;let#[u,rfl,W]:=ME r;cases W;rcases h with⟨i,q⟩| ⟨i,q⟩
 let#[y,k,g,m]:=I.list i;have n:=k.9;refine call_tuple_list g.isList (λz A=>?_) (by simp only[QN]<;>omega);have Z:Inv X x j H { s with heap:=z }:=I.kept (t':=s.toks) A;have B:Inv X x j (LA H z.1.size (.tup ys)) { s with heap:=z.push { cls:=.type "tuple",data:=.seq y.toArray } } :=
  Z.laid (t':=s.toks) (λb o e=>QF _ e) (QX _) (show NA X.prog X.w _ _ _ (.tup ys) from#[m,y,k,QDS _ _])
 exact#[.ref z.1.size,_,B,rfl,q _ (Z.hok.fresh (QX _))];let#[y,k,g,m]:=I.tuple i;exact call_tuple_same g #[.ref p,H,I,rfl,q]
def C3(K:QC)(T:String)(x:V)(H:Hp):Prop:=match x with
 | .str _=>T="str"|.int _=>T="int"|.ref p=>(T="list"/\∃y,mD K H p y)∨(T="tuple"/\∃o,K.lookup p=jb o/\o.cls=.type "tuple"/\o.dict=js) ∨
   (T="dict"/\((∃h,H p=jb (.dK h))∨∃h,H p=jb (.dT h)))∨(T="set"/\∃S n,H p=jb (.set S n))
 |_=>False
def U4{T:String}(I:Inv X y σ H s)(r:ZA x v)(ty:C3 X.K T x H) :
  s.TypeIs v T/\∀a,v=.ref a->∃j,s.1.get? a=jb j/\j.dict=none:=by
 cases x with
 |str z=>let#[t,rfl]:=r;cases(show T="str" from ty);exact#[QBB s z t,λ_ e=>nomatch e]
 |int i=>let#[t,rfl]:=r;cases(show T="int" from ty);exact#[QBq s i t,λ_ e=>nomatch e]
 |ref p =>
  cases r;rcases ty with⟨rfl,q,m⟩| ⟨rfl,o,hk,hc,hd⟩| ⟨rfl,hk⟩| ⟨rfl,S,n,hk⟩
  let#[l,_,g,_]:=I.list m;refine#[g.isList.typeIs,λa e=>?_];cases e;let#[o,n,e,c,hd,_]:=g;exact#[o,e,hd];refine#[#[o,I.kIn p o hk,hc],λa e=>?_];cases e;exact#[o,I.kIn _ o hk,hd];have z:∃o,s.1.get? p=jb o/\o.ExactDict:=by
   rcases hk with⟨u,hk⟩| ⟨u,hk⟩
   let#[_,_,_,_,o,_,_,e,h,_]:=I.hok p _ hk;exact#[o,e,h];let#[_,_,_,_,o,_,_,e,h,_]:=I.hok p _ hk;exact#[o,e,h]
  let#[o,e,h]:=z;refine#[#[o,e,h.1],λa k=>?_];cases k;exact#[o,e,h.2.1];let#[o,_,_,_,e,h,_]:=I.hok p _ hk;refine#[#[o,e,h.1],λa k=>?_];cases k;exact#[o,e,h.2.1]
 |_=>exact QV ty
def bv(K:QC)(T:String)(r:V->LV->Hp->VK->Prop)(g:TE):TE:=λy H Q=>g y H λx h=>C3 K T x h/\r x [] h Q
def Iy(K:QC)(T:String)(r:V->LV->Hp->VK->Prop)(g:TE)(t:TA):TE:=λh H Q=>g h H λx y=>C3 K T x y/\t h y λz u=>r x z u Q
variable{o e:Expr}{m:List Expr}{g:TE}{t:TA}{name:Str}{apos cpos:Pos}{T id:String}{r:V->LV->Hp->VK->Prop}
def Xk(Z:l9 T)(k:Slot T name id)(i:na (.builtin id)=n5 (.type "method_descriptor"))(A:O3 X id r)(W:PE X o g)
  (u:autoParam (gi o name X.env (zz o X.env)=zz o X.env) zzr._auto_1) (z:autoParam ((apos.endLine==cpos.line)=true) zzr._auto_1):PE X (.Call (.Attribute o name apos) [] [] cpos) (bv X.K T r g):=by
 intro y s j H Q I h;refine wpAny_Call_method0_late u z (yE (W y s j H _ I h) λv p x E n l zz=>?_);let#[ty,q]:=zz;let#[C,B]:=U4 n l ty;exact#[T,id,Z,k,i,C,B,WD rfl (PySem.evalArgs_none (A y p j E x [] v [] Q n l .nil q))]
def iq(G:l9 T)(i:Slot T name id)(n:na (.builtin id)=n5 (.type "method_descriptor"))(M:O3 X id r)(L:PE X o g)(N:PA X (e::m) t)
  (k:autoParam (gi o name X.env (zz o X.env)=zz o X.env) zzr._auto_1)
  (j:autoParam (((gl cpos (Xz (e::m) X.env)).all (λx=>!x.1)&&(d3 cpos (ft [] X.env)).all (λx=>x.1.isSome)
   && decide ((e::m).9+([]:List fy).9+(if([]:List fy).isEmpty then 0 else 1)<30))=true) zzr._auto_1)
  (u:autoParam ((apos.endLine==cpos.line)=true) zzr._auto_1) (J:autoParam (Xz (e::m) X.env=(Kz,zz e X.env)::Xz m X.env) zzr._auto_1) (z:autoParam ((gl cpos (Xz m X.env)).any (·.1)=false) zzr._auto_1) :
  PE X (.Call (.Attribute o name apos) (e::m) [] cpos) (Iy X.K T r g t):=by
 intro y s l H Q I h;refine W0 k j u rfl (yE (L y s l H _ I h) λv B x H1 Z p zz=>?_);let#[ty,F]:=zz;let#[P,O]:=U4 Z p ty;refine#[T,id,G,i,n,P,O,?_];have q:=N cpos y B l H1 _ Z F;rw[J]at q ⊢;refine WD (by show(Kz||(gl cpos (Xz m X.env)).any (·.1))=Kz;rw[z]<;>rfl) (QAL ?_);exact ZX q λW A vs S R C E=>M y A l S x vs v W Q R p C E
end
def Ix(X:Cx)(id:String)(r:V->LV->Hp->VK->Prop):Prop :=
 ∀(h:BB) (s:kt) (y:St) (H:Hp) (x:V) (z:LV) (v:ky) (u:LW) (Q:VK),Inv X h y H s->ZA x v->YA z u->r x z H Q ->
  ka (Vz X.prog X.w) X.A (dw (.builtin id) (v::u)) (EP X h y Q) X.xe s
def YA.one(r:YA [x] us):∃u,us=[u]/\ZA x u:=by
 cases r with|cons a b=>cases b;exact#[_,rfl,a]
def YA.rep(h:YA xs us):∀k:Nat,YA (QK k xs).flatten (QK k us).flatten
 |0=>.nil|k+1=>by rw[Qs,Qs,qV,qV];exact YA.append h (YA.rep h k)
def FK(its:LW):∀(k:Nat) (h:LW),
  QAa (λy x=>y++x) h.toArray (QK k its.toArray)=(h++(QK k its).flatten).toArray
 |0,h=>by simp|k+1,h=>by
  have e:h.toArray++its.toArray=(h++its).toArray:=by simp
  have z:(h++its)++(QK k its).flatten=h++(QK (k+1) its).flatten:=by rw[Qs,qV,Q9]
  rw[<- z,<- FK its k (h++its),<- e,Qs,WK]
section
variable{X:Cx}{y:BB}{σ:St}{H:Hp}{s:kt}{l b:kl}{xs ys v:LV}
def Inv.lset{its its':LW}{f:Array ky->Array ky}(I:Inv X y σ H s)(g:H l=jb (.lst xs))(e:s.1.get? l=jb { cls:=.type "list",data:=.seq its.toArray n })(k:f its.toArray=its'.toArray)(hv:YA ys its')(h:ys.9<=ke) :
  Inv X y σ (LA H l (.lst ys)) { s with heap:=s.1.update l (QBp f),toks:=t' }:=by
 have q:=PySem.IsL.update e f;rw[k]at q;refine I.write (x:=l) (e:=l) (by rw[g];exact trivial) (.inl rfl) (λi u a z=>(qd s.1 (QBp f) (Qz a)).trans z) #[_,q] ?_;exact#[h,its',_,hv,q]
def Inv.lnew(I:Inv X y σ H s)(hv:YA ys its)(h:ys.9<=ke) :
  Inv X y σ (LA H s.1.1.size (.lst ys)) { s with heap:=s.1.push { cls:=.type "list",data:=.seq its.toArray },toks:=t' } :=
 I.laid (λ_ _ q=>QF _ q) (QX _) #[h,its,0,hv,QY _ rfl]
def Inv.fresh(I:Inv X y σ H s):H s.1.1.size=none:=I.hok.fresh (QX _)
def Inv.lstM(I:Inv X y σ H s)(h:H l=jb (.lst xs)):xs.9<=ke/\∃(its:LW) (n:Nat),YA xs its/\xs.9=its.9/\s.1.get? l=jb { cls:=.type "list",data:=.seq its.toArray n }:=by let#[z,its,n,r,e]:=I.hok l _ h;exact#[z,its,n,r,r.9,e]
def uT(h:n<=ke):wM n=false:=by unfold wM;exact dF ()
end
section
variable{X:Cx}
def Hb:V->LV->Hp->VK->Prop:=λx vs H Q=>∃l h y,x=.ref l/\vs=[y]/\H l=jb (.lst h)/\h.9<ke/\Q .non (LA H l (.lst (h++[y])))
def AZ:Ix X "list.append" Hb:=by intro a s m H x vs v p Q I g i h;let#[l,o,y,rfl,rfl,b,Y,q]:=h;cases g;let#[u,rfl,j]:=i.one;let#[z,k,n,r,hl,e]:=I.lstM b;refine WC F.slot_list_append #[_,e,rfl] F.entry_list_append (F.args_list_append_2 _ _) (PySem.list_append l k.toArray n u (by rw[QN];omega)) #[e,?_];refine#[.non,_,I.lset (its':=k++[u]) b e (by simp) (r.append (.cons j .nil)) ?_,rfl,q];rw[QJ,WL];omega
def Gb:V->LV->Hp->VK->Prop:=λx vs H Q=>∃l b y h,x=.ref l/\vs=[.ref b]/\H l=jb (.lst y)/\H b=jb (.lst h)/\y.9+h.9<=ke/\Q .non (LA H l (.lst (y++h)))
def TZ:Ix X "list.extend" Gb:=by
 intro i s B H x vs v J Q I m o h;let#[l,b,G,C,rfl,rfl,j,K,L,q]:=h;cases m;let#[u,rfl,p]:=o.one;cases p;let#[z,k,n,r,hl,e]:=I.lstM j;let#[E,y,Z,Y,W,A]:=I.lstM K;have g:k.toArray.size+y.toArray.size<=sizeLine:=by rw[QN,QN];omega
 have a:¬ (!k.toArray.isEmpty&&wM (k.toArray.size+y.toArray.size))=true:=by rw[uT g,QAx];exact QD
 refine WC F.slot_list_extend #[_,e,rfl] F.entry_list_extend (F.args_list_extend_2 _ _)
  (AutoSeq1.list_extend_list_list_0 l k.toArray n b y.toArray Z a (by rw[QN];omega) ()) #[e,A,?_]
 refine#[.non,_,I.lset (its':=k++y) j e (by simp) (r.append Y) ?_,rfl,q];rw[QJ];omega
def yM{α:Type}(xs:List α)(k:Nat):(QK k xs).flatten.9=k * xs.length:=by
 induction k with|zero=>simp|succ k h=>rw[Qs,qV,QJ,h,Nat.succ_mul,Nat.add_comm]
end
end L2
namespace Att
open PySem PySem.W PySem.Calls PyProof.Rows
def DL:∀(ns:LJ) (vs:LW),WellAll P h vs (ns.map WData.int)->IntsAre vs ns:=by
 intro ns;induction ns with
 |nil=>intro vs w;rw[wJ]at w;cases w;exact .nil|cons n ns x =>
  intro vs w;rw[QR]at w;cases w with|cons a b=>cases a;exact .cons _ _ (x _ b)
def script_of{l:OpenLaw}(p:l.most=jb n)(y:l.row.toRowW.claim.pre args=j3)(e:WellAll P h x args) :
  ∃a vs ns,x=[j2 a]/\args=[WData.list (ns.map WData.int)]/\h.get? a=jb { cls:=.type "list",data:=.seq vs.toArray }/\IntsAre vs ns/\ns.9<=n:=by
 have g:WShape.hasAll [] args [.list .int]=true:=(pre_splitW y).1;have hc:l.pre.holds [] { args:=args }=true:=(pre_splitW y).2;let#[d,r,rfl,Y,X]:=hasAllW_cons g;obtain rfl:=hasAllW_nil X;let#[Z,rfl,s]:=hasW_list Y;let#[ns,rfl]:=items_int s;have z:ns.9<=n:=by
  unfold OpenLaw.pre at hc;have b:(WTm.not (.lt (.lit (.int (n:Int))) (.len (.arg 0)))).holds [] { args:=[.list (ns.map .int)] }=true:=by have b:=(holds_andW hc).1;rw[p]at b;exact b
  have k:=condW_of b (w_not (w_lt w_lit (w_len_list (w_arg rfl))));rw[QG]at k;refine Nat.le_of_not_lt λq=>?_;have m:(n:Int)<((ns.9:Nat):Int):=()
  first
   | (rw[dT m]at k;exact n9 k (by decide))
   | (simp at k;omega)
 cases e with
 |cons j i =>
  cases i;cases j with|list o u=>exact#[_,_,ns,rfl,rfl,o,DL ns _ u,z]
def post_true(l:OpenLaw)(args:List WData):l.row.toRowW.claim.post args (.bool j3) args=j3 :=
 postW_of (r:=l.row.toRowW) (X:=(j3==j3))
  (show WShape.has [] (.bool j3) .bool=j3 by first|rfl|decide|simp[WShape.has,WShape.arms,WShape.armsAll])
  (show(WTm.eq .res (.lit (.bool j3))).value [] { args:=args,res:=jb (.bool j3),after:=args }=jb (.bool (j3==j3)) from w_eq_bool (w_res rfl) w_lit) rfl
end Att
namespace L2
open PySem PySem.Spec PyProof.Rows
def EO:∀{vs:LW}{ns:LJ},IntsAre vs ns->YA (ns.map V.int) vs
 |_,_,.nil=>.nil|_,_,.cons n t h=>.cons #[t,rfl] (EO h)
def ku(H:Hp):Prop:=∀b,H b=js∨∃o h,H b=jb (.frz o (.lst h))
def f8{K:QC}{y:kt}{vs:LW}(KX:K.In y.1)(B:y.1.Ns vl Z)(i:y.1.Ns ln M)(O:∀x:Str,x≠"__name__"->M x=Zz x)(C:y.1.NoLimit)(hg:y.gens=#[])(J:y.1.get? a=jb { cls:=.type "list",data:=.seq vs.toArray })(hi:IntsAre vs ns)(hl:ns.9<=ke)(hr:Room k ei)(F:∀j:v6,K.In j->j.Ns vl Z->FnOk P w K Z j CX k R fd [x] sp)(X:∀(s:kt) (u:ky),Cz s fd #[[u],[]] [(x,u)])(N:∀H:Hp,ku H->mD K H a (ns.map V.int)->sp [.ref a] H (λv _=>v=.bl j3) λ_ _ _=>False)(Q:∀H e s',CX [] H y (λ_ _ _=>False) e s'->False) :
  cv (Vz P w) ei (.call (.ref R) #[[.ref a],[]]) (λr s'=>r=.ok (.ret (.bool j3))/\OldK y.1 s'.1/\s'.os=y.os/\AllBare s'.gens) y:=by
 have rv:=EO hi;have W:=hi.9;have p:∀H:Hp,ku H->mD K H a (ns.map V.int)->SH P w H y.1->(∀b,H b≠js->b=a)->(H a≠js->K.lookup a=js) ->
   cv (Vz P w) ei (.call (.ref R) #[[.ref a],[]]) (λr s'=>r=.ok (.ret (.bool j3))/\OldK y.1 s'.1/\s'.os=y.os/\AllBare s'.gens) y:=by
  intro H hO hS hok hA hK;have g:∀{b:kl}{o:Obj},y.1.get? b=jb o->H b=js->(JR y.1 H).get? b=jb o:=λe n=>P8 e n;have L:∀{b:kl}{o:Obj}{G:Array hI}{I:Nat},y.1.get? b=jb o->o.data=.dict G I->H b=none:=λ{b o G I} e d=>by
   cases q:H b with|none=>rfl|some u=>have S:b=a:=hA b (by rw[q];simp);subst S;rw[J]at e;cases e;have d':Data.seq vs.toArray _=Data.dict G I:=d;cases d'
  have l:∀{b:kl}{m:Str->Option ky},y.1.Ns b m->(JR y.1 H).Ns b m:=λ{b m} #[o,G,I,e,d,r]=>#[o,G,I,g e (L e d),d,r]
  have E:K.In (JR y.1 H):=λb o e=>g (KX b o e) (by
   cases q:H b with|none=>rfl|some u=>have S:b=a:=hA b (by rw[q];simp);subst S;rw[hK (by rw[q];simp)]at e;cases e)
  have hM:Mod K Z (JR y.1 H):=#[E,l B,#[M,l i,O],let#[mc,h1,h2]:=C;#[mc,l h1,h2]]
  have e0:Env0 P w K Z (JR y.1 H) ei [] y H:=#[rfl,hM,λb o e=>jd e,Nat.le_of_eq (R0 _ _),trivial,λb i=>n9 (show b∈([]:List kl) from i) (by simp),hok,.of_eq hg]
  refine WJ ((F _ E (l B)).run ei [] y H #[[.ref a],[]] [.ref a] [.ref a] _ _ hr e0 (X y (.ref a)) (.cons rfl .nil) (N H hO hS)) λr s' h=>?_;cases r with
  |error e=>exact(Q H e s' h).elim|ok fl =>
   cases fl with
   |next=>exact QV h|brk=>exact QV h|cont=>exact QV h|ret u =>
    let#[v,H',os,bare,un,A,r',q]:=h;have q':v=.bl true:=q;subst q';obtain rfl:u=Value.bool true:=r';refine#[rfl,OldK.of_keep λb o e=>?_,os,bare];cases q:H b with
    |none=>exact un.keep b o e q (by intro z;exact n9 (show b∈([]:List kl) from z) (by simp)) (by simp)|some u =>
     rcases hO b with z|⟨ob,xs,z⟩
     rw[q]at z;cases z;have z2:=un.frzs b ob _ z;let#[e1,_]:=hok b _ z;let#[e2,_]:=A b _ z2;rw[e]at e1;cases e1;exact e2
 cases hk:K.lookup a with
 |some o=>have e:=KX a o hk;rw[J]at e;cases e;refine p (λ_=>js) (λ_=>.inl rfl) (.inr #[_,vs.toArray,_,hk,rfl,rfl,rfl,by rw[QN,W];exact hl,by simpa using rv]) (λb u z=>by have Y:(none:Option HO)=jb u:=z;cases Y) (λb z=>n9 rfl z) λz=>n9 rfl z|none =>
  refine p (λb=>if b=a then jb (.frz { cls:=.type "list",data:=.seq vs.toArray } (.lst (ns.map V.int))) else js) (λb=>?_) (.inl (.inr #[{ cls:=.type "list",data:=.seq vs.toArray },n8 rfl])) (λb u z=>?_) (λb z=>?_) λ_=>hk;by_cases i:b=a
  ·exact .inr #[_,_,n8 i]
  exact .inl (n7 i);by_cases i:b=a
  ·have Y:=(n8 i).symm.trans z
   cases Y;subst i;exact#[J,by rw[QG];exact hl,vs,_,rv,J]
  have Y:=(n7 i).symm.trans z;cases Y;by_cases i:b=a
  ·exact i
  exact n9 (n7 i) z
def bC(s:y1):Arguments:=match s with
 | .FunctionDef _ a _ _ _ _ _ _ _ _=>a|_=>{ posonlyargs:=[],args:=[],vararg:=js,kwonlyargs:=[],kw_defaults:=[],kwarg:=js,defaults:=[] }
def JB(s:y1):List Stmt:=match s with
 | .FunctionDef _ _ b _ _ _ _ _ _ _=>b|_=>[]
def oA(s:y1):Scope:=match s with
 | .FunctionDef _ _ _ _ _ _ sc _ _ _=>sc|_=>{ kind:=.function,names:=[],isGenerator:=Kz,isCoroutine:=Kz }
noncomputable abbrev Ha:jV:=λ_ _ _ _ _ _=>False
noncomputable abbrev E0:XK:=λ_ _ _=>False
structure Fun(K:QC)(x qual:Str)(st:y1)(f:kl)(fd:x3):Prop where
 ex:∃(oc:ky) (od:Option kl) (kV doc pm:ky) (an:Option kl) (cdv ct:ky) (osl:Array (Option ky)),
  fd=qZ x qual (bC st) (JB st) (oA st) .none kV doc pm an cdv ct/\K.lookup f=jb #[oc,od,.func fd,osl]/\WX K cdv qual=j3
 kp:qq K (.ref f)=j3
section
variable{P:vb}{w:vu}{K:QC}{mg:Str->Option ky}{base:v6}
def Fun.ok{x y:Str}{st:y1}{f:kl}{g:x3}{N ps:LS}{k:Nat}{a:Sp}(F:Fun K x y st f g)(S:FnScope N ps (oA st))(len:∀vs H Q E,a vs H Q E->vs.9=ps.9)
  (u:∀(z:ky) (A:x2) (outer:List Env) (s:kt) (H:Hp) (vs:LV) (Q:VK) (E:XK),Room k (A.deeper (envOfC y (oA st) s.1.1.size f z))->a vs H Q E ->
   ∃t,X3 (LK Ha P w K mg base N y (oA st) f z A outer s H E).nox (JB st) t/\t { nx:=λ_ H'=>Q .non H',rt:=Q } (mF N vs) H):FnOk P w K mg base Ha (k+1) f g ps a:=by
 let#[p,o,kV,m,n,X,z,r,i,rfl,j,e]:=F.ex;refine ug j e S len λA outer s H vs Q E l b=>?_;let#[t,h,q]:=u z A outer s H vs Q E l b;exact#[t,h.nox,q]
def Fun.binds{x y:Str}{st:y1}{f:kl}{b:x3}{ps:LS}(F:Fun K x y st f b)
  (h:∀(kV z k:ky) (a:Option kl) (u ct:ky) (us:LW),us.9=ps.9->Bz (qZ x y (bC st) (JB st) (oA st) .none kV z k a u ct) #[us,[]]=n5 (ps.zip us)):xF K b ps []:=by
 let#[j,i,kV,z,k,a,u,ct,e,rfl,l,g]:=F.ex;exact .all (h kV z k a u ct)
def Zm{x h:Str}{st:y1}{f:kl}{g:ky}{e b:Option kl}{u:Array (Option ky)}{kV z a y ct:ky}(l:K.lookup f=jb #[g,e,.func (qZ x h (bC st) (JB st) (oA st) .none kV z a b y ct),u])
  (c:WX K y h=j3) (k:qq K (.ref f)=j3):Fun K x h st f (qZ x h (bC st) (JB st) (oA st) .none kV z a b y ct):=#[#[g,e,kV,z,a,b,y,ct,u,rfl,l,c],k]
end
def OD{c A B:Prop}[Decidable c](y:c->A)(x:¬ c->B):if c then A else B:=by by_cases h:c;rw[n8 h];exact y h;rw[n7 h];exact x h
def Same(H H':Hp):Prop:=∀b o,H b=jb o->H' b=jb o
def Same.refl(H:Hp):Same H H:=λ_ _ h=>h
def Same.trans(a:Same H y)(b:Same y x):Same H x:=λc o h=>b c o (a c o h)
def Same.free(e:Same H H')(h:H' l=Option.none):H l=Option.none:=by
 cases q:H l with|none=>rfl|some o=>rw[e l o q]at h;cases h
def Same.seq{K:QC}{H H':Hp}{a:kl}{xs:LV}(e:Same H H')(h:mD K H a xs):mD K H' a xs:=by rcases h with(h|⟨o,h⟩)|h;exact .inl (.inl (e _ _ h));exact .inl (.inr #[o,e _ _ h]);exact .inr h
section
variable{x:Type}[DecidableEq x]
def YF(h:List (x×V))(k:x):Option V:=(h.find? λy=>decide (y.1=k)).map (·.2)
def CM(h:List (x×V))(k:x)(v:V):List (x×V) :=
 if(h.any λy=>decide (y.1=k))=j3 then h.map (λy=>if y.1=k then(y.1,v) else y) else h++[(k,v)]
def uJ{p:x×V}(e:p.1=k):YF (p::r) k=jb p.2:=by simp[YF,WM,e]
def bJ{p:x×V}(e:¬ p.1=k):YF (p::r) k=YF r k:=by simp[YF,WM,e]
def aS(k:x):∀h:List (x×V),(h.any λy=>decide (y.1=k))=(YF h k).isSome
 |[]=>rfl|p::r=>by rw[qj];by_cases e:p.1=k;simp only[uJ e,dT e,QAn,Option.isSome_some];rw[bJ e,dF e,QBK];exact aS k r
def FT(h:List (x×V))(k:x)(v:V):(CM h k v).9<=h.9+1:=by unfold CM;split;rw[QG];omega;rw[QJ,QM,wF];omega
def R5{y:List (x×V)}{k:x}(v:V)(h:YF y k=js):CM y k v=y++[(k,v)]:=by unfold CM;rw[aS,h];exact n7 (by decide)
def KV.val(r:KV y vs)(k:x):xK (YF y k) (hW vs k):=by
 unfold KV at r;induction r with
 |nil=>exact True.intro|@cons p q l u h t i =>
  let#[g,j]:=h;by_cases e:p.1=k;have a:q.1=k:=g.symm.trans e;have b:hW (q::u) k=jb q.2:=by simp[hW,WM,a]
  rw[uJ e,b];exact j;have a:¬ q.1=k:=λz=>e (g.trans z);have b:hW (q::u) k=hW u k:=by simp[hW,WM,a]
  rw[bJ e,b];exact i
def KV.any(r:KV y vs)(k:x):(y.any λz=>decide (z.1=k))=vs.any λz=>decide (z.1=k):=by
 unfold KV at r;induction r with|nil=>rfl|cons h t u=>rw[qj,qj,u,h.1]
def KV.repl(r:KV b vs)(k:x)(i:ZA y u) :
  KV (b.map λa=>if a.1=k then(a.1,y) else a) (vs.map λa=>if a.1=k then(a.1,u) else a):=by
 unfold KV at r ⊢;induction r with|nil=>exact .nil|@cons p q n m h t j=>rw[QR,QR];refine .cons ?_ j;let#[g,l]:=h;by_cases e:p.1=k;rw[n8 e,n8 (g.symm.trans e)];exact#[g,i];rw[n7 e,n7 (λz=>e (g.trans z))];exact#[g,l]
def KV.put(r:KV h vs)(k:x)(z:ZA y u):KV (CM h k y) (stored vs k u):=by unfold CM stored;rw[r.any k];by_cases e:(vs.any λa=>decide (a.1=k))=j3;rw[n8 e,n8 e];exact r.repl k z;rw[n7 e,n7 e];exact Paired.snoc r #[rfl,z]
def KV.length(r:KV h vs):h.9=vs.length:=Wo r
end
def r8(r:ZA (kV k) u):(LB P w).is k u=true:=by
 cases k with|inl i=>let#[t,e]:=(show ∃t,u=Value.int i t from r);subst e;exact JT P w i t|inr x=>let#[t,e]:=(show ∃t,u=Value.str x t from r);subst e;exact iT P w x t
def UP:∀{ks:List AD}{us:LW},YA (ks.map kV) us->ItemsAre (LB P w) ks us
 |[],_,r=>by rw[wJ]at r;cases r;exact .nil|k::ks,_,r=>by
  rw[QR]at r;cases r with|cons h t=>exact .cons (r8 h) (UP t)
noncomputable abbrev KT(H:Hp):List (List AD×V)->List (List AD×kl×ky)->Prop:=ge λp q=>p.1=q.1/\H q.2.1=jb (.tup (p.1.map kV))/\ZA p.2 q.2.2
def KT.val(r:KT H x xs)(k:List AD):xK (YF x k) ((nL xs k).map (·.2)):=by
 induction r with
 |nil=>exact True.intro|@cons p q j y h t g =>
  let#[a,_,i]:=h;by_cases e:p.1=k;have u:q.1=k:=a.symm.trans e;have b:nL (q::y) k=jb q.2:=by simp[nL,WM,u]
  rw[uJ e,b];exact i;have u:¬ q.1=k:=λz=>e (a.trans z);have b:nL (q::y) k=nL y k:=by simp[nL,WM,u]
  rw[bJ e,b];exact g
section
variable{P:vb}{w:vu}{H:Hp}{h:v6}{a:kl}
def tf(ok:SH P w H h)(e:Rd H a u):NA P w H h a u:=e.ok ok
def b9(ok:SH P w H h)(e:Rd H a (.dK x)):x.9<=ke/\(a==Gz)=Kz/\∃vs,KV x vs/\h.DictOf (LB P w) a vs :=
 show NA P w H h a (.dK x) from tf ok e
def Vs(ok:SH P w H h)(e:H a=jb (.dK x)):x.9<=ke/\(a==Gz)=Kz/\∃vs,KV x vs/\h.DictOf (LB P w) a vs:=b9 ok (.inl e)
def l8{ks:List AD}(ok:SH P w H h)(e:H a=jb (.tup (ks.map kV))):(e5 (LB P w)).is h ks a:=by
 let#[_,x,r,o,u,z,n,y]:=(show NA P w H h a (.tup (ks.map kV)) from ok a _ e)
 exact#[o,x.toArray,n,u,z,y,by simpa using UP r]
def Yg(ok:SH P w H h)(e:Rd H a (.dT u)):u.9<=ke/\(a==Gz)=Kz /\
  ∃xs,KT H u xs/\h.DictOfH (e5 (LB P w)) a xs:=by
 let#[z,y,xs,r,o,Y,Z,X,s,n,j,i]:=(show NA P w H h a (.dT u) from tf ok e)
 refine#[z,y,xs,r,o,Y,Z,X,s,n,j,λx k=>?_,i];have all:∀{l:List (List AD×V)}{m:List (List AD×kl×ky)},KT H l m->∀x∈m,(e5 (LB P w)).is h x.1 x.2.1:=by
  intro l m q;induction q with
  |nil=>intro x k;exact nomatch k
  |@cons p q K W b t g=>intro x k;rcases QO.mp k with e|k;subst e;exact l8 ok (by rw[<- b.1];exact b.2.1);exact g x k
 exact all r x k
end
def B3(H:Hp)(a:kl)(y:V)(r:Option V):Prop :=
 (∃h k,Rd H a (.dK h)/\y=kV k/\r=YF h k)∨∃h k b,Rd H a (.dT h)/\y=.ref b/\H b=jb (.tup (k.map kV))/\r=YF h k
def B3.t{H:Hp}{k:List AD}(e:H a=jb (.dT h))(x:H b=jb (.tup (k.map kV))):B3 H a (.ref b) (YF h k):=.inr #[h,k,b,.inl e,rfl,x,rfl]
section
variable{X:Cx}{c:BB}{σ:St}{H:Hp}{s:kt}{a:kl}{y v:V}{u r:ky}{o:Option V}{A:x2}{E:CB}
def Inv.big(I:Inv X c σ H s):Gz<s.1.1.size:=by have h:vl<s.1.1.size:=(I.mod.glob.keeps I.bk).lt;exact Nat.lt_trans (by decide) h
def Y2{Q:CB}(B:A.units+1<eI)(I:Inv X c σ H s)(g:B3 H a y (jb v))(W:ZA y u)(h:∀j s',Inv X c σ H s'->ZA v j->Q j s') :
  ka (Vz X.prog X.w) A (DC (.ref a) u) Q E s:=by
 rcases g with⟨m,k,e,Y,l⟩| ⟨m,k,b,e,Y,F,l⟩
 subst Y;let#[z,hd,vs,i,Z]:=b9 I.hok e;let#[j,n,x]:=xK.some_of (v:=v) (o:=hW vs k) (by rw[l];exact i.val k);exact QDA (r8 W) Z.mapOf n (h j _ (I.tok _) x);subst Y;cases(show u=j2 b from W);let#[z,hd,K,i,Z]:=Yg I.hok e;let#[j,n,x]:=xK.some_of (v:=v) (o:=(nL K k).map (·.2)) (by rw[l];exact i.val k);let#[p,C,q]:=Option.map_eq_some_iff.mp n;refine wpAny_getItem_heap (tupleKind_room_in1 B) (l8 I.hok F) Z C ?_;rw[q];exact h j _ (I.tok _) x
def me(I:Inv X c σ H s)(k:bu (H a))(g:wG a s.1 h')(i:∃q,h'.get? a=jb q)(new:NA X.prog X.w (LA H a h) h' a h) :
  Inv X c σ (LA H a h) { s with heap:=h',toks:=t' } :=
 I.write (x:=a) (e:=a) k (.inl rfl) (λb q j z=>(g.2 b j).trans z) i new
def Nm{h':v6}{h:List (AD×V)}(z:h.9<=ke)(hd:(a==Gz)=Kz)(x:KV h vs)(k:h'.DictOf (LB P w) a vs) :
  NA P w H' h' a (.dK h):=#[z,hd,vs,x,k]
end
def xu(i:Expr):Prop:=∀h x,Bn i Kz h x=operate [h,x] (DC h x)
def yb{prog:vb}{w:vu}{A:x2}{E:CB}{s:kt}{env:Env}{z y:Expr}{pos:Pos}{T id:String}{Q:CB}
  (hl:ef (.type T) "__getitem__"=n5 (jb (.builtin id))) (l:xu y)
  (h:ka (Vz prog w) A (zz z env) (λo b=>ka (Vz prog w) A (zz y env) (λi u=>u.TypeIs o T/\ka (Vz prog w) A (DC o i) Q E u) E b) E s) :
  ka (Vz prog w) A (zz (.Subscript z y pos) env) Q E s:=by
 refine QDl (qU h (λo b g=>qU g (λi u k=>?_) λ_ _ x=>x) λ_ _ x=>x);let#[j,k]:=k;unfold subscriptTail;refine QE ?_;rw[getitemInPython_of_ne j.not_modules];refine QE (L4 j hl ?_);have fin:ka (Vz prog w) A (Bn y Kz o i) (λr a=>ka (Vz prog w) A (letTemporaryGo z o r >>= λ_=>n5 r) Q E a) E u:=by rw[l o i];exact wpAny_operating (qU k (λr a e=>QE (wpAny_letTemporaryGo (QT e))) λ_ _ x=>x)
 first
  |exact QT (QE fin)
  |exact QE (QT (QE fin))
  |exact QE fin
def uU(I:Inv X h σ H s)(g:B3 H a y o):s.TypeIs (.ref a) "dict":=by
 rcases g with⟨x,k,e,_,_⟩| ⟨x,k,b,e,_,_,_⟩
 let#[_,_,vs,_,z]:=b9 I.hok e;exact z.typeIs;let#[_,_,u,_,z]:=Yg I.hok e;exact z.typeIs
def Kp(u ty:TE):TE:=λh H Q=>u h H λx k=>ty h k λy z=>∃a v,x=.ref a/\B3 z a y (jb v)/\Q v z
section
variable{X:Cx}{o i e z:Expr}{pos pos' w:Pos}{k ty b:TE}
def cc(W:X.A.units+1<eI)(B:PE X o k)(C:PE X i ty)(K:xu i):PE X (.Subscript o i pos) (Kp k ty):=by intro j s m H Q I h;refine yb QAz.lookup K (yE (B j s m H _ I h) λu p x L G r Z=>yE (C j p m L _ G Z) λP O y J n q zz=>?_);let#[a,v,E,g,Y]:=zz;subst E;obtain rfl:u=j2 a:=r;exact#[uU n g,Y2 W n g q λM N F l=>#[v,J,F,l,Y]]
end
def f9(h:v6)(x:Gz<h.1.size):NA P w H (h.push { cls:=.type "dict",data:=.dict #[] }) h.1.size (.dK []) :=
 #[QB1 _,beq_eq_false_iff_ne.mpr (Qz (Qk x)),[],.nil,Heap.DictOf.new h]
def rM:List (TE×TE)->St->Hp->(List (V×V)->Hp->Prop)->Prop
 |[],_,H,Q=>Q [] H|(tk,tv)::r,σ,H,Q=>tk σ H λx k=>tv σ k λy u=>rM r σ u λh z=>Q ((x,y)::h) z
noncomputable abbrev VV:List (V×V)->List (ky×ky)->Prop:=ge λp q=>ZA p.1 q.1/\ZA p.2 q.2
def yu(X:Cx)(pos:Pos)(keys:List (Option Expr))(h:List Expr)(trs:List (TE×TE)):Prop :=
 ∀(x:BB) (s:kt) (y:St) (H:Hp) (Q:List (V×V)->Hp->Prop),Inv X x y H s->rM trs y H Q ->
  ka (Vz X.prog X.w) X.A (evalPairs (pairTrees keys h X.env pos)) (λvs k=>∃z u,Inv X x y u k/\VV z vs/\Q z u) X.xe s
def Ab:yu X pos [] [] []:=λx s y H Q I h=>pairTrees_nil_walk #[[],H,I,.nil,h]
def u6(hk:PE X k g)(hv:PE X v e)(r:yu X pos ks vs trs) :
  yu X pos (jb k::ks) (v::vs) ((g,e)::trs):=λz s a H Q I h =>
 pairTrees_cons_walk (yE (hk z s a H _ I h) λu j x B W m p=>yE (hv z j a B _ W p) λE i y A Z l o =>
  lI (r z i a A _ Z o) λC F #[q,K,Y,b,n]=>#[(x,y)::q,K,Y,.cons #[m,l] b,n])
def vH(x h:List (AD×V)):List (AD×V):=h.foldl (λy z=>CM y z.1 z.2) x
def KV.merge:∀{x:List (AD×V)}{z:List (AD×ky)}{y:List (AD×V)}{vs:List (AD×ky)},KV x z->KV y vs->KV (vH y x) (merged vs z):=by
 intro x z y vs r;unfold KV at r;induction r generalizing y vs with
 |nil=>intro q;exact q|@cons p q b a h t k =>
  intro u;have e:KV (CM y p.1 p.2) (stored vs q.1 q.2):=by have:=u.put p.1 h.2;rw[<- h.1];exact this
  exact k e
def xI:∀(x h:List (AD×V)),(vH h x).9<=h.9+x.9
 |[],h=>by show h.9<=h.9+0;omega|p::r,h=>by have z:=xI r (CM h p.1 p.2);have y:=FT h p.1 p.2;show(vH (CM h p.1 p.2) r).9<=_;rw[QM];omega
def EN:∀{x:List (AD×V)}{z:List (ky×ky)},VV (x.map λu=>(kV u.1,u.2)) z->∃y,Carries (LB P w) z y/\KV x y
 |[],_,r=>by rw[wJ]at r;cases r;exact#[[],True.intro,.nil]|p::x,_,r=>by
  rw[QR]at r;cases r with|@cons a b g bs h t=>let#[y,c,q]:=EN (P:=P) (w:=w) t;let#[e,k]:=b;exact#[(p.1,k)::y,#[r8 h.1,rfl,c],.cons #[rfl,h.2] q]
def Zp(trs:List (TE×TE)):TE:=λz H Q=>∀p,H p=js->rM trs z (LA H p (.dK [])) λu y=>y p=jb (.dK [])/\∃h:List (AD×V),u=h.map (λx=>(kV x.1,x.2))/\h.9<=15/\Q (.ref p) (LA y p (.dK (vH [] h)))
def bc{keys:List (Option Expr)}(h:yu X pos keys x trs)(k:keys.all (·.isSome)=j3)(hl:keys.length=x.9)(E:keys≠[])(i:keys.length<=15):PE X (.Dict keys x pos) (Zp trs):=by
 intro y s l H Q I q;have A:=I.hok.fresh (QX s.1.1.size);have J:=I.laid (a:=s.1.1.size) (o:=.dK []) (h':=s.1.push { cls:=.type "dict",data:=.dict #[] }) (t':=s.toks) (λ_ _ q=>QF _ q) (QX _) (f9 s.1 I.big);refine wpAny_Dict_walk (knd:=LB X.prog X.w) k hl E i (lI (h y _ l _ _ J (q _ A)) λL M zz=>?_);let#[N,R,j,g,e,u,F,O,Y]:=zz;subst F;let#[n,c,p]:=EN (P:=X.prog) (w:=X.w) g;let#[z,hd,m,r,G]:=Vs j.hok e;cases r;refine#[n,c,G,λh' b W=>#[.ref s.1.1.size,_,?_,rfl,Y]];have Z:(vH [] u).9<=sizeLine:=by have C:=xI u [];rw[wF]at C;rw[wP];omega
 have B:∃q,h'.get? s.1.1.size=jb q:=let#[q,_,_,K,_]:=b;#[q,K]
 exact me j (by rw[e];exact True.intro) W B (Nm Z hd (p.merge .nil) b)
end L2
namespace L2.L3
open PySem PySem.Spec PyProof.Rows
structure Fly(B:v6)(l:List Env)(e:kl)(cls:ky)(dx:kl)(fl:Option ky)(h:v6):Prop where
 stay:B.StaysIn h
 new:B.get? e=js
 ff:h.FunFrames B l
 obj:∃oe vs,h.get? e=jb oe/\oe.cls=cls/\oe.dict=jb dx/\oe.data=.fields vs/\oe.slots=#[]/\1<vs.size/\match fl with
  |none=>vs[1]?=jb .none|some f=>∃T oT ts,vs[1]?=jb (.ref T)/\B.get? T=js/\T≠e/\h.get? T=jb oT/\oT.data=.fields ts/\ts[3]?=jb f
def HF(l:List Env)(h h':v6):Prop:=∀b∈HP l,∀o,h.get? b=jb o->∃x,h'.get? b=jb { o with slots:=x }
def HF.refl:HF l h h:=λ_ _ o q=>#[o.slots,q]
def HF.trans(a:HF l h y)(b:HF l y x):HF l h x:=λc m o q=>by let#[e,k]:=a c m o q;let#[z,u]:=b c m _ k;exact#[z,u]
section
variable{M:db}{A:x2}{E:CB}{s:kt}{B:v6}{env:Env}{outer l:List Env}{L e y:kl}{cls f:ky}{Q:Unit->kt->Prop}
def D7{h:v6}{T:kl}(x:h.FunFrames B l)(b:h.get? T=jb a)(hd:a.data=.fields k):T∉HP l:=λm=>by let#[_,o,z,u]:=x.mem m;rw[b]at z;injection z with z;subst z;exact u k hd
def NI(fr:Option kl)(x:Fly B l e cls y (jb f) s.1)(J:∀h',Fly B l e cls y (jb (fr.elim j1 λa=>gz a)) h'->HF l s.1 h'->s.1.1.size<=h'.1.size->Q Unit.unit { s with heap:=h' }) :
  ka M A (cC (.ref e) fr) Q E s:=by
 let#[F,C,Y,G,vs,W,hc,r,hd,p,j,T,O,Z,K,k,g,i,u,N]:=x;have X:3<Z.size:=(QAm.mp N).1;unfold cC;refine QE (qF W hd K ?_);rw[n8 (show(j2 T != j1)=j3 from by simp)];refine QAA i u X (J _ ?_ (λb m o q=>?_) (by rw[WE];exact QX _));have h:∀b,b≠T->(s.1.update T (QBN (·.setIfInBounds 3 (fr.elim j1 λa=>gz a)))).get? b=s.1.get? b:=λb n=>qd _ _ (Qz n);refine#[λb o q=>(h b λz=>by rw[z,k]at q;cases q).trans (F b o q),C,Y.of_keeps λb o q I=>#[o,(h b λz=>?_).trans q,rfl],G,vs,(h e (Qz g)).trans W,hc,r,hd,p,j,?_];rw[z,i]at q;injection q with q;subst q;exact I Z u;exact#[T,_,_,K,k,g,wI _ i (QAE (WF u _)),WF u _,by simp[X]];exact#[o.slots,(qd _ _ λz:T=b=>D7 Y i u (z▸m)).trans q]
def LP(K:A.frames=jb (env::outer))(hf:env.frame=jb L)(R:B.StaysIn s.1)(I:B.get? e=js)(X:s.1.FunFrames B (env::outer))(C:s.1.get? e=jb g)(hc:g.cls=cls)(F:g.dict=jb y)(hd:g.data=.fields vs)(Z:g.slots=#[])(hsz:1<vs.size)(hQ:∀h',Fly B (env::outer) e cls y (jb (gz L)) h'->HF (env::outer) s.1 h'->s.1.1.size<=h'.1.size->Q Unit.unit { s with heap:=h' }) :
  ka M A (do let a <- frameOf env;let pl <- entryPlaceOf L u;let b <- QB2 i a .none (gz L) .none pl;setField (.ref e) 1 b) Q E s:=by
 have p:e∉HP (env::outer):=D7 X C hd;refine QE (wpAny_frameOf_fun K X hf λk x=>QE (wpAny_entryPlaceOf λpl W=>?_));have O:k.get? e=jb g:=(x.2.1 e p).trans C;have j:B.StaysIn k:=λb o q=>(x.2.1 b λm=>by rw[(X.mem m).1]at q;cases q).trans (R b o q);unfold QB2 newFields;refine QE (wA ?_ (W.sizeOk5 _ _ _ _ _));generalize hts:([i,j2 L,j1,gz L,j1]++(if pl.isEmpty then QK 6 j1 else pl)).toArray=ts;have S:ts[3]?=jb (gz L):=by rw[<- hts];rfl
 have N:=QF (h:=k) { cls:=.type "traceback",dict:=js,data:=.fields ts } O;have r:k.1.size≠e:=Wk (QS O);have P:=WF hd (·.setIfInBounds 1 (j2 k.1.size));have q3:=wI (QBN (·.setIfInBounds 1 (j2 k.1.size))) N (QAE P);have keep:∀b o,b≠e->k.get? b=jb o->((k.push { cls:=.type "traceback",dict:=js,data:=.fields ts }).update e (QBN (·.setIfInBounds 1 (j2 k.1.size)))).get? b=jb o :=
  λb o n q=>(qd _ _ (Qz n)).trans (QF _ q)
 refine QAA N hd hsz (hQ _ #[λb o q=>keep b o (λz=>by rw[z,I]at q;cases q) (j b o q),I,X.of_keeps λb o q nf=>?_,?_] (λb m o q=>?_) ?_);let#[J,Y]:=x.2.2 b o q;exact#[_,keep b _ (λz=>by rw[z,C]at q;injection q with q;subst q;exact nf vs hd) Y,rfl];refine#[_,_,q3,(QCh _ _).trans hc,?_,P,?_,by rw[Array.size_setIfInBounds];exact hsz,k.1.size,_,_,by simp[hsz],j.fresh,r,(qd _ _ (Qz r)).trans (QY k rfl),rfl,S]
 ·let#[c0,d0,G,H]:=g
  obtain rfl:G=.fields vs:=hd;exact F
 let#[c0,d0,G,H]:=g;obtain rfl:G=.fields vs:=hd;exact Z;let#[J,Y]:=x.2.2 b o q;exact#[J,keep b _ (λz=>p (z▸m)) Y];rw[WE,qW,x.1];exact QB3 _
def jU(K:A.frames=jb (env::outer))(O:env.frame=jb L)(N:G=js∨G=jb .none∨G=jb (gz L))(x:Fly B (env::outer) e cls y G s.1)(P:∀h',Fly B (env::outer) e cls y (jb (gz L)) h'->HF (env::outer) s.1 h'->s.1.1.size<=h'.1.size->Q Unit.unit { s with heap:=h' }):ka M A (c5 (.ref e) env) Q E s:=by
 unfold c5;simp only[O];rcases N with rfl|rfl|rfl;let#[W,Z,X,J,vs,i,hc,g,hd,a,k,Y]:=x;refine QE (qF i hd Y ?_);rw[n7 (by decide)];exact LP K O W Z X i hc g hd a k P;let#[W,Z,X,J,vs,i,hc,g,hd,a,k,T,R,I,Y,j,p,r,u,C]:=x;refine QE (qF i hd Y ?_);rw[n8 (show(j2 T != j1)=j3 from by simp)];refine QE (qF r u C ?_);rw[n7 (show ¬ ((j1==gz L)=j3) from by simp[gz])];refine QE (QAA r u (QAm.mp C).1 ?_);have h:∀b,b≠T->(s.1.update T (QBN (·.setIfInBounds 3 j1))).get? b=s.1.get? b:=λb n=>qd _ _ (Qz n);refine LP (vs:=vs) K O (λb o q=>(h b λz=>by rw[z,j]at q;cases q).trans (W b o q)) Z (X.of_keeps λb o q H=>#[o,(h b λz=>?_).trans q,rfl]) ((h e (Qz p)).trans i) hc g hd a k λh' F S sz=>P h' F (λb m o q=>S b m o ((h b λz=>D7 X r u (z▸m)).trans q)) ?_;rw[z,r]at q;injection q with q;subst q;exact H I u;rw[WE]at sz;exact sz;let#[W,Z,X,J,vs,i,hc,g,hd,a,k,T,R,I,Y,j,p,r,u,C]:=x;refine QE (qF i hd Y ?_);rw[n8 (show(j2 T != j1)=j3 from by simp)];refine QE (qF r u C ?_);rw[n8 (show(gz L==gz L)=j3 from by simp)];exact QT (P s.1 #[W,Z,X,J,vs,i,hc,g,hd,a,k,T,R,I,Y,j,p,r,u,C] .refl (QX _))
def IT(u:A.frames=jb (env::outer))(i:env.frame=jb L)(k:h=js∨h=jb .none∨h=jb (gz L))(x:Fly B (env::outer) e cls y h s.1)(j:∀h',Fly B (env::outer) e cls y (jb .none) h'->HF (env::outer) s.1 h'->s.1.1.size<=h'.1.size->Q Unit.unit { s with heap:=h' }) :
  ka M A (c5 (.ref e) env) (λ_ z=>ka M A (cC (.ref e) js) Q E z) E s :=
 jU u i k x λp o g b=>NI js o λm n z a=>j m n (g.trans z) (qG b a)
end
open PySem.W
def JO:LW:=[.type "ValueError",.type "Exception",.type "BaseException",.type "object"]
def ZF(W C:kl):LW:=if C=W then JO else .ref W::JO
structure ExK(K:QC)(W C fI:kl):Prop where
 obj:∃nm q N bs sn sub ab col dd k0 k1 k2 k3 k5,K.lookup C=jb (excClassObj nm q C N bs (ZF W C) j3 sn sub ab col dd k0 k1 k2 k3 k5 "ValueError.__new__")
 init:findIn K (.ref C) "__init__"=jb (jb (.ref fI))
 fn:typeIn K (.ref fI)=jb (.type "function")
 sa:findIn K (.ref C) "__setattr__"=jb (jb (.builtin "object.__setattr__"))
 ga:findIn K (.ref C) "__getattribute__"=jb (jb (.builtin "BaseException.__getattribute__"))
 gh:findIn K (.ref C) "__getattr__"=jb js
 pl:findIn K (.ref C) "place"=jb js
 ca:findIn K (.ref C) "__class__"=jb (jb (.builtin "object.__class__"))
 kp:keepIn K (.ref C)=j3
def NG{T:String}(h:JO.contains (.type T)=b):(j2 C::ZF W C).contains (.type T)=b:=by unfold ZF;split;rw[wN,h];rfl;rw[wN,wN,h];rfl
noncomputable abbrev HG(C t:kl)(d:Option kl):Obj:={ cls:=.ref C,dict:=d,data:=.fields (List.toArray [.ref t,.none,.none,.none,.bool Kz,.none]) }
section
variable{prog:vb}{w:vu}{A:x2}{E:CB}{h:v6}{g:Array d8}{d:ni}{t:Nat}{y:lL}{K:QC}{W C fI:kl}{rest:LW}
def ze{R:Result->kt->Prop}(X:K.In h)(Y:ExK K W C fI)(Z:rest.9<=ke)(k:R (.ok (.ret (.ref (h.1.size+1)))) #[(h.push { cls:=.type "tuple",data:=.seq rest.toArray }).push (HG C h.1.size js),g,d,t,y]) :
  cv (Vz prog w) A (.builtin "ValueError.__new__" #[.ref C::rest,[]]) R #[h,g,d,t,y]:=by
 let#[nm,q,N,bs,l,sub,G,a,B,s,r,o,n,m,hl]:=Y.obj;have z:=X _ _ hl;have F:=WV;have x:=F.ends;have j:=NG (W:=W) (C:=C) (T:="ValueError") (b:=j3) rfl;have i:=NG (W:=W) (C:=C) (T:="AttributeError") (b:=Kz) rfl;have e:=NG (W:=W) (C:=C) (T:="NameError") (b:=Kz) rfl;refine codeAny_builtinAt F.entry ?_;unfold Builtin.«BaseException.__new__»;refine QDU ?_;show PySem.wpAt _ _ _ (stack >>= _) _ _ _;refine QDU (PySem.wpAt_stack λp u=>QB4 ?_);wp_walk;refine QB4 ?_;rw[F.owner]
 repeat (first|with_reducible refine wpAny_madeHere_exc F.canon z ?_|with_reducible refine qM z ?_ | (with_reducible refine Wf z ?_;first|rw[j]|rw[i]|rw[e])|wp_step)
 show R _ _;rw[qW];exact k
def XR{Q:Unit->kt->Prop}(X:K.In h)(Y:ExK K W C fI)(z:Q Unit.unit #[h,g,d,t,y]):ka M A (h8 "ValueError.__new__" #[.ref C::rest,[]]) Q E #[h,g,d,t,y]:=by
 let#[nm,q,N,bs,a,sub,p,u,o,m,l,j,i,e,hl]:=Y.obj;have x:=X _ _ hl;have F:=WV;have k:=NG (W:=W) (C:=C) (T:="ValueError") (b:=j3) rfl;have n:=F.noStar;simp only[h8,F.newKind,F.newSplit,F.newRow]
 repeat (first|refine qM x ?_ | (refine Wf x ?_;rw[k])|refine wpAny_staticBase_exc x ?_|refine QDB x ?_|simp only[bne_self_eq_false,Qo,if_false]|wp_step)
 exact z
def z9{Q:CB}(X:K.In h)(Y:ExK K W C fI)(j:rest.9<=ke)(l:ka (Vz prog w) (A.under (.builtin "type.__call__" #[.ref C::rest,[]])) (dw (.ref fI) (.ref (h.1.size+1)::rest)) (λr s'=>r=.none/\Q (.ref (h.1.size+1)) s') E
   #[(h.push { cls:=.type "tuple",data:=.seq rest.toArray }).push (HG C h.1.size js),g,d,t,y]):ka (Vz prog w) A (dw (.ref C) rest) Q E #[h,g,d,t,y]:=by
 let#[nm,q,N,bs,B,sub,ab,n,H,O,L,J,I,G,hl]:=Y.obj;have k:=X _ _ hl;have S:=tc_lookup;have R:=tc_bind (.ref C);have P:(#[h,g,d,t,y]:kt).TypeIs (.ref C) "type":=#[_,k,rfl]
 have F:=WV;refine QA8 (lz ?_);show ka _ _ (callAny (.ref C) _) _ _ _
 repeat (any_goals (first|assumption|with_reducible refine qM k ?_|wp_step))
 refine#[rfl,codeAny_call_builtin_at (QAq _ (by decide +kernel)) entry_typeCall (wpAny_check_type_call_sub k ?_)]
 repeat (first|with_reducible refine qM k ?_|with_reducible refine QDB k ?_|wp_step)
 refine codeAny_call_builtin_code (QAq _ F.quiet) (XR X Y (ze X Y j ?_));show ka _ _ _ _ _ _;have i:K.In ((h.push { cls:=.type "tuple",data:=.seq rest.toArray }).push (HG C h.1.size js)):=X.keeps λb o e=>QF _ (QF _ e);have a:=i _ _ hl;have u:((h.push { cls:=.type "tuple",data:=.seq rest.toArray }).push (HG C h.1.size js)).get? (h.1.size+1)=jb (HG C h.1.size js):=QBC (by rw[qW]) rfl;have p:(j2 C::ZF W C).contains (.ref C)=true:=by simp
 have Z:=looks_findIn (M:=Vz prog w) i Y.init;have s:=bind_fn (M:=Vz prog w) i (.ref (h.1.size+1)) Y.fn;unfold d7
 repeat (first|with_reducible refine qM u ?_ | (refine Wf a ?_;rw[p])|wp_step)
 show ka _ _ (ef (.ref C) _) _ _ _;refine Z.at (qi (QE (s.at (QE (qU l (λr s' z=>?_) λ_ _ x=>x)))));let#[rfl,m]:=z;wp_walk;exact m
end
open PySem.Builtin PySem.Builtin.ObjectAttr
section
variable{prog:vb}{w:vu}{A:x2}{E:CB}{h:v6}{g:Array d8}{d:ni}{t:Nat}{y:lL}{K:QC}{W C fI x:kl}{u:Obj}{a:Option Obj}
def ExK.sub(X:K.In h)(Y:ExK K W C fI)(T:String)(e:JO.contains (.type T)=b):Looks M h (isSubtype (.ref C) (.type T)) b:=by let#[nm,q,N,bs,k,sub,p,z,o,n,m,l,j,i,hl]:=Y.obj;refine looks_mroIn X ?_;unfold mroIn clsIn;rw[hl];show(if(j2 C::ZF W C).isEmpty=j3 then js else jb ((j2 C::ZF W C).contains (.type T)))=jb b;rw[n7 (by simp),NG e]
def ExK.subR(X:K.In h)(Y:ExK K W C fI)(D:kl):Looks M h (isSubtype (.ref C) (.ref D)) (decide (D=C∨D=W)):=by let#[nm,q,N,bs,k,sub,o,z,n,m,l,j,i,b,hl]:=Y.obj;refine looks_mroIn X ?_;unfold mroIn clsIn;rw[hl];show(if(j2 C::ZF W C).isEmpty=j3 then js else jb ((j2 C::ZF W C).contains (.ref D)))=_;rw[n7 (by simp)];congr 1;unfold ZF JO;by_cases e:C=W;rw[n8 e];simp[wN,e];rw[n7 e];simp[wN]
def G1{R:Result->kt->Prop}(X:K.In h)(Y:ExK K W C fI)(I:InstAt h x u C a)(l:findObj K C a name=jb (Found.value v))(j:R (.ok (.ret v)) #[h,g,d,t,y]) :
  cv (Vz prog w) A (.call (.builtin "BaseException.__getattribute__") #[[.ref x,.str name z],[]]) R #[h,g,d,t,y]:=by
 have o:=QBD;have k:=I.type (M:=Vz prog w);have n:=looks_find (M:=Vz prog w) X I l;have m:Looks (Vz prog w) h (d7 (.ref x) (.type "BaseException")) true:=k.andThen (Y.sub X "BaseException" rfl);have i:builtinKind "BaseException.__getattribute__"=jb .slot:=by decide +kernel
 have e:splitId "BaseException.__getattribute__"=jb ("BaseException","__getattribute__"):=by decide +kernel
 have b:=F.args_bexc_ga (.ref x) (.str name z);refine wT o.ga.plain QDV (@check_slot (Vz prog w) _ _ #[h,g,d,t,y] "BaseException.__getattribute__" "BaseException" "__getattribute__" (.ref x) [.str name z] [] _ i e m b ?_)
 repeat (first|with_reducible refine Looks.at k ?_|with_reducible refine Looks.at n ?_|wp_step)
 exact j
def D1{Q:CB}(X:K.In h)(Y:ExK K W C fI)(I:InstAt h x u C a)(n:findObj K C a name=jb (Found.value v))(m:handedIn v=j3)(s:Q v #[h,g,d,t,y]):ka (Vz prog w) A (getAttrBy (.ref x) (.str name e) k z) Q E #[h,g,d,t,y]:=by
 have r:=QBD;have Z:=r.ga.bind (.ref x);have q:=I.type (M:=Vz prog w);have p:=looks_findIn (M:=Vz prog w) X Y.ga;have o:=looks_findIn (M:=Vz prog w) X Y.gh;have j:(z&&Lz (Value.builtin "BaseException.__getattribute__"))=false:=by cases z<;>rfl
 have b:(Value.builtin "BaseException.__getattribute__" == Value.builtin "object.__getattribute__")=false:=by decide +kernel
 have i:(Lz (j2 C)&&Value.builtin "BaseException.__getattribute__" == Value.builtin "object.__getattribute__")=false:=by rw[b];rfl
 have l:=handedOut_of m
 repeat (any_goals (first|assumption|with_reducible refine Looks.at q ?_|with_reducible refine Looks.at p ?_|with_reducible refine Looks.at o ?_|wp_step))
 refine G1 X Y I n ?_
 repeat (any_goals (first|assumption|wp_step))
def M1{Q:Option ky->kt->Prop}(X:K.In h)(Y:ExK K W C fI)(I:InstAt h x u C (jb m))(hq:Q (jb (.ref C)) #[h,g,d,t+1,y]):ka (Vz prog w) A (getAttr? (.ref x) "__class__") Q E #[h,g,d,t,y]:=by
 have n:=QBD;have f3:=n.ga.bind (.ref x);have l:=I.type (M:=Vz prog w);have L1:=looks_findIn (M:=Vz prog w) X Y.ga;have H:=looks_findIn (M:=Vz prog w) X Y.gh;have hc:(clsIn K C).isSome=true:=by let#[nm,q,N,bs,o,sub,P,j,O,r,e,k,z,p,hl]:=Y.obj;unfold clsIn;rw[hl];rfl
 have L:findObj K C (jb m) "__class__"=jb (.bind (.builtin "getset_descriptor.__get__") (.builtin "object.__class__")):=findObj_data hc Y.ca (by kernel_rfl) (by kernel_rfl);have R:=looks_find (M:=Vz prog w) X I L;have S:Looks (Vz prog w) h (d7 (.ref x) (.type "BaseException")) true:=l.andThen (Y.sub X "BaseException" rfl);have J:mroIn K C (.type "object")=jb true:=by let#[nm,q,N,bs,o,sub,P,j,O,r,e,k,z,p,hl]:=Y.obj;unfold mroIn clsIn;rw[hl];show(if(j2 C::ZF W C).isEmpty=j3 then js else jb ((j2 C::ZF W C).contains (.type "object")))=_;rw[n7 (by simp),NG (b:=j3) rfl]
 have B:(Kz&&Lz (Value.builtin "BaseException.__getattribute__"))=false:=rfl;have i:(Value.builtin "BaseException.__getattribute__" == Value.builtin "object.__getattribute__")=false:=by decide +kernel
 have Z:(Lz (j2 C)&&Value.builtin "BaseException.__getattribute__" == Value.builtin "object.__getattribute__")=false:=by rw[i];rfl
 have e:builtinKind "BaseException.__getattribute__"=jb .slot:=by decide +kernel
 have k:splitId "BaseException.__getattribute__"=jb ("BaseException","__getattribute__"):=by decide +kernel
 have z:=F.args_bexc_ga (.ref x) (.str "__class__" t);have G:=handedOut_of (v:=.ref C) rfl
 repeat (any_goals (first|assumption|with_reducible refine Looks.at l ?_|with_reducible refine Looks.at L1 ?_|with_reducible refine Looks.at H ?_|wp_step))
 refine wT n.ga.plain QDV (@check_slot (Vz prog w) _ _ #[h,g,d,t+1,y] "BaseException.__getattribute__" "BaseException" "__getattribute__" (.ref x) [.str "__class__" t] [] _ e k S z ?_)
 repeat (first|with_reducible refine Looks.at l ?_|with_reducible refine Looks.at R ?_|wp_step)
 refine class_get (s:=#[h,g,d,t+1,y]) X I J ?_
 repeat (any_goals (first|assumption|wp_step))
def g8(Y:ExK K W C fI):KitX K (.ref x) (.ref C) (λh=>InstAt h x u C (jb l)) where
 ty:=λ_ _ _ I=>I.type
 it:=λ_ _ X _=>by let#[nm,q,N,bs,j,sub,G,e,i,Z,r,p,o,m,hl]:=Y.obj;intro H R S M k q;unfold isType loadHead;exact QE (wpAny_loadPart (k _ _ (X _ _ hl)) (QT q))
 ne:=λh tp i B n L X b=>by let#[nm,q,N,bs,j,sub,G,e,F,Z,r,p,o,m,hl]:=Y.obj;refine Bool.eq_false_iff.mpr λq=>?_;obtain rfl:C=tp:=Value.ref.inj (beq_iff_eq.mp q);have z:=pu Obj.data (QW ((X _ _ hl).symm.trans b));exact nomatch z
 ca:=λ{_ _ _ _ _ s} X I k=>by let#[P,Q,i,J,O]:=s;exact M1 X Y I k
end
section
variable{prog:vb}{w:vu}{A:x2}{E:CB}{h:v6}{g:Array d8}{d:ni}{t:Nat}{z:lL}{K:QC}{W C fI x ta:kl}
def ExK.mro(X:K.In h)(Y:ExK K W C fI):Looks M h (mroOf (.ref C)) (.ref C::ZF W C):=by let#[nm,q,N,bs,u,sub,k,y,l,j,i,e,b,a,hl]:=Y.obj;exact(looks_clsIn (cd:={ name:=nm,bases:=bs,mro:=.ref C::ZF W C,ns:=N,qualname:=q,hasDict:=j3,slotNames:=u,subclasses:=sub,abstract:=k,collection:=y,hasDel:=Kz }) X (by unfold clsIn;rw[hl])).andThen .now
def gZ(y:ky)(W C:kl):refuseLoop y "__setattr__" (.ref C::ZF W C)=n5 Unit.unit:=by have p:=QCP.passes y;unfold ZF;split;rw[QBx];exact p;rw[QBx,QBx];exact p
def C1{Q:Unit->kt->Prop}(X:K.In h)(Y:ExK K W C fI)(l:h.get? x=jb (HG C ta js))(G:∀h' F,h'.get? x=jb (HG C ta (jb h.1.size))->h'.Ns1 h.1.size (λy=>if y="place" then jb v else js)->(∀b o,b≠x->h.get? b=jb o->h'.get? b=jb o)->h.1.size<h'.1.size->Q Unit.unit #[h',g,d,F,z]) :
  ka (Vz prog w) A (setAttr (.ref x) "place" v) Q E #[h,g,d,t,z]:=by
 have u:=QCP;have j:Looks (Vz prog w) h (na (.ref x)) (.ref C):=(Looks.ld l).andThen .now;have L1:=looks_findIn (M:=Vz prog w) X Y.sa;have H:=looks_findIn (M:=Vz prog w) X Y.pl;have S:Looks (Vz prog w) h (d7 (.ref x) (.type "object")) true:=j.andThen (Y.sub X "object" rfl);have R:=Y.mro (M:=Vz prog w) X;have f3:=u.slot.bind (.ref x);unfold setAttr callSpecial? specialOf
 repeat (any_goals (first|assumption|with_reducible refine Looks.at j ?_|with_reducible refine Looks.at L1 ?_|wp_step))
 have J:=u.args (.ref x) (.str "place" t) v;refine wT u.slot.plain u.entry (@check_slot (Vz prog w) _ _ #[h,g,d,t+1,z] "object.__setattr__" "object" "__setattr__" (.ref x) [.str "place" t,v] [] _ u.kind u.split S J ?_);show ka _ _ («object.__setattr__» #[[.ref x,.str "place" t,v],[]]) _ _ _;rw[osa_eq,refuse_eq];refine QE (QE (j.at (QE (R.at ?_))));rw[gZ];refine QT (QE (j.at (QE (H.at (QE (QT ?_))))));show ka _ _ (storeInOwnDict _ _ _ _ _ _) _ _ _;unfold storeInOwnDict;have Z:x≠h.1.size:=Qk (QS l);have k:(h.push { cls:=.type "dict",data:=.dict #[] }).get? x=jb (HG C ta js):=QF _ l;have r:((h.push { cls:=.type "dict",data:=.dict #[] }).update x λo=>{ o with dict:=jb h.1.size }).get? h.1.size=jb { cls:=.type "dict",data:=.dict #[] } :=
  (QB5 _ _ _ _ Z.symm).trans (QBC rfl rfl)
 repeat (first|with_reducible refine Looks.at j ?_|with_reducible refine qM l ?_|wp_step)
 let#[nm,q,N,bs,sn,sub,ab,P,dd,k0,k1,k2,k3,k5,hl]:=Y.obj;refine QDk (X _ _ hl) (QT ?_);show ka _ _ (alloc _ >>= _) _ _ _;refine QE (wpAny_alloc' (QE (wpAny_update' k (QT ?_))));have m:((h.push { cls:=.type "dict",data:=.dict #[] }).update x λo=>{ cls:=o.cls,dict:=jb h.1.size,data:=o.data,slots:=o.slots }).Ns h.1.size (λ_=>js) :=
  #[_,#[],_,r,rfl,λe I=>n9 I (by simp),λ_=>rfl]
 show ka _ _ (storeInDict h.1.size (.str "place" t) "place" v) _ _ _;unfold storeInDict newKeyGuard;refine QE (QT (QE (wpAny_nsSet1 (Heap.Ns1.of_empty m) λh' i B=>?_)));let#[oD,L,O,a,p,s]:=i.count (Within.cons "place" v Within.nil);refine QE (wpAny_lookBehind a (by rw[p];exact pastItsLine_dict (qG s (by rw[QM,wF,wP];omega))) ?_);wp_walk;refine G h' _ ((B.2 x Z).trans (wI _ k rfl)) i (λb o n q=>(B.2 b (Qk (QS q))).trans ((QB5 _ _ _ _ n).trans (QF _ q))) ?_;exact QS a
def y9{Q:CB}(X:K.In h)(Y:ExK K W C fI)(y:h.get? x=jb (HG C ta js))(a:∀h',h'.get? x=jb (HG C h.1.size js)->(∀b o,b≠x->h.get? b=jb o->h'.get? b=jb o)->h.1.size<=h'.1.size->Q .none #[h',g,d,t,z]) :
  ka (Vz prog w) A (dw (.builtin "ValueError.__init__") [.ref x,v]) Q E #[h,g,d,t,z]:=by
 have F:=WV;have k:Looks (Vz prog w) h (na (.ref x)) (.ref C):=(Looks.ld y).andThen .now;have i:Looks (Vz prog w) h (d7 (.ref x) (.type "ValueError")) true:=k.andThen (Y.sub X "ValueError" rfl);have Z:=F.noStar;refine QA8 (wT F.init.plain F.initEntry ?_);simp only[h8,F.initKind,F.initSplit,F.initRow];refine QE (i.at ?_);let#[nm,q,N,bs,j,sub,G,e,B,s,r,p,m,l,hl]:=Y.obj;have u:=X _ _ hl
 repeat (first|with_reducible refine qM y ?_|with_reducible refine qM u ?_|with_reducible refine QDk u ?_|with_reducible refine Looks.at k ?_|wp_step)
 refine a _ ?_ (λb o n q=>?_) ?_;rw[wI _ (QF _ y) rfl];rfl;rw[qd _ _ (Qz n)];exact QF _ q;rw[WE,qW];exact QB3 _
end
def HN(C e:kl):v6->Prop:=λh=>∃t,h.get? e=jb (HG C t js)
def dH(C e x:kl):v6->Prop:=λh=>∃vs,h.get? e=jb { cls:=.ref C,dict:=jb x,data:=.fields vs }
def GL(C e x:kl):v6->Prop:=λh=>∃t,h.get? e=jb (HG C t (jb x))
def JI(p:Int):List (Str×V):=[("place",.int p)]
section
variable{X:Cx}{g:BB}{σ:St}{H:Hp}{s:kt}{W C fI e l:kl}
def KY{h:v6}(q:h.get? e=jb (HG C t js)):NA P w H h e (.ext (HN C e)) :=
 #[#[t,q],#[_,q],λ_ _ #[t,q] k=>#[t,k _ q]]
def ZY{h:v6}(q:h.get? e=jb { cls:=.ref C,dict:=jb l,data:=.fields vs }):NA P w H h e (.ext (dH C e l)) :=
 #[#[vs,q],#[_,q],λ_ _ #[t,q] k=>#[t,k _ q]]
def ve{h:v6}(q:h.get? e=jb (HG C t (jb l))):NA P w H h e (.ext (GL C e l)) :=
 #[#[t,q],#[_,q],λ_ _ #[t,q] k=>#[t,k _ q]]
def jv(K:QC)(W fI:kl)(i j:Nat):TE:=λσ H Q=>∃e C v,σ[i]?=jb (jb (.ref e))/\σ[j]?=jb (jb v)/\H e=jb (.ext (HN C e))/\ExK K W C fI/\Q .non H
def Zk{ap pos:Pos}(O:Gl X "ValueError")(N:X.mg "ValueError"=js)(R:PE X (.Name x p2) (ZQ i))(P:PE X (.Name y n) (ZQ j))(L:(ap.endLine==pos.line)=j3) :
  PE X (.Call (.Attribute (.Name "ValueError" k) "__init__" ap) [.Name x p2,.Name y n] [] pos) (jv X.K W fI i j):=by
 intro g s σ H Q I h;let#[e,C,v,e1,e2,p,Y,q]:=h;let#[m,F]:=I.fr;have hv:Zz "ValueError"=jb (.type "ValueError"):=by decide +kernel
 refine PySem.W.methodCall_KW (pl:=do return(<- importBound (.Name "ValueError" k) X.env).getD j3) (oG I O N hv ?_) ?_;refine PySem.W.method_type (v:=.builtin "ValueError.__init__") F I.ok.mod.kin (by kernel_rfl) (by decide +kernel) (by kernel_rfl) rfl ?_;have I0:=I.tok (s.toks+1);refine QAD (ZX ((UD R (UD P eK)) pos g _ σ H (λvs u=>vs=[.ref e,v]/\u=H) I0 #[_,e1,_,e2,rfl,rfl]) λus A vs u Z r #[S,eh]=>?_) rfl rfl;subst S eh;cases r with
 |cons G r=>cases r with
  |cons r2 r=>cases r with
   |nil =>
    cases(show _=j2 e from G);let#[t,M]:=(show NA X.prog X.w u A.1 e (.ext (HN C e)) from Z.hok e _ p).1;let#[hh,gg,dd,E,oo]:=A;refine y9 Z.kIn Y M λh' a b _=>?_;have J:=Z.write (x:=e) (e:=e) (o:=.ext (HN C e)) (h':=h') (t':=E) (by rw[p];exact True.intro) (.inl rfl) b #[_,a] (KY a);have eu:LA u e (.ext (HN C e))=u:=by funext b;unfold LA;split;rename_i z;rw[z,p];rfl
    rw[eu]at J;exact#[.non,u,J,rfl,q]
 show(do
  let B <- zz (.Name "ValueError" k) X.env
  le ap.atName
  let(f,first) <- Dz [B] (getMethod B "__init__" (do return(<- importBound (.Name "ValueError" k) X.env).getD j3))
  let cp <- (if(!j3||ap.endLine==pos.line)=j3 then(n5 pos:Sem Pos) else _)
  nq cp f first (gl pos (Xz [.Name x p2,.Name y n] X.env)) (d3 pos (ft [] X.env)):Sem ky)=_
 rw[L];rfl
def Uv(K:QC)(W fI:kl)(i j:Nat):TS:=λD σ H=>∃e C p,σ[i]?=jb (jb (.ref e))/\σ[j]?=jb (jb (.int p))/\H e=jb (.ext (HN C e))/\ExK K W C fI/\∀l,H l=js->D.nx σ (LA (LA H l (.xd (JI p))) e (.ext (GL C e l)))
def zk(h1:PE X (.Name x M) (ZQ i))(h2:PE X (.Name y p2) (ZQ j)):PS X (.Assign [.Attribute (.Name x M) "place" pos'] (.Name y p2) pos) (Uv X.K W fI i j):=by
 intro g s σ H D I h;let#[e,C,p,e1,e2,P,Y,q]:=h;refine plainObj_wpAny_Assign_Attribute (yE (h2 g s σ H (λv G=>v=.int p/\G=H) I #[_,e2,rfl,rfl]) λu s1 v G I1 rv #[ev,O]=>yE (h1 g s1 σ G (λv r=>v=.ref e/\r=H) I1 #[_,e1,rfl,O]) λov L v2 r m Z #[E,F]=>?_) rfl;subst ev E O F;cases(show ov=j2 e from Z);let#[t,N]:=(show NA X.prog X.w r L.1 e (.ext (HN C e)) from m.hok e _ P).1;let#[k,gg,dd,tt,oo]:=L;refine C1 m.kIn Y N λh' J a b c d=>?_;have hn:r k.1.size=none:=m.hok.fresh (QX _);have ne:e≠k.1.size:=Qk (QS N);let#[A,es,ep,Q,b2,b3,b4,b5]:=b;have B:A.isFreed=false:=(Heap.get?_some_iff.mp Q).2;have J1:=m.laid (a:=k.1.size) (o:=.xd (JI p)) (h':=k.push A) (t':=J) (λb u q=>QF _ q) (QX _)
  #[_,#[A,es,ep,QY _ B,b2,b3,b4,b5],λf=>by unfold JI;by_cases z:f="place";subst z;rw[n8 rfl];exact rv;rw[n7 z,Ql];have z':(f==("place":Str))=false:=beq_eq_false_iff_ne.mpr z;rw[z'];trivial]
 have J2:=J1.write (x:=e) (e:=e) (o:=.ext (GL C e k.1.size)) (h':=h') (t':=J) (by rw[vA ne,P];exact True.intro) (.inl rfl) (λb u n q=>by rcases QAM q with⟨S,R⟩| z;rw[S,R];exact Q;exact c b u n z) #[_,a] (ve a);exact#[σ,_,J2,q _ hn]
end
def zP(K:QC)(W fI:kl):Sp:=λvs H Q _=>∃e v p C,vs=[.ref e,v,.int p]/\H e=jb (.ext (HN C e))/\ExK K W C fI/\∀h,H h=js->Q .non (LA (LA H h (.xd (JI p))) e (.ext (GL C e h)))
structure IniB(st:y1):Prop where
 body:∃p1 ap p2 p3 pos p4 p5 p6 p7 p8,JB st=[.Expr (.Call (.Attribute (.Name "ValueError" p1) "__init__" ap) [.Name "self" p2,.Name "words" p3] [] pos) p4,.Assign [.Attribute (.Name "self" p5) "place" p6] (.Name "place" p7) p8]/\(ap.endLine==pos.line)=j3
 sc:FnScope ["self","words","place"] ["self","words","place"] (oA st)
 l1:(oA st).names.lookup ("self":Str)=jb .local
 l2:(oA st).names.lookup ("words":Str)=jb .local
 l3:(oA st).names.lookup ("place":Str)=jb .local
 g:(oA st).names.lookup ("ValueError":Str)=jb .globalImplicit
section
variable{P:vb}{w:vu}{K:QC}{mg:Str->Option ky}{base:v6}{W fI:kl}
def Um{st:y1}{u:x3}{k:Nat}(F:Fun K "__init__" "WorldError.__init__" st fI u)(B:IniB st)(X:mg "ValueError"=js):FnOk P w K mg base Ha (k+1) fI u ["self","words","place"] (zP K W fI):=by refine F.ok B.sc (λvs H Q E h=>?_) λy A x s H vs Q E M h=>?_;let#[e,v,p,C,rfl,_]:=h;rfl;let#[L,N,o,n,j,p4,m,J,l,I,Z,r]:=B.body;rw[Z];have z:∀p,PE (LK Ha P w K mg base ["self","words","place"] "WorldError.__init__" (oA st) fI y A x s H E).nox (.Name "self" p) (ZQ 0):=λp=>sK rfl (.inl B.l1);have i:∀p,PE (LK Ha P w K mg base ["self","words","place"] "WorldError.__init__" (oA st) fI y A x s H E).nox (.Name "words" p) (ZQ 1):=λp=>sK rfl (.inl B.l2);have b:∀p,PE (LK Ha P w K mg base ["self","words","place"] "WorldError.__init__" (oA st) fI y A x s H E).nox (.Name "place" p) (ZQ 2):=λp=>sK rfl (.inl B.l3);refine#[_,FM (GQ (Zk (W:=W) (fI:=fI) B.g X (z o) (i n) r)) (FM (zk (W:=W) (fI:=fI) (z m) (b l)) TX),?_];let#[e,v,p,C,rfl,a,Y,q]:=h;exact#[e,C,v,rfl,rfl,a,Y,e,C,p,rfl,rfl,a,Y,λG hd=>q G hd]
end
section
variable{X:Cx}{x:BB}{σ:St}{H:Hp}{s:kt}{W C fI:kl}{y:x3}{k:Nat}
def Xb{Q:VK}{p:Int}(Y:ExK X.K W C fI)(F:FnOk X.prog X.w X.K X.mg X.base Ha k fI y ["self","words","place"] (zP X.K W fI))(J:Room (k+1) X.A)(M:xF X.K y ["self","words","place"] [])(I:Inv X x σ H s)(r:YA [v,.int p] us)(h:∀e i,H e=js->H i=js->i≠e->Q (.ref e) (LA (LA H i (.xd (JI p))) e (.ext (GL C e i)))) :
  ka (Vz X.prog X.w) X.A (dw (.ref C) us) (EP X x σ Q) X.xe s:=by
 let#[g,gg,dd,q,oo]:=s;have hl:us.9=2:=r.length.symm;refine z9 I.kIn Y (by rw[hl,wP];decide) ?_;have S:=I.kept (h':=g.push { cls:=.type "tuple",data:=.seq us.toArray }) (t':=q) λb u e=>QF _ e;have n:(g.push { cls:=.type "tuple",data:=.seq us.toArray }).1.size=g.1.size+1:=qW ..;have N:((g.push { cls:=.type "tuple",data:=.seq us.toArray }).push (HG C g.1.size js)).get? (g.1.size+1)=jb (HG C g.1.size js):=QBC n.symm rfl;have m:=S.laid (a:=g.1.size+1) (o:=.ext (HN C (g.1.size+1))) (h':=(g.push { cls:=.type "tuple",data:=.seq us.toArray }).push (HG C g.1.size js)) (t':=q) (λb u e=>QF _ e) (by rw[n];exact QX _) (KY N);have G:H (g.1.size+1)=none:=I.hok.fresh (QB3 _);have L:zP X.K W fI [.ref (g.1.size+1),v,.int p] (LA H (g.1.size+1) (.ext (HN C (g.1.size+1)))) (λv H2=>v=.non/\Q (.ref (g.1.size+1)) H2) E0:=by
  refine#[_,v,p,C,rfl,fA,Y,λi hd=>#[rfl,?_]];have Z:i≠g.1.size+1:=λz=>by rw[z,fA]at hd;cases hd
  rw[vA Z]at hd;have e:LA (LA (LA H (g.1.size+1) (.ext (HN C (g.1.size+1)))) i (.xd (JI p))) (g.1.size+1) (.ext (GL C (g.1.size+1) i))=LA (LA H i (.xd (JI p))) (g.1.size+1) (.ext (GL C (g.1.size+1) i)):=by funext b;by_cases z:b=g.1.size+1;rw[z,fA,fA];rw[vA z,vA z];by_cases l:b=i;rw[l,fA,fA];rw[vA l,vA l,vA z]
  rw[e];exact h _ i G hd Z
 refine QA8 (WJ (F.run _ X.stack _ _ #[j2 (g.1.size+1)::us,[]] (j2 (g.1.size+1)::us) _ _ E0 (J.make C us []) (m.env0.make C us []) ?_ (.cons (show ZA (.ref (g.1.size+1)) (j2 (g.1.size+1)) from rfl) r) L) λr s' j=>?_);have b:=M _ (j2 (g.1.size+1)::us) m.kIn (by rw[Qe,QM,hl];rfl);rw[Qe]at b;exact b;cases r with
 |error e=>exact j.elim|ok O =>
  cases O with|ret u=>let#[v,H',R,B,P,E]:=m.after j;subst P;exact#[B,#[V.ref (g.1.size+1),H',R,rfl,E]]|next=>exact QV j|brk=>exact QV j|cont=>exact QV j
end
section
variable{M:db}{A:x2}{E:CB}{s:kt}{env:Env}{K:QC}
def YV(k:A.handled=js)(h:ka M A x (λv y=>∃e W C fI t u,v=.ref e/\K.In y.1/\ExK K W C fI/\y.1.get? e=jb (HG C t (jb u))/\E (.ref e) y) E s):ka M A (raiseStmt env (jb x) js) Q E s:=by
 unfold raiseStmt;refine QE (qU h (λv y j=>?_) λ_ _ x=>x);let#[e,W,C,fI,t,u,rfl,X,Y,a,i]:=j;let#[G,g,d,n,os]:=y;let#[nm,q,N,bs,o,sub,J,l,I,F,B,Z,r,p,hl]:=Y.obj;have z:=X _ _ hl;have m:=NG (W:=W) (C:=C) (T:="BaseException") (b:=j3) rfl
 repeat (first|with_reducible refine qM a ?_|with_reducible refine qM z ?_ | (refine Wf z ?_;rw[m])|wp_step)
 exact wpAny_raiseNew_none k i
end
section
variable{X:Cx}{W C fI:kl}{y:x3}{k:Nat}
def mj(C:kl)(t:TA):TE:=λz H Q=>t z H λvs x=>∃v p,vs=[v,.int p]/\∀e h,x e=js->x h=js->h≠e->Q (.ref e) (LA (LA x h (.xd (JI p))) e (.ext (GL C e h)))
def Vk(Y:ExK X.K W C fI)(F:FnOk X.prog X.w X.K X.mg X.base Ha k fI y ["self","words","place"] (zP X.K W fI))(j:Room (k+1) X.A)(o:xF X.K y ["self","words","place"] [])(m:Gl X x)(l:X.mg x=jb (.ref C))(Z:PA X (e::u) t)(b:(x==("__debug__":Str))=Kz)(n:Xz (e::u) X.env=(Kz,zz e X.env)::Xz u X.env)(a:(gl pos (Xz u X.env)).any (·.1)=Kz) :
  PE X (.Call (.Name x p) (e::u) [] pos) (mj C t):=by
 intro z s i H Q I h;refine wL (FJ I m l ?_ b);refine QAp (h₀:=X.base) I.ok.mod.kin Y.kp (ZX (Z pos z s i H _ I h) λB E vs G g r q=>#[g.kIn,?_]) n a;let#[v,p,rfl,q]:=q;exact Xb Y F j o g r q
def lX(X:Cx)(W fI:kl)(EK:XK):Prop:=∀(h:BB) (z:St) (H:Hp) (s:kt) (e C x:kl),Inv X h z H s->H e=jb (.ext (GL C e x))->(∃fs,H x=jb (.xd fs))->ExK X.K W C fI ->
 EK .none (jb e) (LA H e (.ext (dH C e x)))->X.xe (.ref e) s
def Su(K:QC)(W fI C:kl)(EK:XK)(t:TA):TS:=λD z H=>mj C t z H λv x=>∃e h,v=.ref e/\x e=jb (.ext (GL C e h))/\(∃fs,x h=jb (.xd fs))/\EK .none (jb e) (LA x e (.ext (dH C e h)))
def Ej(Y:ExK X.K W C fI)(Z:lX X W fI EK)(hc:X.calm=j3)(B:PE X (.Call (.Name x p) (e::l) [] cpos) (mj C t)) :
  PS X (.Raise (jb (.Call (.Name x p) (e::l) [] cpos)) js pos) (Su X.K W fI C EK t):=by
 intro z s g H D I h;rw[arm_exec_Raise];refine QE (WR (YV (K:=X.K) (I.ok.hd hc) ?_));refine QE (qU (B z s g H _ I h) (λv i E=>QE (WR (QT ?_))) λ_ _ x=>x);let#[v,m,b,o,u,a,F,j,r,q]:=E;subst F;cases(show _=j2 u from o);let#[n,A]:=(show NA X.prog X.w m i.1 u (.ext (GL C u a)) from b.hok u _ j).1;exact#[u,W,C,fI,n,a,rfl,b.kIn,Y,A,Z z g m i u C a b j r Y q]
end
structure Exc(K:QC)(W fI:kl)(l:List Env)(H':Hp)(e:kl)(fl:Option ky)(B h:v6):Prop where
 obj:∃C dx,H' e=jb (.ext (dH C e dx))/\(∃fs,H' dx=jb (.xd fs))/\ExK K W C fI/\Fly B l e (.ref C) dx fl h
 inB:∀b o,H' b=jb o->b≠e->∃ob,B.get? b=jb ob
def Yx(P:vb)(w:vu)(K:QC)(W fI:kl)(fs:List kl)(l:List Env)(H:Hp)(y:v6)(os:lL)(EK:XK)(x:Option ky->Prop)(v:ky)(s':kt):Prop :=
 ∃e h B z,v=.ref e/\x z/\s'.os=os/\AllBare s'.gens/\Un fs [] H h y s'.1/\SH P w h s'.1/\(∀b o,y.get? b=jb o->b∉fs->b=e∨∃u,B.get? b=jb u)/\Exc K W fI l h e z B s'.1/\EK .none (jb e) h
def sw(X:Cx)(h:Option ky):Prop:=h=js∨h=jb .none∨h=jb (gz X.env.locals)
def zf(P:vb)(w:vu)(K:QC)(W fI:kl):jV:=λh H s z v x=>Yx P w K W fI (HP h) h H s.1 s.os z (λy=>y=jb .none) v x
def SX(X:Cx)(W fI:kl)(EK:XK)(v:ky)(s':kt):Prop:=Yx X.prog X.w X.K W fI X.fs X.stack X.H₀ X.s₀.1 X.s₀.os EK (sw X) v s'
def Ak(x:NA P w H h a o):∃k,h.get? a=jb k:=by
 cases o with|lst b=>let#[_,_,_,_,e]:=x;exact#[_,e]|tup b=>let#[_,_,_,_,e,_]:=x;exact#[_,e]|dK z=>let#[_,_,_,_,_,_,_,e,_]:=x;exact#[_,e]|dT z=>let#[_,_,_,_,_,_,_,e,_]:=x;exact#[_,e]|set S n=>let#[_,_,_,_,e,_]:=x;exact#[_,e]|ins C m fs=>let#[_,_,_,e,_]:=x;exact#[_,e]|own y=>exact x|xd fs=>let#[_,#[_,_,_,e,_],_]:=x;exact#[_,e]|rng j l=>let#[_,_,_,e]:=x;exact#[_,e]|frz k u=>let#[e,_]:=x;exact#[_,e]|tbl i=>exact#[_,x]|met f y=>exact#[_,x]|ext g=>exact x.2.1
section
variable{P:vb}{w:vu}{K:QC}{W fI:kl}{d:List kl}{l:List Env}{H H':Hp}{f h h' B:v6}{e C y:kl}{c v:Option ky}
def Exc.hok(x:Exc K W fI l H' e c B h)(ok:SH P w H' h)(q:∀C y,Fly B l e (.ref C) y c h->Fly B l e (.ref C) y v h'):SH P w H' h':=λa o i=>by
 let#[C,y,X,N,Y,F]:=x.obj;have Z:=q C y F;by_cases z:a=e;subst z;rw[X]at i;cases i;let#[E,vs,I,hc,hd,r,n,_]:=Z.obj;let#[M,L,J,A]:=E;obtain rfl:M=.ref C:=hc;obtain rfl:L=jb y:=hd;obtain rfl:J=.fields vs:=r;obtain rfl:A=#[]:=n;exact ZY I;refine(ok a o i).stay (λb u g s=>?_) (λ_ q=>q) λ_ _ q=>q;have m:b≠e/\∃j,H' b=jb j:=by rcases g with rfl|g;exact#[z,o,i];exact#[λz=>(by rw[z,X]at g;cases g),_,g]
 let#[m,j,p]:=m;let#[G,k]:=x.inB b j p m;rw[F.stay b G k]at s;cases s;exact Z.stay b _ k
def Exc.un(x:Exc K W fI l H' e c B h)(u:Un d [] H H' f h)(E:∀b o,f.get? b=jb o->b∉d->b=e∨∃i,B.get? b=jb i)(q:∀C y,Fly B l e (.ref C) y c h->Fly B l e (.ref C) y v h')(Z:∀b∈d,∀o,h.get? b=jb o->∃r,h'.get? b=jb { o with slots:=r }):Un d [] H H' f h':=by
 let#[C,y,J,M,Y,F]:=x.obj;have X:=q C y F;refine#[λb o g n A j=>?_,λb o g n m j=>?_,u.free,λb o g j=>?_,u.tups,u.frzs,u.tbls];rcases E b o g A with z|⟨i,a⟩
 ·have:=u.free b o g n j
  rw[z,J]at this;cases this
 have k:=u.keep b o g n A j;rw[F.stay b i a]at k;cases k;exact X.stay b _ a;let#[r,k]:=u.slot b o g n m j;let#[p,s]:=Z b m _ k;exact#[p,s];by_cases m:b∈d
 ·let#[L,k]:=u.there b o g j
  let#[r,s]:=Z b m _ k;exact#[_,s]
 rcases E b o g m with z|⟨i,a⟩
 ·let#[G,_,I,_]:=X.obj
  exact#[G,by rw[z];exact I]
 exact#[i,X.stay b i a]
def Exc.to(x:Exc K W fI l H' e c B h)(q:∀C y,Fly B l e (.ref C) y c h->Fly B z e (.ref C) y v h'):Exc K W fI z H' e v B h':=by let#[C,y,k,u,Y,F]:=x.obj;exact#[#[C,y,k,u,Y,q C y F],x.inB]
def Fly.tail{cls:ky}(x:Fly B (env::l) e cls y c h):Fly B l e cls y c h:=#[x.stay,x.new,x.ff.2.2,x.obj]
end
section
variable{P:vb}{w:vu}{K:QC}{mg:Str->Option ky}{base:v6}{W fI:kl}
def Z0{A:x2}{s:kt}{E EK:XK}(i:(A.deeper (envOfC z y s.1.1.size f cd)).frames=jb (envOfC z y s.1.1.size f cd::outer))(Z:∀a H,EK .none a H->E .none a H)(h:SX (LK (zf P w K W fI) P w K mg base N z y f cd A outer s H E) W fI EK v s'):(LK (zf P w K W fI) P w K mg base N z y f cd A outer s H E).xe v s':=by
 let#[e,S,B,J,rfl,X,os,M,un,ok,j,x,q]:=h;show ka _ _ (leaving _ _) _ _ _;unfold leaving;refine QE ?_;let#[C,dx,h1,h2,Y,F]:=id x.obj;refine IT (L:=s.1.1.size) i rfl X F λI F' r sz=>?_;have g:∀k u,Fly B (envOfC z y s.1.1.size f cd::outer) e (.ref k) u J s'.1->Fly B (envOfC z y s.1.1.size f cd::outer) e (.ref k) u (jb .none) I:=λk u G=>by let#[o1,_,R,Q,O,_]:=G.obj;let#[o2,_,p,n,l,_]:=F.obj;rw[R]at p;cases p;rw[Q]at n;rw[O]at l;cases n;cases l;exact F'
 exact#[e,S,B,jb .none,rfl,rfl,os,M,x.un un j g λb m o q=>r b (by unfold HP at m ⊢;rw[wa];exact QI _ m) o q,x.hok ok g,j,x.to λk u G=>(g k u G).tail,Z _ _ q]
end
section
variable{X:Cx}{W fI:kl}{EK:XK}
def L6(j:X.ex=[])(u:∀v s',SX X W fI EK v s'->X.xe v s'):fO (zf X.prog X.w X.K W fI) X EK:=λg Z H s v s' I h=>by refine u v s' ?_;let#[e,Y,B,A,rfl,rfl,os,l,un,ok,r,x,q]:=h;have J:=I.call' os un ok l (λb z=>n9 z (by simp));have i:=J.base;rw[j]at i;refine#[e,Y,B,_,rfl,.inr (.inl rfl),J.os,l,i,ok,λb o a p=>?_,x,q];have y:=I.base;rw[j]at y;let#[n,k]:=y.there b o a (by simp);refine r b n k λm=>?_;rcases QO.mp (I.stkSub b m) with z|z;exact n9 (QS a) (by rw[z];exact QCi.mpr I.ok.above);exact p z
def sZ(G:X.ex=[])(j:∀v s',SX X W fI EK v s'->X.xe v s'):lX X W fI EK:=λu K H s e C h I r g Y q=>by
 refine j _ s ?_;let#[t,p]:=(show NA X.prog X.w H s.1 e (.ext (GL C e h)) from I.hok e _ r).1;have J:=I.write (x:=e) (e:=e) (o:=.ext (dH C e h)) (h':=s.1) (t':=s.toks) (by rw[r];exact True.intro) (.inl rfl) (λ_ _ _ q=>q) #[_,p] (ZY p);have J:Inv X u K (LA H e (.ext (dH C e h))) s:=J;have i:=J.base;rw[G]at i;have F:∃fs,(LA H e (.ext (dH C e h))) h=jb (.xd fs):=by let#[fs,g]:=g;exact#[fs,by rw[vA (λz=>by rw[z,r]at g;cases g)];exact g]
 refine#[e,_,QDR s.1 (e::HP X.stack),js,rfl,.inl rfl,J.os,J.bare,i,J.hok,λb o y E=>?_,#[#[C,h,fA,F,Y,?_],λb o y n=>?_],q];by_cases z:b=e
 ·exact .inl z
 let#[B,k]:=i.there b o y (by simp);refine .inr #[B,QAb _ k λm=>?_];rcases QO.mp m with m|m;exact z m;rcases QO.mp (J.stkSub b m) with z|z
 ·exact n9 (QS y) (by rw[z];exact QCi.mpr I.ok.above)
 exact E z;refine#[λb o k=>QCK _ k,QBr _ QL,PySem.W.funFrames_hide J.stack λZ m a L=>QI _ (QAo.mpr #[Z,m,L]),_,_,p,rfl,rfl,rfl,rfl,(show 1<6 by decide),rfl];have ok:=J.hok b o y;let#[A,l]:=Ak ok;refine#[A,QAb _ l λm=>?_];rcases QO.mp m with m|m;exact n m;have:=J.stkFree b m;rw[y]at this;cases this
def Vc(a:X.stack=X.env::X.outer)(l:X.env.frame=jb X.env.locals)(k:X.A.frames=jb X.stack)(i:X.xe=SX X W fI EK):m9 (Vz X.prog X.w) X.A X.env X.xe:=λv s' h=>by
 rw[i]at h ⊢;let#[e,H',B,fl,rfl,j,os,br,un,ok,s,x,q]:=h;let#[C,J,h1,h2,Y,F]:=id x.obj;rw[a]at F;rw[a]at k;have same:∀{I E:Option ky}{K Z:v6},Fly B X.stack e (.ref C) J I K->Fly B X.stack e (.ref C) J E Z->∀r y,Fly B X.stack e (.ref r) y I K->Fly B X.stack e (.ref r) y E Z:=λF F' r y G=>by let#[o1,_,a1,a2,a3,_]:=G.obj;let#[o2,_,O,N,M,_]:=F.obj;rw[a1]at O;cases O;rw[a2]at N;rw[a3]at M;cases N;cases M;exact F'
 refine jU (L:=X.env.locals) k l j F λh1' p u z1=>?_;let#[oe,vs,S,hc,hd,n,R,Q,T,oT,ts,e1,e2]:=id p.obj;show ka _ _ (do
  if(<- L0 (.ref e) 1)==.none then unsupported "frame.own-activation:exception-without-traceback"
  cC (.ref e) X.env.frame) _ _ _
 refine QE (qF S n e1 ?_);rw[n7 (by simp)];rw[l];refine NI (jb X.env.locals) p λH P z z2=>?_;rw[<- a]at F p P u z;have g:=same F P;exact#[e,H',B,_,rfl,.inr (.inr rfl),os,br,x.un un s g λb m o q=>(u.trans z) b (by rw[a];unfold HP;rw[wa,l];exact QI _ m) o q,x.hok ok g,s,x.to g,q]
end
section
variable{X:Cx}
def vv(j:Nat):TE:=λh H Q=>∃p,h[j]?=jb (jb (.int p))/\p.natAbs.log2<1920/\∀z,Q (.str z) H
def Kk{j:Nat}{a b y:Str}{A m:Nat}{K p2 i n pos:Pos}(P:PE X (.Name y p2) (ZQ j))(ha:a.9<=1000)(hb:b.9<=1000) :
  PE X (.JoinedStr [.Constant (.str a) A K,.FormattedValue (.Name y p2) (-1) js n,.Constant (.str b) m i] pos) (vv j):=by
 intro x s g H Q I h;let#[p,e1,B,q]:=h;have zl:ke=16777216:=wP;have l:∀z:Str,(QDp++z).9=z.length:=λz=>by rw[Ws];exact QAC _
 have lt:(QA (n6 p)).9<=1921:=by rw[PySem.ofString_length];exact int_text_length_le (k:=1920) (by decide) B
 refine wpAny_JoinedStr ?_;show Joins _ _ _ (zz (.Constant (.str a) A K) X.env::evalEach [.FormattedValue (.Name y p2) (-1) js n,.Constant (.str b) m i] X.env) _ _ _;refine yE (SM x s g H (λv e=>v=.str a/\e=H) I #[rfl,rfl]) λF L v0 C I0 O zz=>?_;let#[r,Z]:=zz;subst r Z;let#[J,rfl]:=(show ∃t,F=Value.str a t from O)
 refine#[a,J,rfl,by rw[l];omega,?_];show Joins _ _ _ (zz (.FormattedValue (.Name y p2) (-1) js n) X.env::evalEach [.Constant (.str b) m i] X.env) _ _ _;refine wpAny_FormattedValue_plain (yE (P x L g C (λv e=>v=.int p/\e=C) I0 #[_,e1,rfl,rfl]) λu s1 v e I1 M zz=>?_);let#[R,S]:=zz;subst R S;let#[t,rfl]:=(show ∃t,u=Value.int p t from M)
 refine wpAny_formatField_int B #[_,_,rfl,by rw[Ws,l];omega,?_];show Joins _ _ _ [zz (.Constant (.str b) m i) X.env] _ _ _;refine yE (SM x _ g e (λv W=>v=.str b/\W=e) (I1.tok _) #[rfl,rfl]) λE s2 v2 W I2 N zz=>?_;let#[o,Y]:=zz;subst o Y;let#[G,rfl]:=(show ∃t,E=Value.str b t from N)
 refine#[b,G,rfl,by rw[Ws,Ws,l];omega,?_];show _/\EP X x g Q _ _;exact#[by rw[Ws,Ws,l];omega,.str (QDp++a++QA (n6 p)++b),W,I2.tok _,#[_,rfl],q _]
end
section
variable{X:Cx}{x:BB}{σ:St}{H:Hp}{s:kt}
def LZ{Q:Unit->kt->Prop}(I:Inv X x σ H s)(hN:X.N.Nodup)(O:X.N[k]?=jb n)(hk:X.env.scope.names.lookup n=jb .local)(h:∀s',Inv X x (σ.set k js) H s'->Q Unit.unit s'):ka M A (do bindName X.env n .none;unbindBehindTheSuite X.env n pos) Q E s:=by
 let#[m,L,hl]:=id I.loc;have hc:(X.env.scope.kind==.class||(X.env.scope.kind==.module&&X.env.locals != X.env.globals))=false:=by rw[I.ok.kind];rfl
 have hz:k<σ.length:=by rw[I.len];exact(QZ.mp O).1
 have cne:=I.cne;let#[oL,_,_,hoL,_]:=id L;refine wpAny_nameGoes_keeps hk L hc λh' v B l=>h _ ?_;have a:∀b o,X.s₀.1.get? b=jb o->h'.get? b=s.1.get? b:=λb o e=>l.2 b (Qk (Qm (QS e) I.ok.above));refine#[I.ok,I.os,I.bare,#[λb o e n F i=>(a b o e).trans (I.base.keep b o e n F i),λb o e n F i=>?_,I.base.free,λb o e i=>?_,I.base.tups,I.base.frzs,I.base.tbls],#[_,B,λj y w g W e3=>?_],λy c e=>?_,I.free,I.freeC,λp hp=>?_,λb R e=>?_,by simpa using I.len];let#[P,g]:=I.base.slot b o e n F i;exact#[P,(a b o e).trans g];let#[S,g]:=I.base.there b o e i;exact#[S,(a b o e).trans g];have G:j≠k:=λz=>by rw[z,qH hz]at W;cases W
 rw[Qy (Qz G)]at W;let#[u,r,q]:=hl j y w g W e3;refine#[u,r,?_];rcases q with⟨K,Z⟩| ⟨K,c,Z,z⟩
 have ny:y≠n:=λz=>G (xN hN g (z▸O));exact .inl #[K,by simp[ny,Z]];exact .inr #[K,c,Z,z.sameBut l (cne y c Z)];let#[w,z]:=I.cell y c e;exact#[w,z.sameBut l (cne y c e)];let#[e,n,J,nf,d]:=I.pin p hp;exact#[(l.2 p.1 J).trans e,n,J,nf,d];refine(I.hok b R e).stay (λc w C q=>(l.2 c λz=>?_).trans q) (λ_ q=>q) λ_ _ q=>q;rcases C with Y|Y;rw[<- Y,z,I.free]at e;cases e;rw[z,I.free]at Y;cases Y
noncomputable abbrev vM(X:Cx)(v:ky):Cx:={ X with A:=X.A.mark (jb v),calm:=Kz,xe:=λ_ _=>False }
def O4(I:Inv X x σ H s)(v:ky):Inv (vM X v) x σ H s :=
 #[#[I.ok.mod,I.ok.kind,I.ok.glob,I.ok.blt,I.ok.above,I.ok.inj,I.ok.has,I.ok.cab,(λz=>nomatch z),I.ok.frames,I.ok.stk,I.ok.exf,I.ok.bs,I.ok.bsz,I.ok.noex,I.ok.exfs,I.ok.funs,I.ok.frf],I.os,I.bare,I.base,I.loc,I.cell,I.free,I.freeC,I.pin,I.hok,I.len]
def K7(h:Inv X x σ H s)(I:Inv (vM X v) x σ' H' s'):Inv X x σ' H' s':=#[h.ok,I.os,I.bare,I.base,I.loc,I.cell,I.free,I.freeC,I.pin,I.hok,I.len]
end
section
variable{M:db}{A:x2}{E:CB}{h:v6}{g:Array d8}{d:ni}{t:Nat}{x:lL}{K:QC}{W C fI e y:kl}{Q:Bool->kt->Prop}
def yU(X:K.In h)(Y:ExK K W C fI)(Z:ExK K W W fI)(a:h.get? e=jb z)(hc:z.cls=.ref C)(k:Q j3 #[h,g,d,t,x]):ka M A (excMatches (.ref e) (.ref W)) Q E #[h,g,d,t,x]:=by
 let#[nm,q,N,bs,n,sub,G,l,F,B,s,r,p,o,hl]:=Z.obj;have i:=X _ _ hl;have u:=Y.subR (M:=M) X W;have j:decide (W=C∨W=W)=true:=dT (.inr rfl);rw[j]at u;have m:=Z.sub (M:=M) X "BaseException" (b:=j3) rfl;have f:=tc_notTuple;unfold excMatches
 repeat (first | (with_reducible refine qM a ?_;rw[hc])|with_reducible refine qM i ?_|refine u.at ?_|refine m.at ?_|wp_step)
 exact k
end
section
variable{X:Cx}{a:BB}{σ:St}{H:Hp}{s:kt}{W fI:kl}{D:Ends}{EK:XK}{s':kt}{v:ky}
def Io{np:Pos}(I:Inv X a σ H s)(h:zf X.prog X.w X.K W fI X.stack H s EK v s')(Q:X.stack=X.env::X.outer)(hf:X.env.frame=jb X.env.locals)(hN:X.N.Nodup)(Z:ExK X.K W W fI)(hg:Gl X x)(hm:X.mg x=jb (.ref W))(hdb:(x==("__debug__":Str))=Kz)(hi:X.N[i]?=jb y)(J:X.env.scope.names.lookup y=jb .local)(hk:X.N[k]?=jb n)(j:X.env.scope.names.lookup n=jb .local)(S:(n==("__debug__":Str))=Kz)(R:(n==("__classdict__":Str))=Kz)(hik:i≠k)(q:∀e H',EK .none (jb e) H'->D.nx ((σ.set i (jb (.ref e))).set k js) H') :
  ka (Vz X.prog X.w) X.A (c5 v X.env) (λ_ s2=>ka (Vz X.prog X.w) X.A (cC v js) (λ_ s3=>ka (Vz X.prog X.w) X.A (handleBy v X.env (.ExceptHandler (jb (.Name x np)) (jb n) [.Assign [.Name y yp] (.Name n ep) ap] hpos::rest)) (SP X a D) X.xe s3) X.xe s2) X.xe s':=by
 let#[e,H',B,fl,rfl,rfl,os,br,un,ok,ib,r,qE]:=h;let#[C,dx,h1,h2,Y,F]:=id r.obj;have M:=I.ok.frames;rw[Q]at F M;have same:∀{f1 f2:Option ky}{g1 g2:v6},Fly B X.stack e (.ref C) dx f1 g1->Fly B X.stack e (.ref C) dx f2 g2->∀C' l,Fly B X.stack e (.ref C') l f1 g1->Fly B X.stack e (.ref C') l f2 g2:=λF F' C' l G=>by let#[o1,_,a1,a2,a3,_]:=G.obj;let#[o2,_,b1,b2,b3,_]:=F.obj;rw[a1]at b1;cases b1;rw[a2]at b2;rw[a3]at b3;cases b2;cases b3;exact F'
 refine IT (L:=X.env.locals) M hf (.inr (.inl rfl)) F λh3 O g _=>?_;have I3:Inv X a σ H' { s' with heap:=h3 }:=by rw[<- Q]at F O g;exact I.call' os (r.un un ib (same F O) λb m o q=>g b m o q) (r.hok ok (same F O)) br (λb z=>n9 z (by simp))
 refine wpAny_handleBy_cons (codeAny_handlers_test ?_) (by intro q;cases q);refine WT I.ok.kind hg (QBL (by rw[I.ok.glob];exact I3.mod.glob.keeps I3.bk) hm ?_) hdb;let#[oe,vs,he,hc,hd,hdt,_]:=id O.obj;refine yU I3.kIn Y Z he hc (codeAny_handlers_suite_as ?_);refine NI js O λh4 F4 E _=>?_;have I4:Inv X a σ H' { s' with heap:=h4 }:=by rw[<- Q]at F F4 g E;exact I.call' os (r.un un ib (same F F4) λb m o q=>(g.trans E) b m o q) (r.hok ok (same F F4)) br (λb z=>n9 z (by simp))
 refine tM (X:=vM X (.ref e)) (v:=.ref e) (O4 I4 (.ref e)) hN hk (.inl j) rfl (λs5 I5=>?_) (.inr j);have hkz:k<σ.length:=by rw[I.len];exact(QZ.mp hk).1
 have ps:=A5 (X:=vM X (.ref e)) (pos:=ap) (pos':=yp) hN hi (.inl J) (sK (i:=k) (pos:=ep) hk (.inl j) S R) rfl (.inr J);refine QAI (qU (ps a s5 _ H' { nx:=λp H2=>p=(σ.set k (jb (.ref e))).set i (jb (.ref e))/\H2=H',rt:=λ_ _=>False } I5 #[.ref e,qH hkz,rfl,rfl]) (λf s6 P=>?_) λ_ _ z=>z.elim);cases f with
 |next =>
  let#[p,H2,I6,rfl,rfl]:=P;refine WI ?_;refine LZ (K7 I4 I6) hN hk j λs7 I7=>?_;refine#[_,_,I7,?_];have es:((σ.set k (jb (V.ref e))).set i (jb (.ref e))).set k js=(σ.set i (jb (.ref e))).set k none:=by rw[List.set_comm _ _ (Qz hik),List.set_set]
  rw[es];exact q e _ qE
 |brk=>let#[_,_,_,z]:=P;exact QV z|cont=>let#[_,_,_,z]:=P;exact QV z|ret u=>let#[_,_,_,_,_,z]:=P;exact z.elim
end
def clsNm(x:Str)(o:Obj):Bool:=match o.data with
 | .cls h=>h.name==x|_=>Kz
def clsAt(K:QC)(x:Str):Option Addr:=(K.find? λp=>clsNm x p.2).map (·.1)
def wOf(K:QC):Addr:=(clsAt K "WorldError").getD 0
def iOf(K:QC):Addr:=match wD K (.ref (wOf K)) "__init__" with
 |some (jb (.ref f))=>f|_=>0
structure ExC(K:QC)(C:kl)(x:Str):Prop where
 ex:ExK K (wOf K) C (iOf K)
 at_:clsAt K x=jb C
 nm:(K.lookup C).any (clsNm x)=j3
 wn:(K.lookup (wOf K)).any (clsNm "WorldError")=j3
def ExC.inj{K:QC}{C D:kl}{x y:Str}(a:ExC K C x)(b:ExC K D y):D=C↔y=x:=by constructor;rintro rfl;have z:=a.nm;have h:=b.nm;let#[nm,q,N,bs,k,sub,o,u,n,m,l,j,i,g,hl]:=a.ex.obj;rw[hl]at z h;have z:(nm==x)=true:=z;have h:(nm==y)=true:=h;rw[<- Qn z,<- Qn h];intro e;rw[e]at b;exact QW (b.at_.symm.trans a.at_)
def ExC.w{K:QC}{C:kl}(a:ExC K C "WorldError"):C=wOf K:=by unfold wOf;rw[a.at_];rfl
def ExC.isW{K:QC}{C:kl}{x:Str}(a:ExC K C x):C=wOf K↔x="WorldError":=by constructor;intro e;have y:=a.nm;have h:=a.wn;rw[<- e]at h;let#[nm,q,N,bs,u,sub,m,z,l,j,i,g,b,k,hl]:=a.ex.obj;rw[hl]at y h;have y:(nm==x)=true:=y;have h:(nm==("WorldError":Str))=true:=h;rw[<- Qn y,Qn h];intro e;subst e;exact a.w
def pG(ks:LS)(xs:LV):List (AD×V):=(ks.map λz=>(Sum.inr z:AD)).zip xs
def OI(ks:LS)(h:List x0):List (x0×x0):=(ks.map Jz).zip h
end L2.L3
namespace L2
open PySem PySem.Spec PyProof.Rows
def DO(env:Env):List (Str×fa)->List (Str×kl)->List (Str×kl)
 |[],cs=>cs|(n,k)::r,cs=>DO env r (if k==.free then(n,(env.cells.lookup n).getD 0)::cs else cs)
def IW{u:gV}{env:Env}(h:∀y∈u.names,y.2=.free->∃c,env.cells.lookup y.1=jb c):closureFor u env=n5 (DO env u.names []):=by
 have b:∀(l:List (Str×fa)) (a:List (Str×kl)),(∀y∈l,y.2=.free->∃c,env.cells.lookup y.1=jb c) ->
   (forIn l a λ(x:Str×fa) (r:List (Str×kl))=>(if(x.2==NameKind.free)=j3 then(do let c <- cellOf env x.1;n5 (ForInStep.yield ((x.1,c)::r))) else n5 (ForInStep.yield r):Sem (ForInStep (List (Str×kl)))))=n5 (DO env l a):=by
  intro l;induction l with
  |nil=>intro a _;rfl|cons y l i =>
   intro a hl;let#[n,k]:=y;rw[QAd];by_cases hk:k=.free;subst hk;let#[c,hc]:=hl (n,.free) QL rfl;have hc:env.cells.lookup n=jb c:=hc;simp only[beq_self_eq_true,if_true,cellOf,hc,pure_bind,DO,QDC];exact i _ λz g=>hl z (QI _ g);have j:(k==NameKind.free)=false:=by simpa using hk
   simp only[j,Qo,if_false,pure_bind,DO];exact i _ λz g=>hl z (QI _ g)
 have e:=b u.names [] h;unfold closureFor;exact(pu (· >>= n5) e).trans (pure_bind _ _)
def zQ{env:Env}:∀(l:List (Str×fa)) (a:List (Str×kl)),(∀y∈l,y.2=.free->∃c,env.cells.lookup y.1=jb c)->(∀c,a.lookup x=jb c->env.cells.lookup x=jb c) ->
  (DO env l a).lookup x=jb c->env.cells.lookup x=jb c
 |[],a,_,hc,h=>hc c h|(n,k)::r,a,hl,hc,h=>by
  refine zQ r _ (λz g=>hl z (QI _ g)) (λd hd=>?_) h;by_cases hk:k=.free;subst hk;let#[e,u]:=hl (n,.free) QL rfl;have u:env.cells.lookup n=jb e:=u;simp only[beq_self_eq_true,if_true,u,QDC,Ql]at hd;cases b:x==n with|true=>rw[b]at hd;cases hd;rw[Qn b];exact u|false=>rw[b]at hd;exact hc d hd
  have i:(k==NameKind.free)=false:=by simpa using hk
  simp only[i,Qo,if_false]at hd;exact hc d hd
def TN:∀(l:List (Str×fa)) (y:List (Str×kl)),((∃c,y.lookup x=jb c)∨(x,NameKind.free)∈l)->∃c,(DO env l y).lookup x=jb c
 |[],y,h=>by rcases h with h|h;exact h;cases h
 | (n,k)::r,y,h=>by
  refine TN r _ ?_;rcases h with⟨c,h⟩| h;refine .inl ?_;split;rw[Ql];split;exact#[_,rfl];exact#[c,h];exact#[c,h];rcases QO.mp h with h|h
  ·cases h
   refine .inl ?_;simp
  exact .inr h
def sC:List Bool->Nat->LS->LS
 |b::m,j,x::N=>(if b then#[(List.toArray [46,j])] else x)::sC m (j+1) N|_,_,N=>N
def xE:List Bool->St->St
 |b::m,v::σ=>(if b then js else v)::xE m σ|_,σ=>σ
def UK:∀(m:List Bool) (σ:St),(xE m σ).9=σ.9
 |[],σ=>rfl|_::_,[]=>rfl|b::m,v::σ=>pu Nat.succ (UK m σ)
def GP:∀(m:List Bool) (j:Nat) (N:LS),(sC m j N).9=N.9
 |[],_,N=>rfl|_::_,_,[]=>rfl|b::m,j,x::N=>pu Nat.succ (GP m (j+1) N)
def nN:∀(m:List Bool) (j:Nat) (N:LS) (σ:St) (i:Nat) (v:V),(xE m σ)[i]?=jb (jb v)->σ[i]?=jb (jb v)/\(sC m j N)[i]?=N[i]?
 |[],_,N,σ,i,v,h=>by unfold xE at h;unfold sC;exact#[h,rfl]|_::_,_,N,[],i,v,h=>by unfold xE at h;simp at h|b::m,j,[],w::σ,i,v,h=>by
  unfold xE at h;cases i with
  |zero =>
   cases b with|true=>simp at h|false=>simp at h;subst h;exact#[by simp,by unfold sC;rfl]
  |succ i=>have q:=(nN m (j+1) [] σ i v (by simpa using h)).1;exact#[by simpa using q,by unfold sC;rfl]
 |b::m,j,x::N,w::σ,0,v,h=>by
  unfold xE at h;cases b with|true=>simp at h|false=>simp at h;subst h;exact#[by simp,by unfold sC;simp]
 |b::m,j,x::N,w::σ,i+1,v,h=>by unfold xE at h;have q:=nN m (j+1) N σ i v (by simpa using h);unfold sC;exact#[by simpa using q.1,by simpa using q.2]
def UM(h sc:gV):gV :=
  { h with names:=h.names.map λ(n,k)=>if(k==.free&&sc.kind==.function&&sc.names.lookup n==jb .cell) then(n,.cell) else(n,k) }
def KD(sc:gV)(x:Str):∀(l:List (Str×fa)),
  (l.map λ(n,k)=>if(k==NameKind.free&&sc.kind==.function&&sc.names.lookup n==jb .cell) then(n,NameKind.cell) else(n,k)).lookup x =
   (l.lookup x).map λk=>if(k==NameKind.free&&sc.kind==.function&&sc.names.lookup x==jb .cell) then NameKind.cell else k
 |[]=>rfl|(n,k)::r=>by
  rw[QR];have e:(if(k==NameKind.free&&sc.kind==.function&&sc.names.lookup n==jb .cell)=j3 then(n,NameKind.cell) else(n,k)) =
    (n,if(k==NameKind.free&&sc.kind==.function&&sc.names.lookup n==jb .cell)=j3 then NameKind.cell else k):=by split<;>rfl
  show wf x ((if(k==NameKind.free&&sc.kind==.function&&sc.names.lookup n==jb .cell)=j3 then(n,NameKind.cell) else(n,k))::_)=_;rw[e,Ql,Ql];cases h:x==n with|true=>rw[Qn h];simp|false=>exact KD sc x r
structure CompSt(N:LS)(sc scope:gV)(tgs:LS)(mask:List Bool):Prop where
 kind:scope.kind=.function
 nocell:∀y∈scope.names,y.2≠.cell
 names:∀y∈scope.names,y.2=.local->scope.names.lookup y.1=jb .local
 free:∀y∈scope.names,y.2=.free->sc.names.lookup y.1=jb .cell∨sc.names.lookup y.1=jb .free
 loc:∀y∈scope.names,y.2=.local->y.1∈tgs∨y.1=(".0":Str)
 nd:(tgs++sC mask 0 N).Nodup
 no0:(".0":Str)∉tgs++sC mask 0 N
def uB(X:Cx)(h:gV)(y:LS)(x:List Bool)(s:kt)(H:Hp)(ex:List kl):Cx :=
  { X with N:=y++sC x 0 X.N,s₀:=s,H₀:=H,env:=compEnvC h (DO X.env h.names []) s.1.1.size X.env,outer:=X.stack,stack:=X.stack,ex:=ex,fn:=λ_=>Kz,pn:=[],xe:=λ_ _=>False }
def sG(k:Nat)(h:List Bool)(σ:St):St:=QK k js++xE h σ
section
variable{X:Cx}{f:BB}{σ:St}{H:Hp}{s:kt}{w:gV}{d:LS}{a:List Bool}{ex:List kl}
def CompSt.cells(C:CompSt X.N X.env.scope w d a)(ok:X.Ok):∀y∈w.names,y.2=.free->∃c,X.env.cells.lookup y.1=jb c:=λy h x =>
 ok.has y.1 (C.free y h x)
def CompSt.kindCF(C:CompSt X.N X.env.scope w d a)(h:(c6 w X.env).names.lookup x=jb .cell∨(c6 w X.env).names.lookup x=jb .free):(x,NameKind.free)∈w.names:=by
 have e:=KD X.env.scope x w.names;have u:(c6 w X.env).names.lookup x=(w.names.lookup x).map λk=>if(k==NameKind.free&&X.env.scope.kind==.function&&X.env.scope.names.lookup x==jb .cell) then NameKind.cell else k:=e
 rw[u]at h;cases q:w.names.lookup x with
 |none=>rw[q]at h;simp at h|some k =>
  have y:=qQ q;have z:=C.nocell _ y;cases k with|free=>exact y|cell=>exact n9 rfl z|«local»=>rw[q]at h;simp at h|_=>rw[q]at h;simp at h
def TW(I:Inv X f σ H s)(C:CompSt X.N X.env.scope w d a)(n:∀b∈ex,zL X f H b/\b<s.1.1.size){h':v6}(hn:h'.Ns s.1.1.size (λ_=>js))(hs:wG s.1.1.size (s.1.push { cls:=.type "dict",data:=.dict #[] }) h') :
  Inv (uB X w d a s H ex) [] (sG d.9 a σ) H { s with heap:=h',toks:=t' }:=by
 have kept:∀b u,s.1.get? b=jb u->h'.get? b=jb u:=λb u e=>hs.extBut b u (Qk (QS e)) (QF _ e);have look:∀x c,(DO X.env w.names []).lookup x=jb c->X.env.cells.lookup x=jb c:=λx c e=>zQ w.names [] (C.cells I.ok) (λc z=>by simp at z) e;have nofs:∀b∈ex,b∉HP X.stack:=λb E z=>by let#[#[_,f1,f2,_],_]:=n b E;rcases QO.mp (I.stkSub b z) with e|e;exact f1 e;exact f2 e
 refine#[#[I.ok.mod,C.kind,I.ok.glob,I.ok.blt,QX _,λx y c F j=>I.ok.inj x y c (look x c F) (look y c j),λx hx=>?_,λx c hf _=>n9 (show Kz=j3 from hf) QD,I.ok.hd,I.ok.frames,.inl rfl,λb E=>?_,I.bs,qG I.ok.bsz I.sz,λb o e E=>?_,nofs,I.stack,I.stkFree],
  rfl,I.bare,Un.kept kept,#[_,hn,λi x v F j h3=>?_],λx c h=>?_,I.hok.fresh (QX _),λx c h=>I.freeC x c (look x c h),λp hp=>n9 (show p∈([]:BB) from hp) (by simp),I.hok.kept kept,?_]
 exact TN w.names [] (.inr (C.kindCF hx));let#[#[_,_,_,_,f4,_],lt]:=n b E;exact#[Qk lt,λx c e=>f4 x c (look x c e)];let#[#[_,_,_,f3,_],_]:=n b E;rcases f3 with z|z;exact I.ok.noex b o e z;exact n9 (Qm (QS (I.ok.bs b o e).1) z) (wE _)
 ·
  have hi:d.9<=i:=by rcases QAr i d.9 with z|z;unfold sG at j;rw[Qw (by simpa using z),wW]at j;split at j<;>cases j;exact z
  have Z:(sC a 0 X.N)[i - d.9]?=jb x:=by have:(d++sC a 0 X.N)[i]?=jb x:=F;rw[Qj hi]at this;exact this
  have O:(xE a σ)[i - d.9]?=jb (jb v):=by unfold sG at j;rw[Qj (by simpa using hi)]at j;simpa using j
  let#[g1,g2]:=nN a 0 X.N σ _ v O;rw[g2]at Z;have A:x∈d++sC a 0 X.N:=qa (show(d++sC a 0 X.N)[i]?=jb x from F);have K:x∉d:=λz=>by have S:=C.nd;rw[W7]at S;exact S.2.2 x z x (qa (by rw[g2];exact Z)) rfl
  have g:(x,NameKind.free)∈w.names:=by
   rcases h3 with z|z|z;exfalso;have e:(c6 w X.env).names.lookup x=jb .local:=z;have Q:=KD X.env.scope x w.names;have P:(c6 w X.env).names.lookup x=(w.names.lookup x).map λk=>if(k==NameKind.free&&X.env.scope.kind==.function&&X.env.scope.names.lookup x==jb .cell) then NameKind.cell else k:=Q
   rw[P]at e;cases q:w.names.lookup x with
   |none=>rw[q]at e;cases e|some k =>
    rw[q]at e;have M:=qQ q;have J:k=.local:=by
     cases k with|«local»=>rfl|free=>simp at e;split at e<;>cases e|_=>simp at e
    subst J;rcases C.loc _ M rfl with z|z;exact K z;exact C.no0 (z▸A)
   exact C.kindCF (.inl z);exact C.kindCF (.inr z)
  let#[m,hnm,hl]:=I.loc;have G:Zt X.env.scope x:=.inr (C.free _ g rfl);let#[u,r,l]:=hl _ x v Z g1 G;refine#[u,r,?_];rcases l with⟨k,_⟩| ⟨_,c,hc,Y⟩
  exfalso;have k':X.env.scope.names.lookup x=jb .local:=k;rcases C.free _ g rfl with z|z;have W:X.env.scope.names.lookup x=jb .cell:=z;rw[k']at W;cases W;have W:X.env.scope.names.lookup x=jb .free:=z;rw[k']at W;cases W;let#[R,B]:=TN (env:=X.env) w.names [] (.inr g);have:R=c:=by have:=look x R B;rw[hc]at this;exact(QW this).symm
  subst this;refine .inr #[?_,R,B,?_];rcases h3 with z|z|z
  ·exfalso
   have e:(c6 w X.env).names.lookup x=jb .local:=z;have Q:=KD X.env.scope x w.names;have P:(c6 w X.env).names.lookup x=(w.names.lookup x).map λk=>if(k==NameKind.free&&X.env.scope.kind==.function&&X.env.scope.names.lookup x==jb .cell) then NameKind.cell else k:=Q
   rw[P]at e;cases q:w.names.lookup x with
   |none=>rw[q]at e;cases e|some k =>
    rw[q]at e;have M:=qQ q;have J:k=.local:=by
     cases k with|«local»=>rfl|free=>simp at e;split at e<;>cases e|_=>simp at e
    subst J;rcases C.loc _ M rfl with z|z;exact K z;exact C.no0 (z▸A)
  exact .inl z;exact .inr z;let#[o,L,hd]:=Y;exact#[o,kept _ _ L,hd]
 let#[v,o,L,hd]:=I.cell x c (look x c h);exact#[v,o,kept _ _ L,hd];show(sG d.9 a σ).9=(d++sC a 0 X.N).9;unfold sG;rw[QJ,QJ,qN,UK,GP,I.len]
end
section
variable{X:Cx}{h:BB}{σ σ':St}{H H':Hp}{s s':kt}{x:gV}{k:LS}{w:List Bool}{ex:List kl}{D:kl}{y:LV}{its:LW}
def AW(I:Inv X h σ H s)(p:∀b∈ex,zL X h H b/\b<s.1.1.size)(K:D∈ex)(J:Inv (uB X x k w s H ex) [] σ' H' s')(a:H' D=js)(hv:YA y its)(E:y.9<=ke)(hl:s'.1.PlainList D its.toArray)(F:wG s.1.1.size s'.1 g):Inv X h σ (LA H' D (.lst y)) { s' with heap:=g }:=by
 have un:Un (HP X.stack) ex H H' s.1 s'.heap:=J.base;have l:∀b o,s.1.get? b=jb o->b≠s.1.1.size:=λb o e=>Qk (QS e);have G:=p D K;have W:H' s.1.1.size=none:=J.free;have P:D≠s.1.1.size:=Qk G.2;have r:∀b u,b≠s.1.1.size->s'.1.get? b=jb u->g.get? b=jb u:=λb u C e=>F.extBut b u C e;refine I.call' (s':={ s' with heap:=g }) (ch:=ex) J.os #[λb o e n j i=>?_,λb o e n j i=>?_,λb o e n i=>?_,λb o e i=>?_,λb Y e=>?_,λb o u e=>?_,λb B e=>?_] ?_ J.bare λb j=>?_;exact r b o (l b o e) (un.keep b o e n j i);let#[A,q]:=un.slot b o e n j i;exact#[A,r b _ (l b o e) q];have q:=un.free b o e n i;rw[vA (λ(z:b=D)=>i (by rw[z];exact K))];exact q;let#[Z,q]:=un.there b o e i;exact#[Z,r b Z (l b o e) q];rw[vA (CA (un.tups b Y e) a)];exact un.tups b Y e;rw[vA (CA (un.frzs b o u e) a)];exact un.frzs b o u e;let#[m,q]:=un.tbls b B e;exact#[m,by rw[vA (CA q a)];exact q];intro b u e;by_cases j:b=D;subst j;rw[fA]at e;cases e;let#[n,q]:=hl;exact#[E,its,n,hv,r _ _ P q];rw[vA j]at e;refine(J.hok b u e).stay (λc v hc q=>r c v ?_ q) (λc q=>?_) λc Y q=>?_;rintro rfl;rcases hc with z|z;subst z;rw[W]at e;cases e;rw[W]at z;cases z;rw[vA (CA q a)];exact q;rw[vA (CA q a)];exact q;let#[#[R,O,Q,N,M,L],_]:=p b j;exact#[N,O,M,L]
end
def zu(X:Cx)(y:List Expr)(t:TT):Prop:=∀(h:BB) (s:kt) (x:St) (H:Hp) (Q:Bool->Hp->Prop),Inv X h x H s->t x H Q ->
 ka (Vz X.prog X.w) X.A (forIn y j3 λc r=>if r=j3 then do let ok <- isTrue c X.env (zz c X.env);n5 (ForInStep.yield ok) else n5 (ForInStep.yield r)) (TP X h x Q) X.xe s
def EX:zu X [] (λ_ H Q=>Q j3 H):=λx s y H Q I h=>by rw[QA0];exact QT #[H,I,h]
def AX(hc:PT X c t):zu X [c] t:=λx s y H Q I h=>by rw[QAd];simp only[if_true];refine QE (QE (lI (hc x s y H Q I h) λb z q=>QT ?_));dsimp only;rw[QA0];exact QT q
def PH{R:Result->kt->Prop}(I:Nat->kt->Prop)(Z:∀n s,I n s->ka (Vz prog w) A (e6 it) (λr k=>match r with
   |none=>R (.ok .next) k|some v=>ka (Vz prog w) A (Fz y it v) (λ_ u=>ka (Vz prog w) A (dy y env v) (λ_ i =>
     ka (Vz prog w) A (forIn p j3 λc r=>if r=j3 then do let ok <- isTrue c env (zz c env);n5 (ForInStep.yield ok) else n5 (ForInStep.yield r)) (λok z =>
      if ok=j3 then ka (Vz prog w) A (zz X env) (λx g =>
       ka (Vz prog w) A (dw (.builtin "list.append") [Y,x]) (λ_ e=>∃m,m<n/\I m e) (λ_ _=>False) g) (λ_ _=>False) z
      else ∃m,m<n/\I m z) (λ_ _=>False) i) (λ_ _=>False) u) (λ_ _=>False) k) (λ_ _=>False) s)(n:Nat)(h:I n s) :
  cv (Vz prog w) A (.compLoop (.ListComp X [#[y,j,p,0]] a pos) 0 it Y env) R s:=by
 refine codeAny_loop rfl I (λn s C=>?_) n h;show ka _ A ((compTurn (.ListComp X [#[y,j,p,0]] a pos) 0 it Y env).onRaise (λx=>do c5 x env;theTreesLotGoes x)) _ _ s;refine wpAny_noted ?_;rw[compTurn_list];refine QE (WR (QE (qU (Z n s C) (λr k o=>?_) λ_ _ b=>b.elim)));cases r with
 |none=>exact QT o|some v =>
  refine QE (qU o (λ_ u q=>?_) λ_ _ b=>b.elim);refine QE (qU q (λ_ i B=>QE (qU B (λok z l=>?_) λ_ _ b=>b.elim)) λ_ _ b=>b.elim);cases ok with|false=>exact QT #[rfl,l]|true=>exact QE (QE (qU l (λx g K=>QE (qU K (λ_ e W=>QT (QT #[rfl,W])) λ_ _ b=>b.elim)) λ_ _ b=>b.elim))
def R4(q:TI)(g:TG)(tc:TT)(te:TE)(k:Nat)(e:List Bool):TE:=λl H Q=>q l H λJ X=>∃W:Nat->Nat->LV->St->Hp->Prop,(∃m,W 0 m [] (sG k e l) X) /\
 ∀i m h a u,W i m h a u->(J.stop i u/\h.9<=ke/\∀p,u p=js->Q (.ref p) (LA u p (.lst h))) ∨
  (J.go i u/\∀x o,J.yld i u x o->g x a o λz s=>tc z s λb n=>if b=j3 then te z n λy r=>h.9<ke/\∃j,j < m/\W (i+1) j (h++[y]) z r else ∃j,j < m/\W (i+1) j h z n)
def ou(X:Cx)(h:BB)(H:Hp)(s:kt)(C:kl):Prop :=
 H C=js/\C≠X.env.locals/\X.s₀.1.1.size<=C/\(∀x c,X.env.cells.lookup x=jb c->c≠C)/\(∀p∈X.pn++h,p.1≠C)/\∃m,s.1.Ns C m
def cU{X:Cx}(hc:X.calm=j3)(hi:PI X tg B wi)(C:CompSt X.N X.env.scope k j a)(inner:∀s H ex,PG (uB X k j a s H ex) tg g/\zu (uB X k j a s H ex) ifs tc/\PE (uB X k j a s H ex) elt te)(hs:∀x,hR B X.env x=n5 x){s:kt}(I:Inv X m σ H s)(h:R4 wi g tc te j.9 a σ H Q)(fin:∀(D:kl) (H':Hp) (s6:kt) (F:kl),Inv X m σ H' s6->ou X m H' s6 F->Q (.ref D) H'->compPost (Vz X.prog X.w) X.A X.xe use QQ (.ref D) F (.ok .next) s6) :
  ka (Vz X.prog X.w) X.A (mi (.ListComp elt [#[tg,B,ifs,0]] k pos) k X.env pos' (newList []) Kz (zz B X.env) use) QQ X.xe s:=by
 refine wpAny_comprehension_free (use:=use) rfl hs (IW (C.cells I.ok)) C.kind C.names (lI (hi m s σ H _ I h) λv s1 h1=>lI h1 λitv s2 h2=>?_);let#[it,Z,tn,J,E,e,I2,T,st2,f2,W,#[m0,w0],turn]:=h2;subst e;refine wA ?_;have I3:Inv X m σ E { s2 with heap:=s2.1.push { cls:=.type "list",data:=.seq ([]:LW).toArray } }:=I2.kept (t':=s2.toks) λb o e=>QF _ e;generalize hS:({ s2 with heap:=s2.1.push { cls:=.type "list",data:=.seq ([]:LW).toArray } }:kt)=s3 at I3;have sz3:s3.1.1.size=s2.1.1.size+1:=by rw[<- hS];exact qW ..
 have lst3:s3.1.PlainList s2.1.1.size ([]:LW).toArray:=#[0,by rw[<- hS];exact QY _ rfl]
 have old3:∀b o,s2.1.get? b=jb o->s3.1.get? b=jb o:=λb o e=>by rw[<- hS];exact QF _ e
 generalize hDd:s2.1.1.size=D at sz3 lst3;have fD:zL X m E D:=by rw[<- hDd];exact I2.fpOk (QX _) (I2.hok.fresh (QX _))
 have fpl:∀b∈Z,b<D:=λb Y=>by let#[o,e,_]:=T.obj _ _ st2 b Y;rw[<- hDd];exact QS e
 have hex:∀b∈D::Z,zL X m E b/\b<s3.1.1.size:=λb Y=>by rcases QO.mp Y with z|z;subst z;exact#[fD,by rw[sz3];exact Nat.lt_succ_self _];exact#[f2 b z,by rw[sz3];exact QCj (fpl b z)]
 refine wpAny_newFunctionEnv C.nocell (by intro y hy;simp at hy) (λh' hn hsb=>?_) C.kind;have J0:Inv (uB X k j a s3 E (D::Z)) [] (sG j.9 a σ) E { s3 with heap:=h',toks:=s3.toks+([]:List (Str×ky)).9 }:=TW I3 C hex hn hsb;have kept:∀b u,s3.1.get? b=jb u->h'.get? b=jb u:=λb u e=>hsb.extBut b u (Qk (QS e)) (QF _ e);let#[pg,pf,pl]:=inner s3 E (D::Z);have loop:∀s4:kt,s4={ s3 with heap:=h',toks:=s3.toks+([]:List (Str×ky)).9 } ->
   cv (Vz X.prog X.w) X.A (.compLoop (.ListComp elt [#[tg,B,ifs,0]] k pos) 0 (.ref it) (.ref D) (compEnvC k (DO X.env k.names []) s3.1.1.size X.env))
    (compPost (Vz X.prog X.w) X.A X.xe use QQ (.ref D) s3.1.1.size) s4:=by
  rintro s4 rfl;have exok:∀{H':Hp},(∀b∈D::Z,H' b=js)->∀(pp:BB),(∀p∈pp,p.1∉Z)->∀b∈Z,zL (uB X k j a s3 E (D::Z)) pp H' b:=λ{H'} hn pp hpp b Y=>by have g:=J0.ok.exf b (QI _ Y);exact#[hn b (QI _ Y),g.1,J0.ok.exfs b (QI _ Y),.inl (QI _ Y),g.2,λp G z=>hpp p (by simpa[uB]using G) (z▸Y)]
  have DX:=J0.ok.exf D QL;have Dfp:D∉Z:=λz=>wE _ (fpl D z);refine PH (λn M=>∃i K H' L l,Inv (uB X k j a s3 E (D::Z)) [] K H' M/\tn i M.1/\(∀b∈D::Z,H' b=js)/\YA L l/\M.1.PlainList D l.toArray/\W i n L K H') ?_ m0
   #[0,_,E,[],[],J0,T.keep _ _ _ (T.keep _ _ _ st2 λb Y o e=>old3 b o e) λb Y o e=>kept b o e,λb Y=>((hex b Y).1).1,.nil,lst3.at λo e=>kept _ _ e,w0]
  rintro n s5 ⟨i,P,H5,L,l,I5,st5,fr5,va5,ls5,w5⟩;let#[R,lo]:=id ls5;have pinD:∀{K:St}{H':Hp}{M:kt},Inv (uB X k j a s3 E (D::Z)) [] K H' M->(∀b∈D::Z,H' b=js)->M.1.get? D=jb { cls:=.type "list",dict:=js,data:=.seq l.toArray R } ->
    Inv (uB X k j a s3 E (D::Z)) [(D,{ cls:=.type "list",dict:=js,data:=.seq l.toArray R })] K H' M:=λ{K H' M} I' fr' e' =>
   I'.pins_of λp G=>by
    have e:p=(D,{ cls:=.type "list",dict:=js,data:=.seq l.toArray R }):=by simpa using G
    subst e;exact#[e',fr' D QL,DX.1,J0.ok.exfs D QL,λv z=>by cases z]
  have S:∀p∈[(D,({ cls:=.type "list",dict:=js,data:=.seq l.toArray R }:Obj))],p.1∉Z:=λp G=>by
   have e:p=(D,{ cls:=.type "list",dict:=js,data:=.seq l.toArray R }):=by simpa using G
   subst e;exact Dfp
  have I5':=pinD I5 fr5 lo;rcases turn i n L P H5 w5 with⟨stop,hz,qn⟩| ⟨go,step⟩
  refine lI (T.done (uB X k j a s3 E (D::Z)) rfl rfl rfl hc i _ s5 P H5 (λ_ _=>False) I5' (exok fr5 _ S) st5 stop) λr s6 zz=>?_;let#[hr,I6]:=zz;subst hr;let#[m6,hn6,_]:=I6.loc;have l6:s6.1.PlainList D l.toArray:=#[R,(I6.pin _ (Qg _ (qD.mpr rfl))).1]
  have I6':Inv (uB X k j a s3 E (D::Z)) [] P H5 s6:=I6.pins_of λp G=>by simp at G
  have Iout:Inv X m σ (LA H5 D (.lst L)) s6:=AW I3 hex QL I6' (fr5 D QL) va5 hz l6 (wG.refl _ _);have lC:H5 s3.1.1.size=none:=I6'.free;refine fin D _ s6 s3.1.1.size Iout #[?_,Wk I3.lt,I3.sz,λx c e z=>?_,λp G z=>?_,m6,hn6] (qn D (fr5 D QL));rw[vA (λ(z:s3.1.1.size=D)=>n9 (hex D QL).2 (by rw[z];exact wE _))];exact lC;let#[v,q]:=I3.cell x c e;exact n9 q.lt (by rw[z];exact wE _);exact n9 (QS (I3.pin p G).1) (by rw[z];exact wE _);refine lI (T.item (uB X k j a s3 E (D::Z)) rfl rfl rfl hc i _ s5 P H5 (λ_ _=>False) I5' (exok fr5 _ S) st5 go) λr s6 zz=>?_;let#[u,hr,h6]:=zz;subst hr;refine lI h6 λ_ s7 zz=>?_;let#[x,H7,I7,r7,y7,st7,fr7]:=zz;have hD7:=(I7.pin _ (Qg _ (qD.mpr rfl)))
  have fr7':∀b∈D::Z,H7 b=none:=λb Y=>by rcases QO.mp Y with z|z;subst z;exact hD7.2.1;exact fr7 b z
  have I7':=I7.pinned (exok fr7' _ S) (T.obj _ _ st7);have bk:∀{K:St}{H':Hp}{M:kt},Inv (uB X k j a s3 E (D::Z)) ([(D,{ cls:=.type "list",dict:=js,data:=.seq l.toArray R })]++PM Z s7.1) K H' M ->
    M.1.get? D=jb { cls:=.type "list",dict:=js,data:=.seq l.toArray R }/\tn (i+1) M.1/\(∀b∈D::Z,H' b=js):=λ{K H' M} I'=>by
   have hD:=I'.pin (D,{ cls:=.type "list",dict:=js,data:=.seq l.toArray R }) (Qg _ (qJ _ (qD.mpr rfl)));refine#[hD.1,T.keep _ _ _ st7 λb Y o e=>(I'.pin (b,o) (Qg _ (Qg _ (lG Y e)))).1,λb Y=>?_];rcases QO.mp Y with z|z;subst z;exact hD.2.1;let#[o,e,_]:=T.obj _ _ st7 b z;exact(I'.pin (b,o) (Qg _ (Qg _ (lG z e)))).2.1
  refine lI (pg _ s7 P H7 x u _ I7' r7 (step x H7 y7)) λ_ s8 zz=>?_;let#[O,H8,I8,q8]:=zz;refine lI (pf _ s8 O H8 _ I8 q8) λok s9 zz=>?_;let#[H9,I9,q9]:=zz;cases ok with
  |false=>let#[m',hm,w']:=q9;let#[b1,b2,b3]:=bk I9;exact#[m',hm,i+1,O,H9,L,l,I9.pins_of λp G=>by simp at G,b2,b3,va5,#[R,b1],w']|true =>
   refine lI (pl _ s9 O H9 _ I9 q9) λy s10 zz=>?_;let#[yv,H10,I10,r10,hz,m',hm,w']:=zz;let#[b1,b2,b3]:=bk I10;have hlen:=va5.9;refine wpAny_list_append_plain (hsz:=by rw[QN];omega) (show s10.1.PlainList D l.toArray from#[R,b1]) λh11 hl11 hs11=>?_;refine#[m',hm,i+1,O,H10,L++[yv],l++[y],?_,T.keep _ _ _ b2 λb Y o e=>(hs11.2 b (λz=>Dfp (z▸Y))).trans e,b3,va5.append (.cons r10 .nil),by simpa using hl11,w'];have I10':Inv (uB X k j a s3 E (D::Z)) [] O H10 s10:=I10.pins_of λp G=>by simp at G
   exact I10'.turned (t':=s10.toks) (λb o Y e=>(hs11.2 b Y).trans e) (b3 D QL) DX.1 (.inl QL) DX.2 λp G=>by simp[uB]at G
 refine codeAny_compStart_list (loop _ rfl) (T.self X.A 0 _ _ _ (T.keep _ _ _ (T.keep _ _ _ st2 λb Y o e=>old3 b o e) λb Y o e=>kept b o e) (loop _ rfl))
def XN(I:Inv X h σ H s)(f:ou X h H s F)(x:wG F s.1 h'):Inv X h σ H { s with heap:=h' }:=by let#[g,a,k,u,z,_]:=f;exact I.turned (t':=s.toks) (λb o y e=>(x.2 b y).trans e) g a (.inr k) u z
def fc{X:Cx}(hc:X.calm=j3)(r:PI X i k l)(C:CompSt X.N X.env.scope y u z)(a:∀s H ex,PG (uB X y u z s H ex) i g/\zu (uB X y u z s H ex) b tc/\PE (uB X y u z s H ex) e te)(o:autoParam (∀x,hR k X.env x=n5 x) zzi._auto_1):PE X (.ListComp e [#[i,k,b,0]] y pos) (R4 l g tc te u.9 z):=by
 intro n s W H Q I h;rw[eval_ListComp];refine cU hc r C a o I h λD Z K F Y f q=>?_;let#[m,p]:=f.2.2.2.2.2;exact#[m,p,λA j=>#[.ref D,Z,XN Y f j,rfl,q]]
def Pb{X:Cx}{pos:Pos}(hc:X.calm=j3)(hN:X.N.Nodup)(K:X.N[i]?=jb x)(G:X.env.scope.names.lookup x=jb .local)(hi:PI X o u B)(C:CompSt X.N X.env.scope y b k)(n:∀s H ex,PG (uB X y b k s H ex) o g/\zu (uB X y b k s H ex) j tc/\PE (uB X y b k s H ex) l te)(R:∀x,hR u X.env x=n5 x)(Z:dt (.ListComp l [#[o,u,j,0]] y cpos) (jb (.Name x p)) pos.line X.env=n5 j3) :
  PS X (.Assign [.Name x p] (.ListComp l [#[o,u,j,0]] y cpos) pos) (oj (R4 B g tc te b.9 k) (AT i)):=by
 intro r s σ H D0 I h;rw[exec_Assign_Name_used _ _ _ _ Z];refine QE (WR (QE ?_));show ka _ X.A (do let _ <- mi (.ListComp l [#[o,u,j,0]] y cpos) y X.env _ (newList []) Kz (zz u X.env) (jb (dy (.Name x p) X.env))) _ _ s;refine QE (qU (cU (use:=jb (dy (.Name x p) X.env)) (QQ:=λ_ E=>SP X r D0 .next E) hc hi C n R I h λD H' P F I6 f q=>?_) (λ_ E S=>QT (QT S)) λ_ _ e=>e);show ka _ X.A (dy (.Name x p) X.env (.ref D)) _ _ P;refine QCb (jP I6 hN K (.inl G) (v:=.ref D) rfl (λO I7 #[a,M,ha]=>?_) (.inr G));let#[f0,L,f2,J,f4,m,hn]:=f;have Q:F≠a:=by rcases ha with z|z;rw[z];exact L;exact λe=>J x a z e.symm
 have Y:O.1.Ns F m:=hn.sameBut M Q;exact#[m,Y,λh' W=>#[_,H',XN I7 #[f0,L,f2,J,f4,m,Y] W,q]]
end L2
namespace L2.L3
open PySem PySem.Spec PyProof.Rows
def mq(K:QC):R2:=λx y H Q=>match x,y with
 | .int i,.int j=>Q (.int (i+j)) H|.str a,.str b=>a.9+b.9<=ke/\Q (.str (a++b)) H|.ref a,.ref b=>(∃z h,mD K H a z/\mD K H b h/\z.9+h.9<=ke/\∀p,H p=js->Q (.ref p) (LA H p (.lst (z++h))))∨Uf K (.ref a) (.ref b) H Q|_,_=>False
def Tp:R2:=λx y H Q=>match x,y with
 | .int i,.int j=>Q (.int (i - j)) H|_,_=>False
def aI(x:Str)(n:Int):Str:=Txt.mul x n
def kq(K:QC):R2:=λx y H Q=>match x,y with
 | .int i,.int j=>eN i j/\Q (.int (i * j)) H|.str a,.int k=>(-(2 ^ 31)<=k/\k<2 ^ 31/\a.9 * k.toNat<=ke)/\Q (.str (aI a k)) H|.ref a,.int k=>∃h,mD K H a h/\(-(2 ^ 31)<=k/\k<2 ^ 31/\h.9 * k.toNat<=ke)/\∀p,H p=js->Q (.ref p) (LA H p (.lst (QK k.toNat h).flatten))|_,_=>False
def Vf:R2:=λx y H Q=>match x,y with
 | .int i,.int j=>(0<j/\j<2 ^ 200)/\Q (.int (i / j)) H|_,_=>False
def vq:R2:=λx y H Q=>match x,y with
 | .int i,.int j=>0<j/\Q (.int (i % j)) H|_,_=>False
def yq:R2:=λx y H Q=>match x,y with
 | .int i,.int j=>La i j/\Q (.int (i ^ j.toNat)) H|_,_=>False
section
variable{X:Cx}
def op_add:HE X (z4 .Add) (mq X.K):=by
 intro z s m H x y v u Q I l g h;cases x with
 |int i =>
  cases y with|int j=>exact _root_.L2.op_add z s m H _ _ v u Q I l g #[i,j,rfl,rfl,h]|_=>exact QV h
 |str a =>
  cases y with|str b=>exact FV z s m H _ _ v u Q I l g #[a,b,rfl,rfl,h.1,h.2]|_=>exact QV h
 |ref a =>
  cases y with
  |ref b =>
   rcases h with⟨xs,ys,P,O,hz,q⟩| h;cases l;cases g;let#[e,r,#[#[cls,dd,C,L],N,B,J,d1,Z],z1]:=I.list P;let#[k,W,#[#[E,o,p,n],M,A,G,d2,Y],z2]:=I.list O;simp only at J Z G Y;subst J Z G Y;have hl:=r.9;have R:=W.9;refine QC0 #[_,B,rfl] #[_,A,rfl] noFill_list_add seq_list_add PySem.F.slot_list_add PySem.F.entry_list_add (PySem.F.args_list_add_2 _ _) (list_addW a b e.toArray k.toArray N M dd o L n (by simp;omega)) #[B,A,?_];have S:e.toArray++k.toArray=(e++k).toArray:=by simp
   rw[S];exact#[.ref _,_,I.lnew (t':=s.toks) (r.append W) (by rw[QJ];omega),rfl,q _ I.fresh];exact Gc z s m H _ _ v u Q I l g h
  |_=>exact QV h
 |_=>exact QV h
def op_sub:HE X (z4 .Sub) Tp:=by
 intro z s k H x y v u Q I b a h;cases x with
 |int i =>
  cases y with|int j=>exact _root_.L2.op_sub z s k H _ _ v u Q I b a #[i,j,rfl,rfl,h]|_=>exact QV h
 |_=>exact QV h
def Fc:HE X (z4 .FloorDiv) Vf:=by
 intro z s b H x y v u Q I a k h;cases x with
 |int i =>
  cases y with
  |int j =>
   let#[t,rfl]:=a;let#[e,rfl]:=k;let#[#[l,g],q]:=h;refine floordiv_int () ?_ (.inl (PyProof.noPylong_of_log2 ?_));rw[Int.fdiv_eq_ediv_of_nonneg i ()];exact#[.int _,H,I.tok _,#[_,rfl],q];have:j.natAbs<2 ^ 200:=()
   have:=(QAe (show j.natAbs≠0 by omega)).mpr this;omega
  |_=>exact QV h
 |_=>exact QV h
def op_mod:HE X (z4 .Mod) vq:=by
 intro z s k H x y v u Q I b a h;cases x with
 |int i =>
  cases y with|int j=>exact _root_.L2.op_mod z s k H _ _ v u Q I b a #[i,j,rfl,rfl,h.1,h.2]|_=>exact QV h
 |_=>exact QV h
def op_pow:HE X (z4 .Pow) yq:=by
 intro z s k H x y v u Q I b a h;cases x with
 |int i =>
  cases y with|int j=>exact _root_.L2.op_pow z s k H _ _ v u Q I b a #[i,j,rfl,rfl,h.1,h.2]|_=>exact QV h
 |_=>exact QV h
def Sd(i:Int)(t:Tok)(l:kl)(x:Array ky)(n:Nat)(z:Array (Option ky)) :
  eg (Builtin.«int.__rmul__» #[[.int i t,.ref l],[]]) (λ_ R s=>s.1.get? l=jb #[.type "list",js,.seq x n,z]/\R (.ok (.ret Value.notImplemented)) s) :=
 .of_wp λy w A R s h=>by let#[k,g,d,u,os]:=s;let#[hl,h]:=h;wp_walk;exact#[_,rfl,h]
def Dl(l:kl)(y:Array ky)(n:Nat)(i:Array (Option ky))(x:Int)(u:Tok)(m:¬(!Builtin.List.listFitsIndex x)=j3)(j:¬y.size * x.toNat > (2 ^ 63 - 1) / 8)(k:¬wM (y.size * x.toNat)=j3) :
  eg (Builtin.«list.__mul__» #[[.ref l,.int x u],[]]) (λ_ R s=>s.1.get? l=jb #[.type "list",js,.seq y n,i]/\R (.ok (.ret (j2 s.1.1.size))) { s with heap:=s.1.push { cls:=Value.type "list",data:=Data.seq (QAa (λe b=>e++b) #[] (QK (if y.isEmpty=j3 then 0 else x.toNat) y)) },toks:=s.toks }) :=
 .of_wp λa w A R s h=>by let#[p,g,d,o,os]:=s;let#[hl,h]:=h;have z:=AutoListH.joined_fits k;wp_walk;refine wpAny_ite_false (dF (QCi.mpr z)) ?_;wp_walk;exact#[_,rfl,h]
def Dc{k:Int}{Q:VK}(I:Inv X x σ H s)(W:mD X.K H l xs)(J:-(2 ^ 31)<=k)(G:k<2 ^ 31)(Y:xs.9 * k.toNat<=ke)(q:∀p,H p=js->Q (.ref p) (LA H p (.lst (QK k.toNat xs).flatten))) :
  ka (Vz X.prog X.w) X.A (z4 .Mult (.ref l) (.int k t)) (EP X x σ Q) X.xe s:=by
 let#[h,r,#[#[M,E,L,o],n,e,rfl,rfl,rfl],_]:=I.list W;have hl:=r.9;have u:h.toArray.size * k.toNat<=sizeLine:=by rw[QN,<- hl];exact Y
 have g:¬ h.toArray.size * k.toNat > (2 ^ 63 - 1) / 8:=by
  have:(ke:Nat)<=(2 ^ 63 - 1) / 8:=by decide
  omega
 have b:¬ (!Builtin.List.listFitsIndex k)=true:=by rw[fitsIndex_both () ()];exact QD
 have y:¬ wM (h.toArray.size * k.toNat)=true:=by rw[uT u];exact QD
 have z:QAa (λj i=>j++i) #[] (QK (if h.toArray.isEmpty=j3 then 0 else k.toNat) h.toArray)=(QK k.toNat h).flatten.toArray:=by
  have B:∀m:Nat,QAa (λj i=>j++i) #[] (QK m h.toArray)=(QK m h).flatten.toArray:=λm=>by have:=FK h m [];rw[Qu]at this;exact this
  rw[B];cases h with|nil=>simp|cons a C=>rw[n7 (by simp)]
 refine QA1 (T:="list") (U:="int") (by decide) #[_,e,rfl] (λZ=>QBq Z k t) noFill_list_mul QDW QAf repeat_list QDD.lookup
  (WC QAf (QBq s k t) QDE (QCk _ _) (Sd k t l h.toArray n o)
   #[e,rfl,#[_,e,rfl],WC F.slot_list_mul #[_,e,rfl] F.entry_list_mul (F.args_list_mul_2 _ _) (Dl l h.toArray n o k t b g y) #[e,?_]])
 rw[z];exact#[.ref _,_,I.lnew (t':=s.toks) (r.rep k.toNat) (by rw[yM,QC3];exact Y),rfl,q _ I.fresh]
def Fk:HE X (z4 .Mult) (kq X.K):=by
 intro m s W H x y v u Q I g z h;cases x with
 |int i =>
  cases y with|int j=>let#[t,rfl]:=g;let#[l,rfl]:=z;exact mul_int #[.int _,H,I.tok _,#[_,rfl],h.2] h.1|_=>exact QV h
 |str a =>
  cases y with
  |int k =>
   let#[t,rfl]:=g;let#[l,rfl]:=z;let#[#[p,o,n],q]:=h;refine SB.mul #[?_,λ_ _=>?_,λ_ _=>?_] λl B=>#[.str (aI a k),H,I.tok _,#[_,rfl],q]
   have Z:decide (k < -(2 ^ 63:Int))=false:=dF ();have Y:decide (k ≥ 2 ^ 63)=false:=dF ();rw[Z,Y];rfl;have e:(a.9:Int) * k=((a.9 * k.toNat:Nat):Int):=by rw[QDX,Wg ()]
   have:=Int.le_ediv_of_mul_le (a:=(a.9:Int)) (b:=2 ^ 63 - 1) (c:=k) () (by rw[e];omega);omega;unfold Builtin.Str.tooLong;exact dF ()
  |_=>exact QV h
 |ref a =>
  cases y with|int k=>let#[A,r,#[p,o,n],q]:=h;cases g;let#[t,rfl]:=z;exact Dc I r p o n q|_=>exact QV h
 |_=>exact QV h
end
mutual
inductive Rep(K:QC)(H:Hp):V->x0->Prop where
 |non:Rep K H .non .none
 |bl (b:Bool):Rep K H (.bl b) (.bool b)
 |int (i:Int):Rep K H (.int i) (.int i)
 |str (x:Str):Rep K H (.str x) (.str x)
 |lst {a:kl}{xs:LV}{ds:List x0}:mD K H a xs->Reps K H xs ds->Rep K H (.ref a) (.list ds)
 |tup {a:kl}{xs:LV}{ds:List x0}:GE K H a xs->Reps K H xs ds->Rep K H (.ref a) (.tuple ds)
 |exc {a C dx:kl}{x:Str}{p:Int}:H a=jb (.ext (dH C a dx))->H dx=jb (.xd (JI p))->ExC K C x->Rep K H (.ref a) (.dict [(.none,.list [.str x,.int p])])
 |cls {C:kl}{x:Str}:ExC K C x->Rep K H (.ref C) (.dict [(.none,.str x)])
 |dct {a:kl}{ks:LS}{xs:LV}{ds:List x0}:H a=jb (.dK (pG ks xs))->ks.9=xs.9->Reps K H xs ds->Rep K H (.ref a) (.dict (OI ks ds))
inductive Reps(K:QC)(H:Hp):LV->List x0->Prop where
 |nil:Reps K H [] []
 |cons {x:V}{d:x0}{xs:LV}{ds:List x0}:Rep K H x d->Reps K H xs ds->Reps K H (x::xs) (d::ds)
end
def Rep.ind{K:QC}{H:Hp}{P:V->x0->Prop}{Q:LV->List x0->Prop}(a:P .non .none)(b:∀x,P (.bl x) (.bool x))(c:∀i,P (.int i) (.int i))(d:∀x,P (.str x) (.str x))
  (l:∀{a:kl}{xs:LV}{h:List x0},mD K H a xs->Reps K H xs h->Q xs h->P (.ref a) (.list h)) (t:∀{a:kl}{xs:LV}{h:List x0},GE K H a xs->Reps K H xs h->Q xs h->P (.ref a) (.tuple h))
  (x:∀{a C z:kl}{x:Str}{p:Int},H a=jb (.ext (dH C a z))->H z=jb (.xd (JI p))->ExC K C x->P (.ref a) (.dict [(.none,.list [.str x,.int p])])) (y:∀{C:kl}{x:Str},ExC K C x->P (.ref C) (.dict [(.none,.str x)]))
  (k:∀{a:kl}{ks:LS}{xs:LV}{h:List x0},H a=jb (.dK (pG ks xs))->ks.9=xs.9->Reps K H xs h->Q xs h->P (.ref a) (.dict (OI ks h))) (n:Q [] [])
  (s:∀{x:V}{d:x0}{xs:LV}{h:List x0},Rep K H x d->Reps K H xs h->P x d->Q xs h->Q (x::xs) (d::h)):(∀{x:V}{d:x0},Rep K H x d->P x d)/\∀{xs:LV}{h:List x0},Reps K H xs h->Q xs h :=
 #[Rep.rec (motive_1:=λx d _=>P x d) (motive_2:=λxs h _=>Q xs h) a b c d l t x y k n s,Reps.rec (motive_1:=λx d _=>P x d) (motive_2:=λxs h _=>Q xs h) a b c d l t x y k n s]
def Rep.inv{K:QC}{H:Hp}{v:V}{x:x0}(h:Rep K H v x):match x with
  | .none=>v=.non|.bool b=>v=.bl b|.int i=>v=.int i|.str z=>v=.str z|.list u=>∃a y,v=.ref a/\mD K H a y/\Reps K H y u|.tuple u=>∃a y,v=.ref a/\GE K H a y/\Reps K H y u|_=>True:=by
 cases h<;>first|rfl|trivial|exact#[_,_,rfl,by assumption,by assumption]
def Reps.inv{K:QC}{H:Hp}{vs:LV}{y:List x0}(h:Reps K H vs y):match y with
  |[]=>vs=[]|d::r=>∃v x,vs=v::x/\Rep K H v d/\Reps K H x r:=by
 cases h with|nil=>rfl|cons a b=>exact#[_,_,rfl,a,b]
def Reps.ind1{K:QC}{H:Hp}{Q:LV->List x0->Prop}(n:Q [] [])(s:∀{x:V}{d:x0}{xs:LV}{h:List x0},Rep K H x d->Reps K H xs h->Q xs h->Q (x::xs) (d::h)){xs:LV}{h:List x0}(r:Reps K H xs h):Q xs h:=by
 induction h generalizing xs with|nil=>rw[r.inv];exact n|cons d h i=>let#[v,y,rfl,a,b]:=r.inv;exact s a b (i b)
def Reps.length{K:QC}{H:Hp}{xs:LV}{h:List x0}(r:Reps K H xs h):xs.9=h.length:=Reps.ind1 (Q:=λxs h=>xs.9=h.9) rfl (λ_ _ i=>pu Nat.succ i) r
section
variable{X:Cx}{k:BB}{σ:St}{H:Hp}{s:kt}
def Rep.readsB(I:Inv X k σ H s):(∀{x:V}{d:x0},Rep X.K H x d->∀{u:ky},d.canLay0=j3->ZA x u->∃y,Reads s.1 u d y)/\∀{xs:LV}{l:List x0},Reps X.K H xs l->∀{us:LW},wC l=j3->YA xs us->∃y,ReadsAll s.1 us l y:=by
 refine Rep.ind (λ_ r=>by cases r;exact#[_,.none]) (λb _ _ r=>by cases r;exact#[_,.bool b]) (λi _ _ r=>by let#[t,rfl]:=r;exact#[_,.int i t]) (λx _ _ r=>by let#[t,rfl]:=r;exact#[_,.str x t]) (λh _ q _ z r=>?_) (λh _ q _ z r=>?_) (λ_ _ _ _ z _=>(QD z).elim) (λ_ _ z _=>(QD z).elim) (λ_ _ _ _ _ z _=>(QD z).elim) (λ_ r=>by cases r;exact#[_,.nil]) (λ_ _ p q _ z r=>?_);cases r;let#[j,g,#[o,n,e,c,_,d],_]:=I.list h;let#[y,a]:=q z g;exact#[_,.list e c d (by simpa using a)];cases r;let#[j,g,#[o,e,c,n,d],_]:=I.tuple h;let#[y,a]:=q z g;exact#[_,.tuple e c d (by simpa using a)];cases r with|cons r m=>have z:=(Qc _ _).mp z;let#[y,a]:=p z.1 r;let#[bs,Y]:=q z.2 m;exact#[_,.cons a Y]
def Rep.reads(I:Inv X k σ H s)(h:Rep X.K H x d)(z:d.canLay0=j3)(r:ZA x u):∃y,Reads s.1 u d y:=(Rep.readsB I).1 h z r
def GG(d:x0):Prop:=d.canLay0=j3/\d.depth<=64
def rEq(K:QC)(h:Bool):R2:=λx y H Q=>match x,y with
 | .int i,.int j=>Q (.bl (if h then !decide (i=j) else decide (i=j))) H|.str a,.str b=>Q (.bl (if h then !decide (a=b) else decide (a=b))) H|.bl a,.bl b=>Q (.bl (if h then !decide (a=b) else decide (a=b))) H|x,y=>∃u z,Rep K H x u/\Rep K H y z/\GG u/\GG z/\Q (.bl (if h then !PyData.eqv u z else Q2 u z)) H
def r9{i j:Int}:decide (V.int i=V.int j)=decide (i=j):=decide_eq_decide.mpr #[V.int.inj,pu _]
def p9:decide (V.str i=V.str j)=decide (i=j):=decide_eq_decide.mpr #[V.str.inj,pu _]
def Zg:decide (V.bl i=V.bl j)=decide (i=j):=decide_eq_decide.mpr #[V.bl.inj,pu _]
def op_eq(C:X.A.units+64<eI):HE X (xf .Eq) (rEq X.K Kz):=by
 intro k s σ H x y v u Q I o n h;have z:(∃g e,Rep X.K H x g/\Rep X.K H y e/\GG g/\GG e/\Q (.bl (if Kz=j3 then !PyData.eqv g e else Q2 g e)) H)->ka (Vz X.prog X.w) X.A (xf .Eq v u) (EP X k σ Q) X.xe s:=by rintro⟨g,e,m,l,⟨r,B⟩,⟨p,W⟩,q⟩;let#[E,Z]:=m.reads I r o;let#[bs,Y]:=l.reads I p n;exact SeqAt.compareEq_reads Z Y r p () #[.bl _,H,I,rfl,q]
 have sc:Kb x y=j3->Q (.bl (decide (x=y))) H->ka (Vz X.prog X.w) X.A (xf .Eq v u) (EP X k σ Q) X.xe s:=λm l=>_root_.L2.op_eq k s σ H x y v u Q I o n #[m,l];cases x with
 |int i =>
  cases y with|int j=>exact sc rfl (by rw[r9];exact h)|_=>exact z h
 |str a =>
  cases y with|str b=>exact sc rfl (by rw[p9];exact h)|_=>exact z h
 |bl a =>
  cases y with|bl b=>exact sc rfl (by rw[Zg];exact h)|_=>exact z h
 |_=>exact z h
def op_ne(C:X.A.units+64<eI):HE X (xf .NotEq) (rEq X.K j3):=by
 intro k s σ H x y v u Q I o n h;have z:(∃g e,Rep X.K H x g/\Rep X.K H y e/\GG g/\GG e/\Q (.bl (if j3=j3 then !PyData.eqv g e else Q2 g e)) H)->ka (Vz X.prog X.w) X.A (xf .NotEq v u) (EP X k σ Q) X.xe s:=by rintro⟨g,e,m,l,⟨r,B⟩,⟨p,W⟩,q⟩;let#[E,Z]:=m.reads I r o;let#[bs,Y]:=l.reads I p n;exact SeqAt.compareNe_reads Z Y r p () #[.bl _,H,I,rfl,q]
 have sc:Kb x y=j3->Q (.bl (!decide (x=y))) H->ka (Vz X.prog X.w) X.A (xf .NotEq v u) (EP X k σ Q) X.xe s:=λm l=>_root_.L2.op_ne k s σ H x y v u Q I o n #[m,l];cases x with
 |int i =>
  cases y with|int j=>exact sc rfl (by rw[r9];exact h)|_=>exact z h
 |str a =>
  cases y with|str b=>exact sc rfl (by rw[p9];exact h)|_=>exact z h
 |bl a =>
  cases y with|bl b=>exact sc rfl (by rw[Zg];exact h)|_=>exact z h
 |_=>exact z h
def tZ(f:Int->Int->Bool):R2:=λx y H Q=>match x,y with
 | .int i,.int j=>Q (.bl (f i j)) H|_,_=>False
def TQ{f:Int->Int->Bool}(e:HE X (xf z) (Fb λi j=>.bl (f i j))):HE X (xf z) (tZ f):=by
 intro k s σ H x y v u Q I b a h;cases x with
 |int i =>
  cases y with|int j=>exact e k s σ H _ _ v u Q I b a #[i,j,rfl,rfl,h]|_=>exact QV h
 |_=>exact QV h
def inStr(b a:Str):Bool:=match a.cps.toList with
 |[c]=>decide (c∈b.cps.toList)|_=>!(qr b a 0 b.9 1).isEmpty
def RT(b a:Str):inStr b a=!(qr b a 0 b.9 1).isEmpty:=by
 unfold inStr;split;rename_i c e;have x:a=#[(List.toArray [c])]:=by
  let#[h]:=a;have:h=(List.toArray [c]):=by apply QDF.mp;simpa using e
  rw[this]
 rw[x];exact(StrLaws.found_one b c).symm;rfl
def ZV(K:QC)(h:Bool):R2:=λx y H Q=>match y with
 | .str b=>match x with
  | .str a=>Q (.bl (if h then !inStr b a else inStr b a)) H|_=>False
 | .ref p=>Cv K h x (.ref p) H Q∨(∃d z,Rep K H x d/\(Rep K H (.ref p) (.list z)∨Rep K H (.ref p) (.tuple z))/\GG d/\GG (.list z)/\Q (.bl (if h then !(z.any λy=>Q2 y d) else z.any λy=>Q2 y d)) H)|_=>False
def lP(h:GG (.list x)):wC x=j3/\wK x<=63:=by let#[y,z]:=h;simp only[QAB]at y;simp only[WN]at z;exact#[y,()]
def Bq(r:X.A.units+66<eI):HE X (xf .In) (ZV X.K Kz):=by
 intro k s σ H x y v u Q I i e h;cases y with
 |str b =>
  cases x with|str a=>refine KZ k s σ H _ _ v u Q I i e #[a,b,rfl,rfl,?_];rw[<- RT];simpa[ZV]using h|_=>exact QV h
 |ref p =>
  rcases h with h|⟨d,Y,o,z,l,n,q⟩
  exact VZ k s σ H _ _ v u Q I i e h;let#[W,m]:=o.reads I l.1 i;let#[g,Z]:=lP n;rcases z with z|z;let#[bs,j]:=z.reads I g e;exact SeqAt.in_list_reads j m g l.1 () #[.bl _,H,I,rfl,q];let#[bs,j]:=z.reads I g e;exact SeqAt.in_tuple_reads j m g l.1 () #[.bl _,H,I,rfl,q]
 |_=>exact QV h
def T6(r:X.A.units+66<eI):HE X (xf .NotIn) (ZV X.K j3):=by
 intro k s σ H x y v u Q I i e h;cases y with
 |str b =>
  cases x with|str a=>refine AQ k s σ H _ _ v u Q I i e #[a,b,rfl,rfl,?_];rw[<- RT];simpa[ZV]using h|_=>exact QV h
 |ref p =>
  rcases h with h|⟨d,Y,o,z,l,n,q⟩
  exact EQ k s σ H _ _ v u Q I i e h;let#[W,m]:=o.reads I l.1 i;let#[g,Z]:=lP n;rcases z with z|z;let#[bs,j]:=z.reads I g e;exact SeqAt.notIn_list_reads j m g l.1 () #[.bl _,H,I,rfl,q];let#[bs,j]:=z.reads I g e;exact SeqAt.notIn_tuple_reads j m g l.1 () #[.bl _,H,I,rfl,q]
 |_=>exact QV h
end
def Pw(z:Str):It:=#[λi _=>i<z.cps.size,λi H x h=>h=H/\∃c,z.cps[i]?=jb c/\x=.str #[(List.toArray [c])],λi _=>z.cps.size<=i]
def D4{P:vb}{w:vu}{K:QC}{tg:Expr}(it:kl)(z:Str)(t:Tok):Turn P w K tg (Pw z) [it] it (λi h=>h.IsStrIter it (Yz z) z t i) where
 mem:=by simp
 obj:=λi h st b l=>by
  have e:b=it:=by simpa using l
  subst e;let#[o,e,c,d]:=st;exact#[o,e,λv z=>by rw[d]at z;cases z]
 keep:=λi h a st k=>by let#[o,e,r]:=st;exact#[o,k it (by simp) o e,r]
 item:=by
  intro X R M S hc i j s L H E I Z st O;subst R M S;let#[G,F,f2,C,B,W]:=Z it (by simp);have N:i<z.cps.size:=O;obtain⟨J,p⟩:∃J,z.cps[i]?=jb J:=#[_,Array.getElem?_eq_getElem N]
  have Y:∀a,a.IsStrIter it (Yz z) z t (i+1)->wG it s.1 a->∃u,jb (Value.str #[(List.toArray [J])] s.toks)=jb u /\
    ka (Vz X.prog X.w) X.A (Fz tg (.ref it) u) (λ_ s2=>∃x H',Inv X j L H' s2/\ZA x u/\(Pw z).yld i H x H'/\s2.1.IsStrIter it (Yz z) z t (i+1)/\∀b∈[it],H' b=js) E { s with heap:=a,toks:=s.toks+1 }:=λa y q=>by
   have I1:Inv X j L H { s with heap:=a,toks:=s.toks+1 }:=I.turned (λb o l e=>(q.2 b l).trans e) G F C B W;let#[o,e,c,d]:=id y;refine#[_,rfl,aY (s:={ s with heap:=a,toks:=s.toks+1 }) (n:=Yz z) e c d ?_ #[.str #[(List.toArray [J])],H,I1,#[_,rfl],#[rfl,_,p,rfl],y,λb l=>(Z b l).1]];unfold Yz;split<;>decide
  cases m:z.cps.all (· < 128) with
  |false =>
   have g:Yz z="str_iterator":=by simp[Yz,m]
   exact wpAny_pyNext_wide_item (by rw[<- g];exact st) p λa y q=>Y a (by rw[g];exact y) q
  |true =>
   have g:Yz z="str_ascii_iterator":=by simp[Yz,m]
   exact wpAny_pyNext_ascii_item (by rw[<- g];exact st) p λa y q=>Y a (by rw[g];exact y) q
 done:=by
  intro X R M S hc i j s L H E I Z st O;subst R M S;let#[G,F,f2,C,B,W]:=Z it (by simp);have p:z.cps[i]?=none:=by rw[Array.getElem?_eq_none_iff];exact O
  cases m:z.cps.all (· < 128) with
  |false =>
   have g:Yz z="str_iterator":=by simp[Yz,m]
   rw[g]at st;exact wpAny_pyNext_wide_end (I.ok.hd hc) st p λa eb=>#[rfl,I.turned (t':=s.toks) (λb o l e=>eb b o l e) G F C B W]
  |true =>
   have g:Yz z="str_ascii_iterator":=by simp[Yz,m]
   rw[g]at st;exact wpAny_pyNext_ascii_end (I.ok.hd hc) st p λa eb=>#[rfl,I.turned (t':=s.toks) (λb o l e=>eb b o l e) G F C B W]
 self:=by
  intro A i s Q E st h;cases m:z.cps.all (· < 128) with
  |false =>
   have g:Yz z="str_iterator":=by simp[Yz,m]
   rw[g]at st;exact wpAny_pyIter_striter_wide st h
  |true =>
   have g:Yz z="str_ascii_iterator":=by simp[Yz,m]
   rw[g]at st;exact wpAny_pyIter_striter_ascii st h
section
variable{X:Cx}
def IN:∀{bs:List Bool}{us:LW},YA (bs.map V.bl) us->∀(i:Nat) (v:ky),us[i]?=jb v->∃b,bs[i]?=jb b/\v=Value.bool b
 |[],_,.nil,i,v,h=>by simp at h|b::bs,_,.cons r t,0,v,h=>by simp at h;subst h;exact#[b,by simp,r]|b::bs,_,.cons r t,i+1,v,h=>by let#[c,y,x]:=IN (bs:=bs) t i v (by simpa using h);exact#[c,by simpa using y,x]
def rZ(bs:List Bool):(QH bs.9).all (λi=>bs.getD i j3)=bs.all id:=by
 rw[wb,Qr,Qr];constructor;intro h b z;let#[i,y,e]:=QB6 z;have:=h i (by simpa using y);simp[QBj,y,e]at this;simpa using this;intro h i y;have x:i<bs.length:=by simpa using y
 have:=h bs[i] (WB x);simpa[QBj,x]using this
def pZ(bs:List Bool):(QH bs.9).any (λi=>bs.getD i Kz)=bs.any id:=by
 rw[wb,QDG,QDG];constructor;rintro⟨i,x,e⟩;have h:i<bs.length:=by simpa using x
 exact#[bs[i],WB h,by simpa[QBj,h]using e];rintro⟨b,y,e⟩;let#[i,x,z]:=QB6 y;exact#[i,by simpa using x,by simp[QBj,x,z];simpa using e]
def lq(K:QC):LV->Hp->VK->Prop:=λvs H Q=>∃a,∃bs:List Bool,vs=[.ref a]/\mD K H a (bs.map V.bl)/\Q (.bl (bs.all id)) H
def gq(K:QC):LV->Hp->VK->Prop:=λvs H Q=>∃a,∃bs:List Bool,vs=[.ref a]/\mD K H a (bs.map V.bl)/\Q (.bl (bs.any id)) H
def C9(Y:X.calm=j3):vC X (.builtin "all") (lq X.K):=by
 intro g s C H E F Q I r h;let#[a,bs,rfl,m,q]:=h;skip;let#[u,rfl,l]:=ME r;cases l;let#[x,k,p,J]:=I.list m;have hl:=k.9;rw[QG]at hl;refine call_all_walk (WS p.isList ?_);have y:a<s.1.1.size:=by let#[o,n,e,_]:=p;exact QS e
 refine#[s.1.1.size,_,_,_,_,_,λi=>bs.getD i j3,rfl,Walks.list (A:=X.A.in1) (I.ok.hd Y) s.1.1.size a (Qk y) x.toArray,#[#[_,QY _ rfl,rfl,rfl],?_],?_,?_];let#[o,n,e,c,d,sq]:=p;exact#[o,QF _ e,c,n,sq];intro i v G M N W z;let#[b,Z,rfl]:=IN k i v (by simpa using W);refine qp ?_;have:bs.getD i j3=b:=by simp[QBj,Z]
 rw[<- this];exact z;intro L j hk;have B:(QH x.toArray.size).all (λi=>bs.getD i j3)=bs.all id:=by rw[QN,<- hl,rZ]
 rw[B];exact#[.bl _,H,I.kept (t':=j) (λb o e=>hk b o (by simp;exact Qk (QS e)) (QF _ e)),rfl,q]
def B9(Y:X.calm=j3):vC X (.builtin "any") (gq X.K):=by
 intro g s C H E F Q I r h;let#[a,bs,rfl,m,q]:=h;skip;let#[u,rfl,l]:=ME r;cases l;let#[x,k,p,J]:=I.list m;have hl:=k.9;rw[QG]at hl;refine call_any_walk (WS p.isList ?_);have y:a<s.1.1.size:=by let#[o,n,e,_]:=p;exact QS e
 refine#[s.1.1.size,_,_,_,_,_,λi=>bs.getD i Kz,rfl,Walks.list (A:=X.A.in1) (I.ok.hd Y) s.1.1.size a (Qk y) x.toArray,#[#[_,QY _ rfl,rfl,rfl],?_],?_,?_];let#[o,n,e,c,d,sq]:=p;exact#[o,QF _ e,c,n,sq];intro i v G M N W z;let#[b,Z,rfl]:=IN k i v (by simpa using W);refine qp ?_;have:bs.getD i Kz=b:=by simp[QBj,Z]
 rw[<- this];exact z;intro L j hk;have B:(QH x.toArray.size).any (λi=>bs.getD i Kz)=bs.any id:=by rw[QN,<- hl,pZ]
 rw[B];exact#[.bl _,H,I.kept (t':=j) (λb o e=>hk b o (by simp;exact Qk (QS e)) (QF _ e)),rfl,q]
def uq(K:QC):LV->Hp->VK->Prop:=λvs H Q=>(∃z,vs=[.str z]/\z.9<=ke/\Q (.int z.9) H)∨∃a h,vs=[.ref a]/\(mD K H a h∨GE K H a h)/\Q (.int h.9) H
def X9:vC X (.builtin "len") (uq X.K):=by intro x s y H u z Q I r h;rcases h with h|h;exact IR x s y H _ z Q I r h;exact jS x s y H _ z Q I r h
def cV:V->Option ky
 | .ty n=>jb (.type n)|.ref C=>jb (.ref C)|_=>js
def Kx(K:QC)(H:Hp)(x:V)(t:ky):Prop:=(∃a h,x=.ref a/\mD K H a h/\t=.type "list")∨∃a h,x=.ref a/\GE K H a h/\t=.type "tuple"
def Db(K:QC):LV->Hp->VK->Prop:=λvs H Q=>∃x c t h b,vs=[x,c]/\(TyOf K H x t∨Kx K H x t)/\cV c=jb h/\WZ K t h=jb b/\Q (.bl b) H
def YU:vC X (.builtin "isinstance") (Db X.K):=by
 intro W s B H Z E Q I r h;let#[x,c,t,Y,b,rfl,ty,hc,hk,q]:=h;let#[u,g,rfl,i,k]:=tS r;have e:g=Y:=by
  cases c with|ty n=>have p:g=Value.type n:=k;have m:jb (Value.type n)=jb Y:=hc;rw[p];exact QW m|ref C=>have p:g=j2 C:=k;have m:jb (j2 C)=jb Y:=hc;rw[p];exact QW m|_=>cases hc
 subst e;rcases ty with ty|⟨a,Z,rfl,l,rfl⟩| ⟨a,Z,rfl,l,rfl⟩
 exact U0 I i ty hk λy=>#[.bl b,H,I.tok y,rfl,q]
 cases i;let#[j,A,#[o,n,e,c,_,d],_]:=I.list l;exact qL QA6 I.kIn #[o,e,c] hk (λz=>nomatch z) λy=>#[.bl b,H,I.tok y,rfl,q]
 cases i;let#[j,A,#[o,e,c,n,d],_]:=I.tuple l;exact qL QCN I.kIn #[o,e,c] hk (λz=>nomatch z) λy=>#[.bl b,H,I.tok y,rfl,q]
def Ep(K:QC):V->Option Int->Option Int->Hp->VK->Prop:=λx y z H Q=>∃a h,x=.ref a/\GE K H a h/\(HT.sIx h.9 0 y=0/\HT.sIx h.9 h.9 z=h.9)/\Q (.ref a) H
def vZ{z:kt}{C:CB}(x:IsTup z.1 b h)(e:z.1.IsSliceOf u a k .none)(m:d4 a g)(l:d4 k i)(all:HT.sIx h.size 0 g=0/\HT.sIx h.size h.size i=h.size)(c:C (.ref b) z):ka (Vz P w) A (DC (.ref b) (.ref u)) C E z:=by
 let#[o,j,n,_]:=id e;have ty:z.TypeIs (.ref u) "slice":=#[o,j,n]
 unfold DC
 try with_reducible refine qi ?_
 first|refine QE (QT ?_)|skip
 refine QE (QCe x.typeIs (by decide) (QE (qt (name:=QA "__getitem__") x.typeIs Wr (WA Wr x.typeIs QB0 ?_ (QCO _ _)))));show ka _ _ (QAl (.ref b) >>= _) _ _ z;refine QE (tupleItemsOf_ x (QE (QC1 ty ?_)));rw[n8 (by decide)];refine QE (HT.sliceApplied_gen e m l ?_);rw[all.1,all.2];have y:((((0:Nat):Int)==0&&(1:Int)==1&&(h.size - 0)==h.size)=j3):=by simp
 show ka _ _ (if(((0:Nat):Int)==0&&(1:Int)==1&&(h.size - 0)==h.size)=j3 then _ else _) _ _ z;rw[n8 y];unfold Builtin.Tuple.tupleIsExact;refine QE (QE (QC1 x.typeIs (QT ?_)));rw[n8 (by decide)];exact QE (QCl (QT #[_,rfl,QT c]))
def d5:Se X (Ep X.K):=by
 rintro o z i H _ u l j p s m Q I k y g e ⟨a,x,rfl,sq,all,q⟩;cases k;let#[b,r,h,_]:=I.tuple sq;have n:b.toArray.size=x.length:=by rw[QN];exact r.length.symm
 exact#["tuple",_,Wr.lookup,h.typeIs,vZ h y g e (by rw[n];exact all) #[.ref a,H,I,rfl,q]]
def Bu(K:QC):V->Option Int->Option Int->Hp->VK->Prop:=λx h y H Q=>match x with
 | .str z=>z.9<=ke/\Q (.str (QAF z h y)) H|.ref a=>jq K (.ref a) h y H Q∨Ip K (.ref a) h y H Q∨Ep K (.ref a) h y H Q|_=>False
def Xj:Se X (Bu X.K):=by
 intro y s g H x v B W p Z b Q I m r n e h;cases x with
 |str z =>
  let#[t,rfl]:=m;let#[J,q]:=h;refine#["str",_,F.slot_str_getitem.lookup,QBB _ _ _,?_];have fin:∀l u:Option (Int×Tok),l.map (·.1)=p->u.map (·.1)=Z->s.1.IsSlice b l u js->ka (Vz X.prog X.w) X.A (DC (.str z t) (.ref b)) (EP X y g Q) X.xe s:=λl u M L E=>by refine wpAny_getItem_str_slice E rfl ?_;subst M L;exact post_val_or_str #[qG (QC4 z _ _) J,λN k=>#[.str (QAF z _ _),H,I.tok k,#[_,rfl],q]]
  let#[o,Y,hc,hd]:=r;cases n with
  |none =>
   cases e with|none=>exact fin js js rfl rfl #[o,Y,hc,hd]|int j C=>exact fin js (jb (j,C)) rfl rfl #[o,Y,hc,hd]
  |int i G =>
   cases e with|none=>exact fin (jb (i,G)) js rfl rfl #[o,Y,hc,hd]|int j C=>exact fin (jb (i,G)) (jb (j,C)) rfl rfl #[o,Y,hc,hd]
 |ref a =>
  rcases h with h|h|h
  rotate_left 2
  exact d5 y s g H _ v B W p Z b Q I m r n e h;exact Jb y s g H _ v B W p Z b Q I m r n e h;exact Vj y s g H _ v B W p Z b Q I m r n e h
 |_=>exact QV h
def AO:∀{l:List (Str×Tok)},YA (l.map λp=>V.str p.1) (strValues l)
 |[]=>.nil|p::r=>.cons #[p.2,rfl] AO
def uV{l:List (Str×Tok)}(e:l.map (·.1)=h):YA (h.map V.str) (strValues l):=by subst e;rw[Q8];exact AO
def M5:V->LV->Hp->VK->Prop:=λx vs H Q=>∃z y,x=.str z/\vs=[.str y]/\z.9<=ke/\0<y.9/\(qO z y).9<=ke/\∀p,H p=js->Q (.ref p) (LA H p (.lst ((qO z y).map V.str)))
def S7:O3 X "str.split" M5:=by
 intro i s n H x o v p Q I j l h;let#[z,y,rfl,rfl,m,r,k,q]:=h;let#[t,rfl]:=j;let#[u,rfl,t',rfl]:=ME l;have b:(y.9==0)=false:=by simp;omega
 cases a:(decide (z.9<y.9)||decide (QB7 z<QB7 y));cases g:(qr z y 0 z.9 (z.9+1)).isEmpty
 ·have e:qO z y=Builtin.Str.partsBetween z (qr z y 0 z.9 (z.9+1)) y.length:=(n7 (ne_true_of_eq_false a)).trans (n7 (ne_true_of_eq_false g))
  rw[e]at k q;refine WC QBU (QBB s z t) QBE (QAs _ _) (meets_str_split_sep z y t t' a b g m k) ?_;rw[strsFrom_eq];exact#[.ref _,_,I.lnew (t':=_) (uV (numbered_texts _ _)) (by rw[QG];exact k),rfl,q _ I.fresh]
 have e:qO z y=[z]:=(n7 (ne_true_of_eq_false a)).trans (n8 g);rw[e]at k q;refine WC QBU (QBB s z t) QBE (QAs _ _) (meets_str_split_not_found z y t t' a b g) ?_;exact#[.ref _,_,I.lnew (t':=s.toks) (ys:=[V.str z]) (its:=[.str z t]) (.cons #[t,rfl] .nil) k,rfl,q _ I.fresh];have e:qO z y=[z]:=n8 a;rw[e]at k q;refine WC QBU (QBB s z t) QBE (QAs _ _) (meets_str_split_cannot_occur z y t t' a) ?_;exact#[.ref _,_,I.lnew (t':=s.toks) (ys:=[V.str z]) (its:=[.str z t]) (.cons #[t,rfl] .nil) k,rfl,q _ I.fresh]
end
inductive Src where
 |l (a:kl)|t (a:kl)|s (x:Str) (t:Tok)
def Src.adr:Src->kl
 | .l a=>a|.t a=>a|.s _ _=>0
def Src.val:Src->ky
 | .l a=>.ref a|.t a=>.ref a|.s x q=>.str x q
def BX(x:Str):Array Value:=x.cps.map λc=>.str #[(List.toArray [c])] 0
def Lk(x u:ky):Prop:=u=x∨∃z t h,x=.str z t/\u=.str z h
def MA(h:v6)(j:kl):Src->Nat->Prop
 | .l a,k=>h.IsListIter j a k|.t a,k=>h.IsTupleIter j a k|.s x t,k=>h.IsStrIter j "str_ascii_iterator" x t k
def JA(h:v6):Src->Array ky->Prop
 | .l a,xs=>h.IsList a xs|.t a,xs=>h.IsTuple a xs|.s x _,xs=>x.cps.all (· < 128)=j3/\xs=BX x
def MA.ext(x:MA h j z k)(e:QAg b h h')(n:j≠b):MA h' j z k:=by
 cases z with|l a=>exact QDY.extBut x e n|t a=>exact Heap.IsTupleIter.extBut x e n|s y t=>exact Heap.IsStrIter.extBut x e n
def MA.keep{h':v6}(x:MA h j z k)(e:∀o,h.get? j=jb o->h'.get? j=jb o):MA h' j z k:=by
 cases z with|l a=>let#[o,b,u]:=x;exact#[o,e o b,u]|t a=>let#[o,b,u]:=x;exact#[o,e o b,u]|s y t=>let#[o,b,u]:=x;exact#[o,e o b,u]
def MA.obj(x:MA h j z k):∃o,h.get? j=jb o/\∀v,o.data≠.cell v:=by
 cases z with|l a=>let#[o,b,e,u]:=x;exact#[o,b,λv q=>by rw[u]at q;cases q]|t a=>let#[o,b,e,u]:=x;exact#[o,b,λv q=>by rw[u]at q;cases q]|s y t=>let#[o,b,e,u]:=x;exact#[o,b,λv q=>by rw[u]at q;cases q]
def JA.ext(x:JA h z xs)(e:QAg b h h')(n:z.adr≠b):JA h' z xs:=by
 cases z with|l a=>exact QB8.extBut x e n|t a=>exact Heap.IsTuple.extBut x e n|s y t=>exact x
def JA.lt(x:JA h z xs)(k:0<h.1.size):z.adr<h.1.size:=by
 cases z with|l a=>let#[o,u,_]:=x;exact QS u|t a=>let#[o,u,_]:=x;exact QS u|s y t=>exact k
def MA.lt(x:MA h j z k):j<h.1.size:=by let#[o,y,_]:=x.obj;exact QS y
section
variable{prog:vb}{w:vu}{A:x2}{E:CB}{s:kt}
def yl{Q:CB}(p:s.1.IsTupleIter j t k)(pt:s.1.IsTuple t xs)(a:xs[k]?=jb x)(q:∀h',h'.IsTupleIter j t (k+1)->wG j s.1 h'->Q x { s with heap:=h' }):ka (Vz prog w) A (Q4 (.ref j)) Q E s:=by
 let#[g,y,b,h]:=id p;let#[e,u,_,i,z]:=pt;unfold Q4;refine QE (qt (name:=QA "__next__") p.typeIs qy (WA qy p.typeIs Wt ?_ (Wn _)));show ka _ _ (L0 (.ref j) 0 >>= _) _ _ _;refine QE (qF y h (x:=.ref t) rfl ?_);show ka _ _ (if(j2 t==j1)=j3 then _ else _) _ _ _;rw[n7 (show ¬ (j2 t==j1)=j3 from QD)];show ka _ _ (L0 (.ref j) 1 >>= _) _ _ _;refine QE (qF y h (x:=.int k 0) rfl ?_);show ka _ _ (seqItems? (.ref t) >>= _) _ _ _;refine QE (wt u z ?_);simp only[W8,a];refine QE (QAA y h (by simp) (QT #[x,rfl,QT (q _ ?_ (QB9 ..))]));refine#[_,wI _ y (QAE (WF h _)),(QCh ..).trans b,?_];rw[WF h];simp[gz]
def EV(z:A.handled=js)(p:s.1.IsTupleIter j t k)(pt:s.1.IsTuple t xs)(g:xs[k]?=js)(q:∀h' e,QAg j s.1 h'->(∃o,h'.get? e=jb o/\o.cls=.type "StopIteration")->E (.ref e) { s with heap:=h' }):ka (Vz prog w) A (Q4 (.ref j)) Q E s:=by
 let#[l,y,r,h]:=id p;let#[i,b,_,n,u]:=pt;unfold Q4;refine QE (qt (name:=QA "__next__") p.typeIs qy (WA qy p.typeIs Wt ?_ (Wn _)));show ka _ _ (L0 (.ref j) 0 >>= _) _ _ _;refine QE (qF y h (x:=.ref t) rfl ?_);show ka _ _ (if(j2 t==j1)=j3 then _ else _) _ _ _;rw[n7 (show ¬ (j2 t==j1)=j3 from QD)];show ka _ _ (L0 (.ref j) 1 >>= _) _ _ _;refine QE (qF y h (x:=.int k 0) rfl ?_);show ka _ _ (seqItems? (.ref t) >>= _) _ _ _;refine QE (wt b u ?_);simp only[W8,g];refine QE (QCl (QE (QAA y h (by simp) ?_)));refine QE (m:=newExc (.type "StopIteration") []) ?_;simp only[newExc,newTuple];refine QE (wA ?made (by size_fits));refine QE (m:=Mz _ _) (wpAny_of_eq (a:=j1) (by first|rfl | (rw[Mz];rfl)) ?arg);refine wA ?made2 (by size_fits);simp only[raiseNew];refine QE (wpAny_handled ?_);first|rw[show A.in1.handled=js from z]|rw[z]
 refine QE (QT (wpAny_throw (q _ _ (((QB9 ..).extBut.push _).push _) #[_,QY _ rfl,rfl])))
def jM{Q:CB}(p:MA s.1 j z k)(pt:JA s.1 z xs)(h:xs[k]?=jb x)(q:∀h' u g,Lk x u->MA h' j z (k+1)->wG j s.1 h'->Q u { s with heap:=h',toks:=g }):ka (Vz prog w) A (Q4 (.ref j)) Q E s:=by
 cases z with
 |l a=>exact wpAny_nextOf_list_item p pt h λh' a b=>q h' x s.toks (.inl rfl) a b|t a=>exact yl p pt h λh' a b=>q h' x s.toks (.inl rfl) a b|s y t =>
  let#[_,rfl]:=pt;obtain⟨c,hc,rfl⟩:∃c,y.cps[k]?=jb c/\x=.str ⟨(List.toArray [c])⟩ 0:=by
   rw[BX,QCQ]at h;cases e:y.cps[k]? with|none=>rw[e]at h;cases h|some c=>rw[e]at h;exact#[c,rfl,(QW h).symm]
  exact wpAny_nextOf_ascii_item p hc λh' a b=>q h' _ _ (.inr #[_,_,_,rfl,rfl]) a b
def bR(x:A.handled=js)(p:MA s.1 j z k)(pt:JA s.1 z xs)(h:xs[k]?=js)(q:∀h' e,QAg j s.1 h'->(∃o,h'.get? e=jb o/\o.cls=.type "StopIteration")->E (.ref e) { s with heap:=h' }):ka (Vz prog w) A (Q4 (.ref j)) Q E s:=by
 cases z with
 |l a=>exact wpAny_nextOf_list_end x p pt h q|t a=>exact EV x p pt h q|s y t =>
  let#[_,rfl]:=pt;refine wpAny_nextOf_ascii_end x p ?_ q;rw[BX,QCQ]at h;cases e:y.cps[k]? with|none=>rfl|some c=>rw[e]at h;cases h
def Src.it:Src->Obj
 | .l a=>{ cls:=.type "list_iterator",data:=.fields (List.toArray [.ref a,.int 0 0]) }|.t a=>{ cls:=.type "tuple_iterator",data:=.fields (List.toArray [.ref a,.int 0 0]) }|.s x q=>{ cls:=.type "str_ascii_iterator",data:=.fields (List.toArray [.str x q,.int 0 0]) }
def HD{Q:CB}(pt:JA s.1 z xs)(q:Q (.ref s.1.1.size) { s with heap:=s.1.push z.it }):ka (Vz prog w) A (nU z.val) Q E s:=by
 cases z with|l a=>exact WS pt q|t a=>exact QCR pt q|s y t=>exact wpAny_pyIter_ascii pt.1 q
def SL(h:v6)(z:Src):MA (h.push z.it) h.1.size z 0:=by
 cases z with|l a=>exact#[_,QY _ rfl,rfl,rfl]|t a=>exact#[_,QY _ rfl,rfl,rfl]|s y t=>exact#[_,QY _ rfl,rfl,rfl]
def NF(x:MA h j z k)(e:wG b h h')(n:j≠b):MA h' j z k:=x.ext e.extBut n
def XF(x:JA h z xs)(e:wG b h h')(n:z.adr≠b):JA h' z xs:=x.ext e.extBut n
def yZ{TI TO:kl}{I G:Src}{Q:CB}(D:b0 z TI TO X r I.adr G.adr)(N:dr s.1 z TI TO .none)(pI:gn s.1 TI (.ref X) (.ref r))(pO:gn s.1 TO a b)(p1:MA s.1 X I S)(p2:MA s.1 r G R)(q1:JA s.1 I xs)(q2:JA s.1 G ys)(ex:xs[S]?=jb x)(ey:ys[R]?=jb y)(q:∀h' u v tk,Lk x u->Lk y v->dr h' z TI TO (gz s.1.1.size)->gn h' TO u v->MA h' X I (S+1)->MA h' r G (R+1)->gn h' s.1.1.size u v->h'.1.size=s.1.1.size+1 ->
   (∀c o,c≠z->c≠TO->c≠X->c≠r->s.1.get? c=jb o->h'.get? c=jb o)->Q (.ref s.1.1.size) { s with heap:=h',toks:=tk }) :
  ka (Vz prog w) A (Builtin.«zip.__next__» #[[.ref z],[]]) (λfin s'=>∃v,fin=.done (.ret v)/\Q v s') E s:=by
 show ka (Vz prog w) A (L0 (.ref z) 2 >>= _) _ _ _;refine QE (qF N rfl (x:=.bool Kz) rfl ?f2);show ka (Vz prog w) A (L0 (.ref z) 3 >>= _) _ _ _;refine QE (qF N rfl (x:=.ref TI) rfl ?f3);refine QE (wt pI rfl ?fi);show ka (Vz prog w) A (qm (.ref z) >>= _) _ _ _;refine QE ?free;unfold qm;refine QE (qF N rfl (x:=.none) rfl (QT ?f0));simp only[if_true];refine QE (QCl ?ru);refine QE (qF N rfl (x:=.ref TO) rfl ?fo);refine QE (wo N (by simp) λha W h=>?_);replace W:dr ha z TI TO .ellipsis:=W;refine QE ?lp;simp only[QAJ,QBk,QAd,QA0];refine QE (QE (QBO ?r1));show ka (Vz prog w) A (Q4 (.ref X) >>= _) _ _ _;refine QE (jM (NF p1 h D.i1z) (XF q1 h D.l1z) ex λhb u tk1 lu p1b i=>QT ?_);have L:gn hb TO a b:=i.extBut _ _ D.TOi1 (h.extBut _ _ D.TOz pO);refine QE (wt L rfl ?sb);refine QE (QAN L λhc Y g=>?_);replace Y:gn hc TO u b:=Y;refine QE (QDZ (QT ?g1));refine QE (QE (QBO ?r2));show ka (Vz prog w) A (Q4 (.ref r) >>= _) _ _ _;refine QE (jM (NF (NF (NF p2 h D.i2z) i D.i12.symm) g D.TOi2.symm) (XF (XF (XF q2 h D.l2z) i D.l2i1) g D.l2TO) ey λhd v tk2 lv p2d m=>QT ?_);have J:gn hd TO u b:=m.extBut _ _ D.TOi2 Y;refine QE (wt J rfl ?sd);refine QE (QAN J λk n l=>?_);replace n:gn k TO u v:=n;refine QE (QDZ (QT (QT ?g2)));refine QE (wt n rfl ?se);refine QE (wpAny_newTuple ?nt);have size:k.1.size=s.1.1.size:=by rw[l.1,m.1,g.1,i.1,h.1]
 have M:dr k z TI TO .ellipsis:=l.extBut _ _ D.TOz.symm (m.extBut _ _ D.i2z.symm (g.extBut _ _ D.TOz.symm (i.extBut _ _ D.i1z.symm W)));have kept:∀c o,c≠z->c≠TO->c≠X->c≠r->s.1.get? c=jb o->k.get? c=jb o:=λc o C H c3 c4 e=>l.extBut _ _ H (m.extBut _ _ c4 (g.extBut _ _ H (i.extBut _ _ c3 (h.extBut _ _ C e))));have p1e:MA k X I (S+1):=NF (NF (NF p1b g D.TOi1.symm) m D.i12) l D.TOi1.symm;have p2e:MA k r G (R+1):=NF p2d l D.TOi2.symm;have F:z<k.1.size:=QS M;show ka (Vz prog w) A (Wb (.ref z) (.ref k.1.size) >>= _) _ _ _;refine QE ?ho;unfold Wb;have hzf:dr (k.push { cls:=.type "tuple",data:=.seq (List.toArray [u,v]) }) z TI TO .ellipsis:=QF _ M;refine QE (wo hzf (by simp) λhg Z B=>?_);replace Z:dr hg z TI TO (gz k.1.size):=Z;refine wo Z (by simp) λO p K=>?_;replace p:dr O z TI TO (gz k.1.size):=p;have P:∀c o,c≠z->k.get? c=jb o->O.get? c=jb o:=λc o C e=>K.extBut _ _ C (B.extBut _ _ C (QF _ e));have pT:gn O k.1.size u v:=K.extBut _ _ (Wk F) (B.extBut _ _ (Wk F) (QY _ rfl));have j:O.1.size=k.1.size+1:=by rw[K.1,B.1,qW]
 rw[size]at p pT j;refine QT #[_,rfl,?_];show Q (.ref k.1.size) _;rw[size];exact q O u v _ lu lv p (P _ _ D.TOz n) (p1e.keep λo e=>P _ o D.i1z e) (p2e.keep λo e=>P _ o D.i2z e) pT j λc o C H c3 c4 e=>P c o C (kept c o C H c3 c4 e)
def T3{TI TO:kl}{B K:Src}(S:A.handled=js)(D:b0 z TI TO n m B.adr K.adr)(r:dr s.1 z TI TO .none)(pI:gn s.1 TI (.ref n) (.ref m))(pO:gn s.1 TO a b)(R:MA s.1 n B I)(p2:MA s.1 m K G)(P:JA s.1 B xs)(q2:JA s.1 K ys)(en:xs[I]?=js∨ys[G]?=js)(O:∀h' e tk,(∀c o,c≠z->c≠TO->c≠n->c≠m->s.1.get? c=jb o->h'.get? c=jb o)->(∃o,h'.get? e=jb o/\o.cls=.type "StopIteration")->E (.ref e) { s with heap:=h',toks:=tk }) :
  ka (Vz prog w) A (Builtin.«zip.__next__» #[[.ref z],[]]) Q E s:=by
 show ka (Vz prog w) A (L0 (.ref z) 2 >>= _) _ _ _;refine QE (qF r rfl (x:=.bool Kz) rfl ?f2);show ka (Vz prog w) A (L0 (.ref z) 3 >>= _) _ _ _;refine QE (qF r rfl (x:=.ref TI) rfl ?f3);refine QE (wt pI rfl ?fi);show ka (Vz prog w) A (qm (.ref z) >>= _) _ _ _;refine QE ?free;unfold qm;refine QE (qF r rfl (x:=.none) rfl (QT ?f0));simp only[if_true];refine QE (QCl ?ru);refine QE (qF r rfl (x:=.ref TO) rfl ?fo);refine QE (wo r (by simp) λha i y=>?_);replace i:dr ha z TI TO .ellipsis:=i;refine QE ?lp;simp only[QAJ,QBk,QAd,QA0];refine QE (QE (QBO ?r1));show ka (Vz prog w) A (Q4 (.ref n) >>= _) _ _ _;cases M:xs[I]? with
 |none =>
  refine QE (bR S (NF R y D.i1z) (XF P y D.l1z) M λL e k J=>?_);let#[C,j,Z]:=J;have q:dr L z TI TO .ellipsis:=k _ _ D.i1z.symm i;have F:e≠z:=λx=>by subst x;rw[q]at j;cases j;simp at Z
  refine wo q (by simp) λhc _ g=>O hc e _ (λc o W _ N _ x=>g.extBut _ _ W (k _ _ N (y.extBut _ _ W x))) #[C,g.extBut _ _ F j,Z]
 |some x =>
  have ey:ys[G]?=none:=by rcases en with h|h;rw[M]at h;cases h;exact h
  refine QE (jM (NF R y D.i1z) (XF P y D.l1z) M λL u H lu p1b k=>QT ?_);have l:gn L TO a b:=k.extBut _ _ D.TOi1 (y.extBut _ _ D.TOz pO);refine QE (wt l rfl ?sb);refine QE (QAN l λhc pOc g=>?_);refine QE (QDZ (QT ?g1));refine QE (QE (QBO ?r2));show ka (Vz prog w) A (Q4 (.ref m) >>= _) _ _ _;refine QE (bR S (NF (NF (NF p2 y D.i2z) k D.i12.symm) g D.TOi2.symm) (XF (XF (XF q2 y D.l2z) k D.l2i1) g D.l2TO) ey λhd e Y J=>?_);let#[C,j,Z]:=J;have p:dr hd z TI TO .ellipsis:=Y _ _ D.i2z.symm (g.extBut _ _ D.TOz.symm (k.extBut _ _ D.i1z.symm i));have F:e≠z:=λx=>by subst x;rw[p]at j;cases j;simp at Z
  refine wo p (by simp) λhf _ X=>O hf e _ (λc o W c2 N c4 x=>X.extBut _ _ W (Y _ _ c4 (g.extBut _ _ c2 (k.extBut _ _ N (y.extBut _ _ W x))))) #[C,X.extBut _ _ F j,Z]
def jZ{TI TO:kl}{g e:Src}{Q:Option ky->kt->Prop}(D:b0 z TI TO k h g.adr e.adr)(m:dr s.1 z TI TO .none)(Y:gn s.1 TI (.ref k) (.ref h))(X:gn s.1 TO a b)(Z:MA s.1 k g l)(p2:MA s.1 h e j)(r:JA s.1 g xs)(p:JA s.1 e ys)(ex:xs[l]?=jb x)(B:ys[j]?=jb y)(q:∀h' u v i,Lk x u->Lk y v->dr h' z TI TO (gz s.1.1.size)->gn h' TO u v->MA h' k g (l+1)->MA h' h e (j+1)->gn h' s.1.1.size u v->h'.1.size=s.1.1.size+1 ->
   (∀c o,c≠z->c≠TO->c≠k->c≠h->s.1.get? c=jb o->h'.get? c=jb o)->Q (jb (.ref s.1.1.size)) { s with heap:=h',toks:=i }):ka (Vz prog w) A (e6 (.ref z)) Q E s:=by
 have n:s.TypeIs (.ref z) "zip":=#[_,m,rfl]
 unfold e6;exact QE (m5 (qt (name:=QA "__next__") n WO (WA WO n QBY
  (yZ D m Y X Z p2 r p ex B λh' u v i K W M L J I G F C=>QT (q h' u v i K W M L J I G F C)) (QBP _))))
def zZ{TI TO:kl}{u y:Src}{Q:Option ky->kt->Prop}(K:A.handled=js)(D:b0 z TI TO x h u.adr y.adr)(j:dr s.1 z TI TO .none)(r:gn s.1 TI (.ref x) (.ref h))(p:gn s.1 TO a b)(X:MA s.1 x u i)(p2:MA s.1 h y g)(n:JA s.1 u xs)(m:JA s.1 y ys)(W:xs[i]?=js∨ys[g]?=js)(q:∀h' k,(∀c o,c≠z->c≠TO->c≠x->c≠h->s.1.get? c=jb o->h'.get? c=jb o)->Q js { s with heap:=h',toks:=k }):ka (Vz prog w) A (e6 (.ref z)) Q E s:=by
 have l:s.TypeIs (.ref z) "zip":=#[_,j,rfl]
 unfold e6;refine QE (m5 (qt (name:=QA "__next__") l WO (WA WO l QBY
  (T3 K D j r p X p2 n m W λh' e k hk Z=>?_) (QBP _))))
 let#[o,Y,hc]:=Z;exact QE (wpAny_isInstance (T:="StopIteration") (b:=j3) #[o,Y,hc] isSubtype_stop (QT (q _ _ hk)))
end
noncomputable abbrev Uo(h:v6)(x:Src):Heap:=h.push x.it
noncomputable abbrev Ju(h:v6)(y x:Src):Heap:=(Uo h y).push x.it
noncomputable abbrev iu(h:v6)(x y:Src):Heap:=(Ju h x y).push { cls:=.type "tuple",data:=.seq (List.toArray [.ref h.1.size,.ref (Uo h x).1.size]) }
noncomputable abbrev au(h:v6)(y x:Src):Heap:=(iu h y x).push { cls:=.type "tuple",data:=.seq (List.toArray [.none,.none]) }
noncomputable abbrev ko(h:v6)(y x:Src):Heap:=(au h y x).push { cls:=.type "zip",data:=.fields (List.toArray [.none,.bool Kz,.bool Kz,.ref (Ju h y x).1.size,.ref (iu h y x).1.size]) }
def JA.push(x:JA h z xs)(o:Obj):JA (h.push o) z xs:=by
 cases z with|l a=>exact QB8.push x o|t a=>exact Heap.IsTuple.push x o|s y t=>exact x
def R3(x y:Src)(xs ys:Array ky):eg (Builtin.«zip.__new__» #[[.type "zip",x.val,y.val],[]]) (λ_ R s=>JA s.1 x xs/\JA s.1 y ys /\
   R (.ok (.ret (.ref (au s.1 x y).1.size))) { s with heap:=ko s.1 x y }) :=
 .of_wp λa w A R s h=>by let#[e,g,d,k,os]:=s;let#[j,i,h]:=h;have b:=sub_zip;have u:JA (QCA #[e,g,d,k,os]) x xs:=j;have z:JA (QCA #[e.push x.it,g,d,k,os]) y ys:=JA.push i _;wp_walk using HD u,HD z;exact#[_,rfl,h]
section
variable{X:Cx}{w:BB}{σ:St}{H:Hp}{s:kt}{h':v6}
def _root_.L2.Inv.turnedL{t':Nat}{ch:List kl}(I:Inv X w σ H s)(k:∀b o,b∉ch->s.1.get? b=jb o->h'.get? b=jb o)(f:∀b∈ch,zL X w H b):Inv X w σ H { s with heap:=h',toks:=t' }:=by
 have h:∀b u,H b=jb u->b∉ch:=λb u e z=>by rw[(f b z).1]at e;cases e
 have g:X.env.locals∉ch:=λz=>(f _ z).2.1 rfl;refine I.step (g':=s.gens) (d':=s.drawn) (ch:=ch) (λb a=>?_) (λb o _ _ hc e _=>k b o hc e) (λb o _ _ hc e _=>#[o.slots,k b o hc e]) (λ_ _ _ _ n=>n)
  (λb o hc e=>#[o,k b o hc e]) (λ_ _ e=>e) (λ_ _ _ e=>e) (λb W e=>#[#[],by rw[e];simp]) (λm y=>?_) (λb u e=>?_) I.bare
 let#[_,p,_,l,j,i]:=f b a;exact#[l,p,j,i];let#[o,Y,Z,x,r]:=y;exact#[o,Y,Z,k _ o g x,r];refine(I.hok b u e).stay (λc v hc q=>k c v ?_ q) (λ_ q=>q) λ_ _ q=>q;rcases hc with z|z;rw[z];exact h b u e;exact h c _ z
def gK(K:QC)(H:Hp):Src->LV->Prop
 | .l a,xs=>mD K H a xs|.t a,xs=>GE K H a xs|.s x _,xs=>x.cps.all (· < 128)=j3/\xs=x.cps.toList.map λc=>.str #[(List.toArray [c])]
def Src.v:Src->V
 | .l a=>.ref a|.t a=>.ref a|.s x _=>.str x
def XX{z:Src}(r:ZA z.v u):∃h:Src,h.val=u/\∀K H xs,gK K H h xs=gK K H z xs:=by
 cases z with|l a=>cases r;exact#[.l a,rfl,λ_ _ _=>rfl]|t a=>cases r;exact#[.t a,rfl,λ_ _ _=>rfl]|s x t=>let#[y,rfl]:=r;exact#[.s x y,rfl,λ_ _ _=>rfl]
def iV(r:ZA x u)(l:Lk u h):ZA x h:=by
 rcases l with rfl|⟨z,t,k,rfl,rfl⟩
 exact r;cases x with|str y=>let#[_,e]:=r;cases e;exact#[_,rfl]|int i=>let#[_,e]:=r;cases e|byt i=>let#[_,e]:=r;cases e|flt i=>let#[_,e]:=r;cases e|_=>cases r
def oX:∀h:LN,YA (h.map λc=>V.str #[(List.toArray [c])]) (h.map λc=>Value.str #[(List.toArray [c])] 0)
 |[]=>.nil|_::h=>.cons #[_,rfl] (oX h)
def _root_.L2.Inv.src(I:Inv X w σ H s)(h:gK X.K H z xs):∃its:LW,YA xs its/\JA s.1 z its.toArray:=by
 cases z with|l a=>let#[its,y,p,u]:=I.list h;exact#[its,y,p.isList]|t a=>let#[its,y,p,u]:=I.tuple h;exact#[its,y,p]|s x t=>let#[k,rfl]:=h;exact#[_,oX x.cps.toList,k,by rw[BX,<- List.map_toArray,Array.toArray_toList]]
def _root_.L2.Inv.src_inj(I:Inv X w σ H s)(h:gK X.K H z xs)(h':gK X.K H z ys):xs=ys:=by
 cases z with|l a=>exact I.list_inj h h'|t a=>exact I.tuple_inj h h'|s x t=>exact h.2.trans h'.2.symm
def _root_.L2.Inv.pair{b:ky}(I:Inv X w σ H s)(k:∀b u,s.1.get? b=jb u->h'.get? b=jb u)(e:s.1.1.size<=p)(g:h'.get? p=jb { cls:=.type "tuple",data:=.seq (List.toArray [a,b]) })(z:ZA x a)(h:ZA y b) :
  Inv X w σ (LA H p (.tup [x,y])) { s with heap:=h',toks:=t' } :=
 I.laid k e #[by rw[wP];show 2<=_;decide,[a,b],.cons z (.cons h .nil),_,g,rfl,_,rfl]
end
def cy(K:QC)(k u:Src):It :=
  #[λi H=>∃z h x y,gK K H k z/\gK K H u h/\z[i]?=jb x/\h[i]?=jb y,
   λi H v a=>∃p x y,H p=js/\v=.ref p/\a=LA H p (.tup [x,y])/\∀z h,gK K H k z->gK K H u h->z[i]?=jb x/\h[i]?=jb y,
   λi H=>∃z h,gK K H k z/\gK K H u h/\(z.9<=i∨h.9<=i)]
def CU(z TI TO y x:kl)(k u:Src)(e:ky)(i:Nat)(h:v6):Prop:=dr h z TI TO e/\gn h TI (.ref y) (.ref x)/\(∃a b,gn h TO a b)/\MA h y k i/\MA h x u i
def CU.keep{TI TO:kl}{h':v6}(st:CU z TI TO y x g a j i h)(k:∀b∈[z,TI,TO,y,x],∀o,h.get? b=jb o->h'.get? b=jb o):CU z TI TO y x g a j i h':=by let#[q,p,#[u,v,n],m,l]:=st;exact#[k z (by simp) _ q,k TI (by simp) _ p,#[u,v,k TO (by simp) _ n],m.keep λo e=>k y (by simp) o e,l.keep λo e=>k x (by simp) o e]
def C4{P:vb}{w:vu}{K:QC}{es:List Expr}{kk:Nat}{pp:Pos}{z TI TO r p:kl}{z1 S:Src}(D:b0 z TI TO r p z1.adr S.adr) :
  Turn P w K (.Tuple es kk pp) (cy K z1 S) [z,TI,TO,r,p] z (CU z TI TO r p z1 S .none) where
 mem:=by simp
 obj:=λi h st b a=>by let#[F,Z,#[u,v,C],B,A]:=st;simp only[QO,qT,or_false]at a;rcases a with rfl|rfl|rfl|rfl|rfl;exact#[_,F,λv q=>by cases(show Data.fields _=Data.cell v from q)];exact#[_,Z,λv q=>by cases(show Data.seq _ _=Data.cell v from q)];exact#[_,C,λv q=>by cases(show Data.seq _ _=Data.cell v from q)];exact B.obj;exact A.obj
 keep:=λi h h' st k=>st.keep k
 item:=by
  intro X hP hw hK hc i J s σ H E I O st hg;subst hP hw hK;let#[xs,ys,x,y,R,Q,ex,ey]:=hg;let#[N,rv,l]:=I.src R;let#[M,m,j]:=I.src Q;let#[u,hu,ru]:=rv.get ex;let#[v,hv,n]:=m.get ey;let#[F,Z,#[c,d,C],B,A]:=st;refine jZ D F Z C B A l j (x:=u) (y:=v) (by simpa using hu) (by simpa using hv) λh' u' v' tk lu lv b1 b2 b3 b4 b5 b6 b7=>?_;replace ru:=iV ru lu;replace n:=iV n lv;refine#[_,rfl,wpAny_letOwnedTupleGo_zip b1 λY c1 W=>?_];have kept:∀b o,b∉[z,TI,TO,r,p]->s.1.get? b=jb o->Y.get? b=jb o:=λb o a e=>by simp only[QO,qT,or_false,not_or]at a;exact(W.2 b a.1).trans (b7 b o a.1 a.2.2.1 a.2.2.2.1 a.2.2.2.2 e)
  have hp:=I.hok.fresh (QX s.1.1.size);have G:z<s.1.1.size:=QS F;have g:Y.get? s.1.1.size=jb { cls:=.type "tuple",data:=.seq (List.toArray [u',v']) }:=(W.2 _ (Wk G)).trans b5;have L:∀b∈[z,TI,TO,r,p],b<s.1.1.size:=λb a=>by simp only[QO,qT,or_false]at a;rcases a with rfl|rfl|rfl|rfl|rfl;exact G;exact QS Z;exact QS C;exact B.lt;exact A.lt
  have I1:=I.pair (h':=s.1.push { cls:=.type "tuple",data:=.seq (List.toArray [u',v']) }) (t':=s.toks) (λb o e=>QF _ e) (QX _) (QY _ rfl) ru n;have I2:=I1.turnedL (h':=Y) (t':=tk) (ch:=[z,TI,TO,r,p]) (λb o a e=>by
   rcases QAM e with⟨q1,q2⟩| q;subst q1 q2;exact g;exact kept b o a q) λb a=>by
   let#[f0,f1,f2,f3,f4,f5]:=O b a;exact#[by rw[vA (Qk (L b a))];exact f0,f1,f2,f3,f4,f5]
  refine#[.ref s.1.1.size,_,I2,rfl,#[s.1.1.size,x,y,hp,rfl,rfl,λxs' ys' g1 g2=>?_],#[c1,?_,#[_,_,(W.2 _ D.TOz).trans b2],b3.keep λo e=>(W.2 _ D.i1z).trans e,b4.keep λo e=>(W.2 _ D.i2z).trans e],λb a=>?_];rw[I.src_inj g1 R,I.src_inj g2 Q];exact#[ex,ey];exact(W.2 _ D.TIz).trans (b7 _ _ D.TIz D.TITO D.TIi1 D.TIi2 Z);rw[vA (Qk (L b a))];exact(O b a).1
 done:=by
  intro X hP hw hK hc i J s σ H E I O st hg;subst hP hw hK;let#[xs,ys,R,Q,en]:=hg;let#[N,rv,l]:=I.src R;let#[M,m,j]:=I.src Q;let#[F,Z,#[c,d,C],B,A]:=st;have l1:=rv.9;have l2:=m.9;have en':N.toArray[i]?=js∨M.toArray[i]?=none:=by rcases en with q|q;exact .inl (by simp;omega);exact .inr (by simp;omega)
  refine zZ (I.ok.hd hc) D F Z C B A l j en' λh' tk kp=>#[rfl,I.turnedL (t':=tk) (ch:=[z,TI,TO,r,p]) (λb o a e=>?_) O]
  simp only[QO,qT,or_false,not_or]at a;exact kp b o a.1 a.2.2.1 a.2.2.2.1 a.2.2.2.2 e
 self:=λ_ _ _ _ _ st h=>QDH st.1 h
def Lm{A:x2}(F:A.handled=js)(j:kl)(z:Src)(Y:z.adr≠j)(b:Array ky)(c:Nat) :
  Draws prog w A j [j,z.adr] (c+b.size) (λi v=>∃k u,i=c+k/\b[k]?=jb u/\Lk u v) (λi h=>∃k,i=c+k/\MA h j z k/\JA h z b) where
 live:=λ_ _ #[_,_,p,_]=>let#[o,e,_]:=p.obj;#[o,e]
 frame:=λ_ h n #[k,e,p,q] g=>#[k,e,p.keep λo x=>g j (by simp) o x,by
  cases z with|l a=>exact QB8.at q λo x=>g a (by simp[Src.adr]) o x|t a=>let#[o,C,B]:=q;exact#[o,g a (by simp[Src.adr]) o C,B]|s y t=>exact q]
 item:=λi s Q E G zz W=>by
  let#[k,e,p,q]:=zz
  have hk:k<b.size:=()
  exact jM p q (x:=b[k]) (by simp[hk]) λn u r Z X m=>W _ n r #[k,_,e,by simp[hk],Z] #[k+1,(),X,XF q m Y] m
 done:=λs Q E zz K=>by
  let#[k,e,p,q]:=zz
  have hk:k=b.size:=()
  exact bR F p q (by simp[hk]) K
def Mm{A:x2}(Z:A.handled=js)(j:kl)(z:Src)(u:Array ky)(n k:Nat)(g:u[k]?=js) :
  Draws prog w A j [j,z.adr] n (λ_ _=>False) (λi h=>i=n/\MA h j z k/\JA h z u) where
 live:=λ_ _ #[_,p,_]=>let#[o,e,_]:=p.obj;#[o,e]
 frame:=λ_ h K #[e,p,q] b=>#[e,p.keep λo x=>b j (by simp) o x,by
  cases z with|l a=>exact QB8.at q λo x=>b a (by simp[Src.adr]) o x|t a=>let#[o,Y,X]:=q;exact#[o,b a (by simp[Src.adr]) o Y,X]|s y t=>exact q]
 item:=λi s Q E m #[e,_,_] W=>n9 m ()
 done:=λs Q E #[_,p,q] r=>bR Z p q g r
def oy(K:QC)(z:Src)(c:Nat):It :=
  #[λi H=>∃h x,gK K H z h/\h[i]?=jb x,
   λi H v y=>∃p x,H p=js/\v=.ref p/\y=LA H p (.tup [.int ((c+i:Nat):Int),x])/\∀h,gK K H z h->h[i]?=jb x,
   λi H=>∃h,gK K H z h/\h.9<=i]
def dS(e j:kl)(z:Src)(c i:Nat)(h:v6):Prop:=(∃x,IsEnum h e j ((c+i:Nat):Int) x)/\MA h j z i
def cZ{P:vb}{w:vu}{K:QC}{es:List Expr}{kk:Nat}{pp:Pos}{e j:kl}{z:Src}{c:Nat}(O:e≠j)(n2:z.adr≠e)(n3:z.adr≠j) :
  Turn P w K (.Tuple es kk pp) (oy K z c) [e,j] e (dS e j z c) where
 mem:=by simp
 obj:=λi h st b a=>by let#[#[g,m],r]:=st;simp only[QO,qT,or_false]at a;rcases a with rfl|rfl;exact#[_,m,λv q=>by cases(show Data.fields _=Data.cell v from q)];exact r.obj
 keep:=λi h h' st k=>by let#[#[g,m],r]:=st;exact#[#[g,k e (by simp) _ m],r.keep λo x=>k j (by simp) o x]
 item:=by
  intro X S Q hK hc i Z s σ H E I F st R;subst S Q hK;let#[xs,x,G,ex]:=R;let#[l,M,J]:=I.src G;let#[u,hu,N]:=M.get ex;let#[#[g,m],r]:=st;have hi:i<l.toArray.size:=by have:=(QZ.mp hu).1;simpa using this
  refine wpAny_pyNext_enum_itemD (Lm (show X.A.in1.handled=js from I.ok.hd hc) j z n3 l.toArray c) m #[i,rfl,r,J] () O (by simp[O,Qz n2]) λy h' C zz b1 b2 b3 b4 b5=>?_;let#[k,y0,ek,hy,ly]:=zz;have ek:k=i:=()
  subst ek;have ey:y0=u:=by
   have:l.toArray[k]?=jb u:=by simpa using hu
   rw[this]at hy;exact(QW hy).symm
  subst ey;replace N:=iV N ly;refine#[_,rfl,wpAny_letOwnedTupleGo_enum b1 λY c1 L=>?_];let#[k2,B,b2,b2']:=b2;have B:k2=k+1:=()
  subst B;have hp:=I.hok.fresh (QX s.1.1.size);have W:e<s.1.1.size:=QS m;have p:∀b∈[e,j],b<s.1.1.size:=λb a=>by simp only[QO,qT,or_false]at a;rcases a with rfl|rfl;exact W;exact r.lt
  have kept:∀b o,b∉[e,j]->s.1.get? b=jb o->Y.get? b=jb o:=λb o a q=>by simp only[QO,qT,or_false,not_or]at a;exact(L.2 b a.1).trans (b5 b o a.1 a.2 q)
  have n:Y.get? s.1.1.size=jb { cls:=.type "tuple",data:=.seq (List.toArray [.int ((c+k:Nat):Int) C,y]) }:=(L.2 _ (Wk W)).trans b3;have I1:=I.pair (x:=.int ((c+k:Nat):Int)) (h':=s.1.push { cls:=.type "tuple",data:=.seq (List.toArray [.int ((c+k:Nat):Int) C,y]) }) (t':=C+1) (λb o e=>QF _ e) (QX _) (QY _ rfl) #[_,rfl] N;have I2:=I1.turnedL (h':=Y) (t':=C+1) (ch:=[e,j]) (λb o a e=>by
   rcases QAM e with⟨q1,q2⟩| q;subst q1 q2;exact n;exact kept b o a q) λb a=>by
   let#[f0,f1,f2,f3,f4,f5]:=F b a;exact#[by rw[vA (Qk (p b a))];exact f0,f1,f2,f3,f4,f5]
  refine#[.ref s.1.1.size,_,I2,rfl,#[s.1.1.size,x,hp,rfl,rfl,λxs' g1=>?_],#[#[y,?_],b2.keep λo q=>(L.2 _ (Qz O)).trans q],λb a=>?_];rw[I.src_inj g1 G];exact ex;have:(((c+(k+1):Nat)):Int)=((c+k:Nat):Int)+1:=()
  rw[this];exact c1;rw[vA (Qk (p b a))];exact(F b a).1
 done:=by intro X S Q hK hc i Z s σ H E I F st R;subst S Q hK;let#[xs,G,en]:=R;let#[l,M,J]:=I.src G;let#[#[g,m],r]:=st;have l1:=M.9;let#[f0,f1,f2,f3,f4,f5]:=F j (by simp);exact wpAny_pyNext_enum_endD (Mm (show X.A.in1.handled=js from I.ok.hd hc) j z l.toArray 0 i (by simp;omega)) m #[rfl,r,J] λh' eb=>#[rfl,I.turned (t':=s.toks) (λb o a e=>eb b o a e) f0 f1 f3 f4 f5]
 self:=λ_ _ _ _ _ st h=>by let#[#[g,m],_]:=st;exact QCm m h
section
variable{prog:vb}{w:vu}{A:x2}{E:CB}{s:kt}
def C2{Q:CB}(n:JA s.1 y xs)(m:JA s.1 z ys)(h:∀h',CU (s.1.1.size+4) (s.1.1.size+2) (s.1.1.size+3) s.1.1.size (s.1.1.size+1) y z .none 0 h'->(∀c o,s.1.get? c=jb o->h'.get? c=jb o)->Q (.ref (s.1.1.size+4)) { s with heap:=h' }) :
  ka (Vz prog w) A (dw (.type "zip") [y.val,z.val]) Q E s:=by
 refine callType_new PySem.F.called_zip (by decide) (PySem.F.typeCall_zip_2 _ _) (PySem.F.newCall_zip_2 _ _) (λobj=>PySem.F.args_object_init_3 obj _ _) PySem.F.entry_zip_new (R3 y z xs ys) #[n,m,?_];have a:(Uo s.1 y).1.size=s.1.1.size+1:=qW ..;have k:(Ju s.1 y z).1.size=s.1.1.size+2:=by rw[qW,a]
 have u:(iu s.1 y z).1.size=s.1.1.size+3:=by rw[qW,k]
 have g:(au s.1 y z).1.size=s.1.1.size+4:=by rw[qW,u]
 have b:(ko s.1 y z).get? (au s.1 y z).1.size=jb _:=QY _ rfl;have i:(ko s.1 y z).get? (iu s.1 y z).1.size=jb _:=QF _ (QY _ rfl);have j:(ko s.1 y z).get? (Ju s.1 y z).1.size=jb _:=QF _ (QF _ (QY _ rfl));have l:MA (ko s.1 y z) (Uo s.1 y).1.size z 0:=(SL (Uo s.1 y) z).keep λo e=>QF _ (QF _ (QF _ e));have p:MA (ko s.1 y z) s.1.1.size y 0:=(SL s.1 y).keep λo e=>QF _ (QF _ (QF _ (QF _ e)));show _/\_;rw[k,u,g]at b;rw[a,k]at j;rw[u]at i;rw[a]at l;rw[g];exact#[#[_,b,rfl],h _ #[b,j,#[_,_,i],p,l] λc o x=>QF _ (QF _ (QF _ (QF _ (QF _ x))))]
end
def O1(z:Src)(xs:Array ky):eg (Builtin.«enumerate.__new__» #[[.type "enumerate",z.val],[]]) (λ_ R s=>JA s.1 z xs /\
   R (.ok (.ret (.ref (s.1.push z.it).1.size))) { s with heap:=(s.1.push z.it).push { cls:=.type "enumerate",data:=.fields (List.toArray [.none,.bool Kz,.ref s.1.1.size,gz 0,.none,.none]) } }) :=
 .of_wp λy w A R s h=>by
  let#[b,g,d,k,os]:=s;let#[a,h]:=h;have u:=m7;have x:JA (QCA #[b,g,d,k,os]) z xs:=a;wp_walk;refine lf λst=>QT ?_;split;rename_i cl _ _ _ _ _;cases(cl==Value.type "enumerate")<;>(wp_walk using HD x;exact#[_,rfl,h])
  wp_walk using HD x;exact#[_,rfl,h]
def RW(z:Src)(xs:Array ky)(n:Int)(t:Tok)(k:wX n=j3):eg (Builtin.«enumerate.__new__» #[[.type "enumerate",z.val],[("start",.int n t)]]) (λ_ R s=>JA s.1 z xs /\
   R (.ok (.ret (.ref (s.1.push z.it).1.size))) { s with heap:=(s.1.push z.it).push { cls:=.type "enumerate",data:=.fields (List.toArray [.none,.bool Kz,.ref s.1.1.size,gz n,.none,.none]) } }) :=
 .of_wp λy w A R s h=>by
  let#[e,g,d,a,os]:=s;let#[b,h]:=h;have u:=m7;have x:JA (QCA #[e,g,d,a,os]) z xs:=b;wp_walk;refine lf λst=>QT ?_;split;rename_i cl _ _ _ _ _;cases(cl==Value.type "enumerate")<;>(wp_walk using HD x;(try simp only[k,w6,Qo,if_false]);wp_walk using HD x;exact#[_,rfl,h])
  wp_walk using HD x;(try simp only[k,w6,Qo,if_false]);wp_walk using HD x;exact#[_,rfl,h]
section
variable{prog:vb}{w:vu}{A:x2}{E:CB}{s:kt}
def Am{T:String}{Bi:Builtin}{Q:CB}(u:TypeCalled T z x)(K:m8 T #[args,k]=n5 Unit.unit)(n:h8 z #[.type T::args,k]=n5 Unit.unit)(J:entryFor table z=jb Y)(L:entryFor table x=jb Bi)(g:eg (Y #[.type T::args,k]) S)(h:S A.in1 (wants Q₁ E) s)(l:∀obj y,Q₁ obj y->y.TypeIs obj T/\argsOk x #[obj::args,k]/\∃p,eg (Bi #[obj::args,k]) p/\p A.in1 (wants (λr b=>r=.none/\Q obj b) E) y):ka (Vz prog w) A (dw (.type T) args k) Q E s:=by
 let#[c,M,X]:=u.mro;have m:=u.made;have q:=u.sub;refine QA8 (lz ?tr);show ka _ _ (callAny (.type T) #[args,k]) _ _ _;refine QT #[QAq _ (by decide +kernel),codeAny_builtin PySem.F.entry_type_call ?bt];rw[Around.under_plain (weight_type_call_type T args k) (units_type_call_type T args k)];have R:=u.notType;have P:=u.canCreate
 repeat any_goals (first|assumption|wp_step)
 refine WJ (wT u.plain J (wpAny_of_eq n (g prog w A.in1 _ s h))) λr y j=>?_;cases r with
 |error e=>exact j|ok I =>
  cases I with
  |ret obj =>
   let#[C,hok,p,G,i]:=l _ _ j;have W:=u.init.lookup;have B:=u.init.bind obj
   repeat any_goals (first|assumption|wp_step)
   refine WJ (wT u.init.plain L (u.init.check _ _ _ _ _ _ _ _ C hok (G prog w A.in1 _ y i))) λZ N a=>?_;cases Z with
   |error e=>exact a|ok o =>
    cases o with
    |ret r =>
     let#[rfl,O]:=a
     repeat any_goals (first|assumption|wp_step)
    |_=>exact a.elim
  |_=>exact j.elim
end
def t9(a v:ky):m8 "enumerate" #[[a],[("start",v)]]=n5 Unit.unit:=by kernel_rfl
def Y9(a v:ky):h8 "enumerate.__new__" #[[.type "enumerate",a],[("start",v)]]=n5 Unit.unit:=by kernel_rfl
def vt(a b v:ky):argsOk "object.__init__" #[[a,b],[("start",v)]]:=by unfold argsOk;rw[signature?_of (id:="object.__init__") (n:="__init__".toList.reverse) (o:="object".toList.reverse) (by kernel_rfl) PySem.F.owner_object];kernel_rfl
def Gq{T:String}(hl:ef (.type T) "__init__"=n5 (jb (.builtin "object.__init__")))(e:Bind.madeBy (.type T)=n5 (jb h))(b:(jb h != jb "object.__new__")=j3) :
  eg (Builtin.«object.__init__» #[[x,a],z]) (λ_ R s=>s.TypeIs x T/\R (.ok (.ret .none)) s):=by
 refine Meets.of_wp λy w A R s u=>?_;let#[g,k]:=u
 repeat any_goals (first|assumption|wp_step)
 exact#[_,rfl,k]
section
variable{prog:vb}{w:vu}{A:x2}{E:CB}{s:kt}
def uM{h:v6}{z:Src}{n:Int}:IsEnum ((h.push z.it).push { cls:=.type "enumerate",data:=.fields (List.toArray [.none,.bool Kz,.ref h.1.size,gz n,.none,.none]) }) (h.1.size+1) h.1.size n .none:=by have:=QY (h.push z.it) (o:={ cls:=.type "enumerate",data:=.fields (List.toArray [.none,.bool Kz,.ref h.1.size,gz n,.none,.none]) }) rfl;rw[qW]at this;exact this
def bX{Q:CB}(y:JA s.1 z xs)(h:∀h',dS (s.1.1.size+1) s.1.1.size z 0 0 h'->(∀c o,s.1.get? c=jb o->h'.get? c=jb o)->Q (.ref (s.1.1.size+1)) { s with heap:=h' }):ka (Vz prog w) A (dw (.type "enumerate") [z.val]) Q E s:=by
 refine callType_new ww (by decide) (PySem.F.typeCall_enumerate_1 _) (PySem.F.newCall_enumerate_1 _) (λobj=>PySem.F.args_object_init_2 obj _) QAh (O1 z xs) #[y,?_];show _/\_;rw[qW];exact#[#[_,uM,rfl],h _ #[#[.none,uM],(SL s.1 z).keep λo e=>QF _ e] λc o x=>QF _ (QF _ x)]
def ZU{z:Src}{xs:Array ky}{n:Nat}{t:Tok}{Q:CB}(a:wX (n:Int)=j3)(k:JA s.1 z xs)
  (h:∀h',dS (s.1.1.size+1) s.1.1.size z n 0 h'->(∀c o,s.1.get? c=jb o->h'.get? c=jb o)->Q (.ref (s.1.1.size+1)) { s with heap:=h' }):ka (Vz prog w) A (dw (.type "enumerate") [z.val] [("start",.int n t)]) Q E s:=by
 refine Am (Q₁:=λobj y=>y.TypeIs obj "enumerate"/\Q obj y) ww (t9 _ _) (Y9 _ _) QAh PySem.F.entry_object_init (RW z xs n t a) #[k,?_] λobj _ u=>#[u.1,vt _ _ _,_,Gq ww.init.lookup ww.made (by decide),u.1,rfl,u.2]
 show _/\_;rw[qW];exact#[#[_,uM,rfl],h _ #[#[.none,uM],(SL s.1 z).keep λo e=>QF _ e] λc o x=>QF _ (QF _ x)]
def OO{A:x2}{E:CB}{s:kt}{T:String}(j:Xz [e] env=[(Kz,zz e env)])(h:ka M A (spliced (gl pos (Xz [e] env))) (λvs y=>ka M A (zz v env) (λi z=>ka M A (dw (.type T) vs [(nm,i)]) Q E z) E y) E s) :
  ka M A (nq pos (.type T) [] (gl pos (Xz [e] env)) (d3 pos (ft [#[jb nm,v,g]] env))) Q E s:=by
 unfold nq;have m:ka M A (evalArgs (.type T) j3 (gl pos (Xz [e] env)) (d3 pos (ft [#[jb nm,v,g]] env))) (λa y=>ka M A (dw (.type T) ([]++a.pos) a.kw) Q E y) E s:=by rw[j]at h ⊢;refine evalArgs_kwB (by rfl) (qU h (λvs y u=>?_) λ_ _ x=>x);exact kws_cons (qU u (λi z k=>kws_nil k) λ_ _ x=>x)
 refine QE (qi (qU m (λa y u=>QE (WR ?st)) λ_ _ x=>x));have b:((gl pos (Xz [e] env)).any (·.1)||(d3 pos (ft [#[jb nm,v,g]] env)).any (·.1.isNone))=false:=by rw[j];rfl
 simp only[wU]at b;simp only[b.1,b.2,QBJ];refine QE (QT ?pr);exact QE (qU u (λr z l=>QE (qi (wpAny_point (QT l)))) λ_ _ x=>x)
end
def gx(h:a≠b):((a:kl)≠(b:kl)):=h
def oS(z:x<n)(y:h<n):b0 ((n+4:Nat):kl) ((n+2:Nat):kl) ((n+3:Nat):kl) (n:kl) ((n+1:Nat):kl) (x:kl) (h:kl):=by constructor<;>(apply gx;omega)
def Fa(P:vb)(w:vu)(K:QC)(a:kl)(x:List (Str×V)):Prop :=
 (a==Gz)=Kz/\∃y:List (Str×ky),KV x y/\∀h:v6,K.In h->h.DictOf (Wu P w) a y
def tR(r:KV u us)(x:Str):xK (u.lookup x) (hW us x):=by
 unfold KV at r;induction r with
 |nil=>exact True.intro|@cons p q b k h t n =>
  let#[i,o]:=h;let#[y,g]:=p;let#[j,a]:=q;have i:y=j:=i;subst i;by_cases e:y=x;subst e;have l:hW ((y,a)::k) y=jb a:=by simp[hW]
  have m:wf y ((y,g)::b)=jb g:=by simp
  rw[l,m];exact o;have l:hW ((y,a)::k) x=hW k x:=by simp[hW,e]
  have s:(x==y)=false:=by simpa using λz=>e z.symm
  have m:wf x ((y,g)::b)=wf x b:=by rw[Ql,s]
  rw[l,m];exact n
def Mj(r:xK o u):ZA (o.getD .non) (u.getD .none):=by
 cases o with
 |none=>cases u with|none=>rfl|some _=>exact(show False from r).elim
 |some _=>cases u with|none=>exact(show False from r).elim|some _=>exact r
section
variable{X:Cx}{a:kl}{k:List (Str×V)}
def Y8(D:Fa X.prog X.w X.K a k):Ba X (λx y H Q=>∃z v,x=.ref a/\y=.str z/\k.lookup z=jb v/\Q v H):=by
 intro g i b s o H x y v u Q I W Z h A;let#[z,r,rfl,rfl,l,q]:=h;cases W;let#[t,rfl]:=Z;let#[hd,p,j,e]:=D;have e:=e _ I.kIn;have rl:=tR j z;rw[l]at rl;cases m:hW p z with
 |none=>rw[m]at rl;exact(show False from rl).elim|some n =>
  rw[m]at rl;exact Wz (x:=n) e.typeIs QAz.lookup
   (QDA (Q:=λr Y=>r=n/\EP X b o Q r Y) (QDm X.prog X.w z t) e.mapOf m #[rfl,r,H,I.tok _,rl,q]) A
def lc{apos:Pos}(D:Fa X.prog X.w X.K a k)(M:PE X o λ_ H Q=>Q (.ref a) H)(N:PE X e ty)(i:gi o "get" X.env (zz o X.env)=zz o X.env)(j:((gl cpos (Xz [e] X.env)).all (λx=>!x.1)&&(d3 cpos (ft [] X.env)).all (λx=>x.1.isSome)
   && decide (([e]:List Expr).9+([]:List fy).9+(if([]:List fy).isEmpty then 0 else 1)<30))=j3)(g:(apos.endLine==cpos.line)=j3)(L:Xz [e] X.env=[(Kz,zz e X.env)]) :
  PE X (.Call (.Attribute o "get" apos) [e] [] cpos) (λσ H Q=>ty σ H λy m=>∃z,y=.str z/\Q ((k.lookup z).getD .non) m):=by
 intro u s σ H Q I h;refine W0 i j g rfl (yE (M u s σ H (λx m=>x=.ref a/\ty σ m λy p=>∃z,y=.str z/\Q ((k.lookup z).getD .non) p) I #[rfl,h]) λv A x m W C zz=>?_);let#[S,G]:=zz;subst S;obtain rfl:v=j2 a:=C;let#[hd,us,n,l]:=D;have Y:=l _ W.kIn;refine#["dict",_,QBQ,WP,QBl,Y.typeIs,λb q=>?_,?_];cases q;let#[J,_,_,P,O,_]:=Y;exact#[J,P,O.2.1];rw[L];refine WD rfl (QAL (Wq (yE (N u A σ m _ W G) λiv s2 y p Z B #[z,R,E]=>QA7 ?_)));subst R;let#[t,rfl]:=B;have r:=l _ Z.kIn;refine call_meetsIn WP r.typeIs QBZ (PySem.F.args_dict_get_2 _ _) (meets_dict_get (Wu X.prog X.w) a (QDm X.prog X.w z t) hd) #[_,r.mapOf,_,p,Z.tok _,?_,E];exact Mj (tR n z)
def Bb(r:xK o u)(rd:ZA d w):ZA (o.getD d) (u.getD w):=by
 cases o with
 |none=>cases u with|none=>exact rd|some _=>exact(show False from r).elim
 |some _=>cases u with|none=>exact(show False from r).elim|some _=>exact r
def D6{apos:Pos}(D:Fa X.prog X.w X.K a k)(ho:PE X o λ_ H Q=>Q (.ref a) H)(he:PE X e ty)(Z:PE X l g)(j:gi o "get" X.env (zz o X.env)=zz o X.env)(m:((gl cpos (Xz [e,l] X.env)).all (λx=>!x.1)&&(d3 cpos (ft [] X.env)).all (λx=>x.1.isSome)
   && decide (([e,l]:List Expr).9+([]:List fy).9+(if([]:List fy).isEmpty then 0 else 1)<30))=j3)(i:(apos.endLine==cpos.line)=j3)(S:Xz [e,l] X.env=[(Kz,zz e X.env),(Kz,zz l X.env)]) :
  PE X (.Call (.Attribute o "get" apos) [e,l] [] cpos) (λσ H Q=>ty σ H λy r=>g σ r λd p=>∃z,y=.str z/\Q ((k.lookup z).getD d) p):=by
 intro u s σ H Q I h;refine W0 j m i rfl (yE (ho u s σ H (λx r=>x=.ref a/\ty σ r λy p=>g σ p λd W=>∃z,y=.str z/\Q ((k.lookup z).getD d) W) I #[rfl,h]) λv J x r E M zz=>?_);let#[ex,P]:=zz;subst ex;obtain rfl:v=j2 a:=M;let#[hd,us,Y,n]:=D;have B:=n _ E.kIn;refine#["dict",_,QBQ,WP,QBl,B.typeIs,λb q=>?_,?_];cases q;let#[R,_,_,g1,g2,_]:=B;exact#[R,g1,g2.2.1];rw[S];refine WD rfl (QAL (Wq (yE (he u J σ r _ E P) λiv G y p I2 L O=>Wq (yE (Z u G σ p _ I2 O) λdv s3 d W C rd #[z,ey,N]=>QA7 ?_))));subst ey;let#[t,rfl]:=L;have A:=n _ C.kIn;refine call_meetsIn WP A.typeIs QBZ (PySem.F.args_dict_get_3 _ _ _) (meets_dict_get_default (Wu X.prog X.w) a (QDm X.prog X.w z t) hd dv) #[_,A.mapOf,_,W,C.tok _,?_,N];exact Bb (tR Y z) rd
end
def vW:fillsNumberSlot (.type "tuple") "mul"=n5 Kz :=
 PySem.fillsNumberSlot_seq (id:="tuple.__mul__") (r:=jb (.builtin "tuple.__rmul__")) QAK.lookup (by decide +kernel) QCn.lookup (by decide +kernel)
def Ub:seqRepeat? (.type "tuple")=n5 (jb (.builtin "tuple.__mul__")):=by unfold seqRepeat?;rw[QDI (T:="tuple") (name:="__mul__") (id:="tuple.__mul__") QAK.lookup (by decide +kernel),QDI (T:="tuple") (name:="__rmul__") (id:="tuple.__rmul__") QCn.lookup (by decide +kernel)];rfl
def Pd(i:Int)(t:Tok)(l:kl)(o:Obj)(x:Array ky)(n:Nat)(hc:o.cls=.type "tuple")(hd:o.data=.seq x n) :
  eg (Builtin.«int.__rmul__» #[[.int i t,.ref l],[]]) (λ_ R s=>s.1.get? l=jb o/\R (.ok (.ret Value.notImplemented)) s) :=
 .of_wp λy w A R s h=>by let#[a,g,d,z,os]:=s;let#[hl,h]:=h;let#[e,k,b,u]:=o;simp only at hc hd;subst hc hd;wp_walk;exact#[_,rfl,h]
def fj(l:kl)(o:Obj)(x:Array ky)(n:Nat)(t:Tok)(hc:o.cls=.type "tuple")(hd:o.data=.seq x n) :
  eg (Builtin.«tuple.__mul__» #[[.ref l,.int 1 t],[]]) (λ_ R s=>s.1.get? l=jb o/\R (.ok (.ret (.ref l))) s) :=
 .of_wp λy w A R s h=>by let#[a,g,d,z,os]:=s;let#[hl,h]:=h;let#[e,k,b,u]:=o;simp only at hc hd;subst hc hd;wp_walk;exact#[_,rfl,h]
def cj(l:kl)(o:Obj)(x:Array ky)(n:Nat)(k:Int)(t:Tok)(hc:o.cls=.type "tuple")(hd:o.data=.seq x n)(u:x.isEmpty=Kz)(Y:2<=k)(X:k<2 ^ 31)(r:x.size * k.toNat<=ke)(b:(QAa (λz y=>z++y) #[] (QK k.toNat x)).size<=ke) :
  eg (Builtin.«tuple.__mul__» #[[.ref l,.int k t],[]]) (λ_ R s=>s.1.get? l=jb o/\R (.ok (.ret (.ref s.1.1.size))) { s with heap:=s.1.push { cls:=Value.type "tuple",data:=Data.seq (QAa (λz y=>z++y) #[] (QK k.toNat x)) },toks:=s.toks }) :=
 .of_wp λa w A R s h=>by
  let#[F,g,d,B,os]:=s;let#[hl,h]:=h;let#[I,E,G,C]:=o;simp only at hc hd;subst hc hd;have p:decide (k < -(2 ^ 63:Int))=false:=dF ();have m:decide (k ≥ 2 ^ 63)=false:=dF ();have j:(k==1)=false:=by simp;omega
  have i:decide (k<=0)=false:=dF ();have e:((x.size * k.toNat:Nat):Int)=(x.size:Int) * k:=by rw[QDX,Wg ()]
  have q:ke=16777216:=wP;have W:¬ ((x.size:Int) * k > (2 ^ 63 - 1) / 8):=()
  have L:¬ WU ((x.size:Int) * k)=true:=by
   have Z:WU ((x.size:Int) * k)=false:=by unfold WU;exact dF ()
   rw[Z];exact QD
  have K:¬ (decide (k < -2 ^ 63)||decide (k ≥ 2 ^ 63))=true:=by rw[p,m];exact QD
  have N:¬ (x.isEmpty||k==1)=true:=by rw[u,j];exact QD
  have M:¬ (decide (k<=0)||x.isEmpty)=true:=by rw[u,i];exact QD
  have J:=QCi.mpr b;clear p m j i u Y X r b e q;wp_walk;rw[n7 K];wp_walk;rw[n7 W];wp_walk;exact#[_,rfl,h]
section
variable{X:Cx}
def Jf(K:QC):R2:=λx y H Q=>match x,y with
 | .ref a,.int k=>∃h,GE K H a h/\h≠[]/\(1<=k/\k<2 ^ 31/\h.9 * k.toNat<=ke)/\(k=1->Q (.ref a) H)/\(k≠1->∀p,H p=js->Q (.ref p) (LA H p (.tup (QK k.toNat h).flatten)))|_,_=>False
def Bc:HE X (z4 .Mult) (Jf X.K):=by
 intro p s O H x y v u Q I C B h;cases x with
 |ref a =>
  cases y with
  |int k =>
   let#[m,G,J,#[R,M,j],F,E]:=h;cases C;let#[t,rfl]:=B;let#[z,r,#[o,e,hc,n,hd],P]:=I.tuple G;have hl:=r.9;have N:∀{l:CB},ka (Vz X.prog X.w) X.A (dw (.builtin "tuple.__mul__") [.ref a,.int k t]) l X.xe s->ka (Vz X.prog X.w) X.A (z4 .Mult (.ref a) (.int k t)) l X.xe s:=λ{l} L =>
    QA1 (T:="tuple") (U:="int") (by decide) #[_,e,hc] (λW=>QBq W k t) vW QDW QAf Ub QDD.lookup
     (WC QAf (QBq s k t) QDE (QCk _ _) (Pd k t a o z.toArray n hc hd) #[e,rfl,#[_,e,hc],L])
   refine N ?_;by_cases hk:k=1;subst hk;exact WC QAK #[_,e,hc] QCo (QCS _ _) (fj a o z.toArray n t hc hd) #[e,.ref a,H,I,rfl,F rfl];have b:QAa (λZ Y=>Z++Y) #[] (QK k.toNat z.toArray)=(QK k.toNat z).flatten.toArray:=by have:=FK z k.toNat [];rw[Qu]at this;exact this
   have i:z.toArray.isEmpty=false:=by
    cases z with
    |nil=>cases m with|nil=>exact n9 rfl J|cons _ _=>simp at hl
    |cons _ _=>rfl
   have g:(QK k.toNat z).flatten.9<=sizeLine:=by rw[yM,QC3,<- hl];exact j
   refine WC QAK #[_,e,hc] QCo (QCS _ _) (cj a o z.toArray n k t hc hd i () M (by rw[QN,<- hl];exact j) (by rw[b,QN];exact g)) #[e,?_];rw[b];refine#[.ref s.1.1.size,_,I.laid (t':=s.toks) (o:=.tup (QK k.toNat m).flatten) (λ_ _ q=>QF _ q) (QX _) ?_,rfl,E hk _ I.fresh];exact#[by rw[yM,QC3];exact j,_,r.rep k.toNat,QDS _ _]
  |_=>exact QV h
 |_=>exact QV h
end
def Rj(K:QC):LV->Hp->VK->Prop:=λvs H Q=>Db K vs H Q∨∃a C h c b,vs=[.ref a,c]/\H a=jb (.ext (dH C a h))/\(∃fs,H h=jb (.xd fs))/\ExK K (wOf K) C (iOf K) /\
 ((∃D,c=.ref D/\ExK K (wOf K) D (iOf K)/\b=decide (D=C∨D=wOf K))∨∃n,c=.ty n/\QDa n=j3/\b=JO.contains (.type n))/\Q (.bl b) H
section
variable{X:Cx}{y:BB}{σ:St}{H:Hp}{s:kt}{a C k:kl}
def zU(ok:SH X.prog X.w H h)(i:H a=jb (.ext (dH C a k)))(g:H k=jb (.xd fs)):∃(b x:Obj) (z:Str->Option ky),PySem.W.InstAt h a b C (jb x)/\(∀n,QAy n x=jb (z n))/\∀f,xK (fs.lookup f) (z f):=by
 let#[vs,e]:=(show NA X.prog X.w H h a (.ext (dH C a k)) from ok a _ i).1;let#[z,n,r]:=(show NA X.prog X.w H h k (.xd fs) from ok k _ g)
 let#[x,u,hl]:=iP n;exact#[_,x,z,#[e,rfl,rfl,u],hl,r]
def JU:vC X (.builtin "isinstance") (Rj X.K):=by
 intro y s σ H B E Q I r h;rcases h with h|⟨a,C,k,c,b,rfl,h1,⟨fs,h2⟩,Y,h3,q⟩
 exact YU y s σ H B E Q I r h;let#[u,l,rfl,O,x]:=tS r;cases(show u=j2 a from O);let#[ox,od,mA,J,_,_]:=zU I.hok h1 h2;have p:∀j,WZ X.K (.ref C) j=jb b->ka (Vz X.prog X.w) X.A (dw (.builtin "isinstance") [.ref a,j]) (EP X y σ Q) X.xe s:=λj hk =>
  qL (g8 Y) I.kIn J hk (λz=>nomatch z) λF=>#[.bl b,H,I.tok F,rfl,q]
 let#[nm,q0,N,bs,sn,sub,ab,col,dd,k0,k1,k2,k3,k5,hl]:=Y.obj;have o:∀t:ky,QAU X.K C t=jb ((j2 C::ZF (wOf X.K) C).contains t):=λt=>by unfold QAU QAV;rw[hl];show(if(j2 C::ZF (wOf X.K) C).isEmpty=j3 then js else jb _)=_;rw[n7 (by simp)]
 rcases h3 with⟨D,rfl,Z,rfl⟩| ⟨n,rfl,hn,rfl⟩
 cases(show l=j2 D from x);refine p _ ?_;unfold WZ;by_cases e:C=D;subst e;rw[n8 (by simp)];rw[dT (.inl rfl)];rw[n7 (by simpa using e)];let#[R,P,N',bs',M,m,ab',W,dd',k0',k1',k2',k3',S,g]:=Z.obj;show(if((QAV X.K D).isSome&&QBw X.K (.ref D)==jb (.type "type"))=j3 then QAU X.K C (.ref D) else js)=_;have G:QBw X.K (.ref D)=jb (.type "type"):=by show(X.K.lookup D).map (·.cls)=_;rw[g];rfl
 have L:(QAV X.K D).isSome=true:=by unfold QAV;rw[g];rfl
 rw[L,G,n8 (by decide)];rw[o];congr 1;unfold ZF JO;by_cases i:C=wOf X.K;rw[n8 i];simp[wN,i];rw[n7 i];simp[wN];cases(show l=Value.type n from x);refine p _ ?_;unfold WZ;rw[n7 (by simp)];show(if QDa n=j3 then QAU X.K C (.type n) else js)=_;rw[n8 hn,o,NG rfl]
def zq(K:QC):LV->Hp->VK->Prop:=λvs H Q=>∃a C k p,vs=[.ref a]/\H a=jb (.ext (dH C a k))/\H k=jb (.xd (JI p))/\ExK K (wOf K) C (iOf K)/\Q (.int p) H
def Jk(n:PE X e te)(Z:gi e "place" X.env (zz e X.env)=zz e X.env):PE X (.Attribute e "place" pos) (λσ H Q=>te σ H λv b=>zq X.K [v] b Q):=by
 intro y s σ H Q I h;refine De Z (yE (n y s σ H _ I h) λu i x b z j zz=>?_);let#[a,C,k,p,E,B,A,Y,q]:=zz;obtain rfl:x=.ref a:=(QAW E).1;obtain rfl:u=j2 a:=j;let#[P,S,l,J,hl,r]:=zU z.hok B A;let#[u,m,g]:=xK.some_of (v:=.int p) (o:=l "place") (r "place");let#[hh,gg,F,L,R]:=i;have hd:QA5 X.K C=true:=by let#[nm,O,N,bs,M,sub,ab,G,F,k0,k1,k2,k3,k5,hl]:=Y.obj;unfold QA5 QAV;rw[hl];rfl
 unfold getAttr;refine QE (wpAny_mkText ?_);exact D1 z.kIn Y J (PySem.W.findObj_own hd Y.pl rfl (by rw[hl,m])) (A0 g) #[.int p,b,z.tok _,g,q]
end
end L2.L3
namespace L2
open PySem PySem.Spec PyProof.Rows
section
variable{prog:vb}{w:vu}{A:x2}{E:CB}{s:kt}{l:kl}{u v:ky}
def YQ{Q:LW->kt->Prop}(X:A.handled=js)(j:s.1.IsList l (List.toArray [u,v]))(h:∀h',QAg s.1.1.size s.1 h'->Q [u,v] { s with heap:=h' }):ka (Vz prog w) A (unpackItems (.ref l) 2 js) Q E s:=by
 let#[o,e,c,n,d]:=id j;have hl:l≠s.1.1.size:=Qk (QS e);unfold unpackItems;refine QE ?_;unfold notIterableAtAll;refine QE (L4 #[o,e,c] PySem.F.slot_list_iter.lookup ?_);refine QT ?_;refine QE (qi (WS j ?_));have p:=QF { cls:=.type "list_iterator",data:=.fields (List.toArray [.ref l,.int 0 0]) } e;have g:QDY (s.1.push { cls:=.type "list_iterator",data:=.fields (List.toArray [.ref l,.int 0 0]) }) s.1.1.size l 0:=#[_,QY _ rfl,rfl,rfl]
 refine QE (qi ?_);refine QE (Wy g #[o,p,c,n,d] (x:=u) rfl λB a z=>?_);have m:=(z.2 l hl).trans p;refine QE (qi ?_);refine QE (Wy a #[o,m,c,n,d] (x:=v) rfl λK k y=>?_);have W:=(y.2 l hl).trans m;refine QE (qi ?_);refine QT (QT (QT ?_));refine QE (qi (QBi X k #[o,W,c,n,d] rfl λY Z=>?_));exact QT (h Y λb q i r=>Z b q i ((y.2 b i).trans ((z.2 b i).trans (QF _ r))))
def vF(b:A.handled=js)(a:s.1.IsList l (List.toArray [u,v]))(hl:(Z1 y env).9=2)(z:(Z1 y env).findIdx? (λx=>x.1)=js)(h:∀h',QAg s.1.1.size s.1 h'->ka (Vz prog w) A (Ez ((Z1 y env).map λx=>x.2) [u,v]) Q E { s with heap:=h' }):ka (Vz prog w) A (dy (.Tuple y k pos) env (.ref l)) Q E s:=by
 rw[arm_assign_Tuple];refine QE (WR ?_);unfold unpack;refine QE (qi ?_);rw[hl,z];exact YQ b a h
end
end L2
namespace L2.L3
open PySem PySem.Spec PyProof.Rows
inductive Bi where
 |len|all|any|int|str|max|list|tuple
 deriving DecidableEq
inductive Mt where
 |split|append|join|extend|insert
 deriving DecidableEq
inductive Prm where
 |dget (x:Str)|dix (x:Str)|tmul|dgetD (x:Str)|plc|isC|isT (x:Str) (m:String)|dgt
 deriving DecidableEq
inductive ItK where
 |val|rng1|zip2|enumA|enum
 deriving DecidableEq
inductive Tg where
 |nm (i:Nat)|tp (is:LN)
 deriving DecidableEq
set_option genSizeOf false in
set_option genInjectivity false in
inductive PX where
 |var (i:Nat)|int (i:Int)|str (x:Str)|bl (b:Bool)|non
 |glo (x:Str)|bty (x:Str) (n:String)
 |bin (op:hT) (a b:PX)
 |cmp (op:fb) (a b:PX)|chn (o p:fb) (a b c:PX)
 |and (a b:PX)|or (a b:PX)|not (a:PX)|ife (c a b:PX)
 |call (f:Str) (as:PX)
 |bi (f:Bi) (as:PX)|isi (a c:PX)|prm (o:Prm) (as:PX)
 |mt (m:Mt) (o as:PX)
 |idx (a b:PX)|slc (a lo hi:PX)|nop
 |lst (as:PX)|tup (as:PX)
 |comp (mask:List Bool) (tgs:LS) (tg:Tg) (ik:ItK) (its cond elt:PX)
 |anil|acons (a as:PX)|eff (a:PX)|dsp (ks:LS) (vs:PX)
structure Ev where
 sp:Str->Sp
 va:Str->V
 dc:Str->Option (List (Str×V))
structure W3 where
 e:TE
 t:TT
 a:TA
def never:W3:=#[λ_ _ _=>False,λ_ _ _=>False,λ_ _ _=>False]
def yG(K:QC)(x:V)(H:Hp)(Q:Bool->Hp->Prop):Prop:=match x with
 | .bl b=>Q b H|.int i=>Q (i != 0) H|.non=>Q Kz H|.str z=>z.9<=ke/\Q ((z.9:Int) != 0) H|x=>∃k,Pn K x H k/\Q k H
def nS(x:V)(H:Hp)(Q:Bool->Hp->Prop):Prop:=match x with
 | .bl b=>Q b H|_=>False
def Be(K:QC):hT->R2
 | .Add=>mq K|.Sub=>Tp|.Mult=>kq K|.FloorDiv=>Vf|.Mod=>vq|.Pow=>yq|_=>λ_ _ _ _=>False
def pY(h:Bool):R2:=λx y H Q=>match y with
 | .non=>Q (.bl (if h then !decide (x=.non) else decide (x=.non))) H|_=>False
def RH(K:QC):fb->R2
 | .Eq=>rEq K Kz|.NotEq=>rEq K j3|.Lt=>tZ λi j=>decide (i<j)|.LtE=>tZ λi j=>decide (i<=j)|.Gt=>tZ λi j=>decide (j<i)|.GtE=>tZ λi j=>decide (j<=i)|.In=>ZV K Kz|.NotIn=>ZV K j3|.Is=>pY Kz|.IsNot=>pY j3
def N5(K:QC):R2:=λx y H Q=>match x,y with
 | .str z,.int i=>z.9<=ke/\∃c,FB z.cps.toList i=jb c/\Q (.str #[(List.toArray [c])]) H|.ref a,.int i=>∃h v,(mD K H a h∨GE K H a h)/\FB h i=jb v/\Q v H|_,_=>False
def fq:LV->Hp->VK->Prop:=λvs H Q=>(∃i,vs=[.int i]/\Q (.int i) H)∨(∃b,vs=[.bl b]/\Q (.int (if b then 1 else 0)) H)∨∃z n,vs=[.str z]/\z.9<=640/\intText? z=jb n/\Q (.int n) H
def Ap:LV->Hp->VK->Prop:=λvs H Q=>(∃i,vs=[.int i]/\i.natAbs.log2<1920/\Q (.str (n6 i)) H)∨∃z,vs=[.str z]/\Q (.str z) H
def xq(g:Bool):LV->Hp->VK->Prop:=λvs H Q=>∃i j,vs=[.int i,.int j]/\Q (.int (if g then(if j > i then j else i) else(if j<i then j else i))) H
def Cb(K:QC):LV->Hp->VK->Prop:=λvs H Q=>∃p h,vs=[.ref p]/\(mD K H p h∨GE K H p h)/\∀l,H l=js->Q (.ref l) (LA H l (.lst h))
def Pj(K:QC):LV->Hp->VK->Prop:=λvs H Q=>∃p h,vs=[.ref p]/\((mD K H p h/\∀l,H l=js->Q (.ref l) (LA H l (.tup h)))∨(GE K H p h/\Q (.ref p) H))
def zt(K:QC):Bi->LV->Hp->VK->Prop
 | .len=>uq K|.all=>lq K|.int=>fq|.str=>Ap|.max=>xq j3|.any=>gq K|.list=>Cb K|.tuple=>Pj K
def O5:V->LV->Hp->VK->Prop:=λx vs H Q=>∃l h y,x=.ref l/\vs=[y]/\H l=jb (.lst h)/\h.9<ke/\Q .non (LA H l (.lst (h++[y])))
def Xf:V->LV->Hp->VK->Prop:=λx vs H Q=>∃l b y h,x=.ref l/\vs=[.ref b]/\H l=jb (.lst y)/\H b=jb (.lst h)/\y.9+h.9<=ke/\Q .non (LA H l (.lst (y++h)))
def bE{α:Type}(xs:List α)(k:Nat)(y:α):List α:=xs.take k++y::xs.drop k
def Kf:V->LV->Hp->VK->Prop:=λx vs H Q=>∃l i y h,x=.ref l/\vs=[.int i,y]/\H l=jb (.lst h)/\(0<=i/\i<=h.9)/\h.9<ke/\Q .non (LA H l (.lst (bE h i.toNat y)))
def Zf(K:QC):V->LV->Hp->VK->Prop:=λx vs H Q=>∃z b,∃h:LS,x=.str z/\vs=[.ref b]/\mD K H b (h.map V.str)/\(h.map (·.length)).sum+h.9 * z.9<=16777216/\Q (.str (wm z h)) H
def Yd(K:QC):Mt->V->LV->Hp->VK->Prop
 | .split=>M5|.append=>O5|.join=>Zf K|.extend=>Xf|.insert=>Kf
def Mt.ty:Mt->String
 | .split=>"str"|.join=>"str"|.extend=>"list"|.insert=>"list"|.append=>"list"
def TM(x:V)(H:Hp)(Q:Option Int->Hp->Prop):Prop:=match x with
 | .int i=>Q (jb i) H|_=>False
inductive Item where
 |one (v:V)|tup (vs:LV)
def NB(K:QC):ItK->LV->Hp->(List Item->(Hp->Prop)->Hp->Prop)->Prop
 | .val,vs,H,R=>(∃z,vs=[.str z]/\R (z.cps.toList.map λc=>.one (.str #[(List.toArray [c])])) (λ_=>True) H)∨(∃a h,vs=[.ref a]/\mD K H a h/\R (h.map .one) (λH=>mD K H a h) H)∨(∃a h,vs=[.ref a]/\GE K H a h/\R (h.map .one) (λH=>GE K H a h) H)|.rng1,vs,H,R=>∃j,vs=[.int j]/\(-(2 ^ 62)<=j/\j<2 ^ 62)/\R ((QH j.toNat).map λ(i:Nat)=>.one (.int (i:Int))) (λ_=>True) H|.zip2,vs,H,R=>∃y x h u,vs=[Src.v y,Src.v x]/\gK K H y h/\gK K H x u/\R ((h.zip u).map λp=>.tup [p.1,p.2]) (λH=>gK K H y h/\gK K H x u) H|.enum,vs,H,R=>∃z h,vs=[Src.v z]/\gK K H z h/\R (h.zipIdx.map λp=>.tup [.int (p.2:Int),p.1]) (λH=>gK K H z h) H|.enumA,vs,H,R=>∃n z h,vs=[Src.v z,.int n]/\gK K H z h/\(0<=n/\n<2 ^ 62)/\R (h.zipIdx.map λp=>.tup [.int (((n.toNat+p.2:Nat)):Int),p.1]) (λH=>gK K H z h) H
def dB:LN->LV->St->Option St
 |[],[],σ=>jb σ|i::is,v::vs,σ=>dB is vs (σ.set i (jb v))|_,_,_=>js
def nH(K:QC):Tg->TG
 | .nm i=>λv x H Q=>Q (x.set i (jb v)) H|.tp z=>λv x H Q=>match v with
  | .ref p=>∃y h,GE K H p y/\dB z y x=jb h/\Q h H|_=>False
def Er(K:QC)(t:Re):TG:=λv x H Q=>∃a h,v=.ref a/\mD K H a h/\h.9=2/\t h x H Q
def bindL(K:QC)(z:LN):TG:=λv y H Q=>match v with
 | .ref p=>∃x h,mD K H p x/\x.9=2/\dB z x y=jb h/\Q h H|_=>False
def bindI(K:QC)(y:Tg):Item->St->Hp->(St->Hp->Prop)->Prop
 | .one v=>nH K y v|.tup vs=>λx H Q=>match y with
  | .tp u=>∀z,Same H z->∃h,dB u vs x=jb h/\Q h z|.nm i=>∀p,H p=js->Q (x.set i (jb (.ref p))) (LA H p (.tup vs))
def Us(K:QC)(xs:List Item)(st:Hp->Prop)(bind:Item->St->Hp->(St->Hp->Prop)->Prop)(tc:TT)(te:TE)(σ:St)(H:Hp)(Q:VK):Prop :=
 ∃W:Nat->LV->Hp->Prop,W 0 [] H/\(∀i h H,i<=xs.9->W i h H->st H) /\
  (∀i x h H,xs[i]?=jb x->W i h H->bind x σ H λz u=>tc z u λb k=>if b=j3 then te z k λy a=>h.9<ke/\W (i+1) (h++[y]) a else W (i+1) h k) /\
  ∀h u,W xs.9 h u->h.9<=ke/\∀p,u p=js->Q (.ref p) (LA u p (.lst h))
structure Yields(J:It)(xs:List Item)(st:Hp->Prop):Prop where
 go:∀i H,st H->i<xs.9->J.go i H
 yld:∀i H x H',st H->i<xs.9->J.yld i H x H'->∃it,xs[i]?=jb it/\match it with
  | .one v=>x=v/\H'=H|.tup vs=>∃p,H p=js/\x=.ref p/\H'=LA H p (.tup vs)
 stop:∀i H,st H->xs.9<=i->J.stop i H
def Bs(J:It)(g:TG)(tc:TT)(te:TE)(e:St)(q:Hp)(Q:VK):Prop:=∃W:Nat->Nat->LV->St->Hp->Prop,(∃m,W 0 m [] e q) /\
 ∀i m h k u,W i m h k u->(J.stop i u/\h.9<=ke/\∀p,u p=js->Q (.ref p) (LA u p (.lst h))) ∨
  (J.go i u/\∀x l,J.yld i u x l->g x k l λz o=>tc z o λb j=>if b=j3 then te z j λy n=>h.9<ke/\∃a,a < m/\W (i+1) a (h++[y]) z n else ∃a,a < m/\W (i+1) a h z j)
def aQ(K:QC)(xs:List Item)(st:Hp->Prop)(x:Tg)(tc:TT)(te:TE)(h:St)(H:Hp)(Q:VK):Prop:=∀J,Yields J xs st->Bs J (nH K x) tc te h H Q
def Dv:V->V->Hp->VK->Prop:=λx y H Q=>∃a v,x=.ref a/\B3 H a y (jb v)/\Q v H
def iZ(K:QC)(Γ:Ev):Prm->LV->Hp->VK->Prop
 | .dget x,[.str z],H,Q=>∃h,Γ.dc x=jb h/\Q ((h.lookup z).getD .non) H|.dix x,[.str z],H,Q=>∃h v,Γ.dc x=jb h/\h.lookup z=jb v/\Q v H|.tmul,[x,y],H,Q=>Jf K x y H Q|.plc,[x],H,Q=>zq K [x] H Q|.isC,[x,y],H,Q=>Rj K [x,y] H Q|.dgt,[x,y],H,Q=>Dv x y H Q|.isT _ m,[x],H,Q=>Rj K [x,.ty m] H Q|.dgetD x,[.str z,d],H,Q=>∃h,Γ.dc x=jb h/\Q ((h.lookup z).getD d) H|_,_,_,_=>False
def isNop:PX->Bool
 | .nop=>j3|_=>Kz
def wp(K:QC)(Γ:Ev):PX->XK->W3
 | .var i,E=>let e:TE:=λh H Q=>match h[i]? with
   |some (jb v)=>Q v H|_=>False
  #[e,λh H Q=>e h H λx g=>yG K x g Q,never.a]
 | .int i,E=>#[λ_ H Q=>Q (.int i) H,λ_ H Q=>Q (i != 0) H,never.a]|.str x,E=>#[λ_ H Q=>Q (.str x) H,never.t,never.a]|.bl b,E=>#[λ_ H Q=>Q (.bl b) H,λ_ H Q=>Q b H,never.a]|.non,E=>#[λ_ H Q=>Q .non H,λ_ H Q=>Q Kz H,never.a]|.glo x,E=>#[λ_ H Q=>Q (Γ.va x) H,λ_ H Q=>yG K (Γ.va x) H Q,never.a]|.bty _ n,E=>#[λ_ H Q=>Q (.ty n) H,never.t,never.a]|.bin op a b,E=>let e:TE:=λh H Q=>(wp K Γ a E).e h H λx g=>(wp K Γ b E).e h g λy j=>Be K op x y j Q
  #[e,λh H Q=>e h H λx g=>yG K x g Q,never.a]
 | .cmp op a b,E=>let e:TE:=λh H Q=>(wp K Γ a E).e h H λx g=>(wp K Γ b E).e h g λy j=>RH K op x y j Q
  #[e,λh H Q=>e h H λx g=>nS x g Q,never.a]
 | .chn o p a b c,E=>let e:TE:=λh H Q=>(wp K Γ a E).e h H λx g=>(wp K Γ b E).e h g λy j=>RH K o x y j λz s=>nS z s λk Y=>if k=j3 then(wp K Γ c E).e h Y λZ W=>RH K p y Z W Q else Q (.bl Kz) Y
  #[e,λh H Q=>e h H λx g=>nS x g Q,never.a]
 | .and a b,E=>#[λh H Q=>(wp K Γ a E).e h H λx g=>nS x g λc j=>if c=j3 then(wp K Γ b E).e h j Q else Q (.bl Kz) j,
   λh H Q=>(wp K Γ a E).t h H λc g=>if c=j3 then(wp K Γ b E).t h g Q else Q Kz g,never.a]
 | .or a b,E=>#[λh H Q=>(wp K Γ a E).e h H λx g=>nS x g λc j=>if c=j3 then Q (.bl j3) j else(wp K Γ b E).e h j Q,
   λh H Q=>(wp K Γ a E).t h H λc g=>if c=j3 then Q j3 g else(wp K Γ b E).t h g Q,never.a]
 | .not a,E=>#[λh H Q=>(wp K Γ a E).e h H λx g=>yG K x g λc j=>Q (.bl (!c)) j,λh H Q=>(wp K Γ a E).t h H λc g=>Q (!c) g,never.a]|.ife c a b,E=>#[λh H Q=>(wp K Γ c E).t h H λk g=>if k=j3 then(wp K Γ a E).e h g Q else(wp K Γ b E).e h g Q,never.t,never.a]|.call f as,E=>let e:TE:=λh H Q=>(wp K Γ as E).a h H λvs g=>Γ.sp f vs g Q E
  #[e,λh H Q=>e h H λx g=>yG K x g Q,never.a]
 | .bi f as,E=>let e:TE:=λh H Q=>(wp K Γ as E).a h H λvs g=>zt K f vs g Q
  #[e,λh H Q=>e h H λx g=>yG K x g Q,never.a]
 | .prm o as,E=>let e:TE:=λh H Q=>(wp K Γ as E).a h H λvs g=>iZ K Γ o vs g Q
  #[e,λh H Q=>e h H λx g=>yG K x g Q,never.a]
 | .isi a c,E=>let e:TE:=λh H Q=>(wp K Γ a E).e h H λx g=>(wp K Γ c E).e h g λy j=>Db K [x,y] j Q
  #[e,λh H Q=>e h H λx g=>yG K x g Q,never.a]
 | .mt m o as,E=>let e:TE:=λh H Q=>(wp K Γ o E).e h H λx g=>C3 K m.ty x g/\(wp K Γ as E).a h g λvs j=>Yd K m x vs j Q
  #[e,λh H Q=>e h H λx g=>yG K x g Q,never.a]
 | .idx a b,E=>let e:TE:=λh H Q=>(wp K Γ a E).e h H λx g=>(wp K Γ b E).e h g λy j=>N5 K x y j Q
  #[e,λh H Q=>e h H λx g=>yG K x g Q,never.a]
 | .slc a lo hi,E=>#[λh H Q=>(wp K Γ a E).e h H λx g =>
   (if isNop lo=j3 then λ(R:Option Int->Hp->Prop)=>R js g else λR=>(wp K Γ lo E).e h g λl j=>TM l j R) λl j =>
   (if isNop hi=j3 then λ(R:Option Int->Hp->Prop)=>R js j else λR=>(wp K Γ hi E).e h j λu s=>TM u s R) λu s=>Bu K x l u s Q,never.t,never.a]
 | .nop,E=>never|.lst as,E=>#[λh H Q=>(wp K Γ as E).a h H λq g=>q.9<=ke/\∀p,g p=js->Q (.ref p) (LA g p (.lst q)),never.t,never.a]|.tup as,E=>#[λh H Q=>(wp K Γ as E).a h H λq g=>q.9<=ke/\∀p,g p=js->Q (.ref p) (LA g p (.tup q)),never.t,never.a]|.comp mask tgs tg ik its cond elt,E=>#[λh H Q=>(wp K Γ its E).a h H λvs g=>NB K ik vs g λq st j =>
   aQ K q st tg (if isNop cond=j3 then λ_ H Q=>Q j3 H else(wp K Γ cond (λ_ _ _=>False)).t) (wp K Γ elt (λ_ _ _=>False)).e (sG tgs.9 mask h) j Q,never.t,never.a]
 | .eff a,E=>#[(wp K Γ a E).e,never.t,never.a]|.dsp ks vs,E=>#[λh H Q=>∀p,H p=js->(wp K Γ vs E).a h (LA H p (.dK [])) λq j=>j p=jb (.dK [])/\∃r:List (AD×V),(ks.map V.str).zip q=r.map (λX=>(kV X.1,X.2))/\r.9<=15/\Q (.ref p) (LA j p (.dK (vH [] r))),never.t,never.a]|.anil,E=>#[never.e,never.t,λ_ H Q=>Q [] H]|.acons a as,E=>#[never.e,never.t,λh H Q=>(wp K Γ a E).e h H λx g=>(wp K Γ as E).a h g λq j=>Q (x::q) j]
structure Glob where
 ev:Ev
 fn:Str->Prop
 val:Str->Prop
 no:Str->Prop
 dc:Str->Prop
def Bi.nm:Bi->Str
 | .len=>"len"|.all=>"all"|.int=>"int"|.str=>"str"|.max=>"max"|.any=>"any"|.list=>"list"|.tuple=>"tuple"
def Mt.nm:Mt->Str
 | .split=>"split"|.append=>"append"|.join=>"join"|.extend=>"extend"|.insert=>"insert"
def Du(G:Glob):ItK->Prop
 | .val=>True|.rng1=>G.no "range"|.zip2=>G.no "zip"|.enum | .enumA=>G.no "enumerate"
def tq(G:Glob):Prm->Prop
 | .dget x | .dix x | .dgetD x=>G.dc x
 | .tmul=>True|.plc=>True|.dgt=>True|.isC=>G.no "isinstance"|.isT x m=>G.no "isinstance"/\G.no x/\Zz x=jb (.type m)
def RA(G:Glob):PX->Prop
 | .glo x=>G.val x|.bty x n=>G.no x/\Zz x=jb (.type n)|.bin _ a b | .cmp _ a b | .and a b | .or a b | .idx a b | .acons a b=>RA G a/\RA G b
 | .not a | .lst a | .tup a | .eff a | .dsp _ a=>RA G a
 | .chn _ _ a b c | .ife a b c | .slc a b c=>RA G a/\RA G b/\RA G c
 | .call f h=>G.fn f/\RA G h|.bi f h=>G.no f.nm/\RA G h|.prm o h=>tq G o/\RA G h|.isi a c=>G.no "isinstance"/\RA G a/\RA G c|.mt _ o h=>RA G o/\RA G h|.comp _ _ _ k z y u=>Du G k/\RA G z/\RA G y/\RA G u|_=>True
structure SC where
 N:LS
 sc:gV
def eB(e:Expr):Bool:=e.ctorIdx != 22
def Y4(S:SC)(i:Nat)(x:Str):Bool :=
 S.N[i]?==jb x&&(S.sc.names.lookup x==jb .local||S.sc.names.lookup x==jb .cell||S.sc.names.lookup x==jb .free)&&x != "__debug__" && x != "__classdict__"
def sR(S:SC)(i:Nat)(x:Str):Bool:=S.N[i]?==jb x&&S.sc.names.lookup x==jb .local
def NJ(S:SC)(x:Str):Bool:=S.sc.names.lookup x==jb .globalImplicit&&x != "__debug__" && x != "__name__"
def HY(S:SC)(h:gV)(y:LS)(x:List Bool):SC:=#[y++sC x 0 S.N,UM h S.sc]
def zH:LS->Bool
 |[]=>j3|x::r=>!r.contains x&&zH r
def J9(S:SC)(h:gV)(z:LS)(x:List Bool):Bool :=
 h.kind==.function&&h.names.all (λy=>y.2 != .cell&&(y.2 != .local||(h.names.lookup y.1==jb .local&&(z.contains y.1||y.1==(".0":Str)))) &&
  (y.2 != .free||S.sc.names.lookup y.1==jb .cell||S.sc.names.lookup y.1==jb .free))&&zH (z++sC x 0 S.N)&&!(z++sC x 0 S.N).contains (".0":Str)
def dR:Expr->Bool
 | .Call (.Name _ _) [] [] _=>Kz|_=>j3
def mP(e:Expr):Bool:=e.ctorIdx != 7
def fG(e:Expr):Bool:=e.ctorIdx != 26
def LC:PX->Bool
 | .anil=>j3|.acons _ r=>LC r|_=>Kz
def JN(e:Expr):Bool:=e.ctorIdx==25
section
variable{α:Type}
def pB(e:Expr)(f:Str->Pos->Bool):Bool:=if k:e.ctorIdx=23 then @Expr.Name.elim (λ_=>Bool) e k λx p=>f x p else Kz
def sF(e:Expr)(f:e4->Bool):Bool:=if k:e.ctorIdx=19 then @QCT (λ_=>Bool) e k λc _ _=>f c else Kz
def vY(e:Expr)(f:Expr->hT->Expr->Pos->Bool):Bool:=if k:e.ctorIdx=2 then @QDb (λ_=>Bool) e k λl o r p=>f l o r p else Kz
def Nk(e:Expr)(f:UnaryOp->Expr->Bool):Bool:=if k:e.ctorIdx=3 then @QCp (λ_=>Bool) e k λo x _=>f o x else Kz
def zY(e:Expr)(f:Expr->List fb->List Expr->Bool):Bool:=if k:e.ctorIdx=15 then @QCq (λ_=>Bool) e k λl os h _=>f l os h else Kz
def yR(e:Expr)(f:BoolOp->List Expr->Pos->Bool):Bool:=if k:e.ctorIdx=0 then @QDJ (λ_=>Bool) e k λo h p=>f o h p else Kz
def Sk(e:Expr)(f:Expr->Expr->Expr->Bool):Bool:=if k:e.ctorIdx=5 then @QDc (λ_=>Bool) e k λt l r _=>f t l r else Kz
def ZI(e:Expr)(f:Expr->List Expr->List fy->Pos->Bool):Bool:=if k:e.ctorIdx=16 then @Expr.Call.elim (λ_=>Bool) e k λg x h p=>f g x h p else Kz
def kN(e:Expr)(f:Expr->Str->Pos->Bool):Bool:=if k:e.ctorIdx=20 then @QCB (λ_=>Bool) e k λv n p=>f v n p else Kz
def yI(e:Expr)(f:Expr->Expr->Pos->Bool):Bool:=if k:e.ctorIdx=21 then @QCC (λ_=>Bool) e k λv i p=>f v i p else Kz
def IQ(e:Expr)(f:Option Expr->Option Expr->Option Expr->Bool):Bool:=if k:e.ctorIdx=26 then @QDd (λ_=>Bool) e k λl h s _=>f l h s else Kz
def zN(e:Expr)(f:List Expr->Pos->Bool):Bool:=if k:e.ctorIdx=24 then @Expr.List.elim (λ_=>Bool) e k λh p=>f h p else Kz
def HS(e:Expr)(f:List Expr->Nat->Pos->Bool):Bool:=if k:e.ctorIdx=25 then @QDe (λ_=>Bool) e k λh k p=>f h k p else Kz
def UZ(e:Expr)(f:Expr->List eH->gV->Pos->Bool):Bool:=if k:e.ctorIdx=8 then @QCU (λ_=>Bool) e k λx h sc p=>f x h sc p else Kz
def KI(l:List α)(f:α->Bool):Bool:=match l with | [x]=>f x|_=>Kz
def e7(l:List α)(f:α->α->Bool):Bool:=match l with | [x,y]=>f x y|_=>Kz
def bx(l:List α)(f:α->α->α->Bool):Bool:=match l with | [x,y,z]=>f x y z|_=>Kz
def l7(l:List α)(f:α->List α->Bool):Bool:=match l with|x::r=>f x r|_=>Kz
def Cu(o:Option α)(n:Bool)(f:α->Bool):Bool:=match o with|none=>n|some x=>f x
def ON[Decidable c]{a:c->Bool}(h:(if k:c then a k else Kz)=j3):∃k,a k=true:=by by_cases k:c;rw[dif_pos k]at h;exact#[k,h];rw[dif_neg k]at h;cases h
def VB[Decidable c]{a:c->Bool}(h:(if k:c then a k else Kz)=j3):c:=(ON h).elim λk _=>k
def kB{C:Expr->Prop}(h:pB e f=j3)(K:∀x p,f x p=j3->C (.Name x p)):C e :=
 @Expr.Name.elim (λe=>pB e f=j3->C e) e (VB h) K h
def jN(h:pB e f=j3):∃x p,e=.Name x p/\f x p=true:=(kB (C:=λe=>∃y z,e=.Name y z/\f y z=j3) h) λx p h=>#[x,p,rfl,h]
def DE{C:Expr->Prop}(h:sF e f=j3)(K:∀c k p,f c=j3->C (.Constant c k p)):C e :=
 @QCT (λe=>sF e f=j3->C e) e (VB h) K h
def kY{C:Expr->Prop}(h:vY e f=j3)(K:∀l o r p,f l o r p=j3->C (.BinOp l o r p)):C e :=
 @QDb (λe=>vY e f=j3->C e) e (VB h) K h
def Mk{C:Expr->Prop}(h:Nk e f=j3)(K:∀o x p,f o x=j3->C (.UnaryOp o x p)):C e :=
 @QCp (λe=>Nk e f=j3->C e) e (VB h) K h
def yY{C:Expr->Prop}(h:zY e f=j3)(K:∀l os x p,f l os x=j3->C (.Compare l os x p)):C e :=
 @QCq (λe=>zY e f=j3->C e) e (VB h) K h
def NS{C:Expr->Prop}(h:yR e f=j3)(K:∀o x p,f o x p=j3->C (.BoolOp o x p)):C e :=
 @QDJ (λe=>yR e f=j3->C e) e (VB h) K h
def Rk{C:Expr->Prop}(h:Sk e f=j3)(K:∀t l r p,f t l r=j3->C (.IfExp t l r p)):C e :=
 @QDc (λe=>Sk e f=j3->C e) e (VB h) K h
def YJ{C:Expr->Prop}(h:ZI e f=j3)(K:∀g x ks p,f g x ks p=j3->C (.Call g x ks p)):C e :=
 @Expr.Call.elim (λe=>ZI e f=j3->C e) e (VB h) K h
def MS(h:ZI e f=j3):∃g z ks p,e=.Call g z ks p/\f g z ks p=true:=(YJ (C:=λe=>∃k y x u,e=.Call k y x u/\f k y x u=j3) h) λg z ks p h=>#[g,z,ks,p,rfl,h]
def OS{C:Expr->Prop}(h:kN e f=j3)(K:∀v n p,f v n p=j3->C (.Attribute v n p)):C e :=
 @QCB (λe=>kN e f=j3->C e) e (VB h) K h
def t7(h:kN e f=j3):∃v n p,e=.Attribute v n p/\f v n p=true:=(OS (C:=λe=>∃x z y,e=.Attribute x z y/\f x z y=j3) h) λv n p h=>#[v,n,p,rfl,h]
def rE{C:Expr->Prop}(h:yI e f=j3)(K:∀v i p,f v i p=j3->C (.Subscript v i p)):C e :=
 @QCC (λe=>yI e f=j3->C e) e (VB h) K h
def XZ{C:Expr->Prop}(h:IQ e f=j3)(K:∀l u s p,f l u s=j3->C (.Slice l u s p)):C e :=
 @QDd (λe=>IQ e f=j3->C e) e (VB h) K h
def yN{C:Expr->Prop}(h:zN e f=j3)(K:∀x p,f x p=j3->C (.List x p)):C e :=
 @Expr.List.elim (λe=>zN e f=j3->C e) e (VB h) K h
def EL{C:Expr->Prop}(h:HS e f=j3)(K:∀x k p,f x k p=j3->C (.Tuple x k p)):C e :=
 @QDe (λe=>HS e f=j3->C e) e (VB h) K h
def jR{C:Expr->Prop}(h:UZ e f=j3)(K:∀x y sc p,f x y sc p=j3->C (.ListComp x y sc p)):C e :=
 @QCU (λe=>UZ e f=j3->C e) e (VB h) K h
def Pk(h:UZ e f=j3):∃x u sc p,e=.ListComp x u sc p/\f x u sc p=true:=(jR (C:=λe=>∃k z y a,e=.ListComp k z y a/\f k z y a=j3) h) λx u sc p h=>#[x,u,sc,p,rfl,h]
def Dq(h:l7 l f=j3):∃x r,l=x::r/\f x r=true:=by
 cases l with|nil=>exact(QD h).elim|cons x r=>exact#[x,r,rfl,h]
def ZJ{C:List α->Prop}(h:l7 l f=j3)(K:∀x r,f x r=j3->C (x::r)):C l:=by let#[x,r,rfl,h]:=Dq h;exact K x r h
def Nf(h:KI l f=j3):∃x,l=[x]/\f x=true:=by
 cases l with
 |nil=>exact(QD h).elim|cons x r =>
  cases r with|nil=>exact#[x,rfl,h]|cons _ _=>exact(QD h).elim
def oB{C:List α->Prop}(h:KI l f=j3)(K:∀x,f x=j3->C ([x])):C l:=by let#[x,rfl,h]:=Nf h;exact K x h
def Mf(h:e7 l f=j3):∃x y,l=[x,y]/\f x y=true:=by
 cases l with
 |nil=>exact(QD h).elim|cons x r =>
  let#[y,e,h]:=Nf (l:=r) (f:=f x) (by
   cases r with|nil=>exact h|cons y r=>cases r<;>exact h)
  exact#[x,y,by rw[e],h]
def KJ{C:List α->Prop}(h:e7 l f=j3)(K:∀x y,f x y=j3->C ([x,y])):C l:=by let#[x,y,rfl,h]:=Mf h;exact K x y h
def Fq(h:bx l f=j3):∃x y z,l=[x,y,z]/\f x y z=true:=by
 cases l with
 |nil=>exact(QD h).elim|cons x r =>
  let#[y,z,e,h]:=Mf (l:=r) (f:=f x) (by
   cases r with
   |nil=>exact h|cons y r=>cases r with|nil=>exact h|cons z r=>cases r<;>exact h)
  exact#[x,y,z,by rw[e],h]
end
def xo(S:SC):Tg->Expr->Bool
 | .nm i,e=>pB e λx _=>sR S i x|.tp is,e=>HS e λh _ _=>is.9==h.9&&(is.zip h).all λp=>pB p.2 λx _=>sR S p.1 x
def Ms(c:e4)(f:Int->Bool):Bool:=match c with | .int i=>f i|_=>Kz
def Je(c:e4)(f:Str->Bool):Bool:=match c with | .str i=>f i|_=>Kz
def yh(c:e4)(f:Bool->Bool):Bool:=match c with | .bool i=>f i|_=>Kz
def jh(c:e4):Bool:=match c with | .none=>j3|_=>Kz
def jn(h:Ms c f=j3):∃i,c=.int i/\f i=true:=by
 cases c with|int i=>exact#[i,rfl,h]|_=>exact(QD h).elim
def cX(h:Je c f=j3):∃i,c=.str i/\f i=true:=by
 cases c with|str i=>exact#[i,rfl,h]|_=>exact(QD h).elim
def Ze(h:yh c f=j3):∃i,c=.bool i/\f i=true:=by
 cases c with|bool i=>exact#[i,rfl,h]|_=>exact(QD h).elim
def Ye(h:jh c=j3):c=.none:=by
 cases c with|none=>rfl|_=>exact(QD h).elim
def jA(h:(a&&b)=j3):a=j3/\b=true:=by cases a<;>cases b<;>first|exact#[rfl,rfl]| exact(QD h).elim
def lH(S:SC)(n:Str)(e:Expr)(f:List Expr->List fy->Pos->Bool):Bool:=ZI e λg y h p=>pB g λx _=>n==x&&(NJ S x&&f y h p)
def uD(h:lH S n e f=j3):∃z y ks p,e=.Call (.Name n z) y ks p/\NJ S n=j3/\f y ks p=true:=by let#[g,y,ks,p,rfl,b]:=MS h;let#[x,z,rfl,a]:=jN b;have k:=jA a;have u:=jA k.2;have e:=Qn k.1;exact#[z,y,ks,p,by rw[e],by rw[e];exact u.1,u.2]
def dY(n:Str)(e:Expr)(f:Expr->List Expr->Pos->Pos->Bool):Bool:=ZI e λg z y p=>kN g λv x h=>n==x&&(y.isEmpty&&(h.endLine==p.line&&f v z h p))
def rR(h:dY n e f=j3):∃v ap y p,e=.Call (.Attribute v n ap) y [] p/\(ap.endLine==p.line)=j3/\f v y ap p=true:=by let#[g,y,j,p,rfl,b]:=MS h;let#[v,x,ap,rfl,a]:=t7 b;have k:=jA a;have u:=jA k.2;have z:=jA u.2;have e:=Qn k.1;have i:=Q3.mp u.1;exact#[v,ap,y,p,by rw[e,i],z.1,z.2]
def kg(h:BoolOp)(r:Expr)(rest:List Expr)(pos:Pos):Expr:=match rest with
 |[]=>r|q::t=>.BoolOp h (r::q::t) pos
def Iv(y:Bool)(S:SC)(z:ItK)(c:List Expr->Pos->Bool)(t it:Expr)(pos:Pos):Bool:=match z with
 | .val=>y&&c [it] pos|.rng1=>lH S "range" it λx h p=>h.isEmpty&&KI x λa=>c [a] p|.zip2=>JN t&&lH S "zip" it λx h p=>h.isEmpty&&e7 x λa b=>c [a,b] p|.enum=>JN t&&lH S "enumerate" it λx h p=>h.isEmpty&&KI x λa=>c [a] p|.enumA=>JN t&&(y&&lH S "enumerate" it λx h p=>KI x λa=>KI h λk=>k.arg==jb ("start":Str)&&c [a,k.value] p)
def MV(e:Expr)(f:List (Option Expr)->List Expr->Pos->Bool):Bool:=if k:e.ctorIdx=6 then @Expr.Dict.elim (λ_=>Bool) e k λh vs p=>f h vs p else Kz
def g7{C:Expr->Prop}(h:MV e f=j3)(K:∀ks vs p,f ks vs p=j3->C (.Dict ks vs p)):C e :=
 @Expr.Dict.elim (λe=>MV e f=j3->C e) e (VB h) K h
def Gu:LS->List (Option Expr)->Bool
 |[],[]=>j3|k::ks,jb e::es=>(sF e λc=>Je c λz=>k==z)&&Gu ks es|_,_=>Kz
def Fv(S:SC)(c:List Expr->Pos->Bool)(e:Expr):Prm->Bool
 | .dget y=>dY "get" e λv h _ p=>pB v λx _=>y==x&&(NJ S x&&KI h λa=>c [a] p)|.dgetD y=>dY "get" e λv h _ p=>pB v λx _=>y==x&&(NJ S x&&e7 h λa b=>c [a,b] p)|.dix y=>yI e λv i p=>pB v λx _=>y==x&&(NJ S x&&(fG i&&c [i] p))|.tmul=>vY e λl o r p=>o==.Mult&&c [l,r] p|.plc=>kN e λv n p=>("place":Str)==n&&(dR v&&(eB v&&c [v] p))|.dgt=>yI e λv i p=>fG i&&c [v,i] p|.isC=>lH S "isinstance" e λh z p=>z.isEmpty&&e7 h λa b=>c [a,b] p|.isT x _=>lH S "isinstance" e λh z p=>z.isEmpty&&e7 h λa b=>eB b&&(pB b (λy _=>x==y&&NJ S y)&&c [a] p)
def zw(h:List Expr)(n:Bool)(f:Expr->Bool):Bool:=match h with
 |[]=>n|c::r=>r.isEmpty&&(!n&&f c)
def chk:PX->SC->Expr->Bool
 | .var i,S,e=>pB e λx _=>Y4 S i x|.int i,_,e=>sF e λc=>Ms c λj=>i==j|.str x,_,e=>sF e λc=>Je c λy=>x==y|.bl b,_,e=>sF e λc=>yh c λk=>b==k|.non,_,e=>sF e jh|.glo x,S,e=>pB e λy _=>x==y&&NJ S x|.bty x _,S,e=>pB e λy _=>x==y&&NJ S x|.bin op a b,S,e=>vY e λl o r _=>op==o&&(chk a S l&&chk b S r)|.cmp op a b,S,e=>zY e λl os Z=>KI os λo=>KI Z λr=>op==o&&(mP r&&(chk a S l&&chk b S r))|.chn o p a b c,S,e=>zY e λl os Z=>e7 os λA K=>e7 Z λr q=>o==A&&(p==K&&(mP q&&(chk a S l&&(chk b S r&&chk c S q))))|.and a b,S,e=>yR e λo u p=>o==.And&&l7 u λl t=>l7 t λr t=>chk a S l&&chk b S (kg .And r t p)|.or a b,S,e=>yR e λo u p=>o==.Or&&l7 u λl t=>l7 t λr t=>chk a S l&&chk b S (kg .Or r t p)|.not a,S,e=>Nk e λo x=>o==.Not&&chk a S x|.ife c a b,S,e=>Sk e λt l r=>chk c S t&&(chk a S l&&chk b S r)|.call f as,S,e=>lH S f e λu X p=>X.isEmpty&&chk as S (.List u p)|.bi f as,S,e=>lH S f.nm e λu X p=>X.isEmpty&&l7 u λx t=>chk as S (.List (x::t) p)|.prm o as,S,e=>LC as&&Fv S (λu p=>chk as S (.List u p)) e o|.isi a c,S,e=>lH S "isinstance" e λu X _=>X.isEmpty&&e7 u λl r=>eB l&&(eB r&&(chk a S l&&chk c S r))|.mt m o as,S,e=>dY m.nm e λv u _ p=>LC as&&(dR v&&(decide (u.9<20)&&(chk o S v&&chk as S (.List u p))))|.idx a b,S,e=>yI e λv i _=>fG i&&(chk a S v&&chk b S i)|.slc a lo hi,S,e=>yI e λv W _=>IQ W λl h s=>s.isNone&&(chk a S v&&(Cu l (isNop lo) (λe=>!isNop lo&&chk lo S e)&&Cu h (isNop hi) λe=>!isNop hi&&chk hi S e))|.nop,_,_=>Kz|.lst as,S,e=>zN e λu p=>chk as S (.List u p)|.tup as,S,e=>HS e λu _ p=>chk as S (.List u p)|.comp mask tgs tg ik its cond elt,S,e=>UZ e λC B n p=>KI B λg=>g.is_async==0&&(J9 S n tgs mask&&(xo (HY S n tgs mask) tg g.target&&(mP g.iter &&
   (Iv (LC its) S ik (λu p=>chk its S (.List u p)) g.target g.iter p&&(zw g.ifs (isNop cond) (λc=>chk cond (HY S n tgs mask) c)&&chk elt (HY S n tgs mask) C)))))
 | .eff a,S,e=>(UZ e λx y z w=>chk a S (.ListComp x y z w))||yI e λx y z=>chk a S (.Subscript x y z)
 | .dsp X vs,S,e=>MV e λkeys Y p=>decide (0<X.9/\X.9<=15)&&(Gu X keys&&(decide (keys.length=Y.9)&&(LC vs&&chk vs S (.List Y p))))|.anil,_,e=>zN e λu _=>u.isEmpty|.acons a as,S,e=>zN e λu p=>l7 u λx t=>eB x&&(chk a S x&&chk as S (.List t p))
variable{Γ:Ev}
def Hn(x:V)(H:Hp)(Q:Bool->Hp->Prop):nS x H Q=∃k,x=.bl k/\Q k H:=by
 apply Pz;cases x with|bl b=>exact#[λh=>#[b,rfl,h],λzz=>by let#[k,e,h]:=zz;cases e;exact h]|_=>exact#[λh=>QV h,λzz=>by let#[k,e,h]:=zz;cases e]
def M6(x:V)(H:Hp)(Q:Option Int->Hp->Prop):TM x H Q=∃i,x=.int i/\Q (jb i) H:=by
 apply Pz;cases x with|int b=>exact#[λh=>#[b,rfl,h],λzz=>by let#[k,e,h]:=zz;cases e;exact h]|_=>exact#[λh=>QV h,λzz=>by let#[k,e,h]:=zz;cases e]
def eX(K:QC)(x:V)(H:Hp)(Q:Bool->Hp->Prop):yG K x H Q=∃k,Pn K x H k/\Q k H:=by
 apply Pz;cases x with|bl b=>exact#[λh=>#[b,rfl,h],λ#[k,(e:k=b),h]=>by subst e;exact h]|int i=>exact#[λh=>#[i != 0,rfl,h],λ#[k,(e:k=(i != 0)),h]=>by subst e;exact h]|non=>exact#[λh=>#[Kz,rfl,h],λ#[k,(e:k=Kz),h]=>by subst e;exact h]|str z=>exact#[λh=>#[_,#[h.1,rfl],h.2],λzz=>by let#[k,#[u,y],h]:=zz;subst y;exact#[u,h]]|_=>exact W9
section
variable{X:Cx}
def X6:PE X e never.e:=λ_ _ _ _ _ _ h=>QV h
def DM:PT X e never.t:=λ_ _ _ _ _ _ h=>QV h
def FS:PA X x never.a:=λ_ _ _ _ _ _ _ h=>QV h
def HB(i:PE X a ta)(g:∀y,isTrue a X.env y=(do let v <- y;le a.pos;Dz [v] (truthy v))) :
  PT X a (λσ H Q=>ta σ H λx H'=>yG X.K x H' Q):=by
 intro z s σ H Q I h;refine isTrue_plain (yE (i z s σ H _ I h) λv b x k j e u=>?_) (g _);have u:yG X.K x k Q:=u;rw[eX]at u;exact G4 z b σ k x v Q j e u
def A6:HE X f (λ_ _ _ _=>False):=λ_ _ _ _ _ _ _ _ _ _ _ _ h=>h.elim
def Hk(h:hT):HE X (z4 h) (Be X.K h):=by
 cases h with|Add=>exact op_add|Sub=>exact op_sub|Mult=>exact Fk|FloorDiv=>exact Fc|Mod=>exact op_mod|Pow=>exact op_pow|_=>exact A6
def iK(g:X.A.units+66<eI)(e:fb):HE X (xf e) (RH X.K e):=by
 cases e with
 |Eq=>exact op_eq ()|NotEq=>exact op_ne ()|Lt=>exact TQ _root_.L2.op_lt|LtE=>exact TQ _root_.L2.op_le|Gt=>exact TQ _root_.L2.op_gt|GtE=>exact TQ _root_.L2.op_ge|In=>exact Bq g|NotIn=>exact T6 g|Is =>
  intro z s k H x y v u Q I b a h;cases y with|non=>exact Gk z s k H x _ v u Q I b a #[rfl,h]|_=>exact QV h
 |IsNot =>
  intro z s k H x y v u Q I b a h;cases y with|non=>exact Cc z s k H x _ v u Q I b a #[rfl,h]|_=>exact QV h
def um:Ba X (N5 X.K):=by
 intro k b e s n H x y v u Q I p o h r;refine xm k b e s n H x y v u Q I p o ?_ r;cases x with
 |str z =>
  cases y with|int i=>let#[Y,c,j,q]:=h;exact .inr (.inr #[z,i,c,rfl,rfl,Y,j,q])|_=>exact QV h
 |ref a =>
  cases y with
  |int i=>let#[l,m,g,j,q]:=h;rcases g with g|g;exact .inl #[a,l,i,m,rfl,rfl,g,j,q];exact .inr (.inl #[a,l,i,m,rfl,rfl,g,j,q])
  |_=>exact QV h
 |_=>exact QV h
def yW(h:mP b=j3):ej x b=false:=by cases b<;>first|rfl|cases h
def LQ(h:fG b=j3):SY b:=by intro o i;cases b<;>first|rfl|cases h
def gA(env:Env)(h:eB e=j3):Xz (e::x) env=(Kz,zz e env)::Xz x env:=by cases e<;>first|rfl|cases h
def zW(h:mP e=j3)(x:ky):hR e env x=n5 x:=by cases e<;>first|rfl|cases h
def B7(h:dR o=j3):gi o n env (zz o env)=zz o env:=by
 cases o with
 |Call f z y p =>
  cases f with
  |Name x q=>cases z with
   |nil=>cases y with|nil=>cases h|cons _ _=>rfl
   |cons _ _=>rfl
  |_=>rfl
 |_=>rfl
def Jd:O3 X "list.append" O5:=by intro y s z H x b v u Q I k a h;exact AZ y s z H _ _ v u Q I k a h
def U9:vC X (.type "int") fq:=by
 intro x s y H b k Q I r h;rcases h with h|h|⟨z,n,rfl,hl,a,q⟩
 exact vQ x s y H _ k Q I r (.inl h);exact vQ x s y H _ k Q I r (.inr h);let#[u,rfl,t,rfl]:=ME r;exact PySem.W.KIN.call_text a hl #[.int n,H,I.tok _,#[_,rfl],q]
def K9:vC X (.type "str") Ap:=by
 intro x s y H a k Q I r h;rcases h with h|⟨z,rfl,h⟩
 exact TR x s y H _ k Q I r h;let#[u,rfl,t,rfl]:=ME r;exact PySem.P.str_of_str #[.str z,H,I,#[_,rfl],h]
def D2(hc:X.calm=j3):vC X (.builtin "max") (xq j3):=by intro x s y H u z Q I r h;exact G2 hc x s y H _ z Q I r h
def pd:O3 X "list.extend" Xf:=by intro y s u H x z v a Q I e g h;let#[l,b,z,k,rfl,rfl,h]:=h;exact TZ y s u H _ _ v a Q I e g #[l,b,z,k,rfl,rfl,h]
def ud:O3 X "list.insert" Kf:=by
 intro b s A H x m v B Q I o Y h;let#[l,i,y,m,rfl,rfl,j,E,C,q]:=h;cases o;let#[u,w,rfl,p,a]:=tS Y;let#[t,rfl]:=p;let#[z,k,n,r,hl,e]:=I.lstM j;have Z:ke=16777216:=wP;have g:=r.9;refine WC F.slot_list_insert #[_,e,rfl] F.entry_list_insert (F.args_list_insert_3 _ _ _) (PySem.AutoSeq1.list_insert_list_int_val_1 l k.toArray n i t w (by unfold Builtin.List.listFitsIndex;simp;omega) (by rw[QN];omega)) #[e,?_];refine#[.non,_,I.lset (its':=bE k i.toNat w) j e ?_ ((r.take _).append (.cons a (r.drop _))) ?_,rfl,q];have K:¬ i<0:=()
 have W:min i.toNat k.toArray.size=i.toNat:=by rw[QN];omega
 simp only[K,if_false,W];unfold bE;simp;exact qz (by simp);simp;omega
def A4{ys:LS}(h:YA (ys.map V.str) its):StrsAre its ys:=by
 induction ys generalizing its with
 |nil=>cases h;exact .nil|cons y ys x =>
  cases h with|cons h t=>let#[k,rfl]:=h;exact .cons _ _ (x t)
def vd:O3 X "str.join" (Zf X.K):=by intro y s n H x r v Y Q I a i h;let#[z,b,o,rfl,rfl,m,l,q]:=h;let#[t,rfl]:=a;let#[u,rfl,g]:=ME i;cases g;let#[j,e,p,_]:=I.list m;exact join_list p.isList (by simpa using A4 e) l λZ k=>#[.str _,H,I.tok _,#[_,rfl],q]
def Ps(hc:X.calm=j3)(f:Bi):(∃id,Zz f.nm=jb (.builtin id)/\vC X (.builtin id) (zt X.K f))∨∃T,Zz f.nm=jb (.type T)/\vC X (.type T) (zt X.K f):=by
 cases f with|len=>exact .inl #[_,PySem.boot_len,X9]|all=>exact .inl #[_,PyProof.Rows.boot_all,C9 hc]|int=>exact .inr #[_,PyProof.Rows.boot_int,U9]|str=>exact .inr #[_,PyProof.Rows.boot_str,K9]|any=>exact .inl #[_,PyProof.Rows.boot_any,B9 hc]|list=>exact .inr #[_,PyProof.Rows.boot_list,ER]|tuple=>exact .inr #[_,by kernel_rfl,NO]|max=>exact .inl #[_,by kernel_rfl,D2 hc]
end
end L2.L3
namespace L2.L3
open PySem PySem.Spec PyProof.Rows
structure OkX(X:Cx)(S:SC)(G:Glob)(E:XK):Prop where
 N:X.N=S.N
 sc:X.env.scope=S.sc
 calm:X.calm=j3
 un:X.A.units+66<eI
 fn:∀f,G.fn f->∃(CX:jV) (k:Nat) (a:kl) (fd:x3) (ps:LS),FnOk X.prog X.w X.K X.mg X.base CX k a fd ps (G.ev.sp f)/\Room k X.A/\X.mg f=jb (.ref a)/\qq X.K (.ref a)=j3/\xF X.K fd ps [] /\
  fO CX X E/\∀l H s e s',CX l H s (λ_ _ _=>False) e s'->False
 val:∀x,G.val x->∃u,X.mg x=jb u/\ZA (G.ev.va x) u
 no:∀x,G.no x->X.mg x=js
 dic:∀x,G.dc x->∃a kvs,X.mg x=jb (.ref a)/\G.ev.dc x=jb kvs/\Fa X.prog X.w X.K a kvs
def eO(X:Cx)(Γ:Ev)(E:XK):PX->List Expr->Prop
 | .acons a as,e::es=>PE X e (wp X.K Γ a E).e/\eO X Γ E as es|_,_=>True
structure Snd(X:Cx)(Γ:Ev)(E:XK)(p:PX)(e:Expr):Prop where
 pe:PE X e (wp X.K Γ p E).e
 pt:PT X e (wp X.K Γ p E).t
 pw:∀op es pos,e=.BoolOp op es pos->PW X e (wp X.K Γ p E).t
 pa:∀es pos,e=.List es pos->PA X es (wp X.K Γ p E).a
 pas:∀es pos,e=.List es pos->eO X Γ E p es
def JQ(h:Y4 S i x=j3):S.N[i]?=jb x/\Zt S.sc x/\(x==("__debug__":Str))=Kz/\(x==("__classdict__":Str))=false:=by simp only[Y4,Qc,ql,beq_iff_eq,bne_iff_ne,ne_eq]at h;let#[#[#[k,y],u],z]:=h;refine#[k,?_,by simpa using u,by simpa using z];rcases y with(y|y)|y;exact .inl y;exact .inr (.inl y);exact .inr (.inr y)
def GH(h:sR S i x=j3):S.N[i]?=jb x/\S.sc.names.lookup x=jb .local:=by simp only[sR,Qc,beq_iff_eq]at h;exact h
def CC(h:NJ S x=j3):S.sc.names.lookup x=jb .globalImplicit/\(x==("__debug__":Str))=Kz/\x≠"__name__":=by simp only[NJ,Qc,beq_iff_eq,bne_iff_ne,ne_eq]at h;exact#[h.1.1,by simpa using h.1.2,h.2]
def rD:∀{l:LS},zH l=j3->l.Nodup
 |[],_=>QBy|x::r,h=>by simp only[zH,Qc,wx]at h;exact wH.mpr #[by simpa using h.1,rD h.2]
def dU(h:J9 S x k z=j3):CompSt S.N S.sc x k z:=by simp only[J9,Qc,Qr,beq_iff_eq,wx]at h;let#[#[#[i,a],g],b]:=h;refine#[i,λy u e=>?_,λy u e=>?_,λy u e=>?_,λy u e=>?_,rD g,by simpa using b];have:=(a y u).1.1;rw[e]at this;exact n9 this (by decide);have:=(a y u).1.2;rw[e]at this;simp at this;exact this.1;have:=(a y u).2;rw[e]at this;simp at this;exact this;have:=(a y u).1.2;rw[e]at this;simp at this;exact this.2
def OkX.comp(ok:OkX X S G E)(x:gV)(u:LS)(y:List Bool)(s:kt)(H:Hp)(ex:List kl):OkX (uB X x u y s H ex) (HY S x u y) G (λ_ _ _=>False) where
 N:=by show u++sC y 0 X.N=u++sC y 0 S.N;rw[ok.N]
 sc:=by show UM x X.env.scope=UM x S.sc;rw[ok.sc]
 calm:=ok.calm
 un:=ok.un
 fn:=λf h=>by let#[o,k,a,n,e,m,l,j,i,g,p,b]:=ok.fn f h;exact#[o,k,a,n,e,m,l,j,i,g,λ_ _ _ _ _ _ _ z=>(b _ _ _ _ _ z).elim,b]
 val:=ok.val
 no:=ok.no
 dic:=ok.dic
section
variable{X:Cx}
def nK{S:SC}(m:X.N=S.N)(a:X.env.scope=S.sc)(l:X.N.Nodup):∀(k:LN) (z:List Expr),k.9=z.9->((k.zip z).all λp=>pB p.2 λx _=>sR S p.1 x)=j3 ->
  Xo X z (λvs σ H Q=>∃σ',dB k vs σ=jb σ'/\Q σ' H)
 |[],[],_,_=>by
  intro y s σ H vs o Q I r h;let#[σ',e,q]:=h;cases vs with|nil=>cases r;simp only[dB]at e;cases e;exact QCc #[σ,H,I,q]|cons _ _=>simp[dB]at e
 |[],_::_,h,_=>by cases h|_::_,[],h,_=>by cases h|i::k,e::z,hl,hz=>by
  simp only[QCV,qB,Qc]at hz;let#[g,K]:=hz;apply kB g;intro x pos g;let#[B,A]:=GH g;have j:X.N[i]?=jb x:=by rw[m];exact B
  have b:X.env.scope.names.lookup x=jb .local:=by rw[a];exact A
  have W:=nK m a l k z (by simpa using hl) K;intro y s σ H vs o Q I r h;let#[σ',e,q]:=h;cases vs with
  |nil=>simp[dB]at e|cons v vs =>
   simp only[dB]at e;cases r with|cons r Z=>show ka _ _ (Ez (dy (.Name x pos) X.env::(Z1 z X.env).map (·.2)) _) _ _ _;refine QCL (lI (AL (pos:=pos) l j (.inl b) (.inr b) y s σ H v _ _ I r (show AT i v σ H (λu n=>u=σ.set i (jb v)/\n=H) from#[rfl,rfl])) λ_ Y zz=>?_);let#[u,n,F,E,C]:=zz;subst E C;exact W y Y _ _ vs _ Q F Z #[σ',e,q]
def rN:∀(u:LN) (y:List Expr) (S:SC),u.9=y.9->((u.zip y).all λp=>pB p.2 λx _=>sR S p.1 x)=j3->(Z1 y X.env).9=y.9/\(Z1 y X.env).findIdx? (·.1)=js
 |[],[],_,_,_=>#[rfl,rfl]|[],_::_,_,h,_=>by cases h|_::_,[],_,h,_=>by cases h|i::u,e::y,S,hl,hz=>by simp only[QCV,qB,Qc]at hz;let#[a,b]:=hz;apply kB a;intro x z a;have k:=rN u y S (by simpa using hl) b;have g:Z1 (.Name x z::y) X.env=(Kz,dy (.Name x z) X.env)::Z1 y X.env:=rfl;rw[g];refine#[by rw[QM,QM,k.1],?_];rw[List.findIdx?_cons];simp[k.2]
def KM:∀{x:LN}{vs:LV}{σ σ':St},dB x vs σ=jb σ'->vs.9=x.9
 |[],[],_,_,_=>rfl|[],_::_,_,_,h=>by simp[dB]at h|_::_,[],_,_,h=>by simp[dB]at h|_::x,_::vs,σ,σ',h=>by simp only[dB]at h;rw[QM,QM,KM h]
def g6(ok:OkX X S G E)(o:X.N.Nodup)(h:xo S g e=j3):PG X e (nH X.K g):=by
 cases g with
 |nm i =>
  apply kB h;intro x pos h;let#[M,L]:=GH h;have l:X.N[i]?=jb x:=by rw[ok.N];exact M
  have z:X.env.scope.names.lookup x=jb .local:=by rw[ok.sc];exact L
  exact AL o l (.inl z) (.inr z)
 |tp Y =>
  apply EL h;intro m k pos h;have h:=(Qc _ _).mp h;have h:=And.intro (Qn h.1) h.2;let#[j,W]:=h;let#[F,C]:=rN (X:=X) Y m S j W;have a:=pk (pos:=pos) (k:=k) (n:=m.9) ok.calm (nK ok.N ok.sc o Y m j W) F C;intro y s A H v u Q I r Z;refine a y s A H v u Q I r ?_;cases v with|ref p=>let#[B,b,J,e,q]:=Z;exact#[p,B,rfl,J,by rw[KM e,j],b,e,q]|_=>exact QV Z
def Vr{α:Type}{l:List α}(h:l.9=2):∃a b,l=[a,b]:=by
 rcases l with _|⟨a,_|⟨b,_|_⟩⟩
 cases h;cases h;exact#[a,b,rfl];cases h
def vc(hc:X.calm=j3)(h:Xo X y t)(Y:(Z1 y X.env).9=2)(g:(Z1 y X.env).findIdx? (·.1)=js):PG X (.Tuple y k pos) (Er X.K t):=by intro x s i H v u Q I r z;let#[a,l,W,q,hl,z]:=z;subst W;cases r;let#[m,j,p,B]:=I.list q;let#[a,b,rfl]:=Vr (j.length.symm.trans hl);refine vF (I.ok.hd hc) p.isList Y g λZ n=>?_;have A:Inv X x i H { s with heap:=Z }:=I.kept (t':=s.toks) λb o e=>n b o (Qk (QS e)) e;exact h x _ i H l _ Q A j z
def xc(ok:OkX X S G E)(A:X.N.Nodup)(h:xo S (.tp [i,j]) e=j3):PG X e (bindL X.K [i,j]):=by
 apply EL h;intro Y k W h;have h:=(Qc _ _).mp h;have h:=And.intro (Qn h.1) h.2;let#[z,n]:=h;let#[C,B]:=rN (X:=X) [i,j] Y S z n;intro x s g H v u Q I r m;cases v with|ref p=>let#[Z,y,M,hl,e,q]:=m;cases r;let#[F,l,L,R]:=I.list M;let#[a,b,rfl]:=Vr (l.length.symm.trans hl);refine vF (I.ok.hd ok.calm) L.isList (C.trans z.symm) B λO J=>?_;have P:Inv X x g H { s with heap:=O }:=I.kept (t':=s.toks) λb o e=>J b o (Qk (QS e)) e;exact nK ok.N ok.sc A [i,j] Y z n x _ g H Z _ Q P l #[y,e,q]|_=>exact QV m
end
variable{Γ:Ev}
def Pa(K:QC)(a:kl)(xs:LV):Yields (my K a) (xs.map .one) (λH=>mD K H a xs) :=
  { go:=λi H h u=>by
      have z:i<xs.length:=by simpa using u
      exact#[xs,xs[i],h,by simp[z]]
    yld:=λi H x k h _ #[e,y]=>#[.one x,by rw[Qd,y xs h];rfl,rfl,e]
    stop:=λi H h u=>#[xs,h,by simpa using u] }
def Ri(K:QC)(a:kl)(xs:LV):Yields (gy K a) (xs.map .one) (λH=>GE K H a xs) :=
  { go:=λi H h u=>by
      have z:i<xs.length:=by simpa using u
      exact#[xs,xs[i],h,by simp[z]]
    yld:=λi H x k h _ #[e,y]=>#[.one x,by rw[Qd,y xs h];rfl,rfl,e]
    stop:=λi H h u=>#[xs,h,by simpa using u] }
def Ti(z:Str):Yields (Pw z) (z.cps.toList.map λc=>.one (.str #[(List.toArray [c])])) (λ_=>True) :=
  { go:=λi H h u=>by
      have y:i<z.cps.size:=by simpa using u
      exact y
    yld:=λi H x a h _ #[e,c,hc,k]=>#[.one x,by rw[Qd,Array.getElem?_toList,hc,k];rfl,rfl,e]
    stop:=λi H h u=>by
      have y:z.cps.size<=i:=by simpa using u
      exact y }
def Ai(u:Int)(n:Nat):Yields (Sw u n) ((QH n).map λ(k:Nat)=>.one (.int (u+(k:Int)))) (λ_=>True) :=
  { go:=λi H h z=>by
      have y:i<n:=by simpa using z
      exact y
    yld:=λi H x b h z zz=>by
      let#[e,a]:=zz
      have y:i<n:=by simpa using z
      exact#[.one x,by rw[Qd,wg y,a];rfl,rfl,e]
    stop:=λi H h z=>by
      have y:n<=i:=by simpa using z
      exact y }
def Pi(K:QC)(j g:Src)(xs ys:LV):Yields (cy K j g) ((xs.zip ys).map λp=>.tup [p.1,p.2]) (λH=>gK K H j xs/\gK K H g ys) :=
  { go:=λi H h u=>by
      have y:i<xs.9/\i<ys.length:=by simp only[QG,QBm]at u;omega
      exact#[xs,ys,xs[i],ys[i],h.1,h.2,by simp[y.1],by simp[y.2]]
    yld:=λi H x q h u zz=>by let#[p,a,b,l,e,m,k]:=zz;let#[o,n]:=k xs ys h.1 h.2;refine#[.tup [a,b],?_,p,l,e,m];rw[Qd,(List.getElem?_zip_eq_some (z:=(a,b))).mpr #[o,n]];rfl
    stop:=λi H h u=>#[xs,ys,h.1,h.2,by simp only[QG,QBm]at u;omega] }
def Ra(K:QC)(z:Src)(c:Nat)(xs:LV):Yields (oy K z c) (xs.zipIdx.map λp=>.tup [.int ((c+p.2:Nat):Int),p.1]) (λH=>gK K H z xs) :=
  { go:=λi H h u=>by
      have y:i<xs.length:=by simpa using u
      exact#[xs,xs[i],h,by simp[y]]
    yld:=λi H x m h u zz=>by
      let#[p,a,b,e,g,k]:=zz
      have y:i<xs.length:=by simpa using u
      have l:=k xs h;refine#[.tup [.int ((c+i:Nat):Int),a],?_,p,b,e,g];have j:xs.zipIdx[i]?=jb (a,i):=by rw[List.getElem?_zipIdx,l];simp
      rw[Qd,j];rfl
    stop:=λi H h u=>#[xs,h,by simpa using u] }
def zV(h:St->Hp->(List Item->(Hp->Prop)->Hp->Prop)->Prop):TI:=λx H R=>h x H λy st z=>∀J,Yields J y st->R J z
section
variable{X:Cx}{d:Expr}
def jc{l:Expr}{t:TE}(hl:PE X l t):PI X d l (zV λσ H R=>t σ H λv i=>NB X.K .val [v] i R):=by
 intro u s σ H R I h;refine yE (hl u s σ H _ I h) λv y x i g n r=>?_;have k:∀b∈[y.1.1.size],zL X u i b:=λb A=>by
  have e:b=y.1.1.size:=by simpa using A
  subst e;exact g.fpOk (QX _) (g.hok.fresh (QX _))
 rcases r with⟨z,e,r⟩| ⟨a,m,e,Y,q⟩| ⟨a,m,e,Y,q⟩<;>cases e;let#[t,rfl]:=n;refine wpAny_pyIter_strU ?_;exact#[y.1.1.size,[y.1.1.size],_,_,i,rfl,g.kept (t':=y.toks) λb o e=>QF _ e,D4 _ z t,#[_,QY _ rfl,rfl,rfl],k,r _ (Ti z)];cases n;let#[j,Z,p,W]:=g.list Y;refine WS p.isList ?_;exact#[y.1.1.size,[y.1.1.size],_,_,i,rfl,g.kept (t':=y.toks) λb o e=>QF _ e,bZ a _,#[_,QY _ rfl,rfl,rfl],k,q _ (Pa _ a m)];cases n;let#[j,Z,p,W]:=g.tuple Y;refine QCR (show y.1.IsTuple a j.toArray from p) ?_;exact#[y.1.1.size,[y.1.1.size],_,_,i,rfl,g.kept (t':=y.toks) λb o e=>QF _ e,fV a _,#[_,QY _ rfl,rfl,rfl],k,q _ (Ri _ a m)]
def yc(i:x="range")(n:Gl X x)(m:X.mg x=js)(o:PA X [a] ta)(l:eB a=j3) :
  PI X d (.Call (.Name x p) [a] [] pos) (zV λσ H R=>ta σ H λvs k=>NB X.K .rng1 vs k R):=by
 subst i;intro z s σ H R I h;refine Call_ (oG I n m boot_range (wd (ZX (o pos z s σ H _ I h) λY Z vs k r b u=>?_) (gA _ l) rfl));let#[j,rfl,#[u,g],q]:=u;let#[_,rfl,t,rfl]:=ME b;refine call_range_1 (L5 r () () u g ?_);have e:(j - 0).toNat=j.toNat:=by simp
 rw[e];have y:=Ai 0 j.toNat;refine q _ ?_;simpa using y
def _root_.L2.Inv.size0(I:Inv X h σ H s):0<s.1.1.size:=by let#[m,#[o,_,_,x,_],_]:=I.loc;exact QAt (QB1 _) (QS x)
def M9:Zz ("zip":Str)=jb (.type "zip"):=by kernel_rfl
def xQ:Zz ("enumerate":Str)=jb (.type "enumerate"):=by kernel_rfl
def nk(N:x="zip")(Q:Gl X x)(P:X.mg x=js)(S:PA X [a,b] ta)(O:eB a=j3)(l:eB b=j3) :
  PI X (.Tuple es G pt) (.Call (.Name x p) [a,b] [] pos) (zV λσ H R=>ta σ H λvs m=>NB X.K .zip2 vs m R):=by
 subst N;intro e s σ H R I h;refine Call_ (oG I Q P M9 (wd (ZX (S pos e s σ H _ I h) λus y vs m z C F=>?_) (gA _ O) (by rw[gA _ l];rfl)));let#[z1,z2,B,A,rfl,Y,o,q]:=F;let#[_,_,rfl,r,E]:=tS C;let#[W,rfl,j]:=XX r;let#[Z,rfl,i]:=XX E;rw[<- j]at Y;rw[<- i]at o;simp only[<- j,<- i]at q;let#[M,_,k]:=z.src Y;let#[L,_,u]:=z.src o;refine C2 k u λh' st J=>QDH st.1 ?_;have I2:=z.kept (h':=h') (t':=y.toks) J;refine#[_,[y.1.1.size+4,y.1.1.size+2,y.1.1.size+3,y.1.1.size,y.1.1.size+1],_,_,m,rfl,I2,C4 (oS (k.lt z.size0) (u.lt z.size0)),st,λb n=>?_,q _ (Pi _ W Z B A)];have g:y.1.1.size<=b:=by simp only[QO,qT,or_false]at n;rcases n with rfl|rfl|rfl|rfl|rfl;exact qh _ _;exact qh _ _;exact qh _ _;exact QX _;exact qh _ _
 exact z.fpOk g (z.hok.fresh g)
def xU{R:It->Hp->Prop}{xs:LV}(u:Inv X x σ k h)(e:JA h.1 z its)(st:dS (h.1.1.size+1) h.1.1.size z c 0 h')(j:∀c o,h.1.get? c=jb o->h'.get? c=jb o)(q:∀J,Yields J (xs.zipIdx.map λp=>.tup [.int ((c+p.2:Nat):Int),p.1]) (λH=>gK X.K H z xs)->R J k):ka (Vz X.prog X.w) X.A (nU (.ref (h.1.1.size+1))) (Mw X x σ (.Tuple l i pt) R) X.xe { h with heap:=h' }:=by
 let#[#[g,m],_]:=id st;refine QCm m ?_;have n:=u.kept (h':=h') (t':=h.toks) j;have lt:=e.lt u.size0;refine#[_,[h.1.1.size+1,h.1.1.size],_,_,k,rfl,n,cZ (gx (Nat.succ_ne_self _)) (Qk (QCj lt)) (Qk lt),st,λb a=>?_,q _ (Ra _ z c xs)];have y:h.1.1.size<=b:=by simp only[QO,qT,or_false]at a;rcases a with rfl|rfl;exact qh _ _;exact QX _
 exact u.fpOk y (u.hok.fresh y)
def zc(o:x="enumerate")(W:Gl X x)(Z:X.mg x=js)(A:PA X [a] ta)(Y:eB a=j3) :
  PI X (.Tuple B l pt) (.Call (.Name x p) [a] [] pos) (zV λσ H R=>ta σ H λvs g=>NB X.K .enum vs g R):=by
 subst o;intro u s σ H R I h;refine Call_ (oG I W Z xQ (wd (ZX (A pos u s σ H _ I h) λE F vs g e i j=>?_) (gA _ Y) rfl));let#[z,xs,rfl,b,q]:=j;let#[_,rfl,r]:=ME i;let#[C,rfl,k]:=XX r;rw[<- k]at b;simp only[<- k]at q;let#[n,_,y]:=e.src b;refine bX y λG st m=>xU (xs:=xs) e y st m ?_;simpa using q
def f6(S:x="enumerate")(hk:k="start")(hg:Gl X x)(hm:X.mg x=js)(ha:PE X a ta)(hv:PE X v i)(W:eB a=j3) :
  PI X (.Tuple es P pt) (.Call (.Name x p) [a] [#[jb k,v,Z]] pos) (zV λσ H R=>ta σ H λu y=>i σ y λn b=>NB X.K .enumA [u,n] b R):=by
 subst S;intro j s σ H R I h;refine wL (oG I hg hm xQ (OO (gA _ W) ?_));have hh:(gf ta lj) σ H λvs y=>∃u,vs=[u]/\i σ y λn b=>NB X.K .enumA [u,n] b λxs st g=>∀J,Yields J xs st->R J g:=by
  have e:∀(x:V) (y:Hp),(i σ y λn b=>NB X.K .enumA [x,n] b λxs st g=>∀J,Yields J xs st->R J g)=∃u,[x]=[u]/\i σ y λn b=>NB X.K .enumA [u,n] b λxs st g=>∀J,Yields J xs st->R J g:=λx y=>Pz #[λq=>#[x,rfl,q],λzz=>by let#[u,e,q]:=zz;cases e;exact q];have A:ta σ H λx y=>i σ y λn b=>NB X.K .enumA [x,n] b λxs st g=>∀J,Yields J xs st->R J g:=h;have e2:(λ(x:V) (y:Hp)=>i σ y λn b=>NB X.K .enumA [x,n] b λxs st g=>∀J,Yields J xs st->R J g)=λ(x:V) (y:Hp)=>∃u,[x]=[u]/\i σ y λn b=>NB X.K .enumA [u,n] b λxs st g=>∀J,Yields J xs st->R J g:=by funext x y;exact e x y
  rw[e2]at A;exact A
 refine ZX ((UD ha eK (gA _ W)) pos j s σ H _ I hh) λus F vs y I1 M zz=>?_;let#[u,ev,O]:=zz;subst ev;cases M with
 |cons r G =>
  cases G;refine yE (hv j F σ y _ I1 O) λkv s2 n b E L N=>?_;let#[Y,z,xs,e1,B,#[n0,n1],q]:=N;cases e1;let#[z3,rfl,o]:=XX r;rw[<- o]at B;simp only[<- o]at q;let#[t,rfl]:=L;let#[Q,_,l]:=E.src B;have C:Y=((Y.toNat:Nat):Int):=()
  have m:wX ((Y.toNat:Nat):Int)=true:=by rw[<- C];unfold wX;simp only[Qc,decide_eq_true_eq];omega
  rw[C,hk];exact ZU m l λh' st Z=>xU (xs:=xs) E l st Z q
end
def Tg.at:Tg->LN
 | .nm i=>[i]|.tp h=>h
def AU(h:Tg)(σ' σ:St):Prop:=σ'.9=σ.9/\∀(j:Nat),j∉h.at->σ'[j]?=σ[j]?
def lZ{σ' σ:St}(h:σ'.9=σ.9)(x:∀j,j≠i->σ'[j]?=σ[j]?):σ'.set i v=σ.set i v:=by apply wY;intro j;by_cases e:j=i;subst e;by_cases hl:j<σ.9;rw[qH (),qH hl];rw[qP (by rw[we];omega),qP (by rw[we];omega)];rw[Qy (Qz e),Qy (Qz e)];exact x j e
def gJ:∀(x:LN) (vs:LV) (σ' σ:St),σ'.9=σ.9->(∀j,j∉x->σ'[j]?=σ[j]?)->dB x vs σ'=dB x vs σ
 |[],[],σ',σ,hl,h=>by have:σ'=σ:=wY λj=>h j (by simp);rw[this]|[],_::_,_,_,_,_=>rfl|_::_,[],_,_,_,_=>rfl|i::x,v::vs,σ',σ,hl,h=>by simp only[dB];refine gJ x vs _ _ (by simp[hl]) λj z=>?_;by_cases e:j=i;subst e;by_cases y:j<σ.9;rw[qH (),qH y];rw[qP (by rw[we];omega),qP (by rw[we];omega)];rw[Qy (Qz e),Qy (Qz e)];exact h j (by simp[e,z])
def uG:∀(h:LN) (vs:LV) (σ σ':St),dB h vs σ=jb σ'->σ'.9=σ.9/\∀j,j∉h->σ'[j]?=σ[j]?
 |[],[],σ,σ',e=>by simp only[dB]at e;cases e;exact#[rfl,λ_ _=>rfl]|[],_::_,_,_,e=>by simp[dB]at e|_::_,[],_,_,e=>by simp[dB]at e|i::h,v::vs,σ,σ',e=>by simp only[dB]at e;let#[u,y]:=uG h vs _ _ e;refine#[by rw[u,we],λj x=>?_];rw[y j (λz=>x (QI _ z)),Qy (λz=>x (by simp[z]))]
def VU{K:QC}{u:Tg}{v:V}{σ' σ:St}{H:Hp}{Q:St->Hp->Prop}(a:AU u σ' σ)(h:nH K u v σ H Q):nH K u v σ' H λx n=>AU u x σ/\Q x n:=by
 let#[g,l]:=a;cases u with
 |nm i=>have e:σ'.set i (jb v)=σ.set i (jb v):=lZ g λj y=>l j (by simpa[Tg.at]using y);show AU (.nm i) (σ'.set i (jb v)) σ/\Q (σ'.set i (jb v)) H;rw[e];exact#[#[by simp,λj y=>Qy (λz=>y (by simp[Tg.at,z]))],h]|tp b =>
  cases v with|ref p=>let#[k,x,m,e,q]:=h;exact#[k,x,m,by rw[gJ b k σ' σ g λj y=>l j y];exact e,#[(uG b k σ x e).1,λj y=>(uG b k σ x e).2 j y],q]|_=>exact QV h
def dX{K:QC}{y:Tg}{v:V}{σ:St}{H:Hp}{Q Q':St->Hp->Prop}(m:∀σ H,Q σ H->Q' σ H)(h:nH K y v σ H Q):nH K y v σ H Q':=by
 cases y with
 |nm i=>exact m _ _ h|tp k =>
  cases v with|ref p=>let#[z,x,u,e,q]:=h;exact#[z,x,u,e,m _ _ q]|_=>exact QV h
def zO{K:QC}{z:Tg}{it:Item}{x:V}{σ:St}{H H':Hp}{Q:St->Hp->Prop}(k:match it with | .one v=>x=v/\H'=H | .tup vs=>∃p,H p=js/\x=.ref p/\H'=LA H p (.tup vs))(h:bindI K z it σ H Q):nH K z x σ H' Q:=by
 cases it with
 |one v=>let#[rfl,rfl]:=k;exact h|tup vs =>
  let#[p,u,rfl,rfl]:=k;cases z with
  |nm i=>exact h p u|tp a =>
   let#[y,e,q]:=h (LA H p (.tup vs)) λb o e=>by rw[vA (CA e u)];exact e
   exact#[vs,y,GE.of fA,e,q]
def fU{K:QC}{xs:List Item}{st:Hp->Prop}{o:Tg}{tc:TT}{te:TE}{k:St}{H:Hp}{Q:VK}(h:Us K xs st (bindI K o) tc te k H Q):aQ K xs st o tc te k H Q:=by
 let#[W,C,s,l,n]:=h;intro J Y;refine#[λi m u j a=>m=xs.9 - i/\i<=xs.9/\AU o j k/\W i u a,#[xs.9,by simp,QB1 _,#[rfl,λ_ _=>rfl],C],?_];rintro i m u j a ⟨rfl,G,L,w⟩;have r:=s i u a G w;by_cases g:i<xs.9;refine .inr #[Y.go i a r g,λx M y=>?_];let#[it,X,F]:=Y.yld i a x M r g y;have b:=VU L (zO F (l i it u a X w));refine dX (λp N q=>?_) b;let#[Z,q]:=q;have I:∀(z:LV) (A:Hp),(∃B,B < xs.9 - i/\B=xs.9 - (i+1)/\i+1<=xs.9/\AU o p k/\W (i+1) z A)=W (i+1) z A:=λz A =>
  Pz #[λ#[_,_,_,_,_,w]=>w,λw=>#[_,(),rfl,g,Z,w]]
 simp only[I];exact q
 ·have e:i=xs.length:=()
  subst e;let#[E,q]:=n u a w;exact .inl #[Y.stop _ a r (QX _),E,q]
def c9:∀(ks:LS) (x:List (Option Expr)),Gu ks x=j3->x.9=ks.9/\x.all (·.isSome)=j3
 |[],[],_=>#[rfl,rfl]|[],_::_,h=>(QD h).elim|_::_,[],h=>(QD h).elim|_::_,none::_,h=>(QD h).elim|k::ks,jb e::x,h=>by let#[a,b]:=c9 ks x (jA h).2;exact#[by rw[QM,QM,a],by rw[qB,b];rfl]
def iX(K:QC)(Γ:Ev)(E:XK):LS->PX->List (TE×TE)
 |k::ks,.acons a as=>(tC (.str k),(wp K Γ a E).e)::iX K Γ E ks as|_,_=>[]
end L2.L3
namespace L2.L3
open PySem PySem.Spec PyProof.Rows
variable{Γ:Ev}
def cR:PX->Bool
 | .acons _ _=>Kz|_=>j3
def UU(h:cR p=j3):eO X Γ E p x:=by cases p<;>first|trivial|cases h
def yK(Q:Bool->Hp->Prop):(λ(x:V) (h:Hp)=>nS x h Q)=λ(x:V) (h:Hp)=>∃k,x=.bl k/\Q k h:=by funext x h;exact Hn x h Q
def Snd.of(pe:PE X e (wp X.K Γ p E).e)(pt:PT X e (wp X.K Γ p E).t)(u:∀x h pos,e≠.BoolOp x h pos)(k:(wp X.K Γ p E).a=never.a)(y:autoParam (cR p=true) zzr._auto_1):Snd X Γ E p e :=
 #[pe,pt,λx h pos z=>n9 z (u x h pos),λh pos z=>by rw[k];exact FS,λ_ _ _=>UU y]
def Snd.lit(pe:PE X e (wp X.K Γ p E).e)(x:(wp X.K Γ p E).t=never.t)(z:∀h k pos,e≠.BoolOp h k pos)(u:(wp X.K Γ p E).a=never.a)(y:autoParam (cR p=true) zzr._auto_1):Snd X Γ E p e :=
 Snd.of pe (by rw[x];exact DM) z u y
def Snd.args(g:PA X y (wp X.K Γ p E).a)(k:eO X Γ E p y)(b:(wp X.K Γ p E).e=never.e)(u:(wp X.K Γ p E).t=never.t):Snd X Γ E p (.List y pos) :=
 #[by rw[b];exact X6,by rw[u];exact DM,λ_ _ _ z=>(by cases z),λx h z=>by cases z;exact g,λx h z=>by cases z;exact k]
def NQ{X:Cx}{S:SC}(y:X.env.scope=S.sc)(h:NJ S x=j3)(z:X.mg x=jb u)(r:ZA v u):PE X (.Name x pos) (λ_ H Q=>Q v H):=by let#[a,k,b]:=CC h;exact uc (show X.env.scope.names.lookup x=jb .globalImplicit by rw[y];exact a) z r k
def aB:∀(p:PX) {y:List Expr},chk p S (.List y pos)=j3->y.all eB=true:=by
 intro p;induction p with|anil=>intro y h;have h:y.isEmpty=true:=h;rw[Q3.mp h];rfl|acons a k _ z=>intro y h;have h:l7 y _=true:=h;apply ZJ h;intro x t h;have u:=jA h;rw[qB,u.1,z (jA u.2).2];rfl|lst k z=>exact λh=>z h|prm o k=>intro y h;have h:=(jA h).2;cases o<;>exact(QD h).elim|_=>exact λh=>(QD h).elim
def XU{K:QC}{E:XK}{S:SC}{pos:Pos}{σ:St}{H:Hp}{Q:LV->Hp->Prop}:∀(p:PX),LC p=j3->chk p S (.List [] pos)=j3->((wp K Γ p E).a σ H Q↔Q [] H):=by
 intro p;cases p with|anil=>exact λ_ _=>W9|acons _ _=>exact λ_ h=>(QD h).elim|_=>exact λh=>(QD h).elim
def A2{K:QC}{E:XK}{S:SC}{pos:Pos}{σ:St}{H:Hp}{Q:LV->Hp->Prop}(p:PX)(h:chk p S (.List [] pos)=j3)(q:(wp K Γ p E).a σ H Q):Q [] H:=by
 cases x:LC p with
 |true=>exact(XU p x h).mp q|false =>
  cases p with|anil=>exact q|acons _ _=>exact(QD h).elim|_=>exact q.elim
def jG(p:PX)(y:LC p=j3)(h:chk p S (.List [a] pos)=j3):∃x,p=.acons x .anil:=by
 cases p with
 |acons x r =>
  have z:chk r S (.List [] pos)=true:=(jA (jA h).2).2;cases r with|anil=>exact#[x,rfl]|acons _ _=>exact(QD z).elim|_=>exact(QD y).elim
 |anil=>exact(QD h).elim|_=>exact(QD y).elim
def JH(p:PX)(z:LC p=j3)(h:chk p S (.List [a,b] pos)=j3):∃y x,p=.acons y (.acons x .anil):=by
 cases p with|acons y r=>let#[x,e]:=jG r z (jA (jA h).2).2;exact#[y,x,by rw[e]]|anil=>exact(QD h).elim|_=>exact(QD z).elim
def jr(m:Mt):∃id,l9 m.ty/\Slot m.ty m.nm id/\na (.builtin id)=n5 (.type "method_descriptor")/\O3 X id (Yd X.K m):=by
 cases m with|split=>exact#[_,QBa,PySem.F.slot_str_split,PySem.F.type_str_split,S7]|append=>exact#[_,Wv,PySem.F.slot_list_append,PySem.F.type_list_append,Jd]|join=>exact#[_,QBa,PySem.F.slot_str_join,PySem.F.type_str_join,vd]|extend=>exact#[_,Wv,PySem.F.slot_list_extend,PySem.F.type_list_extend,pd]|insert=>exact#[_,Wv,PySem.F.slot_list_insert,PySem.F.type_list_insert,ud]
def ZC:∀{x:List Expr},x.all eB=j3->(gl pos (Xz x env)).any (·.1)=Kz
 |[],_=>rfl|e::x,h=>by rw[qB]at h;let#[z,y]:=jA h;rw[gA env z];show(Kz||(gl pos (Xz x env)).any (·.1))=Kz;rw[ZC y];rfl
def kK:∀{y:List Expr},y.all eB=j3->(gl pos (Xz y env)).all (λx=>!x.1)=j3
 |[],_=>rfl|e::y,h=>by rw[qB]at h;let#[u,z]:=jA h;rw[gA env u];show(j3&&(gl pos (Xz y env)).all (λx=>!x.1))=j3;rw[kK z];rfl
def CV(ok:OkX X S G E)(e:Iv (LC its) S q (λy p=>chk its S (.List y p)) t it pos=j3)(o:Du G q)(n:∀y p,chk its S (.List y p)=j3->Snd X G.ev E its (.List y p)):PI X t it (zV λσ H R=>(wp X.K G.ev its E).a σ H λvs C=>NB X.K q vs C R):=by
 have l:∀{x:Str},NJ S x=j3->Gl X x:=λ{x} h=>by show X.env.scope.names.lookup x=jb .globalImplicit;rw[ok.sc];exact(CC h).1
 have u:JN t=j3->∃y k p,t=.Tuple y k p:=λh=>by
  cases t with|Tuple y k p=>exact#[y,k,p,rfl]|_=>exact(QD h).elim
 cases q with|val=>have i:=jA e;have j:=(n _ pos i.2).pas _ pos rfl;let#[a,rfl]:=jG its i.1 i.2;exact jc j.1|rng1=>let#[r,y,s,p,rfl,m,h]:=uD e;have g:=jA h;cases Q3.mp g.1;apply oB g.2;intro a z;exact yc rfl (l m) (ok.no _ o) ((n _ p z).pa _ p rfl) (by simpa using aB its z)|zip2=>have i:=jA e;let#[y,k,pt,rfl]:=u i.1;let#[r,y,s,p,rfl,m,h]:=uD i.2;have g:=jA h;cases Q3.mp g.1;apply KJ g.2;intro a b z;have st:=jA (aB its z);exact nk rfl (l m) (ok.no _ o) ((n _ p z).pa _ p rfl) st.1 (jA st.2).1|enum=>have i:=jA e;let#[y,k,pt,rfl]:=u i.1;let#[r,y,s,p,rfl,m,h]:=uD i.2;have g:=jA h;cases Q3.mp g.1;apply oB g.2;intro a z;exact zc rfl (l m) (ok.no _ o) ((n _ p z).pa _ p rfl) (by simpa using aB its z)|enumA=>have i:=jA e;let#[y,k,pt,rfl]:=u i.1;have Y:=jA i.2;let#[r,y,s,p,rfl,m,h]:=uD Y.2;apply oB h;intro a g;apply oB g;intro Z A;let#[W,F,I]:=Z;have z:=jA A;have B:W=jb ("start":Str):=Qn z.1;cases B;have st:=jA (aB its z.2);have j:=(n _ p z.2).pas _ p rfl;let#[c,d,rfl]:=JH its Y.1 z.2;exact f6 rfl rfl (l m) (ok.no _ o) j.1 j.2.1 st.1
def BC{x:TE}(h:PE X e te)(q:∀σ H Q,x σ H Q->te σ H Q):PE X e x:=λy s σ H Q I z=>h y s σ H Q I (q σ H Q z)
def lQ(p:PX)(y:LC p=j3)(h:chk p S (.List (v::vs) pos)=j3):∃a x,p=.acons a x/\LC x=j3/\chk x S (.List vs pos)=true:=by
 cases p with|acons a x=>exact#[a,x,rfl,y,(jA (jA h).2).2]|anil=>exact(QD h).elim|_=>exact(QD y).elim
def x6:∀(ks:LS) (vs:PX) (keys:List (Option Expr)) (x:List Expr),Gu ks keys=j3->LC vs=j3->chk vs S (.List x pos)=j3->keys.length=x.9->eO X Γ E vs x->yu X pos keys x (iX X.K Γ E ks vs)
 |[],vs,keys,x,h,ha,hc,hl,hp=>by
  cases keys with
  |cons _ _=>exact(QD h).elim|nil=>cases x with|nil=>exact Ab|cons _ _=>cases hl
 |k::ks,vs,keys,x,h,ha,hc,hl,hp=>by
  cases keys with
  |nil=>exact(QD h).elim|cons e l=>cases e with
   |none=>exact(QD h).elim|some e=>cases x with|nil=>cases hl|cons v x=>let#[a,m,rfl,i,g]:=lQ vs ha hc;have y:=jA h;apply DE y.1;intro c j n b;let#[z,rfl,u]:=cX b;cases Qn u;exact u6 SM hp.1 (x6 ks m l x y.2 i g (Wl hl) hp.2)
def DS{K:QC}{S:SC}{E:XK}{pos:Pos}:∀(ks:LS) (vs:PX) (h:List Expr),LC vs=j3->chk vs S (.List h pos)=j3->ks.9=h.9->∀{σ:St}{H:Hp}{Q:List (V×V)->Hp->Prop},rM (iX K Γ E ks vs) σ H Q=(wp K Γ vs E).a σ H λxs z=>Q ((ks.map V.str).zip xs) z
 |[],vs,h,ha,hc,hl,σ,H,Q=>by
  cases h with
  |cons _ _=>cases hl|nil =>
   cases vs with|anil=>rfl|acons _ _=>exact(QD hc).elim|_=>exact(QD ha).elim
 |k::ks,vs,h,ha,hc,hl,σ,H,Q=>by
  cases h with|nil=>cases hl|cons v h=>let#[a,u,rfl,i,g]:=lQ vs ha hc;show((wp K Γ a E).e σ H λy z=>rM (iX K Γ E ks u) σ z λb j=>Q ((V.str k,y)::b) j)=(wp K Γ a E).e σ H λx l=>(wp K Γ u E).a σ l λxs z=>Q ((V.str k,x)::(ks.map V.str).zip xs) z;congr 1;funext y z;exact DS ks u h i g (Wl hl)
def snd:∀(p:PX) {X:Cx}{S:SC}{E:XK}(ok:OkX X S G E) {e:Expr},chk p S e=j3->RA G p->Snd X G.ev E p e:=by
 intro p;induction p with
 |var i =>
  intro X S E ok e h _;apply kB h;intro x pos h;let#[W,J,M,O]:=JQ h;have base:=sK (pos:=pos) (show X.N[i]?=jb x by rw[ok.N];exact W) (show Zt X.env.scope x by rw[ok.sc];exact J) M O;have pe:PE X (.Name x pos) (wp X.K G.ev (.var i) E).e:=BC base λB H Q q=>by
   have q:(match B[i]? with|some (jb v)=>Q v H|_=>False):=q;cases hs:B[i]? with
   |none=>rw[hs]at q;exact q.elim|some o =>
    rw[hs]at q;cases o with|none=>exact q.elim|some v=>exact#[v,hs,q]
  exact Snd.of pe (HB pe λ_=>rfl) (λ_ _ _ z=>by cases z) rfl
 |int i=>intro X S E ok e h _;apply DE h;intro c k pos h;let#[j,rfl,h]:=jn h;cases Qn h;exact Snd.of U6 (HB (ta:=λ_ H Q=>Q (.int i) H) U6 λ_=>rfl) (λ_ _ _ z=>by cases z) rfl|str x=>intro X S E ok e h _;apply DE h;intro c k pos h;let#[j,rfl,h]:=cX h;cases Qn h;exact Snd.lit SM rfl (λ_ _ _ z=>by cases z) rfl|bl b=>intro X S E ok e h _;apply DE h;intro c k pos h;let#[j,rfl,h]:=Ze h;cases Qn h;exact Snd.of Gf (HB (ta:=λ_ H Q=>Q (.bl b) H) Gf λ_=>rfl) (λ_ _ _ z=>by cases z) rfl|non=>intro X S E ok e h _;apply DE h;intro c k pos h;cases Ye h;exact Snd.of V6 (HB (ta:=λ_ H Q=>Q .non H) V6 λ_=>rfl) (λ_ _ _ z=>by cases z) rfl|glo x=>intro X S E ok e h Y;apply kB h;intro y pos h;have h:=jA h;cases Qn h.1;let#[u,hm,r]:=ok.val x Y;have pe:=NQ (pos:=pos) ok.sc h.2 hm r;exact Snd.of pe (HB pe λ_=>rfl) (λ_ _ _ z=>by cases z) rfl|bty x n=>intro X S E ok e h Y;apply kB h;intro y pos h;have h:=jA h;cases Qn h.1;let#[g1,g2,g3]:=CC h.2;exact Snd.lit (Yc (show X.env.scope.names.lookup x=jb .globalImplicit by rw[ok.sc];exact g1) (ok.no x Y.1) Y.2 rfl g3 g2) rfl (λ_ _ _ z=>by cases z) rfl|bin op a b L ihb=>intro X S E ok e h Y;apply kY h;intro l o r pos h;have W:=jA h;have J:=jA W.2;cases Qn W.1;have pe:=Df (pos:=pos) (Hk op) (L ok J.1 Y.1).pe (ihb ok J.2 Y.2).pe;exact Snd.of pe (HB pe λ_=>rfl) (λ_ _ _ z=>by cases z) rfl|cmp op a b L ihb=>intro X S E ok e h Y;apply yY h;intro l os rs pos h;apply oB h;intro o h;apply oB h;intro r h;have W:=jA h;have J:=jA W.2;have M:=jA J.2;cases Qn W.1;have pa:=(L ok M.1 Y.1).pe;have pb:=(ihb ok M.2 Y.2).pe;refine Snd.of (gc (pos:=pos) (iK ok.un op) pa pb (yW J.1)) (λP s B H Q I q=>Nb (pos:=pos) (iK ok.un op) pa pb (yW J.1) P s B H Q I ?_) (λ_ _ _ z=>by cases z) rfl;show gp _ _ _ B H (λ(x:V) (Z:Hp)=>∃k,x=.bl k/\Q k Z);rw[<- yK Q];exact q|chn o p a b c L ihb ihc =>
  intro X S E ok e h Y;apply yY h;intro l os rs pos h;apply KJ h;intro o' p' h;apply KJ h;intro r q' h;have W:=jA h;have J:=jA W.2;have M:=jA J.2;have O:=jA M.2;have h5:=jA O.2;cases Qn W.1;cases Qn J.1;have pa:=(L ok O.1 Y.1).pe;have pb:=(ihb ok h5.1 Y.2.1).pe;have pc:=(ihc ok h5.2 Y.2.2).pe;have lm:Nz [o,p] [r,q']=false:=yW M.1;have eq:∀(Q:VK) (B:St) (y:V),(λ(z:V) (H3:Hp)=>∃k,z=.bl k/\(if k=j3 then(wp X.K G.ev c E).e B H3 λw' H4=>RH X.K p y w' H4 Q else Q (.bl Kz) H3)) =
    λ(z:V) (H3:Hp)=>nS z H3 λk H4=>if k=j3 then(wp X.K G.ev c E).e B H4 λw' H5=>RH X.K p y w' H5 Q else Q (.bl Kz) H4:=λQ B y=>(yK _).symm
  have pe:PE X (.Compare l [o,p] [r,q'] pos) (wp X.K G.ev (.chn o p a b c) E).e:=λP s B H Q I q=>C6 (pos:=pos) (iK ok.un o) (iK ok.un p) pa pb pc lm P s B H Q I (by show(wp X.K G.ev a E).e B H λx Z=>(wp X.K G.ev b E).e B Z λy H2=>RH X.K o x y H2 ((λ(y:V) (z:V) (H3:Hp)=>∃k,z=.bl k/\(if k=j3 then(wp X.K G.ev c E).e B H3 λw' H4=>RH X.K p y w' H4 Q else Q (.bl Kz) H3)) y);simp only[eq];exact q);refine Snd.of pe (λP s B H Q I q=>T5 (pos:=pos) (iK ok.un o) (iK ok.un p) pa pb pc lm P s B H Q I ?_) (λ_ _ _ z=>by cases z) rfl;show mV _ _ _ _ _ B H (λ(x:V) (Z:Hp)=>∃k,x=.bl k/\Q k Z);rw[<- yK Q];show(wp X.K G.ev a E).e B H λx Z=>(wp X.K G.ev b E).e B Z λy H2=>RH X.K o x y H2 ((λ(y:V) (z:V) (H3:Hp)=>∃k,z=.bl k/\(if k=j3 then(wp X.K G.ev c E).e B H3 λw' H4=>RH X.K p y w' H4 (λ(x:V) (Z:Hp)=>nS x Z Q) else(λ(x:V) (Z:Hp)=>nS x Z Q) (.bl Kz) H3)) y);simp only[eq];exact q
 |and a b L ihb =>
  intro X S E ok e h Y;apply NS h;intro o es pos h;have W:=jA h;cases Qn W.1;apply ZJ W.2;intro l t J;apply ZJ J;intro r t M;have O:=jA M;have sa:=L ok O.1 Y.1;have sb:=ihb ok O.2 Y.2;have eqA:∀(B:St) (Q:VK),(λ(x:V) (Z:Hp)=>∃c,x=.bl c/\if c=j3 then(wp X.K G.ev b E).e B Z Q else Q (.bl Kz) Z)=λ(x:V) (Z:Hp)=>nS x Z λc H2=>if c=j3 then(wp X.K G.ev b E).e B H2 Q else Q (.bl Kz) H2:=λB Q=>(yK _).symm
  have key:PW X (.BoolOp .And (l::r::t) pos) (wp X.K G.ev (.and a b) E).t/\PE X (.BoolOp .And (l::r::t) pos) (λB H Q=>(wp X.K G.ev a E).e B H λx Z=>∃c,x=.bl c/\if c=j3 then(wp X.K G.ev b E).e B Z Q else Q (.bl Kz) Z):=by
   cases t with|nil=>exact#[P5 sa.pt (Mb sb.pt),G6 (pos:=pos) sa.pe (K6 sb.pe)]|cons q t=>exact#[P5 sa.pt (sb.pw _ _ _ rfl),G6 (pos:=pos) sa.pe sb.pe]
  refine#[BC key.2 λB H Q q=>?_,key.1.pt,λ_ _ _ _=>key.1,λ_ _ z=>(by cases z),λ_ _ z=>trivial];rw[eqA];exact q
 |or a b L ihb =>
  intro X S E ok e h Y;apply NS h;intro o es pos h;have W:=jA h;cases Qn W.1;apply ZJ W.2;intro l t J;apply ZJ J;intro r t M;have O:=jA M;have sa:=L ok O.1 Y.1;have sb:=ihb ok O.2 Y.2;have eqA:∀(B:St) (Q:VK),(λ(x:V) (Z:Hp)=>∃c,x=.bl c/\if c=j3 then Q (.bl j3) Z else(wp X.K G.ev b E).e B Z Q)=λ(x:V) (Z:Hp)=>nS x Z λc H2=>if c=j3 then Q (.bl j3) H2 else(wp X.K G.ev b E).e B H2 Q:=λB Q=>(yK _).symm
  have key:PW X (.BoolOp .Or (l::r::t) pos) (wp X.K G.ev (.or a b) E).t/\PE X (.BoolOp .Or (l::r::t) pos) (λB H Q=>(wp X.K G.ev a E).e B H λx Z=>∃c,x=.bl c/\if c=j3 then Q (.bl j3) Z else(wp X.K G.ev b E).e B Z Q):=by
   cases t with|nil=>exact#[Bf sa.pt (Tj sb.pt),Cf (pos:=pos) sa.pe (K6 sb.pe)]|cons q t=>exact#[Bf sa.pt (sb.pw _ _ _ rfl),Cf (pos:=pos) sa.pe sb.pe]
  refine#[BC key.2 λB H Q q=>?_,key.1.pt,λ_ _ _ _=>key.1,λ_ _ z=>(by cases z),λ_ _ z=>trivial];rw[eqA];exact q
 |not a L=>intro X S E ok e h Y;apply Mk h;intro o x pos h;have W:=jA h;cases Qn W.1;have sa:=L ok W.2 Y;refine Snd.of (λP s B H Q I q=>?_) (Aj sa.pt) (λ_ _ _ z=>by cases z) rfl;refine UnaryOp_ (yE (sa.pe P s B H _ I q) λv s1 x Z I1 r1 q1=>?_);have q1:yG X.K x Z (λc H2=>Q (.bl (!c)) H2):=q1;rw[eX]at q1;refine not_of (Eo (G4 P s1 B Z x v _ I1 r1 q1) λc s2 H2 I2 q2=>?_);exact#[.bl (!c),H2,I2,rfl,q2]|ife c a b ihc L ihb=>intro X S E ok e h Y;apply Rk h;intro t l r pos h;have W:=jA h;have J:=jA W.2;exact Snd.lit (B6 (pos:=pos) (ihc ok W.1 Y.1).pt (L ok J.1 Y.2.1).pe (ihb ok J.2 Y.2.2).pe) rfl (λ_ _ _ z=>by cases z) rfl|call f as ih =>
  intro X S E ok e h Y;let#[p,es,ks,pos,rfl,hg,h]:=uD h;have W:=jA h;cases Q3.mp W.1;let#[g1,g2,g3]:=CC hg;have hg:Gl X f:=show X.env.scope.names.lookup f=jb .globalImplicit by rw[ok.sc];exact g1
  let#[CX,k,a,fd,ps,F,hr,hm,hk,hb,hx,_]:=ok.fn f Y.1;have pa:=(ih ok W.2 Y.2).pa es pos rfl;have st:=aB as W.2;have pe:PE X (.Call (.Name f p) es [] pos) (wp X.K G.ev (.call f as) E).e:=by
   cases es with|nil=>exact BC (F6 (pos:=pos) (p:=p) F hr hg hm hk hb .nil hx g2) λB H Q q=>A2 as W.2 q|cons e1 es1=>have st:=jA st;refine BC (Jc (pos:=pos) (p:=p) F hr hg hm hk hb .nil hx pa g2 (gA _ st.1) (ZC st.2)) λB H Q q=>?_;show(wp X.K G.ev as E).a B H λvs Z=>G.ev.sp f (vs++[]) Z Q E;simp only[Qe];exact q
  exact Snd.of pe (HB pe λ_=>rfl) (λ_ _ _ z=>by cases z) rfl
 |idx a b L ihb=>intro X S E ok e h Y;apply rE h;intro v i pos h;have W:=jA h;have J:=jA W.2;have pe:=Ff (pos:=pos) um (L ok J.1 Y.1).pe (ihb ok J.2 Y.2).pe (LQ W.1);exact Snd.of pe (HB pe λ_=>rfl) (λ_ _ _ z=>by cases z) rfl|dsp ks vs ih =>
  intro X S E ok e h Y;apply g7 h;intro keys vals pos h;have W:=jA h;have J:=jA W.2;have M:=jA J.2;have O:=jA M.2;let#[l0,l1]:=pz W.1;have pas:=(ih ok O.2 Y).pas _ pos rfl;let#[d1,d2]:=c9 ks keys J.1;have hl:keys.length=vals.length:=pz M.1;have pe:PE X (.Dict keys vals pos) (wp X.K G.ev (.dsp ks vs) E).e:=by refine BC (bc (pos:=pos) (x6 (S:=S) ks vs keys vals J.1 O.1 O.2 hl pas) d2 hl (λz=>by rw[z]at d1;exact n9 l0 (by rw[<- d1];exact wE _)) (by rw[d1];exact l1)) λB H Q q=>?_;intro p hp;rw[DS (S:=S) (pos:=pos) ks vs vals O.1 O.2 (d1.symm.trans hl)];exact q p hp
  exact Snd.lit pe rfl (λ_ _ _ z=>by cases z) rfl
 |nop=>intro X S E ok e h Y;exact(QD h).elim|lst as ih=>intro X S E ok e h Y;apply yN h;intro es pos h;have pa:=(ih ok h Y).pa es pos rfl;exact#[Yk pa,DM,λ_ _ _ z=>(by cases z),λ_ _ z=>FS,λ_ _ z=>trivial]|tup as ih=>intro X S E ok e h Y;apply EL h;intro es k pos h;exact Snd.lit (ak ((ih ok h Y).pa es pos rfl)) rfl (λ_ _ _ z=>by cases z) rfl|anil=>intro X S E ok e h Y;apply yN h;intro es pos h;cases Q3.mp h;exact Snd.args eK trivial rfl rfl|acons a as L ih=>intro X S E ok e h Y;apply yN h;intro es pos h;apply ZJ h;intro e1 es1 h;have W:=jA h;have J:=jA W.2;have sa:=(L ok J.1 Y.1).pe;have ss:=ih ok J.2 Y.2;exact Snd.args (UD sa (ss.pa es1 pos rfl) (gA _ W.1)) #[sa,ss.pas es1 pos rfl] rfl rfl|bi f as ih =>
  intro X S E ok e h Y;let#[p,es,ks,pos,rfl,hg,h]:=uD h;have W:=jA h;cases Q3.mp W.1;apply ZJ W.2;intro e1 es1 M;let#[g1,g2,g3]:=CC hg;have hg:Gl X f.nm:=show X.env.scope.names.lookup f.nm=jb .globalImplicit by rw[ok.sc];exact g1
  have pa:=(ih ok M Y.2).pa _ pos rfl;have st:=jA (aB as M);have pe:PE X (.Call (.Name f.nm p) (e1::es1) [] pos) (wp X.K G.ev (.bi f as) E).e:=by
   rcases Ps ok.calm f with⟨id,hb,hc⟩| ⟨T,hb,hc⟩
   exact iJ (pos:=pos) (p:=p) hc hg (ok.no _ Y.1) hb pa g3 g2 (gA _ st.1) (ZC st.2);exact JZ (pos:=pos) (p:=p) hc hg (ok.no _ Y.1) hb pa g3 g2 (gA _ st.1) (ZC st.2)
  exact Snd.of pe (HB pe λ_=>rfl) (λ_ _ _ z=>by cases z) rfl
 |eff a L=>intro X S E ok e h Y;rcases(ql _ _).mp h with h|h;apply jR h;intro x y z w h;exact Snd.lit (L ok h Y).pe rfl (λ_ _ _ z=>by cases z) rfl;apply rE h;intro x y z h;exact Snd.lit (L ok h Y).pe rfl (λ_ _ _ z=>by cases z) rfl
 |prm o as ih =>
  intro X S E ok e h Y;have h0:=jA h;cases o with
  |dget x =>
   let#[v,ap,es,cp,rfl,hl,W]:=rR h0.2;apply kB W;intro y p J;have M:=jA J;have O:=jA M.2;cases Qn M.1;apply oB O.2;intro a h5;let#[ad,kvs,hm,hd,D]:=ok.dic x Y.1;have po:PE X (.Name x p) (λ_ H Q=>Q (.ref ad) H):=NQ (pos:=p) ok.sc O.1 hm rfl;have st:=aB as h5;have pas:=(ih ok h5 Y.2).pas _ cp rfl;let#[a1,rfl]:=jG as h0.1 h5;have base:=lc (apos:=ap) (cpos:=cp) D po pas.1 rfl (by rw[kK st];rfl) hl (gA _ (jA st).1);have pe:PE X (.Call (.Attribute (.Name x p) "get" ap) [a] [] cp) (wp X.K G.ev (.prm (.dget x) (.acons a1 .anil)) E).e:=by
    refine BC base λB H Q q=>?_;have e:(λ(y:V) (Z:Hp)=>∃z,y=.str z/\Q ((kvs.lookup z).getD .non) Z)=λ(y:V) (Z:Hp)=>iZ X.K G.ev (.dget x) [y] Z Q:=by
     funext y Z;apply Pz;constructor;rintro⟨z,rfl,q⟩;exact#[kvs,hd,q];intro q;cases y with|str z=>let#[k2,e2,q]:=q;rw[hd]at e2;cases e2;exact#[z,rfl,q]|_=>exact q.elim
    rw[e];exact q
   exact Snd.of pe (HB pe λ_=>rfl) (λ_ _ _ z=>by cases z) rfl
  |dgetD x =>
   let#[v,ap,es,cp,rfl,hl,W]:=rR h0.2;apply kB W;intro y p J;have M:=jA J;have O:=jA M.2;cases Qn M.1;apply KJ O.2;intro a b h5;let#[ad,kvs,hm,hd,D]:=ok.dic x Y.1;have po:PE X (.Name x p) (λ_ H Q=>Q (.ref ad) H):=NQ (pos:=p) ok.sc O.1 hm rfl;have st:=aB as h5;have pas:=(ih ok h5 Y.2).pas _ cp rfl;let#[a1,b1,rfl]:=JH as h0.1 h5;have st':=st;rw[qB,qB]at st';have base:=D6 (apos:=ap) (cpos:=cp) D po pas.1 pas.2.1 rfl (by rw[kK st];rfl) hl (by rw[gA _ (jA st').1,gA _ (jA (jA st').2).1];rfl);have pe:PE X (.Call (.Attribute (.Name x p) "get" ap) [a,b] [] cp) (wp X.K G.ev (.prm (.dgetD x) (.acons a1 (.acons b1 .anil))) E).e:=by
    intro P s B H Q I q;refine base P s B H Q I ?_;have e:(λ(y:V) (Z:Hp)=>(wp X.K G.ev b1 E).e B Z λ(d:V) (H2:Hp)=>∃z,y=.str z/\Q ((kvs.lookup z).getD d) H2)=λ(y:V) (Z:Hp)=>(wp X.K G.ev b1 E).e B Z λ(d:V) (H2:Hp)=>iZ X.K G.ev (.dgetD x) [y,d] H2 Q:=by
     funext y Z;congr 1;funext d H2;apply Pz;constructor;rintro⟨z,rfl,q⟩;exact#[kvs,hd,q];intro q;cases y with|str z=>let#[k2,e2,q]:=q;rw[hd]at e2;cases e2;exact#[z,rfl,q]|_=>exact q.elim
    show(wp X.K G.ev a1 E).e B H (λ(y:V) (Z:Hp)=>(wp X.K G.ev b1 E).e B Z λ(d:V) (H2:Hp)=>∃z,y=.str z/\Q ((kvs.lookup z).getD d) H2);rw[e];exact q
   exact Snd.of pe (HB pe λ_=>rfl) (λ_ _ _ z=>by cases z) rfl
  |dix x =>
   apply rE h0.2;intro v i pos W;apply kB W;intro y p J;have M:=jA J;have O:=jA M.2;have h5:=jA O.2;cases Qn M.1;let#[ad,kvs,hm,hd,D]:=ok.dic x Y.1;have po:PE X (.Name x p) (λ_ H Q=>Q (.ref ad) H):=NQ (pos:=p) ok.sc O.1 hm rfl;have pas:=(ih ok h5.2 Y.2).pas _ pos rfl;let#[a1,rfl]:=jG as h0.1 h5.2;have base:=Ff (pos:=pos) (Y8 D) po pas.1 (LQ h5.1);have pe:PE X (.Subscript (.Name x p) i pos) (wp X.K G.ev (.prm (.dix x) (.acons a1 .anil)) E).e:=by
    refine BC base λB H Q q=>?_;have e:(λ(y:V) (Z:Hp)=>∃z v,(V.ref ad)=.ref ad/\y=.str z/\kvs.lookup z=jb v/\Q v Z)=λ(y:V) (Z:Hp)=>iZ X.K G.ev (.dix x) [y] Z Q:=by
     funext y Z;apply Pz;constructor;rintro⟨z,v,_,rfl,l,q⟩;exact#[kvs,v,hd,l,q];intro q;cases y with|str z=>let#[k2,v,e2,l,q]:=q;rw[hd]at e2;cases e2;exact#[z,v,rfl,rfl,l,q]|_=>exact q.elim
    show(wp X.K G.ev a1 E).e B H (λ(y:V) (Z:Hp)=>∃z v,(V.ref ad)=.ref ad/\y=.str z/\kvs.lookup z=jb v/\Q v Z);rw[e];exact q
   exact Snd.of pe (HB pe λ_=>rfl) (λ_ _ _ z=>by cases z) rfl
  |dgt =>
   apply rE h0.2;intro v i p W;have J:=jA W;have pas:=(ih ok J.2 Y.2).pas _ p rfl;let#[a1,b1,rfl]:=JH as h0.1 J.2;have hu:X.A.units+1<cLine:=by have:=ok.un;omega
   have pe:PE X (.Subscript v i p) (wp X.K G.ev (.prm .dgt (.acons a1 (.acons b1 .anil))) E).e:=cc (pos:=p) hu pas.1 pas.2.1 (LQ J.1);exact Snd.of pe (HB pe λ_=>rfl) (λ_ _ _ z=>by cases z) rfl
  |plc=>apply OS h0.2;intro v n ap W;have J:=jA W;cases Qn J.1;have M:=jA J.2;have O:=jA M.2;have pas:=(ih ok O.2 Y.2).pas _ ap rfl;let#[a1,rfl]:=jG as h0.1 O.2;have pe:PE X (.Attribute v "place" ap) (wp X.K G.ev (.prm .plc (.acons a1 .anil)) E).e:=BC (Jk (pos:=ap) pas.1 (B7 M.1)) λB H Q q=>q;exact Snd.of pe (HB pe λ_=>rfl) (λ_ _ _ z=>by cases z) rfl|isC =>
   let#[p,es,ks,pos,rfl,hg,W]:=uD h0.2;have J:=jA W;cases Q3.mp J.1;apply KJ J.2;intro a b M;let#[g1,g2,g3]:=CC hg;have hg:Gl X "isinstance":=show X.env.scope.names.lookup ("isinstance":Str)=jb .globalImplicit by rw[ok.sc];exact g1
   have pa:=(ih ok M Y.2).pa _ pos rfl;have st:=aB as M;let#[a1,b1,rfl]:=JH as h0.1 M;have pe:PE X (.Call (.Name "isinstance" p) [a,b] [] pos) (wp X.K G.ev (.prm .isC (.acons a1 (.acons b1 .anil))) E).e :=
    BC (iJ (pos:=pos) (p:=p) JU hg (ok.no _ Y.1) (by kernel_rfl) pa g3 g2 (gA _ (jA st).1) (ZC (jA st).2)) λB H Q q=>q
   exact Snd.of pe (HB pe λ_=>rfl) (λ_ _ _ z=>by cases z) rfl
  |isT x m =>
   let#[p,es,ks,pos,rfl,hg,W]:=uD h0.2;have J:=jA W;cases Q3.mp J.1;apply KJ J.2;intro a b M;have O:=jA M;have h5:=jA O.2;let#[y,yp,rfl,h6]:=jN h5.1;have h7:=jA h6;cases Qn h7.1;let#[g1,g2,g3]:=CC hg;have hg:Gl X "isinstance":=show X.env.scope.names.lookup ("isinstance":Str)=jb .globalImplicit by rw[ok.sc];exact g1
   have pas:=(ih ok h5.2 Y.2).pas _ pos rfl;have st:=aB as h5.2;let#[a1,rfl]:=jG as h0.1 h5.2;have pt:PE X (.Name x yp) (tC (.ty m)):=by
    let#[t1,t2,t3]:=CC h7.2;have hg:Gl X x:=show X.env.scope.names.lookup x=jb .globalImplicit by rw[ok.sc];exact t1
    exact λ_ _ _ H _ I h=>oG I hg (ok.no _ Y.1.2.1) Y.1.2.2 #[.ty m,H,I,rfl,h] t3 t2
   have pe:PE X (.Call (.Name "isinstance" p) [a,.Name x yp] [] pos) (wp X.K G.ev (.prm (.isT x m) (.acons a1 .anil)) E).e :=
    BC (iJ (pos:=pos) (p:=p) JU hg (ok.no _ Y.1.1) (by kernel_rfl) (UD pas.1 (UD pt eK (gA _ O.1)) (gA _ (jA st).1)) g3 g2 (gA _ (jA st).1) (ZC (by rw[qB,O.1];rfl))) λB H Q q=>q
   exact Snd.of pe (HB pe λ_=>rfl) (λ_ _ _ z=>by cases z) rfl
  |tmul=>apply kY h0.2;intro l o r pos W;have J:=jA W;cases Qn J.1;have pas:=(ih ok J.2 Y.2).pas _ pos rfl;let#[a1,b1,rfl]:=JH as h0.1 J.2;have pe:PE X (.BinOp l .Mult r pos) (wp X.K G.ev (.prm .tmul (.acons a1 (.acons b1 .anil))) E).e:=Df Bc pas.1 pas.2.1;exact Snd.of pe (HB pe λ_=>rfl) (λ_ _ _ z=>by cases z) rfl
 |isi a c L ihc =>
  intro X S E ok e h Y;let#[p,es,ks,pos,rfl,hg,h]:=uD h;have W:=jA h;cases Q3.mp W.1;apply KJ W.2;intro l r J;have M:=jA J;have O:=jA M.2;have h5:=jA O.2;let#[g1,g2,g3]:=CC hg;have hg:Gl X "isinstance":=show X.env.scope.names.lookup ("isinstance":Str)=jb .globalImplicit by rw[ok.sc];exact g1
  have pe:PE X (.Call (.Name "isinstance" p) [l,r] [] pos) (wp X.K G.ev (.isi a c) E).e :=
   iJ (pos:=pos) (p:=p) YU hg (ok.no _ Y.1) (by kernel_rfl) (UD (L ok h5.1 Y.2.1).pe (UD (ihc ok h5.2 Y.2.2).pe eK (gA _ O.1)) (gA _ M.1)) g3 g2 (gA _ M.1) (ZC (by rw[qB,O.1];rfl))
  exact Snd.of pe (HB pe λ_=>rfl) (λ_ _ _ z=>by cases z) rfl
 |mt m o as iho ih =>
  intro X S E ok e h Y;let#[v,ap,es,pos,rfl,J,h]:=rR h;have h0:=jA h;have W:=jA h0.2;have M:=jA W.2;have O:=jA M.2;have po:=(iho ok O.1 Y.1).pe;have pa:=(ih ok O.2 Y.2).pa _ pos rfl;have st:=aB as O.2;let#[id,pat,sl,ty,mr]:=jr (X:=X) m;have pe:PE X (.Call (.Attribute v m.nm ap) es [] pos) (wp X.K G.ev (.mt m o as) E).e:=by
   cases es with
   |nil =>
    refine BC (Xk (apos:=ap) (cpos:=pos) pat sl ty mr po (B7 W.1) J) λB H Q q=>?_;have e:(λ(x:V) (Z:Hp)=>C3 X.K m.ty x Z/\Yd X.K m x [] Z Q)=λ(x:V) (Z:Hp)=>C3 X.K m.ty x Z/\(wp X.K G.ev as E).a B Z λvs H2=>Yd X.K m x vs H2 Q:=by funext x Z;rw[Pz (XU as h0.1 O.2)]
    show(wp X.K G.ev o E).e B H (λ(x:V) (Z:Hp)=>C3 X.K m.ty x Z/\Yd X.K m x [] Z Q);rw[e];exact q
   |cons e1 es1=>have s2:=jA st;refine iq (apos:=ap) (cpos:=pos) pat sl ty mr po pa (B7 W.1) ?_ J (gA _ s2.1) (ZC s2.2);rw[kK st];have hl':(e1::es1).9<20:=pz M.1;show(j3&&j3&&decide ((e1::es1).9+0+0<30))=j3;rw[dT (Qm hl' (by decide:20<=30):(e1::es1).9+0+0<30)];rfl
  exact Snd.of pe (HB pe λ_=>rfl) (λ_ _ _ z=>by cases z) rfl
 |slc a lo hi L ihl ihh =>
  intro X S E ok e h Y;apply rE h;intro v sl pos h;apply XZ h;intro l u st p2 h;have W:=jA h;have J:=jA W.2;have M:=jA J.2;have part:∀(q:PX) (w:Option Expr),(∀{e:Expr},chk q S e=j3->PE X e (wp X.K G.ev q E).e)->Cu w (isNop q) (λe=>!isNop q&&chk q S e)=j3 ->
    PO X w (λB H R=>(if isNop q=j3 then λ(R:Option Int->Hp->Prop)=>R js H else λR=>(wp X.K G.ev q E).e B H λl H2=>TM l H2 R) R):=by
   intro q w ihq hq;cases w with
   |none=>have e:isNop q=true:=hq;simp only[e,if_true];exact Ib|some e' =>
    have q1:=jA hq;have e:isNop q=false:=(wx _).mp q1.1;simp only[e,Qo,if_false];intro P s B H Q I w;refine Eb (ihq q1.2) P s B H Q I ?_;show(wp X.K G.ev q E).e B H (λ(x:V) (Z:Hp)=>∃i,x=.int i/\Q (jb i) Z);have e2:(λ(x:V) (Z:Hp)=>∃i,x=.int i/\Q (jb i) Z)=λ(x:V) (Z:Hp)=>TM x Z Q:=by funext x Z;exact(M6 x Z Q).symm
    rw[e2];exact w
  cases Option.isNone_iff_eq_none.mp W.1;exact Snd.lit (Z6 (pos:=pos) (p2:=p2) Xj (L ok J.1 Y.1).pe (part lo l (λhc=>(ihl ok hc Y.2.1).pe) M.1) (part hi u (λhc=>(ihh ok hc Y.2.2).pe) M.2)) rfl (λ_ _ _ z=>by cases z) rfl
 |comp mask tgs tg ik its cond elt ihi ihc ihe =>
  intro X S E ok e h Y;apply jR h;intro e gens scope pos h;apply oB h;intro z0 h;let#[t,it,ifs,asy]:=z0;have h0:=jA h;have W:=jA h0.2;have J:=jA W.2;have M:=jA J.2;have O:=jA M.2;have h5:=jA O.2;have ea:asy=0:=Qn h0.1;cases ea;have C:CompSt X.N X.env.scope scope tgs mask:=by rw[ok.N,ok.sc];exact dU W.1
  let#[n1,n2,n3,n4]:=Y;have pi:PI X t it (zV λB H R=>(wp X.K G.ev its E).a B H λvs Z=>NB X.K ik vs Z R):=CV ok O.1 n1 λes p q=>ihi ok q n2;refine Snd.lit (fc (pos:=pos) (g:=nH X.K tg) (tc:=if isNop cond=j3 then λ_ H Q=>Q j3 H else(wp X.K G.ev cond (λ_ _ _=>False)).t) (te:=(wp X.K G.ev elt (λ_ _ _=>False)).e) ok.calm pi C (λs H ex=>?_) (λx=>zW M.1 x)) rfl (λ_ _ _ z=>by cases z) rfl;have okc:=ok.comp scope tgs mask s H ex;refine#[g6 okc C.nd J.1,?_,(ihe okc h5.2 n4).pe];have hif:=h5.1;cases ifs with|nil=>have e:isNop cond=true:=hif;simp only[e,if_true];exact EX|cons c r=>have q1:=jA hif;have q2:=jA q1.2;cases Q3.mp q1.1;have e:isNop cond=false:=(wx _).mp q2.1;simp only[e,Qo,if_false];exact AX (ihc okc q2.2 n3).pt
end L2.L3
namespace L2.L3
open PySem PySem.Spec PyProof.Rows
set_option genSizeOf false in
set_option genInjectivity false in
inductive PT where
 |nil|seq (s r:PT)
 |set (i:Nat) (e:PX)
 |expr (e:PX)|ret (e:PX)
 |ife (c:PX) (a b:PT)
 |for_ (tg:Tg) (ik:ItK) (its:PX) (body:PT)
 |own (i:Nat) (e:PX)|rse (x:Str) (m:Option Nat) (e:PX)|tryC (i:Option Nat) (f:Str) (as:PX) (x:Str) (j k:Nat)|setL (i j:Nat) (e:PX)|setX (j:Nat) (k:PX) (i:Nat) (e:PX)|six (j:Nat) (i e:PX)|pap (j:Nat) (k e:PX)|frz (is:LN) (s:PT)|frE (i:Nat) (s:PT)
def O6(j:Nat)(k e:PX):PX:=.mt .append (.idx (.var j) k) %[e|1]
def mw(J:It)(g:TG)(k:TS)(D:Ends)(σ:St)(b:Hp):Prop:=∃W:Nat->Nat->St->Hp->Prop,(∃m,W 0 m σ b)/\∀i m σ H,W i m σ H ->
 (J.stop i H/\D.nx σ H)∨(J.go i H/\∃N:St->Hp->Prop,(∀h y,N h y->∃u,u < m/\W (i+1) u h y)/\∀x y,J.yld i H x y->g x σ y λz a=>k { D with nx:=N,ct:=N,bk:=D.nx } z a)
def yo(K:QC)(xs:List Item)(st:Hp->Prop)(h:Tg)(x:TS)(D:Ends)(σ:St)(H:Hp):Prop:=∀J,Yields J xs st->mw J (nH K h) x D σ H
def Lv(m:Option Nat)(σ:St):Prop:=match m with
 |none=>True|some j=>∃p,σ[j]?=jb (jb (.int p))/\p.natAbs.log2<1920
def setO(i:Option Nat)(v:V)(σ:St):St:=match i with
 |none=>σ|some i=>σ.set i (jb v)
def lS(K:QC)(Γ:Ev)(E:XK):PT->TS
 | .nil=>λD h H=>D.nx h H|.seq s r=>λD h H=>lS K Γ E s { D with nx:=λh H=>lS K Γ E r D h H } h H|.set i e=>λD h H=>(wp K Γ e E).e h H λx y=>D.nx (h.set i (jb x)) y|.own i e=>λD h H=>(wp K Γ e E).e h H λx y=>D.nx (h.set i (jb x)) y|.setX j k i e=>λD h H=>(wp K Γ e E).e h H λv y=>Er K (T8 (Sr (wp K Γ (.var j) E).e (wp K Γ k E).e uP) (T8 (AT i) Ar)) v h y D.nx|.setL i j e=>λD h H=>(wp K Γ e E).e h H λv y=>bindL K [i,j] v h y λn z=>D.nx n z|.expr e=>λD h H=>(wp K Γ e E).e h H λ_ y=>D.nx h y|.ret e=>λD h H=>(wp K Γ e E).e h H D.rt|.ife c a b=>λD h H=>(wp K Γ c E).t h H λk y=>if k=j3 then lS K Γ E a D h y else lS K Γ E b D h y|.for_ X W o g=>λD h H=>(wp K Γ o E).a h H λvs y=>NB K W vs y λq st z=>yo K q st X (lS K Γ E g) D h z|.rse x m e=>λD h H=>Lv m h/\∃C nm,Γ.va x=.ref C/\ExC K C nm/\(wp K Γ e E).e h H λv y=>∃p,v=.int p/\∀u l,y u=js->y l=js->l≠u->E .none (jb u) (LA (LA y l (.xd (JI p))) u (.ext (dH C u l)))|.tryC i f A x j k=>λD h H=>(∃C,Γ.va x=.ref C/\ExC K C "WorldError")/\(wp K Γ A (λ_ _ _=>False)).a h H λvs y=>Γ.sp f vs y (λv z=>D.nx (setO i v h) z) λ_ a z=>∃e,a=jb e/\D.nx ((h.set j (jb (.ref e))).set k js) z|.frz _ s=>lS K Γ E s|.frE _ s=>lS K Γ E s|.six j i e=>λD h H=>(wp K Γ e E).e h H λv y=>(wp K Γ (.var j) E).e h y λY z=>(wp K Γ i E).e h z λZ F=>uP Y Z v F λB=>D.nx h B|.pap j k e=>λD h H=>(wp K Γ (O6 j k e) E).e h H λ_ y=>D.nx h y
def gG(G:Glob):PT->Prop
 | .nil=>True|.rse x _ e=>G.val x/\G.no "raise"/\RA G e|.tryC _ f u x _ _=>G.fn f/\RA G u/\G.val x|.frz _ s=>gG G s|.frE _ s=>gG G s|.six _ i e=>RA G i/\RA G e|.pap j k e=>RA G (O6 j k e)|.seq s r=>gG G s/\gG G r|.set _ e=>RA G e|.own _ e=>RA G e|.expr e=>RA G e|.setL _ _ e=>RA G e|.setX _ k _ e=>RA G k/\RA G e|.ret e=>RA G e|.ife c a b=>RA G c/\gG G a/\gG G b|.for_ _ z y h=>Du G z/\RA G y/\gG G h
def CF(e:Expr):Bool:=decide (e.ctorIdx<8)||decide (10<e.ctorIdx)
def aM(S:SC)(i:Nat)(x:Str):Bool:=S.N[i]?==jb x&&(S.sc.names.lookup x==jb .local||S.sc.names.lookup x==jb .cell)
def oY:PT->Bool
 | .nil=>Kz|.seq _ _=>Kz|.frz _ s=>oY s|.frE _ s=>oY s|_=>j3
def pL(s:y1)(f:List Expr->Expr->Bool):Bool:=if k:s.ctorIdx=5 then @QDK (λ_=>Bool) s k λh v _=>f h v else Kz
def f7(s:y1)(f:Expr->Bool):Bool:=if k:s.ctorIdx=24 then @Stmt.Expr.elim (λ_=>Bool) s k λv _=>f v else Kz
def z7(s:y1)(f:Option Expr->Bool):Bool:=if k:s.ctorIdx=3 then @QDL (λ_=>Bool) s k λv _=>f v else Kz
def u7(s:y1)(f:Expr->List y1->List y1->Bool):Bool:=if k:s.ctorIdx=12 then @Stmt.If.elim (λ_=>Bool) s k λt x y _=>f t x y else Kz
def c7(s:y1)(f:Expr->Expr->List y1->List y1->Pos->Bool):Bool:=if k:s.ctorIdx=9 then @Stmt.For.elim (λ_=>Bool) s k λt it x y p=>f t it x y p else Kz
def j7(s:y1)(f:Expr->Bool):Bool:=if k:s.ctorIdx=16 then @QDf (λ_=>Bool) s k λa b _=>(match a with|some e=>b.isNone&&f e|none=>Kz) else Kz
def E6(s:y1)(f:List y1->List Hz->Bool):Bool:=if k:s.ctorIdx=17 then @Stmt.Try.elim (λ_=>Bool) s k λb h o n _=>o.isEmpty&&(n.isEmpty&&f b h) else Kz
def Lf(h:Hz)(f:Expr->Str->List y1->Bool):Bool:=match h with | .ExceptHandler (jb t) (jb n) b _=>f t n b|_=>Kz
def jY(e:Expr)(f:Expr->Bool):Bool:=if k:e.ctorIdx=17 then @QBF (λ_=>Bool) e k λv c s _=>c==-1&&(s.isNone&&f v) else Kz
def GV(e:Expr)(f:Expr->Expr->Expr->Bool):Bool:=if k:e.ctorIdx=18 then @QCD (λ_=>Bool) e k λvs _=>bx vs λa m b=>jY m λv=>f a v b else Kz
def DH{C:y1->Prop}(h:pL s f=j3)(K:∀x v p,f x v=j3->C (.Assign x v p)):C s :=
 @QDK (λs=>pL s f=j3->C s) s (VB h) K h
def HV{C:y1->Prop}(h:f7 s f=j3)(K:∀v p,f v=j3->C (.Expr v p)):C s :=
 @Stmt.Expr.elim (λs=>f7 s f=j3->C s) s (VB h) K h
def Nc{C:y1->Prop}(h:z7 s f=j3)(K:∀v p,f v=j3->C (.Return v p)):C s :=
 @QDL (λs=>z7 s f=j3->C s) s (VB h) K h
def Oc{C:y1->Prop}(h:u7 s f=j3)(K:∀t x y p,f t x y=j3->C (.If t x y p)):C s :=
 @Stmt.If.elim (λs=>u7 s f=j3->C s) s (VB h) K h
def Rc{C:y1->Prop}(h:c7 s f=j3)(K:∀t it x y p,f t it x y p=j3->C (.For t it x y p)):C s :=
 @Stmt.For.elim (λs=>c7 s f=j3->C s) s (VB h) K h
def Mc(h:j7 s f=j3):∃e p,s=.Raise (jb e) js p/\f e=j3 :=
 let#[k,_]:=ON h
 @QDf (λs=>j7 s f=j3->∃e p,s=.Raise (jb e) js p/\f e=j3) s k (λa b p h=>match a,b,h with
  |some e,js,h=>#[e,p,rfl,h]) h
def Lc(h:E6 s f=j3):∃b x p,s=.Try b x [] [] p/\f b x=j3 :=
 let#[k,_]:=ON h
 @Stmt.Try.elim (λs=>E6 s f=j3->∃b x p,s=.Try b x [] [] p/\f b x=j3) s k (λb x o n p h=>match o,n,h with
  |[],[],h=>#[b,x,p,rfl,h]) h
def Pc(h:Lf s f=j3):∃t n b p,s=.ExceptHandler (jb t) (jb n) b p/\f t n b=true:=by
 cases s with
 |ExceptHandler t n b p =>
  cases t with
  |none=>exact(QD h).elim|some t=>cases n with|none=>exact(QD h).elim|some n=>exact#[t,n,b,p,rfl,h]
def v7(h:GV e f=j3):∃a v b x p,e=.JoinedStr [a,.FormattedValue v (-1) js x,b] p/\f a v b=true:=by
 let#[k,_]:=ON h;refine @QCD (λe=>GV e f=j3->∃a v b x p,e=.JoinedStr [a,.FormattedValue v (-1) js x,b] p/\f a v b=j3) e k (λvs p h=>?_) h;let#[a,m,b,rfl,h]:=Fq (l:=vs) (f:=λa m b=>jY m λv=>f a v b) h;have h:jY m (λv=>f a v b)=true:=h;let#[k,_]:=ON h;refine @QBF (λm=>jY m (λv=>f a v b)=j3->∃g v u x i,Expr.JoinedStr [a,m,b] p=.JoinedStr [g,.FormattedValue v (-1) js x,u] i/\f g v u=j3) m k (λv c s x h=>?_) h;have z:=jA h;have y:=jA z.2;cases s with|none=>exact#[a,v,b,x,p,by rw[Qn z.1],y.2]|some _=>exact(QD y.1).elim
def strB(e:Expr):Bool:=sF e λc=>Je c λz=>decide (z.9<=1000)
def nV(h:strB e=j3):∃z k p,e=.Constant (.str z) k p/\z.9<=1000:=by apply DE h;intro c k p y;let#[z,rfl,x]:=cX y;exact#[z,k,p,rfl,pz x]
def Mv(S:SC)(m:Option Nat)(e:Expr):Bool:=match m with
 |none=>strB e|some j=>GV e λa v b=>strB a&&(strB b&&pB v λy _=>Y4 S j y)
def Xg(S:SC)(f:Str)(z:PX)(e:Expr):Bool:=lH S f e λy h p=>h.isEmpty&&l7 y λx t=>eB x&&chk z S (.List (x::t) p)
def fw(S:SC)(x:Str)(j k:Nat)(h:Hz):Bool:=Lf h λt n b=>pB t λy _=>x==y&&(NJ S y&&(sR S k n&&(Y4 S k n&&(j != k&&KI b λst=>pL st λa v=>KI a λg=>pB g λz _=>sR S j z&&pB v λu _=>u==n))))
def Ry(S:SC):Tg->Expr->Bool
 | .nm i,.Name x _=>aM S i x|_,_=>Kz
def setB(S:SC)(i:Nat)(c:Expr->Bool)(l:List y1):Bool:=KI l λst=>pL st λh v=>KI h λt=>pB t λx _=>aM S i x&&((CF v||S.sc.names.lookup x==jb .cell)&&c v)
def G8:PX->Bool
 | .comp _ _ _ _ _ _ _=>j3|_=>Kz
def Yu:PX->PX
 | .eff a=>a|a=>a
def GX(S:SC)(i:Nat)(e:PX)(l:List y1):Bool:=KI l λst=>pL st λy v=>KI y λt=>pB t λx z=>UZ v λa u sc h=>sR S i x&&(S.sc.kind==.function&&(z.line==h.line&&(!(sc.names.any λ(n,k)=>n==x&&(k==.local||k==.cell))&&(G8 (Yu e)&&chk (Yu e) S (.ListComp a u sc h)))))
def bg(v:Expr):Bool:=(yI v λ_ _ _=>j3)||(ZI v λ_ _ _ _=>j3)
def HR:PT->SC->List y1->Bool
 | .nil,_,l=>l.isEmpty|.seq s r,S,l=>l7 l λst l=>oY s&&(HR s S [st]&&HR r S l)|.set i e,S,l=>setB S i (chk e S) l||GX S i e l
 | .own i e,S,l=>setB S i (chk e S) l||GX S i e l
 | .setX j k i e,S,l=>KI l λst=>pL st λh v=>KI h λt=>HS t λu _ _=>e7 u λo x=>yI o λX z _=>fG z&&(xo S (.nm i) x&&(bg v&&(chk e S v&&(chk (.var j) S X&&chk k S z))))|.setL i j e,S,l=>KI l λst=>pL st λh v=>KI h λt=>JN t&&(xo S (.tp [i,j]) t&&(bg v&&chk e S v))|.expr e,S,l=>KI l λst=>f7 st λv=>CF v&&chk e S v|.ret e,S,l=>KI l λst=>z7 st λv=>Cu v Kz (chk e S)|.ife c a b,S,l=>KI l λst=>u7 st λt x y=>chk c S t&&(HR a S x&&HR b S y)|.for_ tg ik its body,S,l=>KI l λst=>c7 st λt it x y q=>y.isEmpty&&((xo S tg t||Ry S tg t)&&(mP it&&(Iv (LC its) S ik (λu p=>chk its S (.List u p)) t it q&&HR body S x)))
 | .six j i e,S,l=>KI l λst=>pL st λh v=>KI h λt=>yI t λX z _=>fG z&&(CF v&&(chk e S v&&(chk (.var j) S X&&chk i S z)))|.pap j k e,S,l=>KI l λst=>f7 st λv=>CF v&&chk (O6 j k e) S v|.frz _ s,S,l=>HR s S l|.frE _ s,S,l=>HR s S l|.rse x m e,S,l=>KI l λst=>j7 st λW=>ZI W λg u Y _=>pB g λy _=>x==y&&(NJ S y&&(Y.isEmpty&&e7 u λa b=>Mv S m a&&(eB a&&(eB b&&chk e S b))))|.tryC i f as x j k,S,l=>KI l λst=>E6 st λb Z=>KI Z (fw S x j k)&&KI b λn=>match i with
  |none=>f7 n λv=>Xg S f as v|some _=>Kz
structure OkS(X:Cx)(S:SC)(G:Glob)(E:XK):Prop extends OkX X S G E where
 po:m9 (Vz X.prog X.w) X.A X.env X.xe
 nd:X.N.Nodup
 cel:∀x,X.fn x=j3
 rs:lX X (wOf X.K) (iOf X.K) E
 er:G.no "raise"->∃k fd,FnOk X.prog X.w X.K X.mg X.base Ha k (iOf X.K) fd ["self","words","place"] (zP X.K (wOf X.K) (iOf X.K))/\Room (k+1) X.A/\xF X.K fd ["self","words","place"] []
 cx:∀f,G.fn f->∃(k:Nat) (a:kl) (fd:x3) (ps:LS),FnOk X.prog X.w X.K X.mg X.base (zf X.prog X.w X.K (wOf X.K) (iOf X.K)) k a fd ps (G.ev.sp f)/\Room k X.A/\X.mg f=jb (.ref a)/\qq X.K (.ref a)=j3/\xF X.K fd ps []
 st:X.stack=X.env::X.outer
 fr:X.env.frame=jb X.env.locals
section
variable{X:Cx}{S:SC}{G:Glob}{E:XK}
def VI(h:CF e=j3):dt e t n env=n5 false:=by cases e<;>first|rfl|cases h
def yP(ok:OkX X S G E)(h:aM S i x=j3):X.N[i]?=jb x/\du X.env.scope x:=by simp only[aM,Qc,ql,beq_iff_eq]at h;rw[ok.N,ok.sc];exact#[h.1,h.2]
def aZ(ok:OkS X S G E)(m:aM S i x=j3)(g:(CF v||S.sc.names.lookup x==jb .cell)=j3)(pe:PE X v (wp X.K G.ev e E).e) :
  PS X (.Assign [.Name x a] v pos) (lS X.K G.ev E (.set i e)):=by
 let#[o,n]:=yP ok.toOkX m;refine A5 (pos':=a) ok.nd o n pe ?_ (.inl (ok.cel x));cases u:CF v with
 |true=>exact VI u|false =>
  rw[u,QBK,beq_iff_eq,<- ok.sc]at g;have hk:X.env.kindOf x=jb .cell:=g;have h:∀(b c:Bool) (z y:Nat),(n5 (b&&X.env.kindOf x==jb .local&&z==y&&!c):Sem Bool)=n5 false:=λb c z y=>by
   rw[hk];have:(b&&(jb NameKind.cell==jb NameKind.local)&&z==y&&!c)=false:=by cases b<;>rfl
   rw[this]
  cases v with|ListComp p j sc l=>exact h _ _ _ _|SetComp p j sc l=>exact h _ _ _ _|DictComp k v j sc l=>exact h _ _ _ _|_=>cases u
def Od(h:G8 e=j3):∃a b c d f g k,e=.comp a b c d f g k:=by
 cases e with|comp a b c d f g k=>exact#[a,b,c,d,f,g,k,rfl]|_=>exact(QD h).elim
def xk(ok:OkS X S G E)(h:GX S i e l=j3)(o:RA G e):∃st,l=[st]/\PS X st (lS X.K G.ev E (.set i e)):=by
 have o:RA G (Yu e):=by cases e<;>exact o
 have ew:lS X.K G.ev E (.set i e)=lS X.K G.ev E (.set i (Yu e)):=by cases e<;>rfl
 rw[ew];apply oB h;intro st q1;apply DH q1;intro ts v p q2;apply oB q2;intro t q3;apply kB q3;intro x px q4;apply jR q4;intro el gs sc cp q5;have P:=jA q5;have O:=jA P.2;have M:=jA O.2;have L:=jA M.2;have A:=jA L.2;let#[z,a,tg,ik,Z,y,m,B]:=Od A.1;rw[B]at o A ⊢;refine#[_,rfl,?_];have h6:=A.2;let#[el',R,Y,pos,B,g]:=Pk h6;cases B;apply oB g;intro z0 g;let#[t,it,W,F]:=z0;have g0:=jA g;have g1:=jA g0.2;have g2:=jA g1.2;have g3:=jA g2.2;have g4:=jA g3.2;have g5:=jA g4.2;have ea:F=0:=Qn g0.1;cases ea;have C:CompSt X.N X.env.scope sc a z:=by rw[ok.N,ok.sc];exact dU g1.1
 let#[n1,n2,n3,n4]:=o;let#[l1,l2]:=GH P.1;have b:X.env.scope.names.lookup x=jb .local:=by rw[ok.sc];exact l2
 refine Pb (g:=nH X.K tg) (tc:=if isNop y=j3 then λ_ H Q=>Q j3 H else(wp X.K G.ev y (λ_ _ _=>False)).t) (te:=(wp X.K G.ev m (λ_ _ _=>False)).e) ok.calm ok.nd (by rw[ok.N];exact l1) b (CV ok.toOkX (pos:=cp) g4.1 n1 λes p q=>snd Z ok.toOkX q n2) C (λs H ex=>?_) (λx=>zW g3.1 x) ?_;have u:=ok.toOkX.comp sc a z s H ex;refine#[g6 u C.nd g2.1,?_,(snd m u g5.2 n4).pe];have j:=g5.1;cases W with|nil=>have e:isNop y=true:=j;simp only[e,if_true];exact EX|cons c r=>have J:=jA j;have I:=jA J.2;cases Q3.mp J.1;have e:isNop y=false:=(wx _).mp I.1;simp only[e,Qo,if_false];exact AX (snd y u I.2 n3).pt
 have k1:X.env.scope.kind=.function:=by rw[ok.sc];exact Qn O.1
 have k2:(X.env.blockKind==.function)=true:=by simp[Env.blockKind,k1,ScopeKind.isAnnotationScope]
 have k3:(X.env.kindOf x==jb .local)=true:=by show(X.env.scope.names.lookup x==jb .local)=j3;rw[b];rfl
 show(n5 (X.env.blockKind==.function&&X.env.kindOf x==jb .local&&px.line==cp.line&&!(sc.names.any λ(n,k)=>n==x&&(k==.local||k==.cell))):Sem Bool)=n5 j3;rw[k2,k3,M.1,L.1];rfl
def OkX.mute(ok:OkX X S G E)(E':CB):OkX (X.wish E') S G (λ_ _ _=>False) where
 N:=ok.N
 sc:=ok.sc
 calm:=ok.calm
 un:=ok.un
 fn:=λf h=>by let#[l,k,a,j,y,i,g,e,b,u,m,x]:=ok.fn f h;exact#[l,k,a,j,y,i,g,e,b,u,λ_ _ _ _ _ _ _ z=>(x _ _ _ _ _ z).elim,x]
 val:=ok.val
 no:=ok.no
 dic:=ok.dic
def ue(ok:OkS X S G E){E':CB}(h:Xg S f l v=j3)(J:G.fn f)(L:RA G l)(I:Inv X x σ H s)(P:∀z g u s',Inv X x σ z g->zf X.prog X.w X.K (wOf X.K) (iOf X.K) X.stack z g EK u s'->E' u s')(q:(wp X.K G.ev l (λ_ _ _=>False)).a σ H λvs z=>G.ev.sp f vs z Q EK) :
  ka (Vz X.prog X.w) X.A (zz v X.env) (EP X x σ Q) E' s:=by
 let#[p,es,ks,j,rfl,n,h1]:=uD h;have Z:=jA h1;cases Q3.mp Z.1;apply ZJ Z.2;intro e1 es1 R;have Y:=jA R;let#[g1,g2,g3]:=CC n;have n:Gl X f:=show X.env.scope.names.lookup f=jb .globalImplicit by rw[ok.sc];exact g1
 let#[k,a,fd,B,F,M,N,hk,O]:=ok.cx f J;have C:=(snd l (ok.toOkX.mute E') Y.2 L).pa _ j rfl;have st:=jA (aB l Y.2);refine wL (FJ I n N ?_ g2);refine QAp (h₀:=X.base) I.ok.mod.kin hk (ZX (C j x s σ H _ (I.wish E') q) λm g vs z i r o=>?_) (gA _ st.1) (ZC st.2);have i:Inv X x σ z g:=i.unwish;refine#[i.kIn,QA8 (WJ (F.run X.A X.stack g z #[m,[]] m vs Q EK M i.env0 ?_ r o) λW s' y=>?_)];have hl:(m++[]).9=B.length:=by rw[Qe,<- r.9];exact F.len _ _ _ _ o
 have b:=O g m i.kIn hl;rw[Qe]at b;exact b;cases W with
 |error e=>exact P z g e s' i y|ok fl =>
  cases fl with|ret u=>exact i.after y|next=>exact QV y|brk=>exact QV y|cont=>exact QV y
def PY(h:fG x=j3)(u:ky):dy (.Subscript y x z) env u=(do
     let y <- Dz [u] (zz y env)
     let x <- Dz [u,y] (zz x env)
     le z
     Dz [u,y,x] (nl y x u)
     release [u,y,x] []):=by
 cases x<;>first|rfl|exact(QD h).elim
def nv:h9 [t] (.Subscript a b p) env=n5 none:=by cases t<;>rfl
def pv:h9 [t] (.Call a h ks p) env=n5 none:=by cases t<;>rfl
def gv:h9 [.Subscript a b p] v env=n5 none:=by cases v<;>rfl
noncomputable abbrev Vx(X:Cx)(G:Glob)(E:XK)(p:PT)(l:List y1):Prop:=X3 X l (lS X.K G.ev E p)/\(oY p=j3->∀st,l=[st]->PS X st (lS X.K G.ev E p))
def Yv:∀(p:PT) {l:List y1},OkS X S G E->HR p S l=j3->gG G p->Vx X G E p l:=by
 intro p;have one:∀{p:PT}{st:y1},PS X st (lS X.K G.ev E p)->Vx X G E p [st]:=λh=>#[Ob h,λ_ st' e=>by cases e;exact h]
 have stor:∀{i:Nat}{e:PX}{l:List y1},OkS X S G E->(setB S i (chk e S) l||GX S i e l)=j3->RA G e->∃st,l=[st]/\PS X st (lS X.K G.ev E (.set i e)):=λ{i e l} ok h Z=>by
  rcases(ql _ _).mp h with h|h
  rotate_left
  exact xk ok h Z;apply oB h;intro st O;apply DH O;intro ts v p q2;apply oB q2;intro t q3;apply kB q3;intro x px q4;have W:=jA q4;have F:=jA W.2;exact#[_,rfl,aZ ok W.1 F.1 (snd e ok.toOkX F.2 Z).pe]
 induction p with
 |nil=>intro l ok h Z;cases Q3.mp h;exact#[TX,λh=>(QD h).elim]|seq s r ihs ihr=>intro l ok h Z;apply ZJ h;intro st l h;have W:=jA h;have F:=jA W.2;exact#[FM ((ihs ok F.1 Z.1).2 W.1 st rfl) (ihr ok F.2 Z.2).1,λh=>(QD h).elim]|set i e=>intro l ok h Z;let#[st,rfl,q]:=stor ok h Z;exact one q|own i e=>intro l ok h Z;let#[st,rfl,q]:=stor ok h Z;exact one q|setX j k i e =>
  intro l ok h Z;apply oB h;intro st O;apply DH O;intro ts v p q2;apply oB q2;intro t h;apply EL h;intro es kk pt h;apply KJ h;intro o x h;apply rE h;intro P R pp q4;have W:=jA q4;have F:=jA W.2;have L:=jA F.2;have h4:=jA L.2;have h5:=jA h4.2;cases x with
  |Name xn xp =>
   have nc:CF v=j3/\∀J,h9 [.Tuple [.Subscript P R pp,.Name xn xp] kk pt] v J=n5 none:=by rcases(ql _ _).mp L.1 with z|z;apply rE z;intro _ _ _ _;exact#[rfl,λJ=>rfl];apply YJ z;intro _ _ _ _ _;exact#[rfl,λJ=>rfl]
   let#[g1,g2]:=GH F.1;have g1':X.N[i]?=jb xn:=by rw[ok.toOkX.N];exact g1
   have g2':X.env.scope.names.lookup xn=jb .local:=by rw[ok.toOkX.sc];exact g2
   have ha:∀u,dy (.Subscript P R pp) X.env u=(do
     let P <- Dz [u] (zz P X.env)
     let R <- Dz [u,P] (zz R X.env)
     le pp
     Dz [u,P,R] (nl P R u)
     release [u,P,R] []):=by
    exact PY W.1
   exact one (UV (snd e ok.toOkX h4.1 Z.2).pe (vc ok.toOkX.calm (CS (r6 (pos:=pp) (snd (.var j) ok.toOkX h5.1 trivial).pe (snd k ok.toOkX h5.2 Z.1).pe KS ha) (CS (AL (pos:=xp) ok.nd g1' (.inl g2') (.inr g2')) kc)) rfl rfl) (show dt v (jb (.Tuple [.Subscript P R pp,.Name xn xp] kk pt)) p.line X.env=n5 Kz from VI nc.1) (nc.2 _) rfl)
  |_=>exact(QD F.1).elim
 |setL ii jj e =>
  intro l ok h Z;apply oB h;intro st O;apply DH O;intro ts v p q2;apply oB q2;intro t h;have W:=jA h;have F:=jA W.2;have L:=jA F.2;have nc:CF v=j3/\∀J,h9 [t] v J=n5 none:=by rcases(ql _ _).mp L.1 with z|z;apply rE z;intro _ _ _ _;exact#[rfl,λJ=>nv];apply YJ z;intro _ _ _ _ _;exact#[rfl,λJ=>pv]
  refine one (UV (snd e ok.toOkX L.2 Z).pe (xc ok.toOkX ok.nd F.1) (VI nc.1) (nc.2 _) ?_);cases t<;>first|rfl|exact(QD W.1).elim
 |expr e=>intro l ok h Z;apply oB h;intro st h;apply HV h;intro v p h;have W:=jA h;exact one (GQ (snd e ok.toOkX W.2 Z).pe (VI W.1))|ret e =>
  intro l ok h Z;apply oB h;intro st h;apply Nc h;intro v p h;cases v with|none=>exact(QD h).elim|some v=>exact one (Ij (snd e ok.toOkX h Z).pe)
 |ife c a b iha ihb=>intro l ok h Z;apply oB h;intro st h;apply Oc h;intro t x y p h;have W:=jA h;have F:=jA W.2;exact one (pq (snd c ok.toOkX W.1 Z.1).pt (iha ok F.1 Z.2.1).1 (ihb ok F.2 Z.2.2).1)|for_ tg ik its body ih =>
  intro l ok h Z;apply oB h;intro st h;apply Rc h;intro t it x y p h;have h0:=jA h;have W:=jA h0.2;have F:=jA W.2;have L:=jA F.2;cases Q3.mp h0.1;exact one (vk ok.po ok.calm (CV ok.toOkX L.1 Z.1 λes p q=>snd its ok.toOkX q Z.2.1) (((ql _ _).mp W.1).elim (g6 ok.toOkX ok.nd) λz=>by
   cases tg with
   |nm i=>cases t with|Name x pos=>let#[g1,g2]:=yP ok.toOkX z;exact AL ok.nd g1 g2 (.inl (ok.cel x))|_=>cases z
   |tp is=>cases z) (ih ok L.2 Z.2.2).1 λx=>zW F.1 x)
 |six j i e=>intro l ok h Z;apply oB h;intro st O;apply DH O;intro ts v p q2;apply oB q2;intro t h;apply rE h;intro P R pp q4;have W:=jA q4;have F:=jA W.2;have L:=jA F.2;have h4:=jA L.2;refine one (UV (snd e ok.toOkX L.1 Z.2).pe (r6 (pos:=pp) (snd (.var j) ok.toOkX h4.1 trivial).pe (snd i ok.toOkX h4.2 Z.1).pe KS ?_) ?_ ?_ ?_);exact PY W.1;show dt v (jb (.Subscript P R pp)) p.line X.env=n5 Kz;exact VI F.1;exact gv;rfl|pap j k e=>intro l ok h Z;apply oB h;intro st h;apply HV h;intro v p h;have W:=jA h;exact one (GQ (snd (O6 j k e) ok.toOkX W.2 Z).pe (VI W.1))|frE is s ih=>intro l ok h Z;exact ih ok h Z|frz is s ih=>intro l ok h Z;exact ih ok h Z|rse x m e =>
  intro l ok h Z;apply oB h;intro st h;let#[ex,p,rfl,h]:=Mc h;apply YJ h;intro g es ks cp h;apply kB h;intro y np h;have W:=jA h;cases Qn W.1;have F:=jA W.2;have L:=jA F.2;cases Q3.mp L.1;apply KJ L.2;intro a b h4;have h5:=jA h4;have h6:=jA h5.2;have h7:=jA h6.2;let#[u,hm,ru]:=ok.val x Z.1;let#[kI,fd,FI,hr,hb]:=ok.er Z.2.1;let#[g1,g2,g3]:=CC F.1;have hg:Gl X x:=show X.env.scope.names.lookup x=jb .globalImplicit by rw[ok.sc];exact g1
  refine one λB s σ H D I hq=>?_;let#[hmsg,C,nm,eC,Y,q]:=hq;rw[eC]at ru;obtain rfl:u=j2 C:=ru;have pb:PE X b (λσ H Q=>∃Qq:VK,(wp X.K G.ev e E).e σ H Qq/\∀v M,Qq v M->Q v M):=λB s σ H Q I #[Qq,h,k]=>yE ((snd e ok.toOkX h7.2 Z.2.2).pe B s σ H Qq I h) λu s1 x M I1 r q=>#[x,M,I1,r,k _ _ q]
  have fin:∀{tm:TE},PE X a tm->(∀Q:VK,(∀z,Q z H)->tm σ H Q)->ka (Vz X.prog X.w) X.A (exec (.Raise (jb (.Call (.Name x np) [a,b] [] cp)) js p) X.env) (SP X B D) X.xe s:=λ{tm} pm hm'=>by
   refine Ej (EK:=E) Y.ex ok.rs ok.calm (Vk (pos:=cp) (p:=np) Y.ex FI hr hb hg hm (UD pm (UD pb eK (gA _ h7.1)) (gA _ h6.1)) g2 (gA _ h6.1) (ZC (by rw[qB,h7.1];rfl))) B s σ H D I ?_;refine hm' _ λz=>#[_,q,λv M #[p,ev,k]=>#[z,p,by rw[ev],λe dx n1 n2 n3=>#[e,dx,rfl,fA,#[_,by rw[vA n3];exact fA],?_]]]
   rw[Ta];exact k e dx n1 n2 n3
  cases m with|none=>let#[z,k1,p1,rfl,_]:=nV h5.1;exact fin SM λQ q=>q _|some jj=>let#[a1,v,b1,fp,jp,rfl,m1]:=v7 h5.1;have m2:=jA m1;have m3:=jA m2.2;let#[z1,k1,p1,rfl,l1]:=nV m2.1;let#[z2,k2,p2,rfl,l2]:=nV m3.1;let#[y,yp,rfl,m4]:=jN m3.2;let#[v1,v2,v3,v4]:=JQ m4;let#[p0,e0,l0]:=hmsg;exact fin (Kk (sK (by rw[ok.N];exact v1) (by rw[ok.sc];exact v2) v3 v4) l1 l2) λQ q=>#[p0,e0,l0,λz=>q _]
 |tryC i f as x jj kk =>
  intro l ok h Z;apply oB h;intro st h;let#[b,hs,p,rfl,h]:=Lc h;have W:=jA h;apply oB W.1;intro hd hh;apply oB W.2;intro st2 hb;let#[t,n,bb,hp,rfl,k1]:=Pc hh;apply kB k1;intro y np k1;have k2:=jA k1;cases Qn k2.1;have k3:=jA k2.2;have k4:=jA k3.2;have k5:=jA k4.2;have k6:=jA k5.2;apply oB k6.2;intro sb k7;apply DH k7;intro ts v ap k8;apply oB k8;intro g k9;apply kB k9;intro z zp k10;have k11:=jA k10;apply kB k11.2;intro u up k12;cases Qn k12;let#[C0,hm,ru]:=ok.val x Z.2.2;let#[g1,g2,g3]:=CC k3.1;have hg:Gl X x:=show X.env.scope.names.lookup x=jb .globalImplicit by rw[ok.sc];exact g1
  let#[a1,a2]:=GH k4.1;let#[b1,b2]:=GH k11.1;let#[_,_,v3,v4]:=JQ k5.1;rw[<- ok.N]at a1 b1;rw[<- ok.sc]at a2 b2;have hik:jj≠kk:=by simpa using k6.1
  refine one λB s σ H D I hq=>?_;let#[#[C,eC,Y],q]:=hq;rw[eC]at ru;obtain rfl:C0=j2 C:=ru;have YE:=Y.ex;have hm:=hm;rw[Y.w]at hm YE;refine wpAny_Try_except ?_;have hE:∀M s1 u s',Inv X B σ M s1->zf X.prog X.w X.K (wOf X.K) (iOf X.K) X.stack M s1 (λ_ a H2=>∃e,a=jb e/\D.nx ((σ.set jj (jb (.ref e))).set kk js) H2) u s'->_:=λM s1 u s' I1 hc =>
   Io (rest:=[]) (np:=np) (yp:=zp) (ep:=up) (ap:=ap) (hpos:=hp) (D:=D) I1 hc ok.st ok.fr ok.nd YE hg hm g2 b1 b2 a1 a2 v3 v4 hik λe H' zz=>by let#[e',ee,q]:=zz;cases ee;exact q
  have nxt:∀{s1:kt}{σ1:St}{M:Hp}{E1:CB},Inv X B σ1 M s1->D.nx σ1 M->ka (Vz X.prog X.w) X.A (execs [] X.env) (λf s₁=>match f with | .next=>ka (Vz X.prog X.w) X.A (execs [] X.env) (SP X B D) X.xe s₁|f=>SP X B D f s₁) E1 s1:=λI1 O=>WI (WI #[_,_,I1,O]);cases i with
  |none =>
   apply HV hb;intro v vp hb;have nc:CF v=true:=by let#[_,_,_,_,rfl,_]:=uD hb;rfl
   exact QAI (lw (yE (ue ok hb Z.1 Z.2.1 I hE q) λu s1 x M I1 r O=>nxt I1 O) I.quiet (VI nc))
  |some i=>cases hb
end
noncomputable abbrev D:=x0
set_option genInjectivity true in
inductive T where
 |d (x:D)|lst (ts:List T)|tup (ts:List T)|dct (ks:List D) (ts:List T)
abbrev LT:=List T
mutual
def T.er:T->D
 | .d x=>x|.lst h=>.list (ersT h)|.tup h=>.tuple (ersT h)|.dct y h=>.dict (y.zip (ersT h))
def ersT:LT->List D
 |[]=>[]|t::r=>t.er::ersT r
end
def EA(h:List D):ersT (h.map T.d)=h:=by
 induction h with|nil=>rfl|cons d r x=>simp only[QR,ersT,x,T.er]
def vU:∀(h:LT),(ersT h).9=h.9
 |[]=>rfl|t::r=>by simp only[ersT,QM,vU r]
def T.isD:T->Bool
 | .d _=>j3|_=>Kz
set_option genInjectivity true in
inductive Sl where
 |own (t:T)|bor (t:T)
noncomputable abbrev yA:=List (Option Sl)
abbrev bD(x:D):Option Sl:=jb (.bor (.d x))
abbrev oW(t:T):Option Sl:=jb (.own t)
def LG(t:T)(n:Bool):Bool:=n||t.isD
def cA(t:T):Bool->T
 |true=>.d t.er|false=>t
def zA(x:D)(n:Bool):cA (.d x) n=.d x:=by cases n<;>rfl
def OJ(t:T)(n:Bool):(cA t n).er=t.er:=by cases n<;>rfl
def bF:LT->Option (List D)
 |[]=>jb []|.d x::r=>(bF r).map (x::·)|_::_=>js
def nA(h:List D):bF (h.map T.d)=jb h:=by
 induction h with|nil=>rfl|cons d r x=>simp only[QR,bF,x,qK]
def lM:∀{z:LT}{y:List D},bF z=jb y->z=y.map T.d
 |[],y,h=>by simp only[bF,Qx]at h;subst h;rfl|.d x::r,y,h=>by
  simp only[bF]at h;cases e:bF r with|none=>rw[e]at h;cases h|some u=>rw[e]at h;cases h;rw[QR,lM e]
 | .lst _::_,_,h=>by simp[bF]at h|.tup _::_,_,h=>by simp[bF]at h|.dct _ _::_,_,h=>by simp[bF]at h
set_option genInjectivity true in
inductive Vw where
 |sc (x:D)|ls (ts:LT)|tp (ts:LT)|dc (ks:List D) (ts:LT)
def T.vw:T->Vw
 | .lst h=>.ls h|.tup h=>.tp h|.dct u h=>.dc u h|.d x=>match x with
  | .list z=>.ls (z.map T.d)|.tuple z=>.tp (z.map T.d)|.dict y=>.dc (y.map (·.1)) (y.map λp=>T.d p.2)|.none=>.sc .none|.bool b=>.sc (.bool b)|.int i=>.sc (.int i)|.str s=>.sc (.str s)
def RF(h:LT):T:=match bF h with
 |some x=>.d (.tuple x)|none=>.tup h
noncomputable abbrev XD:=Str×Int
def FF(x:Str)(p:Int):D:=.dict [(.none,.list [.str x,.int p])]
def IF(x:Str):D:=.dict [(.none,.str x)]
noncomputable abbrev XE:=XD->Prop
noncomputable abbrev TK:=T->Bool->yA->Prop
inductive Md where
 |fro|shal|bor|chg
 deriving DecidableEq
structure PSp where
 md:List Md:=[]
 run:LT->(T->LT->Prop)->XE->Prop
 mono:∀{ts:LT}{Q Q':T->LT->Prop}{E E':XE},(∀t os,Q t os->Q' t os)->(∀x,E x->E' x)->run ts Q E->run ts Q' E':=by intro _ _ _ _ _ h _ z;(repeat let#[y,z]:=z;refine#[y,?_]);first|exact h _ _ z|(intros;apply h;apply z<;>assumption)
structure PEv where
 sp:Str->PSp
 va:Str->Option D
 dc:Str->Option (List (Str×D))
def binT(l:hT)(x y:Vw)(Q:T->Bool->Prop):Prop:=match l with
 | .Add=>(∃i j,x=.sc (.int i)/\y=.sc (.int j)/\Q (.d (.int (i+j))) Kz)∨(∃a b,x=.sc (.str a)/\y=.sc (.str b)/\a.9+b.9<=ke/\Q (.d (.str (a++b))) Kz) ∨
  (∃e u h z,x=.ls e/\y=.ls u/\bF e=jb h/\bF u=jb z/\h.9+z.9<=ke/\Q (.lst ((h++z).map T.d)) j3) ∨
  (∃e u h z,x=.tp e/\y=.tp u/\bF e=jb h/\bF u=jb z/\h≠[]/\z≠[]/\h.9+z.9<=ke/\Q (.d (.tuple (h++z))) Kz)
 | .Sub=>∃i j,x=.sc (.int i)/\y=.sc (.int j)/\Q (.d (.int (i - j))) Kz|.Mult=>(∃i j,x=.sc (.int i)/\y=.sc (.int j)/\eN i j/\Q (.d (.int (i * j))) Kz)∨(∃a k,x=.sc (.str a)/\y=.sc (.int k)/\(-(2 ^ 31)<=k/\k<2 ^ 31/\a.9 * k.toNat<=ke)/\Q (.d (.str (aI a k))) Kz)∨(∃g k,∃h:List D,x=.ls g/\y=.sc (.int k)/\bF g=jb h/\(-(2 ^ 31)<=k/\k<2 ^ 31/\h.9 * k.toNat<=ke)/\Q (.lst ((QK k.toNat h).flatten.map T.d)) j3)|.FloorDiv=>∃i j,x=.sc (.int i)/\y=.sc (.int j)/\(0<j/\j<2 ^ 200)/\Q (.d (.int (i / j))) Kz|.Mod=>∃i j,x=.sc (.int i)/\y=.sc (.int j)/\0<j/\Q (.d (.int (i % j))) Kz|.Pow=>∃i j,x=.sc (.int i)/\y=.sc (.int j)/\La i j/\Q (.d (.int (i ^ j.toNat))) Kz|_=>False
section
variable{Q:T->Bool->Prop}
def Vn(i j:Int):binT .Add (.sc (.int i)) (.sc (.int j)) Q=Q (.d (.int (i+j))) false:=by simp[binT]
def Kn(a b:Str):binT .Add (.sc (.str a)) (.sc (.str b)) Q=(a.9+b.9<=ke/\Q (.d (.str (a++b))) Kz):=by simp[binT]
def N9(xs ys:LT):binT .Add (.ls xs) (.ls ys) Q=∃x h,bF xs=jb x/\bF ys=jb h/\x.9+h.9<=ke/\Q (.lst ((x++h).map T.d)) true:=by simp[binT]
def Zn(xs ys:LT):binT .Add (.tp xs) (.tp ys) Q=∃x h,bF xs=jb x/\bF ys=jb h/\x≠[]/\h≠[]/\x.9+h.9<=ke/\Q (.d (.tuple (x++h))) false:=by simp[binT]
def Yn(i j:Int):binT .Sub (.sc (.int i)) (.sc (.int j)) Q=Q (.d (.int (i - j))) false:=by simp[binT]
def Jn(i j:Int):binT .Mult (.sc (.int i)) (.sc (.int j)) Q=(eN i j/\Q (.d (.int (i * j))) Kz):=by simp[binT]
def on(a:Str)(k:Int):binT .Mult (.sc (.str a)) (.sc (.int k)) Q=((-(2 ^ 31)<=k/\k<2 ^ 31/\a.9 * k.toNat<=ke)/\Q (.d (.str (aI a k))) Kz):=by simp[binT]
def cn(i j:Int):binT .FloorDiv (.sc (.int i)) (.sc (.int j)) Q=((0<j/\j<2 ^ 200)/\Q (.d (.int (i / j))) Kz):=by simp[binT]
def bn(i j:Int):binT .Mod (.sc (.int i)) (.sc (.int j)) Q=(0<j/\Q (.d (.int (i % j))) Kz):=by simp[binT]
def Ue(i j:Int):binT .Pow (.sc (.int i)) (.sc (.int j)) Q=(La i j/\Q (.d (.int (i ^ j.toNat))) Kz):=by simp[binT]
end
def Bw:D->D->(Bool->Prop)->Prop
 | .int i,.int j,Q=>Q (decide (i=j))|.str x,.str y,Q=>Q (decide (x=y))|.bool x,.bool y,Q=>Q (decide (x=y))|a,b,Q=>GG a/\GG b/\Q (Q2 a b)
def SA:D->Bool
 | .none | .bool _ | .int _ | .str _=>j3
 |_=>Kz
def jw(a y:D)(Q:Bool->Prop):Prop:=match y with
 | .str y=>(match a with
  | .str x=>Q (inStr y x)|_=>False)
 | .list h | .tuple h=>((SA a=j3/\h.all SA=j3)∨(GG a/\GG (.list h)))/\Q (h.any λy=>Q2 y a)
 |_=>False
def ZZ(f:Int->Int->Bool):D->D->(Bool->Prop)->Prop
 | .int i,.int j,Q=>Q (f i j)|_,_,_=>False
def OB:D->Bool
 | .none=>j3|_=>Kz
def B0:D->D->(Bool->Prop)->Prop
 |a,.none,Q=>Q (OB a)|_,_,_=>False
def gU:fb->D->D->(Bool->Prop)->Prop
 | .Eq,a,b,Q=>Bw a b Q|.NotEq,a,b,Q=>Bw a b λk=>Q (!k)|.Lt,a,b,Q=>ZZ (λi j=>decide (i<j)) a b Q|.LtE,a,b,Q=>ZZ (λi j=>decide (i<=j)) a b Q|.Gt,a,b,Q=>ZZ (λi j=>decide (j<i)) a b Q|.GtE,a,b,Q=>ZZ (λi j=>decide (j<=i)) a b Q|.In,a,b,Q=>jw a b Q|.NotIn,a,b,Q=>jw a b λk=>Q (!k)|.Is,a,b,Q=>B0 a b Q|.IsNot,a,b,Q=>B0 a b λk=>Q (!k)
def cJ:D->(Bool->Prop)->Prop
 | .bool b,Q=>Q b|.int i,Q=>Q (i != 0)|.none,Q=>Q Kz|.str z,Q=>z.9<=ke/\Q ((z.9:Int) != 0)|.list ds,Q=>Q (!ds.isEmpty)|.tuple ds,Q=>Q (!ds.isEmpty)|_,_=>False
def Gn:D->(Bool->Prop)->Prop
 | .bool b,Q=>Q b|_,_=>False
def BO(x y:Vw)(Q:T->Prop):Prop:=(∃z i c,x=.sc (.str z)/\y=.sc (.int i)/\z.9<=ke/\FB z.cps.toList i=jb c/\Q (.d (.str #[(List.toArray [c])]))) ∨
 (∃h i t,x=.ls h/\y=.sc (.int i)/\FB h i=jb t/\Q t)∨(∃h i t,x=.tp h/\y=.sc (.int i)/\FB h i=jb t/\Q t)
def Jm(z:Str)(i:Int):BO (.sc (.str z)) (.sc (.int i)) Q=(z.9<=ke/\∃c,FB z.cps.toList i=jb c/\Q (.d (.str #[(List.toArray [c])]))):=by simp[BO]
def O8(h:LT)(i:Int):BO (.ls h) (.sc (.int i)) Q=∃t,FB h i=jb t/\Q t:=by simp[BO]
def N8(h:LT)(i:Int):BO (.tp h) (.sc (.int i)) Q=∃t,FB h i=jb t/\Q t:=by simp[BO]
def ZE{α:Type}(xs:List α)(h x:Option Int):List α:=(xs.drop (HT.sIx xs.9 0 h)).take (HT.sIx xs.9 xs.9 x - HT.sIx xs.9 0 h)
def OE(x:Vw)(u k:Option Int)(Q:T->Bool->Prop):Prop:=(∃z,x=.sc (.str z)/\z.9<=ke/\Q (.d (.str (QAF z u k))) Kz)∨(∃y h,x=.ls y/\bF y=jb h/\Q (.lst ((ZE h u k).map T.d)) j3) ∨
 (∃y h,x=.tp y/\bF y=jb h/\¬ (HT.sIx h.9 0 u=0/\HT.sIx h.9 h.9 k=h.9)/\Q (.d (.tuple (ZE h u k))) Kz)
section
variable{Q:T->Bool->Prop}{h x:Option Int}
def Kj(z:Str):OE (.sc (.str z)) h x Q=(z.9<=ke/\Q (.d (.str (QAF z h x))) Kz):=by simp[OE]
def Zj(y:LT):OE (.ls y) h x Q=∃z,bF y=jb z/\Q (.lst ((ZE z h x).map T.d)) true:=by simp[OE]
def Yj(z:LT):OE (.tp z) h x Q=∃y,bF z=jb y/\¬ (HT.sIx y.9 0 h=0/\HT.sIx y.9 y.9 x=y.9)/\Q (.d (.tuple (ZE y h x))) false:=by simp[OE]
end
def vE:D->(Option Int->Prop)->Prop
 | .int i,Q=>Q (jb i)|_,_=>False
def isD(n:String):D->Option Bool
 | .none=>jb Kz|.bool _=>jb (n == "bool" || n == "int")
 | .int _=>jb (n == "int")|.str _=>jb (n == "str")|.list _=>jb (n == "list")|.tuple _=>jb (n == "tuple")|.dict _=>js
def CP(n:String):Bool:=n == "bool" || n == "int" || n == "str" || n == "list" || n == "tuple" || n == "ValueError"
def RO(f:Bi)(vs:List Vw)(Q:T->Bool->Prop):Prop:=match f with
 | .len=>(∃z,vs=[.sc (.str z)]/\z.9<=ke/\Q (.d (.int z.9)) Kz)∨(∃h,vs=[.ls h]/\Q (.d (.int h.9)) Kz)∨(∃h,vs=[.tp h]/\Q (.d (.int h.9)) Kz)|.all=>∃h,∃bs:List Bool,vs=[.ls h]/\bF h=jb (bs.map PyData.bool)/\Q (.d (.bool (bs.all id))) Kz|.int=>(∃i,vs=[.sc (.int i)]/\Q (.d (.int i)) Kz)∨(∃b,vs=[.sc (.bool b)]/\Q (.d (.int (if b then 1 else 0))) Kz)∨(∃z n,vs=[.sc (.str z)]/\z.9<=640/\intText? z=jb n/\Q (.d (.int n)) Kz)|.str=>(∃i,vs=[.sc (.int i)]/\i.natAbs.log2<1920/\Q (.d (.str (n6 i))) Kz)∨(∃z,vs=[.sc (.str z)]/\Q (.d (.str z)) Kz)|.any=>∃h,∃bs:List Bool,vs=[.ls h]/\bF h=jb (bs.map PyData.bool)/\Q (.d (.bool (bs.any id))) Kz|.list=>(∃h x,vs=[.ls h]/\bF h=jb x/\Q (.lst (x.map T.d)) j3)∨(∃h x,vs=[.tp h]/\bF h=jb x/\Q (.lst (x.map T.d)) j3)|.tuple=>∃h x,vs=[.ls h]/\bF h=jb x/\Q (.d (.tuple x)) Kz|.max=>∃i j,vs=[.sc (.int i),.sc (.int j)]/\Q (.d (.int (if j > i then j else i))) Kz
section
variable{Q:T->Bool->Prop}
def yt(z:Str):RO .len [.sc (.str z)] Q=(z.9<=ke/\Q (.d (.int z.9)) Kz):=by simp[RO]
def xh(h:LT):RO .len [.ls h] Q=Q (.d (.int h.9)) false:=by simp[RO]
def jt(h:LT):RO .len [.tp h] Q=Q (.d (.int h.9)) false:=by simp[RO]
def Es(h:LT):RO .all [.ls h] Q=∃bs:List Bool,bF h=jb (bs.map PyData.bool)/\Q (.d (.bool (bs.all id))) false:=by simp[RO]
def As(b:Bool):RO .int [.sc (.bool b)] Q=Q (.d (.int (if b then 1 else 0))) false:=by simp[RO]
def Ts(z:Str):RO .int [.sc (.str z)] Q=(z.9<=640/\∃n,intText? z=jb n/\Q (.d (.int n)) Kz):=by simp[RO]
def Ss(i:Int):RO .str [.sc (.int i)] Q=(i.natAbs.log2<1920/\Q (.d (.str (n6 i))) Kz):=by simp[RO]
def Rs(z:Str):RO .str [.sc (.str z)] Q=Q (.d (.str z)) false:=by simp[RO]
def Cn(i j:Int):RO .max [.sc (.int i),.sc (.int j)] Q=Q (.d (.int (if j > i then j else i))) false:=Pz #[λzz=>by let#[_,_,e,h]:=zz;cases e;exact h,λh=>#[_,_,rfl,h]]
end
def Yo(m:Mt)(x:Vw)(vs:List Vw)(Q:T->Bool->Prop):Prop:=match m with
 | .split=>∃z y,x=.sc (.str z)/\vs=[.sc (.str y)]/\z.9<=ke/\0<y.9/\(qO z y).9<=ke/\Q (.lst (((qO z y).map Jz).map T.d)) j3|.join=>∃z u,∃h:LS,x=.sc (.str z)/\vs=[.ls u]/\bF u=jb (h.map Jz)/\(h.map (·.length)).sum+h.9 * z.9<=16777216/\Q (.d (.str (wm z h))) Kz|_=>False
def yr(z y:Str):Yo .split (.sc (.str z)) [.sc (.str y)] Q=(z.9<=ke/\0<y.9/\(qO z y).9<=ke/\Q (.lst (((qO z y).map Jz).map T.d)) j3):=by simp[Yo]
def Vw.isS:Vw->Bool
 | .sc (.str _)=>j3|_=>Kz
def isMut:Mt->Bool
 | .append=>j3|.extend=>j3|.insert=>j3|_=>Kz
def pR(m:Mt)(x:Vw):Bool:=x.isS&&!isMut m
def lN(m:Mt)(s:T)(us:LT)(N:T->T->Prop):Prop:=match m with
 | .append=>∃h t,s=.lst h/\us=[t]/\h.9<ke/\N (.d .none) (.lst (h++[t]))|.extend=>∃h vs,s=.lst h/\us=[.lst vs]/\h.9+vs.9<=ke/\N (.d .none) (.lst (h++vs))|.insert=>∃h i t,s=.lst h/\us=[.d (.int i),t]/\(0<=i/\i<=h.9)/\h.9<ke/\N (.d .none) (.lst (bE h i.toNat t))|_=>False
def P7(h:LT)(t:T):lN .append (.lst h) [t] N=(h.9<ke/\N (.d .none) (.lst (h++[t]))):=by simp[lN]
def O7(h vs:LT):lN .extend (.lst h) [.lst vs] N=(h.9+vs.9<=ke/\N (.d .none) (.lst (h++vs))):=by simp[lN]
def N7(x:LT)(i:Int)(t:T):lN .insert (.lst x) [.d (.int i),t] N=((0<=i/\i<=x.9)/\x.9<ke/\N (.d .none) (.lst (bE x i.toNat t))):=Pz #[λzz=>by let#[_,_,_,z,y,h]:=zz;cases z;cases y;exact h,λh=>#[_,_,_,rfl,rfl,h]]
def UJ(m:Mt):T->Bool
 | .lst _=>isMut m|_=>Kz
def Vw.seq:Vw->Option (LT)
 | .ls h=>jb h|.tp h=>jb h|.sc (.str z)=>if z.cps.all (· < 128) then jb (z.cps.toList.map λc=>.d (.str #[(List.toArray [c])])) else js|_=>js
def mC(b:ItK)(vs:List Vw)(R:LT->Prop):Prop:=match b with
 | .val=>(∃z,vs=[.sc (.str z)]/\R (z.cps.toList.map λc=>.d (.str #[(List.toArray [c])])))∨(∃h,vs=[.ls h]/\R h)∨(∃h,vs=[.tp h]/\R h)|.rng1=>∃j,vs=[.sc (.int j)]/\(-(2 ^ 62)<=j/\j<2 ^ 62)/\R ((QH j.toNat).map λ(i:Nat)=>.d (.int (i:Int)))|.zip2=>∃x y h k u a,vs=[x,y]/\x.seq=jb h/\y.seq=jb k/\bF h=jb u/\bF k=jb a/\R ((u.zip a).map λp=>.d (.tuple [p.1,p.2]))|.enum=>∃x h u,vs=[x]/\x.seq=jb h/\bF h=jb u/\R (u.zipIdx.map λp=>.d (.tuple [.int (p.2:Int),p.1]))|.enumA=>∃x n h u,vs=[x,.sc (.int n)]/\x.seq=jb h/\bF h=jb u/\(0<=n/\n<2 ^ 62)/\R (u.zipIdx.map λp=>.d (.tuple [.int ((n.toNat+p.2:Nat):Int),p.1]))
section
variable{R:LT->Prop}
def B8(z:Str):mC .val [.sc (.str z)] R=R (z.cps.toList.map λc=>.d (.str #[(List.toArray [c])])):=by simp[mC]
def OT(h:LT):mC .val [.ls h] R=R h:=by simp[mC]
def U8(h:LT):mC .val [.tp h] R=R h:=by simp[mC]
def X8(j:Int):mC .rng1 [.sc (.int j)] R=((-(2 ^ 62)<=j/\j<2 ^ 62)/\R ((QH j.toNat).map λ(i:Nat)=>.d (.int (i:Int)))):=by simp[mC]
def V8(x y:Vw):mC .zip2 [x,y] R=∃z us k u,x.seq=jb z/\y.seq=jb us/\bF z=jb k/\bF us=jb u/\R ((k.zip u).map λp=>.d (.tuple [p.1,p.2])):=by apply Pz;constructor;rintro⟨_,_,z,us,k,u,⟨⟩,h⟩;exact#[z,us,k,u,h];rintro⟨z,us,k,u,h⟩;exact#[_,_,z,us,k,u,rfl,h]
def K8(x:Vw)(n:Int):mC .enumA [x,.sc (.int n)] R=∃y z,x.seq=jb y/\bF y=jb z/\(0<=n/\n<2 ^ 62)/\R (z.zipIdx.map λp=>.d (.tuple [.int ((n.toNat+p.2:Nat):Int),p.1])):=by apply Pz;constructor;rintro⟨_,_,y,z,⟨⟩,h⟩;exact#[y,z,h];rintro⟨y,z,h⟩;exact#[_,_,y,z,rfl,h]
end
def nE:LN->LT->yA->Option yA
 |[],[],ρ=>jb ρ|i::is,t::ts,ρ=>nE is ts (ρ.set i (jb (.bor t)))|_,_,_=>js
def yO:Tg->T->yA->(yA->Prop)->Prop
 | .nm i,t,ρ,Q=>Q (ρ.set i (jb (.bor t)))|.tp is,t,ρ,Q=>match t.vw with
  | .tp x=>∃h,nE is x ρ=jb h/\Q h|_=>False
def Tg.ix:Tg->LN
 | .nm i=>[i]|.tp h=>h
def eV:PX->Option Nat
 | .var i=>jb i|_=>js
def uH:Option Sl->Option Sl
 |some (.own t)=>jb (.bor t)|s=>s
def lockA(ρ:yA):yA:=ρ.map uH
def lock:LN->yA->yA
 |[],ρ=>ρ|i::is,ρ=>lock is (ρ.modify i uH)
def fC:Option Sl->Option Sl
 |some (.bor t)=>if t.isD=j3 then jb (.bor t) else js|s=>s
def kill:LN->yA->yA
 |[],ρ=>ρ|i::is,ρ=>kill is (ρ.modify i fC)
def clear:LN->yA->yA
 |[],ρ=>ρ|i::is,ρ=>clear is (ρ.set i js)
def fB:LN->yA->Option (LT)
 |[],_=>jb []|i::is,ρ=>match ρ[i]? with
  |some (jb (.own t))=>(fB is ρ).map (t::·)|_=>js
def IC:LN->LT->yA->Option yA
 |[],[],ρ=>jb ρ|i::is,t::ts,ρ=>IC is ts (ρ.set i (jb (.own t)))|_,_,_=>js
def uE:List Bool->yA->yA
 |b::m,v::ρ=>(if b then js else v)::uE m ρ|_,ρ=>ρ
def HK(k:Nat)(h:List Bool)(ρ:yA):yA:=QK k js++uE h ρ
def sq{α:Type}(x:T)(ρ:yA)(b:yA->(α->yA->Prop)->Prop)(K:α->yA->Prop):Prop :=
 if x.isD=j3 then b ρ K else b (lockA ρ) λy _=>K y ρ
def cu(f:yA->TK->Prop):yA->(T×Bool->yA->Prop)->Prop:=λy K=>f y λx n h=>K (x,n) h
def gE:List (T×Bool)->LT
 |[]=>[]|p::r=>p.1::gE r
def PD:List (T×Bool)->LT
 |[]=>[]|p::r=>cA p.1 p.2::PD r
def YB:List (T×Bool)->List Vw
 |[]=>[]|p::r=>(cA p.1 p.2).vw::YB r
def fF:List (T×Bool)->Bool
 |[]=>j3|p::r=>LG p.1 p.2&&fF r
def jL:List (T×Bool)->Bool
 |[]=>j3|p::r=>LG p.1 p.2&&jL r
def zE(t:T):Option T:=match t.vw with
 | .ls h=>(bF h).map λx=>.lst (x.map T.d)|_=>if t.isD=j3 then jb t else js
def BA:List Md->List (T×Bool)->LT->Option (LT)
 |_,[],[]=>jb []|_,[],_::_=>js|md,(x,n)::xs,os=>match md.headD .fro with
  | .fro=>match cA x n with
   | .d d=>(BA md.tail xs os).map (.d d::·)|_=>js
  | .shal=>match zE (cA x n) with
   |some t=>(BA md.tail xs os).map (t::·)|none=>js
  | .bor=>(BA md.tail xs os).map (cA x n::·)|.chg=>match os with
   |o::os=>(BA md.tail xs os).map (o::·)|[]=>js
def ZB:List Md->LT->LT
 |_,[]=>[]|md,t::ts=>match md.headD .fro with
  | .chg=>t::ZB md.tail ts|_=>ZB md.tail ts
def dA:List Md->PX->LN
 | .chg::md,.acons (.var j) as=>j::dA md as|_::md,.acons _ as=>dA md as|_,_=>[]
def Md.isMut:Md->Bool
 | .chg=>j3|_=>Kz
def HQ(Ψ:PEv)(o:Prm)(y:LT)(Q:T->Bool->Prop):Prop:=match o with
 | .dget x=>∃z h,y=[.d (.str z)]/\Ψ.dc x=jb h/\Q (.d ((h.lookup z).getD .none)) Kz|.dix x=>∃z h d,y=[.d (.str z)]/\Ψ.dc x=jb h/\h.lookup z=jb d/\Q (.d d) Kz|.dgetD x=>∃z d h,y=[.d (.str z),.d d]/\Ψ.dc x=jb h/\Q (.d ((h.lookup z).getD d)) Kz|.tmul=>∃u k,y=[.d (.tuple u),.d (.int k)]/\u≠[]/\(1<=k/\k<2 ^ 31/\u.9 * k.toNat<=ke)/\Q (.d (.tuple (QK k.toNat u).flatten)) Kz|.plc=>∃x p,y=[.d (FF x p)]/\Q (.d (.int p)) Kz|.dgt=>∃z a u d,y=[.d (.dict (OI a u)),.d (.str z)]/\(a≠[]/\a.9=u.9)/\(a.zip u).lookup z=jb d/\Q (.d d) Kz|.isC=>∃x p z,y=[.d (FF x p),.d (IF z)]/\Q (.d (.bool (decide (z=x∨z="WorldError")))) Kz|.isT _ m=>m="ValueError"/\∃x p,y=[.d (FF x p)]/\Q (.d (.bool (JO.contains (.type m)))) Kz
def gk(x z:Str):HQ Ψ (.dget x) [.d (.str z)] Q=∃h,Ψ.dc x=jb h/\Q (.d ((h.lookup z).getD .none)) false:=by simp[HQ]
def fk(x z:Str):HQ Ψ (.dix x) [.d (.str z)] Q=∃h d,Ψ.dc x=jb h/\h.lookup z=jb d/\Q (.d d) false:=by simp[HQ]
def dk(x:List D)(k:Int):HQ Ψ .tmul [.d (.tuple x),.d (.int k)] Q=(x≠[]/\(1<=k/\k<2 ^ 31/\x.9 * k.toNat<=ke)/\Q (.d (.tuple (QK k.toNat x).flatten)) Kz):=Pz #[λzz=>by let#[_,_,e,h]:=zz;cases e;exact h,λh=>#[_,_,rfl,h]]
structure D3 where
 e:yA->TK->Prop
 t:yA->(Bool->yA->Prop)->Prop
 a:List Md->yA->(List (T×Bool)->yA->Prop)->Prop
def IE:D3:=#[λ_ _=>False,λ_ _=>False,λ_ _ _=>False]
def gD(body:T->(Option T->Prop)->Prop):LT->LT->(LT->Prop)->Prop
 |[],acc,Q=>acc.9<=ke/\Q acc|x::xs,acc,Q=>body x fun
  |some y=>acc.9<ke/\gD body xs (acc++[y]) Q|none=>gD body xs acc Q
def gH(k:Tg)(u:yA)(c:yA->(Bool->yA->Prop)->Prop)(e:yA->TK->Prop)(x:T)(R:Option T->Prop):Prop :=
 yO k x u λz=>c z λb h=>if b=j3 then e h λy n _=>LG y n=j3/\R (jb y) else R js
def Ld:PX->D->(Bool->Prop)->Prop
 | .bty _ n,d,Q=>∃b,isD n d=jb b/\CP n=j3/\Q b|_,_,_=>False
def Uu:Option (Option Sl)->(T->Prop)->Prop
 |some (jb (.own t)),Q=>Q t|some (jb (.bor t)),Q=>Q t|some js,_=>False|none,_=>False
def pE:Option (Option Sl)->(T->Prop)->Prop
 |some (jb (.own t)),Q=>Q t|some (jb (.bor _)),_=>False|some js,_=>False|none,_=>False
def U5:Option Nat->(Nat->Prop)->Prop
 |none,_=>False|some j,Q=>Q j
def C8:PX->Bool
 | .var _=>j3|_=>Kz
def X5(h:U5 (eV o) Q):∃j,o=.var j/\Q j:=by
 cases o with|var j=>exact#[j,rfl,h]|_=>exact h.elim
def Sa(h:C8 o=j3):∃j,o=.var j:=by
 cases o with|var j=>exact#[j,rfl]|_=>cases h
def Gd(h:Ld c x Q):∃z n,c=.bty z n:=by
 cases c with|bty z n=>exact#[z,n,rfl]|_=>exact h.elim
def kH{x:PX}{α:Prop}{j:Nat}(h:j∈dA [] x):α:=by cases x<;>cases h
def vP:dA [] h=[]:=by cases h<;>rfl
def TJ(k:Tg)(u:Nat)(e:yA->TK->Prop):LT->List D->yA->(List D->yA->Prop)->Prop
 |[],acc,ρ,Q=>acc.9<=ke/\Q acc ρ|x::xs,acc,ρ,Q=>yO k x (QK u js++ρ) λz=>e z λy n h=>LG y n=j3/\acc.9<ke/\TJ k u e xs (acc++[y.er]) (h.drop u) Q
def pe(Ψ:PEv):PX->XE->D3
 | .var i,_=>let e:yA->TK->Prop:=λg Q=>Uu g[i]? λt=>Q t Kz g
  #[e,λg Q=>e g λt _ h=>cJ t.er λb=>Q b h,IE.a]
 | .int i,_=>#[λg Q=>Q (.d (.int i)) Kz g,λg Q=>Q (i != 0) g,IE.a]|.str x,_=>#[λg Q=>Q (.d (.str x)) Kz g,IE.t,IE.a]|.bl b,_=>#[λg Q=>Q (.d (.bool b)) Kz g,λg Q=>Q b g,IE.a]|.non,_=>#[λg Q=>Q (.d .none) Kz g,λg Q=>Q Kz g,IE.a]|.glo x,_=>let e:yA->TK->Prop:=λg Q=>match Ψ.va x with
   |some d=>Q (.d d) Kz g|none=>False
  #[e,λg Q=>e g λt _ h=>cJ t.er λb=>Q b h,IE.a]
 | .bty _ _,_=>IE|.bin op a b,E=>let e:yA->TK->Prop:=λg Q=>(pe Ψ a E).e g λx n h=>sq (cA x n) h (cu (pe Ψ b E).e) λy q=>binT op (cA x n).vw (cA y.1 y.2).vw λz k=>Q z k q
  #[e,λg Q=>e g λt _ h=>cJ t.er λb=>Q b h,IE.a]
 | .cmp op a b,E=>let t:yA->(Bool->yA->Prop)->Prop:=λg Q=>(pe Ψ a E).e g λx n h=>sq (cA x n) h (cu (pe Ψ b E).e) λy q=>gU op x.er y.1.er λk=>Q k q
  #[λg Q=>t g λk h=>Q (.d (.bool k)) Kz h,t,IE.a]
 | .chn o p a b c,E=>let t:yA->(Bool->yA->Prop)->Prop:=λg Q=>(pe Ψ a E).e g λx n h=>sq (cA x n) h (cu (pe Ψ b E).e) λy q=>gU o x.er y.1.er λk=>if k=j3 then sq (cA y.1 y.2) q (cu (pe Ψ c E).e) λz Y=>gU p y.1.er z.1.er λk=>Q k Y else Q Kz q
  #[λg Q=>t g λk h=>Q (.d (.bool k)) Kz h,t,IE.a]
 | .and a b,E=>#[λg Q=>(pe Ψ a E).e g λx _ h=>Gn x.er λc=>if c=j3 then(pe Ψ b E).e h Q else Q (.d (.bool Kz)) Kz h,
   λg Q=>(pe Ψ a E).t g λc h=>if c=j3 then(pe Ψ b E).t h Q else Q Kz h,IE.a]
 | .or a b,E=>#[λg Q=>(pe Ψ a E).e g λx _ h=>Gn x.er λc=>if c=j3 then Q (.d (.bool j3)) Kz h else(pe Ψ b E).e h Q,
   λg Q=>(pe Ψ a E).t g λc h=>if c=j3 then Q j3 h else(pe Ψ b E).t h Q,IE.a]
 | .not a,E=>#[λg Q=>(pe Ψ a E).e g λx _ h=>cJ x.er λc=>Q (.d (.bool (!c))) Kz h,λg Q=>(pe Ψ a E).t g λc h=>Q (!c) h,IE.a]|.ife c a b,E=>#[λg Q=>(pe Ψ c E).t g λk h=>if k=j3 then(pe Ψ a E).e h Q else(pe Ψ b E).e h Q,IE.t,IE.a]|.call f as,E=>let e:yA->TK->Prop:=λg Q=>∃os,fB (dA (Ψ.sp f).md as) g=jb os/\(dA (Ψ.sp f).md as).Nodup/\(pe Ψ as E).a (Ψ.sp f).md (clear (dA (Ψ.sp f).md as) g) λs h=>∃A,BA (Ψ.sp f).md s os=jb A/\(Ψ.sp f).run A (λr W=>∃q,IC (dA (Ψ.sp f).md as) W h=jb q/\Q r j3 q) E
  #[e,λg Q=>e g λt _ h=>cJ t.er λb=>Q b h,IE.a]
 | .isi a c,E=>let t:yA->(Bool->yA->Prop)->Prop:=λg Q=>(pe Ψ a E).e g λx _ h=>Ld c x.er λb=>Q b h
  #[λg Q=>t g λk h=>Q (.d (.bool k)) Kz h,t,IE.a]
 | .bi f as,E=>let e:yA->TK->Prop:=λg Q=>(pe Ψ as E).a [] g λs h=>RO f (YB s) λz k=>Q z k h
  #[e,λg Q=>e g λt _ h=>cJ t.er λb=>Q b h,IE.a]
 | .prm o as,E=>let e:yA->TK->Prop:=λg Q=>(pe Ψ as E).a [] g λs h=>HQ Ψ o (PD s) λz k=>Q z k h
  #[e,λg Q=>e g λt _ h=>cJ t.er λb=>Q b h,IE.a]
 | .mt m o as,E=>let e:yA->TK->Prop:=λg Q=>if isMut m=j3 then U5 (eV o) λj=>pE g[j]? λt=>UJ m t=j3/\(pe Ψ as E).a [] (g.set j (jb (.bor t))) λs q=>fF s=j3/\q[j]?=jb (jb (.bor t))/\lN m t (gE s) λr C=>Q r j3 (q.set j (jb (.own C))) else(pe Ψ o E).e g λx n h=>pR m (cA x n).vw=j3/\sq (cA x n) h ((pe Ψ as E).a []) λs q=>Yo m (cA x n).vw (YB s) λz k=>Q z k q
  #[e,λg Q=>e g λt _ h=>cJ t.er λb=>Q b h,IE.a]
 | .idx a b,E=>let e:yA->TK->Prop:=λg Q=>(pe Ψ a E).e g λx n h=>sq (cA x n) h (cu (pe Ψ b E).e) λy q=>BO (cA x n).vw (cA y.1 y.2).vw λz=>Q z Kz q
  #[e,λg Q=>e g λt _ h=>cJ t.er λb=>Q b h,IE.a]
 | .slc a lo hi,E=>#[λg Q=>(pe Ψ a E).e g λx n h =>
   sq (α:=Option Int) (cA x n) h (if isNop lo=j3 then λg (R:Option Int->yA->Prop)=>R js g else λg R=>(pe Ψ lo E).e g λl _ q=>vE l.er λo=>R o q) λl q =>
   sq (α:=Option Int) (cA x n) q (if isNop hi=j3 then λg (R:Option Int->yA->Prop)=>R js g else λg R=>(pe Ψ hi E).e g λu _ Y=>vE u.er λo=>R o Y) λu Y=>OE (cA x n).vw l u λz k=>Q z k Y,IE.t,IE.a]
 | .nop,_=>IE|.lst as,E=>#[λg Q=>(pe Ψ as E).a [] g λs h=>fF s=j3/\s.9<=ke/\Q (.lst (gE s)) j3 h,IE.t,IE.a]|.tup as,E=>#[λg Q=>(pe Ψ as E).a [] g λs h=>fF s=j3/\s.9<=ke/\Q (RF (gE s)) j3 h,IE.t,IE.a]|.comp mask tgs tg ik its cond elt,E=>#[λg Q=>(pe Ψ its E).a [] g λs h=>mC ik (YB s) λX =>
   gD (gH tg (HK tgs.9 mask (lockA h)) (if isNop cond=j3 then λg R=>R j3 g else(pe Ψ cond (λ_=>False)).t) (pe Ψ elt (λ_=>False)).e) X [] λB=>Q (.lst B) j3 h,IE.t,IE.a]
 | .eff (.comp mask tgs tg ik its cond elt),E=>#[λg Q=>(isNop cond=j3/\(mask.all λb=>!b)=j3/\(tg.ix.all λj=>decide (j<tgs.9))=j3)/\(pe Ψ its E).a [] g λs h=>jL s=j3/\mC ik (YB s) λX =>
   TJ tg tgs.9 (pe Ψ elt (λ_=>False)).e X [] h λZ q=>Q (.lst (Z.map T.d)) j3 q,IE.t,IE.a]
 | .eff (.slc a .nop (.int i)),E=>#[λg Q=>(pe Ψ a E).e g λx n h=>LG x n=j3/\∃Z,x.er=.tuple Z/\Q (.d (.tuple (ZE Z js (jb i)))) Kz h,IE.t,IE.a]|.eff _,_=>IE|.dsp ks as,E=>#[λg Q=>(pe Ψ as E).a [] g λs h=>(ks.Nodup/\ks.9<=15/\ks.9=s.9/\jL s=j3)/\Q (.d (.dict (OI ks (ersT (gE s))))) Kz h,IE.t,IE.a]|.anil,_=>#[IE.e,IE.t,λ_ g Q=>Q [] g]|.acons a as,E=>#[IE.e,IE.t,λK g Q=>if(K.headD .fro).isMut=j3 then C8 a=j3/\(pe Ψ as E).a K.tail g λs h=>Q ((.d .none,j3)::s) h
   else(pe Ψ a E).e g λx n h=>sq (α:=List (T×Bool)) (if n=j3 then .d .none else x) h ((pe Ψ as E).a K.tail) λs q=>Q ((x,n)::s) q]
structure PEnds where
 nx:yA->Prop
 rt:T->yA->Prop
 bk:yA->Prop:=λ_=>False
 ct:yA->Prop:=λ_=>False
def vJ:PX->LN
 | .var i=>[i]|.idx a _=>vJ a|.ife _ a b=>vJ a++vJ b|.and a b | .or a b=>vJ a++vJ b
 | .acons a h=>vJ a++vJ h|_=>[]
def EM:Option (Option Sl)->Bool
 |some (jb (.own _))=>j3|some (jb (.bor _))=>Kz|some js=>Kz|none=>Kz
def jD(ρ:yA):LN->LN
 |[]=>[]|i::is=>if EM ρ[i]?=j3 then i::jD ρ is else jD ρ is
def ZD:LN->yA->yA->yA
 |[],_,ρ=>ρ|i::L,ρ0,ρ=>ZD L ρ0 (ρ.set i (ρ0[i]?.getD js))
def V4(J L:LN)(h:yA)(N:yA->Prop)(ρ:yA):Prop:=(∀i∈L,i∉J/\ρ[i]?=h[i]?.map uH)/\N (ZD L h ρ)
def PJ(body:PEnds->yA->Prop)(z:Tg)(Z:PEnds):LT->yA->Prop
 |[],ρ=>Z.nx ρ|x::xs,ρ=>yO z x ρ λy=>body { Z with nx:=λh=>PJ body z Z xs h,ct:=λh=>PJ body z Z xs h,bk:=Z.nx } y
def Bv(ρ:yA)(i:Nat)(R:T->yA->Prop):Option (Option Sl)->Prop
 |some (jb (.own t))=>R t (ρ.set i js)|some (jb (.bor t))=>t.isD=j3/\R t ρ|some js=>False|none=>False
def oE(Ψ:PEv)(E:XE)(y:T->yA->Prop):PX->yA->Prop
 | .var i,ρ=>Bv ρ i y ρ[i]?|.ife c a b,ρ=>(pe Ψ c E).t ρ λk h=>if k=j3 then oE Ψ E y a h else oE Ψ E y b h|e,ρ=>(pe Ψ e E).e ρ λx n h=>LG x n=j3/\y x h
def BW:Option Sl->Option Sl
 |some (.own t)=>bD t.er|s=>s
def CO:Option Sl->Option Sl
 |some (.own (.lst ts))=>jb (.own (.lst (ts.map λt=>.d t.er)))|s=>s
def frzAt:LN->yA->yA
 |[],ρ=>ρ|i::is,ρ=>frzAt is (ρ.modify i BW)
def uo(t:T)(y x:D)(Q:T->Prop):Prop:=∃h i n,t=.lst h/\y=.int i/\N3 h.9 i=jb n/\Q (.lst (h.set n (.d x)))
def Bk(t:T)(y:D)(Q:LT->Nat->LT->Prop):Prop:=∃h i n x,t=.tup h/\y=.int i/\N3 h.9 i=jb n/\h[n]?=jb (.lst x)/\Q h n x
def Zd(m:Option Nat)(ρ:yA):Prop:=match m with
 |none=>True|some j=>∃p,ρ[j]?=jb (bD (.int p))/\p.natAbs.log2<1920
def Np(i:Option Nat)(t:T)(ρ:yA):yA:=match i with
 |none=>ρ|some i=>ρ.set i (bD t.er)
def mB(Ψ:PEv)(E:XE):PT->PEnds->yA->Prop
 | .nil,Z,ρ=>Z.nx ρ|.seq s r,Z,ρ=>mB Ψ E s { Z with nx:=λq=>mB Ψ E r Z q } ρ|.set i e,Z,ρ=>(pe Ψ e E).e ρ λx n h=>LG x n=j3/\Z.nx (h.set i (bD x.er))|.setX j k i e,Z,ρ=>pE ρ[j]? λt=>(pe Ψ e E).e (ρ.set j (jb (.bor t))) λx n h=>LG x n=j3/\∃a b,x.er=.list [a,b]/\(pe Ψ k E).e h λy m z=>LG y m=j3/\z[j]?=jb (jb (.bor t))/\uo t y.er a λX=>Z.nx ((z.set j (jb (.own X))).set i (bD b))|.setL i j e,Z,ρ=>(pe Ψ e E).e ρ λx n h=>LG x n=j3/\∃a b,x.er=.list [a,b]/\Z.nx ((h.set i (bD a)).set j (bD b))|.expr e,Z,ρ=>(pe Ψ e E).e ρ λ_ _ h=>Z.nx h|.ret e,Z,ρ=>oE Ψ E Z.rt e ρ|.ife c a b,Z,ρ=>(pe Ψ c E).t ρ λk h=>if k=j3 then mB Ψ E a Z h else mB Ψ E b Z h|.for_ tg ik its body,Z,ρ=>(pe Ψ its E).a [] ρ λo h=>mC ik (YB o) λu =>
   if jL o=j3 then PJ (mB Ψ E body) tg { Z with nx:=λz=>Z.nx (kill tg.ix z) } u h
   else PJ (mB Ψ E body) tg { Z with nx:=λz=>V4 tg.ix (jD h (vJ its)) h Z.nx (kill tg.ix z) } u (lock (jD h (vJ its)) h)
 | .own i e,Z,ρ=>(pe Ψ e E).e ρ λx n h=>LG x n=j3/\Z.nx (h.set i (jb (.own x)))|.rse x m e,_,ρ=>Zd m ρ/\∃y,Ψ.va x=jb (IF y)/\(pe Ψ e E).e ρ λv _ _=>∃p,v=.d (.int p)/\E (y,p)|.tryC i f as x j k,Z,ρ=>(j≠k/\ρ[k]?=jb js)/\Ψ.va x=jb (IF "WorldError")/\dA (Ψ.sp f).md as=[]/\(pe Ψ as (λ_=>False)).a (Ψ.sp f).md ρ λo h=>h=ρ/\∃g,BA (Ψ.sp f).md o []=jb g /\
   (Ψ.sp f).run g (λr _=>Z.nx (Np i r ρ)) λy=>Z.nx (ρ.set j (bD (FF y.1 y.2)))
 | .frE i s,Z,ρ=>mB Ψ E s Z (ρ.modify i CO)|.frz is s,Z,ρ=>mB Ψ E s Z (frzAt is ρ)|.six j i e,Z,ρ=>pE ρ[j]? λt=>(pe Ψ e E).e (ρ.set j (jb (.bor t))) λx n h=>LG x n=j3/\(pe Ψ i E).e h λy m z=>LG y m=j3/\z[j]?=jb (jb (.bor t))/\uo t y.er x.er λX=>Z.nx (z.set j (jb (.own X)))|.pap j k e,Z,ρ=>pE ρ[j]? λt=>(pe Ψ k E).e (ρ.set j (jb (.bor t))) λy m h=>LG y m=j3/\Bk t y.er λY n g=>(pe Ψ e E).e h λx l z=>LG x l=j3/\z[j]?=jb (jb (.bor t))/\g.9<ke/\Z.nx (z.set j (jb (.own (.tup (Y.set n (.lst (g++[x])))))))
abbrev pF(Ψ:PEv):PT->PEnds->yA->Prop:=mB Ψ λ_=>False
def _root_.L2.Same.rd{H H':Hp}(e:Same H H'){a:kl}{u:HO}(h:Rd H a u):Rd H' a u:=by
 rcases h with h|⟨o,h⟩
 exact .inl (e _ _ h);exact .inr #[o,e _ _ h]
def _root_.L2.Same.tupl{K:QC}{H H':Hp}{a:kl}{xs:LV}(e:Same H H')(h:GE K H a xs):GE K H' a xs:=by rcases h with h|h;exact .inl (e.rd h);exact .inr h
def Rep.monoB{K:QC}{H H':Hp}(e:Same H H'):(∀{v:V}{d:D},Rep K H v d->Rep K H' v d)/\∀{vs:LV}{z:List D},Reps K H vs z->Reps K H' vs z :=
 Rep.ind .non .bl .int .str (λh _ r=>.lst (e.seq h) r) (λh _ r=>.tup (e.tupl h) r) (λy x u=>.exc (e _ _ y) (e _ _ x) u) .cls (λy x _ r=>.dct (e _ _ y) x r) .nil (λ_ _ p q=>.cons p q)
def Rep.mono{K:QC}{H H':Hp}(e:Same H H'):∀{v:V}{d:D},Rep K H v d->Rep K H' v d:=(Rep.monoB e).1
def Reps.mono{K:QC}{H H':Hp}(e:Same H H'):∀{vs:LV}{h:List D},Reps K H vs h->Reps K H' vs h:=(Rep.monoB e).2
def Reps.append{K:QC}{H:Hp}{vs y:LV}{x z:List D}(q:Reps K H vs x)(r:Reps K H y z):Reps K H (vs++y) (x++z):=Reps.ind1 (Q:=λvs x=>Reps K H (vs++y) (x++z)) r (λh _ i=>.cons h i) q
def Reps.drop{K:QC}{H:Hp}:∀{vs:LV}{h:List D}(n:Nat),Reps K H vs h->Reps K H (vs.drop n) (h.drop n)
 |_,_,0,r=>r|_,_,_+1,.nil=>.nil|_,_,n+1,.cons _ t=>Reps.drop n t
def Reps.take{K:QC}{H:Hp}:∀{vs:LV}{x:List D}(n:Nat),Reps K H vs x->Reps K H (vs.take n) (x.take n)
 |_,_,0,_=>.nil|_,_,_+1,.nil=>.nil|_,_,n+1,.cons h t=>.cons h (Reps.take n t)
def Reps.map_str{K:QC}{H:Hp}:∀(xs:LS),Reps K H (xs.map V.str) (xs.map Jz)
 |[]=>.nil|x::r=>.cons (.str x) (Reps.map_str r)
def Reps.bools{K:QC}{H:Hp}:∀{vs:LV}{bs:List Bool},Reps K H vs (bs.map PyData.bool)->vs=bs.map V.bl
 |_,[],.nil=>rfl|_,b::bs,.cons h t=>by cases h;rw[QR,Reps.bools t]
def AB{H:Hp}(h:H p=js):Same H (LA H p o):=λb u q=>by rw[vA (CA q h)];exact q
mutual
inductive Tr(K:QC)(F H:Hp):Bool->V->T->(kl->Prop)->Prop where
 |d {st:Bool}{v:V}{x:D}{S:iA}:Rep K F v x->(∀b,¬ S b)->Tr K F H st v (.d x) S
 |lst {st:Bool}{a:kl}{vs:LV}{ts:LT}{S S':iA}:H a=jb (.lst vs)->F a=js->Trs K F H st vs ts S'->¬ S' a->(∀b,S b↔b=a∨S' b)->Tr K F H st (.ref a) (.lst ts) S
 |tup {st:Bool}{a:kl}{vs:LV}{ts:LT}{S S':iA}:H a=jb (.tup vs)->F a=js->Trs K F H st vs ts S'->¬ S' a->(∀b,S b↔b=a∨S' b)->Tr K F H st (.ref a) (.tup ts) S
 |lstF {a:kl}{vs:LV}{ds:List D}{S:iA}:mD K F a vs->Reps K F vs ds->(∀b,¬ S b)->Tr K F H Kz (.ref a) (.lst (ds.map T.d)) S
inductive Trs(K:QC)(F H:Hp):Bool->LV->LT->(kl->Prop)->Prop where
 |nil {st:Bool}{S:iA}:(∀b,¬ S b)->Trs K F H st [] [] S
 |cons {st:Bool}{v:V}{t:T}{vs:LV}{ts:LT}{S S1 S2:iA}:Tr K F H st v t S1->Trs K F H st vs ts S2->(∀b,S1 b->¬ S2 b)->(∀b,S b↔S1 b∨S2 b)->Trs K F H st (v::vs) (t::ts) S
end
section
variable{K:QC}{F H F' H':Hp}
def Tr.inv(h:Tr K F H j3 v t S):match t with
  | .d x=>Rep K F v x/\∀b,¬ S b|.lst z=>∃a vs y,v=.ref a/\H a=jb (.lst vs)/\F a=js/\Trs K F H j3 vs z y/\¬ y a/\∀b,S b↔b=a∨y b|.tup z=>∃a vs y,v=.ref a/\H a=jb (.tup vs)/\F a=js/\Trs K F H j3 vs z y/\¬ y a/\∀b,S b↔b=a∨y b|_=>True:=by
 cases h with|d a b=>exact#[a,b]|lst a b c d e=>exact#[_,_,_,rfl,a,b,c,d,e]|tup a b c d e=>exact#[_,_,_,rfl,a,b,c,d,e]
def Tr.invd{st:Bool}{v:V}{x:D}{S:iA}(h:Tr K F H st v (.d x) S):Rep K F v x/\∀b,¬ S b:=by
 cases h with|d a b=>exact#[a,b]
def Trs.inv{st:Bool}{vs:LV}{u:LT}{S:iA}(h:Trs K F H st vs u S):match u with
  |[]=>vs=[]/\∀b,¬ S b|t::r=>∃v z y x,vs=v::z/\Tr K F H st v t y/\Trs K F H st z r x/\(∀b,y b->¬ x b)/\∀b,S b↔y b∨x b:=by
 cases h with|nil a=>exact#[rfl,a]|cons a b c d=>exact#[_,_,_,_,rfl,a,b,c,d]
def Trs.invv{st:Bool}{vs:LV}{x:LT}{S:iA}(h:Trs K F H st vs x S):match vs with
  |[]=>x=[]/\∀b,¬ S b|v::ws=>∃t r z y,x=t::r/\Tr K F H st v t z/\Trs K F H st ws r y/\(∀b,z b->¬ y b)/\∀b,S b↔z b∨y b:=by
 cases h with|nil a=>exact#[rfl,a]|cons a b c d=>exact#[_,_,_,_,rfl,a,b,c,d]
def Tr.ind{P:Bool->V->T->(kl->Prop)->Prop}{Q:Bool->LV->LT->(kl->Prop)->Prop}(d:∀{st:Bool}{v:V}{x:D}{S:iA},Rep K F v x->(∀b,¬ S b)->P st v (.d x) S)(l:∀{st:Bool}{a:kl}{vs:LV}{h:LT}{S S':iA},H a=jb (.lst vs)->F a=js->Trs K F H st vs h S'->¬ S' a->(∀b,S b↔b=a∨S' b)->Q st vs h S'->P st (.ref a) (.lst h) S)(u:∀{st:Bool}{a:kl}{vs:LV}{h:LT}{S S':iA},H a=jb (.tup vs)->F a=js->Trs K F H st vs h S'->¬ S' a->(∀b,S b↔b=a∨S' b)->Q st vs h S'->P st (.ref a) (.tup h) S)(f:∀{a:kl}{vs:LV}{z:List D}{S:iA},mD K F a vs->Reps K F vs z->(∀b,¬ S b)->P Kz (.ref a) (.lst (z.map T.d)) S)(n:∀{st:Bool}{S:iA},(∀b,¬ S b)->Q st [] [] S)(c:∀{st:Bool}{v:V}{t:T}{vs:LV}{h:LT}{S S1 y:iA},Tr K F H st v t S1->Trs K F H st vs h y->(∀b,S1 b->¬ y b)->(∀b,S b↔S1 b∨y b)->P st v t S1->Q st vs h y->Q st (v::vs) (t::h) S) :
  (∀{st:Bool}{v:V}{t:T}{S:iA},Tr K F H st v t S->P st v t S)/\∀{st:Bool}{vs:LV}{h:LT}{S:iA},Trs K F H st vs h S->Q st vs h S :=
 #[Tr.rec (motive_1:=λst v t S _=>P st v t S) (motive_2:=λst vs h S _=>Q st vs h S) d l u f n c,Trs.rec (motive_1:=λst v t S _=>P st v t S) (motive_2:=λst vs h S _=>Q st vs h S) d l u f n c]
def Tr.monoB(e:Same F F'):(∀{st:Bool}{v:V}{t:T}{S:iA},Tr K F H st v t S->(∀b,S b->H' b=H b/\F' b=js)->Tr K F' H' st v t S)/\∀{st:Bool}{vs:LV}{z:LT}{S:iA},Trs K F H st vs z S->(∀b,S b->H' b=H b/\F' b=js)->Trs K F' H' st vs z S :=
 Tr.ind (λr n _=>.d (r.mono e) n) (λh f r n q y k=>.lst ((k _ ((q _).mpr (.inl rfl))).1.trans h) (k _ ((q _).mpr (.inl rfl))).2 (y λb x=>k b ((q b).mpr (.inr x))) n q) (λh f r n q y k=>.tup ((k _ ((q _).mpr (.inl rfl))).1.trans h) (k _ ((q _).mpr (.inl rfl))).2 (y λb x=>k b ((q b).mpr (.inr x))) n q) (λh r n _=>.lstF (e.seq h) (r.mono e) n) (λn _=>.nil n) (λh t n q i j k=>.cons (i λb x=>k b ((q b).mpr (.inl x))) (j λb x=>k b ((q b).mpr (.inr x))) n q)
def Trs.ind1{Q:LV->LT->(kl->Prop)->Prop}{st:Bool}(n:∀{S:iA},(∀b,¬ S b)->Q [] [] S)
  (c:∀{v:V}{t:T}{vs:LV}{h:LT}{S S1 x:iA},Tr K F H st v t S1->Trs K F H st vs h x->(∀b,S1 b->¬ x b)->(∀b,S b↔S1 b∨x b)->Q vs h x->Q (v::vs) (t::h) S) {vs:LV}{h:LT}{S:iA}(r:Trs K F H st vs h S):Q vs h S:=by
 induction h generalizing vs S with|nil=>let#[rfl,e]:=r.inv;exact n e|cons t h i=>let#[v,y,S1,x,rfl,a,b,d,e]:=r.inv;exact c a b d e (i b)
def Tr.mono(e:Same F F'):∀{st:Bool}{v:V}{t:T}{S:iA},Tr K F H st v t S->(∀b,S b->H' b=H b/\F' b=js)->Tr K F' H' st v t S:=(Tr.monoB e).1
def Trs.mono(e:Same F F'):∀{st:Bool}{vs:LV}{h:LT}{S:iA},Trs K F H st vs h S->(∀b,S b->H' b=H b/\F' b=js)->Trs K F' H' st vs h S:=(Tr.monoB e).2
def Tr.weakB:(∀{st:Bool}{v:V}{t:T}{S:iA},Tr K F H st v t S->Tr K F H Kz v t S)/\∀{st:Bool}{vs:LV}{x:LT}{S:iA},Trs K F H st vs x S->Trs K F H Kz vs x S :=
 Tr.ind .d (λh f _ n q i=>.lst h f i n q) (λh f _ n q i=>.tup h f i n q) .lstF .nil (λ_ _ n q i j=>.cons i j n q)
def Tr.weak:∀{st:Bool}{v:V}{t:T}{S:iA},Tr K F H st v t S->Tr K F H Kz v t S:=(Tr.weakB ).1
def Trs.weak:∀{st:Bool}{vs:LV}{h:LT}{S:iA},Trs K F H st vs h S->Trs K F H Kz vs h S:=(Tr.weakB ).2
def Tr.domB:(∀{st:Bool}{v:V}{t:T}{S:iA},Tr K F H st v t S->∀b,S b->H b≠js/\F b=js)/\∀{st:Bool}{vs:LV}{y:LT}{S:iA},Trs K F H st vs y S->∀b,S b->H b≠js/\F b=js :=
 Tr.ind (λ_ n b x=>n9 x (n b)) (λh f _ _ q i b x=>((q b).mp x).elim (λe=>by subst e;exact#[by rw[h];simp,f]) (i b)) (λh f _ _ q i b x=>((q b).mp x).elim (λe=>by subst e;exact#[by rw[h];simp,f]) (i b)) (λ_ _ n b x=>n9 x (n b)) (λn b x=>n9 x (n b)) (λ_ _ _ q i j b x=>((q b).mp x).elim (i b) (j b))
def Tr.dom:∀{st:Bool}{v:V}{t:T}{S:iA},Tr K F H st v t S->∀b,S b->H b≠js/\F b=none:=(Tr.domB ).1
def Trs.dom:∀{st:Bool}{vs:LV}{h:LT}{S:iA},Trs K F H st vs h S->∀b,S b->H b≠js/\F b=none:=(Tr.domB ).2
def Tr.repB(f:Same F H):(∀{st:Bool}{v:V}{t:T}{S:iA},Tr K F H st v t S->Rep K H v t.er)/\∀{st:Bool}{vs:LV}{x:LT}{S:iA},Trs K F H st vs x S->Reps K H vs (ersT x) :=
 Tr.ind (λr _=>r.mono f) (λh _ _ _ _ i=>.lst (mD.of h) i) (λh _ _ _ _ i=>.tup (GE.of h) i) (λh r _=>by unfold T.er;rw[EA];exact .lst (f.seq h) (r.mono f)) (λ_=>.nil) (λ_ _ _ _ i j=>.cons i j)
def Tr.rep(f:Same F H):∀{st:Bool}{v:V}{t:T}{S:iA},Tr K F H st v t S->Rep K H v t.er:=(Tr.repB f).1
def Tr.keptB(e:Same F F'):(∀{st:Bool}{v:V}{t:T}{S:iA},Tr K F H st v t S->(∀b u,S b->H b=jb u->F' b=jb u)->Rep K F' v t.er)/\∀{st:Bool}{vs:LV}{y:LT}{S:iA},Trs K F H st vs y S->(∀b u,S b->H b=jb u->F' b=jb u)->Reps K F' vs (ersT y) :=
 Tr.ind (λr _ _=>r.mono e) (λh f r n q i k=>.lst (mD.of (k _ _ ((q _).mpr (.inl rfl)) h)) (i λb u x=>k b u ((q b).mpr (.inr x)))) (λh f r n q i k=>.tup (GE.of (k _ _ ((q _).mpr (.inl rfl)) h)) (i λb u x=>k b u ((q b).mpr (.inr x)))) (λh r _ _=>by unfold T.er;rw[EA];exact .lst (e.seq h) (r.mono e)) (λ_ _=>.nil) (λ_ _ _ q i j k=>.cons (i λb u x=>k b u ((q b).mpr (.inl x))) (j λb u x=>k b u ((q b).mpr (.inr x))))
def Tr.kept(e:Same F F'):∀{st:Bool}{v:V}{t:T}{S:iA},Tr K F H st v t S->(∀b u,S b->H b=jb u->F' b=jb u)->Rep K F' v t.er:=(Tr.keptB e).1
def Trs.kept(e:Same F F'):∀{st:Bool}{vs:LV}{h:LT}{S:iA},Trs K F H st vs h S->(∀b u,S b->H b=jb u->F' b=jb u)->Reps K F' vs (ersT h):=(Tr.keptB e).2
def Trs.length:∀{st:Bool}{vs:LV}{h:LT}{S:iA},Trs K F H st vs h S->vs.9=h.9 :=
 (Tr.ind (P:=λ_ _ _ _=>True) (Q:=λ_ vs h _=>vs.9=h.9) (λ_ _=>trivial) (λ_ _ _ _ _ _=>trivial) (λ_ _ _ _ _ _=>trivial) (λ_ _ _=>trivial) (λ_=>rfl) (λ_ _ _ _ _ j=>by rw[QM,QM,j])).2
def Trs.of_reps{st:Bool}{vs:LV}{x:List D}(r:Reps K F vs x):Trs K F H st vs (x.map T.d) (λ_=>False):=Reps.ind1 (Q:=λvs x=>Trs K F H st vs (x.map T.d) λ_=>False) (.nil λ_ z=>z) (λh _ i=>.cons (.d h λ_ z=>z) i (λ_ z=>z.elim) λb=>by simp) r
def Trs.un:∀{st:Bool}{vs:LV}{u:LT}{S:iA}{x:List D},Trs K F H st vs u S->bF u=jb x->Reps K F vs x/\∀b,¬ S b
 |_,_,_,_,_,.nil n,e=>by simp only[bF,Qx]at e;subst e;exact#[.nil,n]|st,_,_,S,x,.cons h t n q,e=>by
  have y:=lM e;cases x with
  |nil=>cases y|cons d r =>
   rw[QR]at y;injection y with e1 e2;subst e1;have k:=pu bF e2;rw[nA]at k;let#[i,g]:=Trs.un t k;cases h with|d rep m=>refine#[.cons rep i,λb a=>?_];rcases(q b).mp a with z|z;exact m b z;exact g b z
def Trs.get:∀{st:Bool}{vs:LV}{y:LT}{S:iA}{i:Nat}{t:T},Trs K F H st vs y S->y[i]?=jb t->∃v S1,vs[i]?=jb v/\Tr K F H st v t S1/\∀b,S1 b->S b
 |_,_,_,_,i,_,.nil n,e=>by simp at e|_,_,_,_,0,_,.cons h t n q,e=>by simp at e;subst e;exact#[_,_,rfl,h,λb x=>(q b).mpr (.inl x)]|_,_,_,_,i+1,_,.cons h t n q,e=>by let#[v,S1,k,u,z]:=Trs.get (i:=i) t (by simpa using e);exact#[v,S1,by simpa using k,u,λb x=>(q b).mpr (.inr (z b x))]
def Trs.at{st:Bool}{vs:LV}{x:LT}{S:iA}{i:Int}{t:T}(r:Trs K F H st vs x S)(h:FB x i=jb t):∃v S1,FB vs i=jb v/\Tr K F H st v t S1/\∀b,S1 b->S b:=by
 unfold FB at h ⊢;rw[r.9];cases e:N3 x.9 i with|none=>rw[e]at h;cases h|some j=>rw[e]at h;exact r.get h
def Trs.append{st:Bool}{vs y:LV}{u us:LT}{S1 x:iA}(h:Trs K F H st vs u S1)(r:Trs K F H st y us x)(k:∀b,S1 b->¬ x b):Trs K F H st (vs++y) (u++us) (λb=>S1 b∨x b) :=
 (Tr.ind (P:=λ_ _ _ _=>True) (Q:=λst vs u S1=>Trs K F H st y us x->(∀b,S1 b->¬ x b)->Trs K F H st (vs++y) (u++us) (λb=>S1 b∨x b)) (λ_ _=>trivial) (λ_ _ _ _ _ _=>trivial) (λ_ _ _ _ _ _=>trivial) (λ_ _ _=>trivial) (λn r k=>by have e:(λb=>_∨x b)=x:=funext λb=>Pz #[λz=>z.elim (λz=>(n b z).elim) id,.inr];rw[e];exact r) (λh t n q _ j r k=>.cons h (j r λb a=>k b ((q b).mpr (.inr a))) (λb a z=>z.elim (n b a) (k b ((q b).mpr (.inl a)))) λb=>by rw[q b,or_assoc])).2 h r k
def Trs.one{st:Bool}{v:V}{t:T}{S:iA}(h:Tr K F H st v t S):Trs K F H st [v] [t] S:=.cons h (.nil (S:=λ_=>False) λ_ z=>z) (λ_ _ z=>z) λb=>by simp
def Tr.ls{st:Bool}{v:V}{t:T}{S:iA}{y:LT}(f:Same F H)(h:Tr K F H st v t S)(e:t.vw=.ls y):∃a vs S',v=.ref a/\mD K H a vs/\Trs K F H Kz vs y S'/\∀b,S' b->S b:=by
 cases h with
 |d r n =>
  cases r with|lst q r=>injection e with e;subst e;exact#[_,_,_,rfl,f.seq q,Trs.of_reps r,λb x=>x.elim]|_=>cases e
 |lst h _ r n q=>injection e with e;subst e;exact#[_,_,_,rfl,mD.of h,r.weak,λb x=>(q b).mpr (.inr x)]|tup=>cases e|lstF h r n=>injection e with e;subst e;exact#[_,_,_,rfl,f.seq h,Trs.of_reps r,λb x=>x.elim]
def Tr.tp{st:Bool}{v:V}{t:T}{S:iA}{y:LT}(f:Same F H)(h:Tr K F H st v t S)(e:t.vw=.tp y):∃a vs S',v=.ref a/\GE K H a vs/\Trs K F H Kz vs y S'/\∀b,S' b->S b:=by
 cases h with
 |d r n =>
  cases r with|tup q r=>injection e with e;subst e;exact#[_,_,_,rfl,f.tupl q,Trs.of_reps r,λb x=>x.elim]|_=>cases e
 |tup h _ r n q=>injection e with e;subst e;exact#[_,_,_,rfl,GE.of h,r.weak,λb x=>(q b).mpr (.inr x)]|lst=>cases e|lstF=>cases e
def Tr.sc{st:Bool}{v:V}{t:T}{S:iA}{x:D}(h:Tr K F H st v t S)(e:t.vw=.sc x):t=.d x/\Rep K F v x:=by
 cases h with
 |@d _ _ y _ r n =>
  cases y with|list z=>cases e|tuple z=>cases e|dict z=>cases e|_=>injection e with e;subst e;exact#[rfl,r]
 |tup=>cases e|lst=>cases e|lstF=>cases e
def Tr.int{st:Bool}{v:V}{t:T}{S:iA}{i:Int}(h:Tr K F H st v t S)(e:t.vw=.sc (.int i)):v=.int i:=by let#[_,r]:=h.sc e;cases r;rfl
def Tr.str{st:Bool}{v:V}{t:T}{S:iA}{i:Str}(h:Tr K F H st v t S)(e:t.vw=.sc (.str i)):v=.str i:=by let#[_,r]:=h.sc e;cases r;rfl
def Tr.bool{st:Bool}{v:V}{t:T}{S:iA}{i:Bool}(h:Tr K F H st v t S)(e:t.vw=.sc (.bool i)):v=.bl i:=by let#[_,r]:=h.sc e;cases r;rfl
end
def Reps.reps{K:QC}{H:Hp}{vs:LV}{x:List D}(h:Reps K H vs x):∀m:Nat,Reps K H (QK m vs).flatten (QK m x).flatten
 |0=>.nil|m+1=>by rw[Qs,Qs,qV,qV];exact h.append (h.reps m)
def Sl.t:Sl->T
 | .own t=>t|.bor t=>t
def Sl.st:Sl->Bool
 | .own _=>j3|.bor _=>Kz
noncomputable abbrev Ft:=Nat->kl->Prop
structure Rl(K:QC)(F H:Hp)(S:Ft)(ρ:yA)(σ:St):Prop where
 fh:Same F H
 len:ρ.9=σ.9
 sl:∀(i:Nat) s,ρ[i]?=jb (jb s)->∃v,σ[i]?=jb (jb v)/\Tr K F H s.st v s.t (S i)
 dj:∀(i j:Nat) t s,i≠j->ρ[i]?=jb (jb (.own t))->ρ[j]?=jb (jb s)->∀b,S i b->¬ S j b
def U(ρ:yA)(S:Ft)(b:kl):Prop:=∃(i:Nat) (t:T),ρ[i]?=jb (jb (.own t))/\S i b
structure Stp(F H:Hp)(S:Ft)(ρ:yA)(F' H':Hp)(S':Ft)(ρ':yA):Prop where
 ff:Same F F'
 hh:∀b u,H b=jb u->¬ U ρ S b->H' b=jb u
 dm:∀b,H' b=js->H b=js
 fn:∀b,F b=js->F' b≠js->U ρ S b∨H b=js
 uu:∀b,U ρ' S' b->U ρ S b∨H b=js
 bo:∀(j:Nat) t,ρ'[j]?=jb (jb (.bor t))->t.isD=Kz->ρ[j]?=jb (jb (.bor t))/\S' j=S j
structure Ste(F H:Hp)(S:Ft)(ρ:yA)(F' H':Hp)(S':Ft)(ρ':yA):Prop extends Stp F H S ρ F' H' S' ρ' where
 ow:∀(j:Nat) t,ρ'[j]?=jb (jb (.own t))->∃t0,ρ[j]?=jb (jb (.own t0))
section
variable{K:QC}{F H g c m A:Hp}{S S1 X:Ft}{ρ y l:yA}{σ:St}
def Stp.refl:Stp F H S ρ F H S ρ:=#[.refl _,λ_ _ h _=>h,λ_ h=>h,λb h z=>n9 h z,λ_ h=>.inl h,λ_ _ h _=>#[h,rfl]]
def Ste.refl:Ste F H S ρ F H S ρ:=#[Stp.refl,λ_ t h=>#[t,h]]
def Stp.trans(a:Stp F H S ρ g c S1 y)(b:Stp g c S1 y m A X l):Stp F H S ρ m A X l where
 ff:=a.ff.trans b.ff
 hh:=λx u h n=>b.hh x u (a.hh x u h n) λz=>by rcases a.uu x z with q|q;exact n q;rw[q]at h;cases h
 dm:=λx h=>a.dm x (b.dm x h)
 fn:=λx h z=>by
  by_cases q:g x=js;rcases b.fn x q z with w|w
  ·exact a.uu x w
  exact .inr (a.dm x w);exact a.fn x h q
 uu:=λx h=>by rcases b.uu x h with w|w;exact a.uu x w;exact .inr (a.dm x w)
 bo:=λj t h n=>by let#[o,i]:=b.bo j t h n;let#[e,k]:=a.bo j t o n;exact#[e,i.trans k]
def Ste.trans(a:Ste F H S ρ g c S1 y)(b:Ste g c S1 y m A X l):Ste F H S ρ m A X l:=#[a.toStp.trans b.toStp,λj t h=>by let#[x,z]:=b.ow j t h;exact a.ow j x z]
def Stp.keep(s:Stp F H S ρ g c S1 y){st:Bool}{v:V}{t:T}{Z:iA}(h:Tr K F H st v t Z)(n:∀b,Z b->¬ U ρ S b):Tr K g c st v t Z :=
 h.mono s.ff λb x=>by
  let#[k,a]:=h.dom b x;refine#[?_,?_];cases e:H b with|none=>exact n9 e k|some u=>exact s.hh b u e (n b x)
  by_cases q:g b=js
  ·exact q
  rcases s.fn b a q with z|z
  ·exact n9 z (n b x)
  exact n9 z k
def Rl.dom(I:Rl K F H S ρ σ)(h:ρ[i]?=jb (jb s))(x:S i b):H b≠js/\F b=none:=by let#[v,_,r]:=I.sl i s h;exact r.dom b x
def Rl.isD(I:Rl K F H S ρ σ)(h:ρ[i]?=jb (jb s))(hd:s.t.isD=j3):¬ S i b:=by
 let#[v,_,r]:=I.sl i s h;generalize s.t=t at r hd;generalize s.st=st at r;cases r with|d r n=>exact n b|_=>cases hd
structure Held(F H:Hp)(S:Ft)(ρ:yA)(Z:iA):Prop where
 dom:∀b,Z b->H b≠js/\F b=js
 nw:∀(i:Nat) s,ρ[i]?=jb (jb s)->∀b,Z b->¬ S i b
def Held.nu(h:Held F H S ρ Z):∀b,Z b->¬ U ρ S b:=λb x #[i,t,u,z]=>h.nw i _ u b x z
def Held.step(h:Held F H S ρ Z)(s:Stp F H S ρ g c S1 y)(o:Rl K g c S1 y σ):Held g c S1 y Z where
 dom:=λb x=>by
  let#[u,a]:=h.dom b x;refine#[λz=>u (s.dm b z),?_];by_cases q:g b=js;exact q;rcases s.fn b a q with z|z
  ·exact n9 z (h.nu b x)
  exact n9 z u
 nw:=λi k e b x z=>by
  cases k with
  |own t=>rcases s.uu b ⟨i,t,e,z⟩ with q|q;exact h.nu b x q;exact(h.dom b x).1 q
  |bor t =>
   cases hd:t.isD with|true=>exact o.isD e hd z|false=>let#[n,j]:=s.bo i t e hd;rw[j]at z;exact h.nw i _ n b x z
def Held.none:Held F H S ρ λ_=>False:=#[λ_ z=>z.elim,λ_ _ _ _ z=>z.elim]
def Held.or(a:Held F H S ρ Z)(b:Held F H S ρ Y):Held F H S ρ λx=>Z x∨Y x:=#[λx h=>h.elim (a.dom x) (b.dom x),λi s e x h=>h.elim (a.nw i s e x) (b.nw i s e x)]
def jF(F H:Hp)(W:iA):Hp:=open Classical in λb=>if W b then H b else F b
def kD{W:iA}(h:W b):jF F H W b=H b:=n8 h
def xB{W:iA}(h:¬ W b):jF F H W b=F b:=n7 h
def CD{W:iA}(h:∀b,W b->F b=js):Same F (jF F H W):=λb u e=>by rw[xB λz=>by rw[h b z]at e;cases e];exact e
def eY(f:Same F H):Same (jF F H W) H:=λb u e=>by by_cases h:W b;rw[kD h]at e;exact e;rw[xB h]at e;exact f b u e
def Rl.frz(I:Rl K F H S ρ σ){W:iA}(x:Held F H S ρ W):Rl K (jF F H W) H S ρ σ where
 fh:=eY I.fh
 len:=I.len
 sl:=λi s e=>by let#[v,k,u]:=I.sl i s e;refine#[v,k,u.mono (CD λb h=>(x.dom b h).2) λb h=>#[rfl,?_]];rw[xB λz=>x.nw i s e b z h];exact(u.dom b h).2
 dj:=I.dj
def Stp.frz(s:Stp F H S ρ g c S1 y){W:iA}(x:∀b,W b->g b=js)(fr:∀b,W b->H b=js∨U ρ S b):Stp F H S ρ (jF g c W) c S1 y :=
 #[s.ff.trans (CD x),s.hh,s.dm,λb h z=>by by_cases q:W b;exact(fr b q).symm;rw[xB q]at z;exact s.fn b h z,s.uu,s.bo]
def Ste.frz(s:Ste F H S ρ g c S1 y){W:iA}(h:∀b,W b->g b=js)(fr:∀b,W b->H b=js∨U ρ S b):Ste F H S ρ (jF g c W) c S1 y:=#[s.toStp.frz h fr,s.ow]
def Stp.new(s:Stp F H S ρ g c S1 y){p:kl}(h:c p=js)(o:HO):Stp F H S ρ g (LA c p o) S1 y :=
 #[s.ff,λb u e n=>AB h b u (s.hh b u e n),λb e=>by by_cases x:b=p;rw[x,fA]at e;cases e;rw[vA x]at e;exact s.dm b e,s.fn,s.uu,s.bo]
def Ste.new(s:Ste F H S ρ g c S1 y){p:kl}(h:c p=js)(o:HO):Ste F H S ρ g (LA c p o) S1 y:=#[s.toStp.new h o,s.ow]
def Rl.same(I:Rl K F H S ρ σ)(h:Same H c):Rl K F c S ρ σ where
 fh:=I.fh.trans h
 len:=I.len
 sl:=λi s e=>by
  let#[v,k,x]:=I.sl i s e;refine#[v,k,x.mono (.refl _) λb z=>#[?_,(x.dom b z).2]];cases e:H b with|none=>exact n9 e (x.dom b z).1|some u=>exact h b u e
 dj:=I.dj
def Rl.new(I:Rl K F H S ρ σ){p:kl}(h:H p=js)(o:HO):Rl K F (LA H p o) S ρ σ:=I.same (AB h)
def Stp.newT(s:Stp F H S ρ g c S1 y)(h:c p=js)(k:g p=js)(o:HO):Stp F H S ρ (LA g p o) (LA c p o) S1 y :=
 let x:=s.new h o
 #[s.ff.trans (AB k),x.hh,x.dm,λb e z=>by by_cases u:b=p;rw[u];exact .inr (s.dm p h);rw[vA u]at z;exact s.fn b e z,s.uu,s.bo]
def Ste.newT(s:Ste F H S ρ g c S1 y)(h:c p=js)(x:g p=js)(o:HO):Ste F H S ρ (LA g p o) (LA c p o) S1 y:=#[s.toStp.newT h x o,s.ow]
def Rl.newT(I:Rl K F H S ρ σ)(h:H p=js)(o:HO):Rl K (LA F p o) (LA H p o) S ρ σ where
 fh:=λb u e=>by by_cases x:b=p;rw[x,fA]at e ⊢;exact e;rw[vA x]at e ⊢;exact I.fh b u e
 len:=I.len
 sl:=λi s e=>by let#[v,j,k]:=I.sl i s e;refine#[v,j,k.mono (AB (I.fh.free h)) λb x=>?_];have a:b≠p:=λz=>(k.dom b x).1 (by rw[z];exact h);rw[vA a,vA a];exact#[rfl,(k.dom b x).2]
 dj:=I.dj
def o0(ρ:yA)(i:Nat):(lockA ρ)[i]?=ρ[i]?.map uH:=by unfold lockA;rw[Qd]
def MB{ρ:yA}{i:Nat}{s:Sl}(h:(lockA ρ)[i]?=jb (jb s)):∃x,ρ[i]?=jb (jb x)/\s=.bor x.t:=by
 rw[o0]at h;cases e:ρ[i]? with
 |none=>rw[e]at h;cases h|some o =>
  rw[e]at h;cases o with
  |none=>cases h|some x =>
   cases x with|own t=>injection h with h;injection h with h;subst h;exact#[_,rfl,rfl]|bor t=>injection h with h;injection h with h;subst h;exact#[_,rfl,rfl]
def tE(b:kl):¬ U (lockA ρ) S b:=λzz=>by let#[i,t,h,_]:=zz;let#[x,_,e]:=MB h;cases e
def Rl.lockA(I:Rl K F H S ρ σ):Rl K F H S (lockA ρ) σ where
 fh:=I.fh
 len:=by unfold L3.lockA;rw[QG];exact I.len
 sl:=λi s e=>by let#[x,h,rfl]:=MB e;let#[v,u,z]:=I.sl i x h;exact#[v,u,z.weak]
 dj:=λi j t s _ h=>by let#[x,_,e]:=MB h;cases e
def Stp.unlockA(s:Stp F H S (L3.lockA ρ) g c S1 y):Stp F H S ρ g c S ρ :=
 #[s.ff,λb u e _=>s.hh b u e (tE b),s.dm,λb h z=>(s.fn b h z).elim (λq=>n9 q (tE b)) .inr,λ_ h=>.inl h,λ_ _ h _=>#[h,rfl]]
def Rl.unlockA(I:Rl K F H S ρ σ)(s:Stp F H S (L3.lockA ρ) g c S1 y)(f:Same g c):Rl K g c S ρ σ where
 fh:=f
 len:=I.len
 sl:=λi sl e=>by let#[v,x,h]:=I.sl i sl e;exact#[v,x,s.keep h λb _=>tE b]
 dj:=I.dj
structure VR(K:QC)(vs:LN)(H0:Hp)(S0:Ft)(ρ0:yA)(F H:Hp)(S:Ft)(ρ:yA)(v:V)(t:T)(n:Bool)(Z:iA):Prop where
 tr:Tr K F H n v t Z
 fr:n=j3->∀b,Z b->H0 b=js∨U ρ0 S0 b
 tm:n=Kz->∀b,Z b->∃(i:Nat) (s:Sl),i∈vs/\ρ[i]?=jb (jb s)/\S i b
 nw:n=j3->∀(i:Nat) s,ρ[i]?=jb (jb s)->∀b,Z b->¬ S i b
def VR.d{vs:LN}{k:Hp}{u:Ft}{h:yA}{v:V}{x:D}(n:Bool)(r:Rep K F v x):VR K vs k u h F H S ρ v (.d x) n (λ_=>False) :=
 #[.d r λ_ z=>z,λ_ _ z=>z.elim,λ_ _ z=>z.elim,λ_ _ _ _ _ z=>z.elim]
def VR.held(h:VR K vs k u x F H S ρ v t j3 Z):Held F H S ρ Z:=#[λb z=>h.tr.dom b z,h.nw rfl]
def VR.vars(h:VR K vs a u x F H S ρ v t n Z)(k:∀i∈vs,i∈z):VR K z a u x F H S ρ v t n Z :=
 #[h.tr,h.fr,λe b j=>let#[i,s,p,o]:=h.tm e b j;#[i,s,k i p,o],h.nw]
def VR.from(s:Stp F H S ρ g c S1 y)(h:VR K vs c S1 y m A X l v t n Z):VR K vs H S ρ m A X l v t n Z :=
 #[h.tr,λe b x=>by rcases h.fr e b x with q|q;exact .inl (s.dm b q);exact(s.uu b q).symm,h.tm,h.nw]
def VR.frz{vs:LN}{v:V}{t:T}{n:Bool}{Z:iA}(s:Ste F H S ρ g c S1 y)(I:Rl K g c S1 y σ)(h:VR K vs H S ρ g c S1 y v t n Z) :
  ∃m Y,Ste F H S ρ m c S1 y/\Rl K m c S1 y σ/\Tr K m c Kz v (cA t n) Y/\(LG t n=j3->Rep K m v t.er)/\(∀b,Y b->∃(i:Nat) (s:Sl),i∈vs/\y[i]?=jb (jb s)/\S1 i b) /\
   ∀st o t' j,Tr K g c st o t' j->(∀b,j b->∃(i:Nat) (s:Sl),y[i]?=jb (jb s)/\S1 i b)->Tr K m c st o t' j:=by
 cases n with
 |true =>
  have a:=h.held;have q:=CD (H:=c) λb k=>(a.dom b k).2;have p:=h.tr.kept q λb u k e=>by rw[kD k];exact e
  refine#[jF g c Z,λ_=>False,s.frz (λb k=>(a.dom b k).2) (h.fr rfl),I.frz a,.d p λ_ z=>z,λ_=>p,λb z=>z.elim,λst o t' j r C=>r.mono q λb k=>#[rfl,?_]];let#[i,B,G,E]:=C b k;rw[xB λz=>a.nw i B G b z E];exact(r.dom b k).2
 |false =>
  refine#[g,Z,s,I,h.tr,?_,h.tm rfl,λ_ _ _ _ r _=>r];intro e;have W:=h.tr;cases t with
  |d x=>cases W with|d r n=>exact r
  |_=>cases e
end
noncomputable abbrev sB(K:QC)(vs:LN)(F H:Hp)(S:Ft)(ρ:yA)(σ:St)(Q:TK)(R:VK):Prop :=
 ∀v z x y h t n Z,Ste F H S ρ z x y h->Rl K z x y h σ->VR K vs H S ρ z x y h v t n Z->Q t n h->R v x
noncomputable abbrev cI(K:QC)(F H:Hp)(S:Ft)(ρ:yA)(σ:St)(Q:Bool->yA->Prop)(R:Bool->Hp->Prop):Prop :=
 ∀b z x y h,Ste F H S ρ z x y h->Rl K z x y h σ->Q b h->R b x
section
variable{K:QC}{C:LN}{F H B X:Hp}{S S1:Ft}{ρ A:yA}{σ:St}{v w:V}{a b:T}{E L:iA}{Q:TK}{R:VK}{G J:Bool}
def sB.from(k:sB K C F H S ρ σ Q R)(s:Ste F H S ρ u z y h):sB K C u z y h σ Q R:=λv l j g x t n Z e i r q=>k v l j g x t n Z (s.trans e) i (r.from s.toStp) q
def cI.from{Q:Bool->yA->Prop}{R:Bool->Hp->Prop}(k:cI K F H S ρ σ Q R)(s:Ste F H S ρ u z y h):cI K u z y h σ Q R:=λb l j g x e i q=>k b l j g x (s.trans e) i q
def sB.vars(k:sB K C F H S ρ σ Q R)(h:∀i∈us,i∈C):sB K us F H S ρ σ Q R:=λv u z y x t n Z s I r q=>k v u z y x t n Z s I (r.vars h) q
def sB.d(k:sB K C F H S ρ σ Q R)(s:Ste F H S ρ B X S1 A)(I:Rl K B X S1 A σ){x:D}{n:Bool}(r:Rep K B v x)(q:Q (.d x) n A):R v X:=k v B X S1 A _ n _ s I (VR.d n r) q
def sB.list(k:sB K C F H S ρ σ Q R)(s:Ste F H S ρ B X S1 A)(I:Rl K B X S1 A σ)(y:X p=js)(r:Trs K B X j3 vs g W)(fr:∀b,W b->H b=js∨U ρ S b)(u:Held B X S1 A W)(q:Q (.lst g) j3 A):R (.ref p) (LA X p (.lst vs)):=by
 have np:∀b,X b≠js->b≠p:=λb h z=>h (by rw[z];exact y);refine k _ B _ S1 A _ j3 (λb=>b=p∨W b) (s.new y _) (I.new y _) #[.lst fA (I.fh.free y) (r.mono (.refl _) λb x=>#[?_,(u.dom b x).2]) (λz=>(u.dom p z).1 y) (λb=>W9),λ_ b x=>?_,λz=>(by cases z),λ_ i j e b x z=>?_] q;rw[vA (np b (u.dom b x).1)];rcases x with rfl|x
 ·exact .inl (s.dm _ y)
 exact fr b x;rcases x with rfl|x
 ·exact(I.dom e z).1 y
 exact u.nw i j e b x z
def sB.listD(k:sB K C F H S ρ σ Q R)(s:Ste F H S ρ B X S1 A)(I:Rl K B X S1 A σ)(x:X p=js)(r:Reps K B vs h)(q:Q (.lst (h.map T.d)) j3 A):R (.ref p) (LA X p (.lst vs)) :=
 k.list s I x (Trs.of_reps r) (λb z=>z.elim) .none q
def sB.tupD(k:sB K C F H S ρ σ Q R)(s:Ste F H S ρ B X S1 A)(I:Rl K B X S1 A σ)(h:X p=js)(r:Reps K B vs x)(q:Q (.d (.tuple x)) n A):R (.ref p) (LA X p (.tup vs)) :=
 sB.d k (s.newT h (I.fh.free h) _) (I.newT h _) (.tup (GE.of fA) (r.mono (AB (I.fh.free h)))) q
def sB.tup(k:sB K C F H S ρ σ Q R)(s:Ste F H S ρ B X S1 A)(I:Rl K B X S1 A σ){p:kl}(y:X p=js){vs:LV}{g:LT}{W:iA}(r:Trs K B X j3 vs g W)
  (fr:∀b,W b->H b=js∨U ρ S b) (u:Held B X S1 A W) (q:Q (RF g) j3 A):R (.ref p) (LA X p (.tup vs)):=by
 unfold RF at q;cases e:bF g with
 |some l=>rw[e]at q;exact k.tupD s I y (r.un e).1 q|none =>
  rw[e]at q;have np:∀b,X b≠js->b≠p:=λb h z=>h (by rw[z];exact y);refine k _ B _ S1 A _ j3 (λb=>b=p∨W b) (s.new y _) (I.new y _) #[.tup fA (I.fh.free y) (r.mono (.refl _) λb x=>#[?_,(u.dom b x).2]) (λz=>(u.dom p z).1 y) (λb=>W9),λ_ b x=>?_,λz=>(by cases z),λ_ i j e b x z=>?_] q;rw[vA (np b (u.dom b x).1)];rcases x with rfl|x
  ·exact .inl (s.dm _ y)
  exact fr b x;rcases x with rfl|x
  ·exact(I.dom e z).1 y
  exact u.nw i j e b x z
def vn(s:Ste F H S ρ B X S1 A)(I:Rl K B X S1 A σ)(r:Tr K B X G v a E)(o:Tr K B X J w b L)(h:binT op a.vw b.vw λz n=>Q z n A)(k:sB K C F H S ρ σ Q R):Be K op v w X R:=by
 have W:∀{i j:Int},a.vw=.sc (.int i)->b.vw=.sc (.int j)->v=.int i/\w=.int j:=λg u=>#[r.int g,o.int u]
 cases op with
 |Add =>
  rcases h with⟨i,j,g,u,h⟩| ⟨x,y,g,u,h⟩| ⟨xs0,P,ds,es,g,u,e1,e2,hl,q⟩| ⟨xs0,P,ds,es,g,u,e1,e2,hn,hn2,hl,q⟩
  let#[rfl,rfl]:=W g u;exact k.d s I (.int _) h;obtain rfl:=r.str g;obtain rfl:=o.str u;exact#[h.1,k.d s I (.str _) h.2];let#[p,M,_,rfl,O,N,_]:=r.ls I.fh g;let#[p2,ys,_,rfl,hq,rq,_]:=o.ls I.fh u;have Z:=(N.un e1).1;have Y:=(rq.un e2).1;exact .inl #[M,ys,O,hq,by rw[Z.9,Y.9];exact hl,λl hl=>k.listD s I hl (Z.append Y) q];let#[p,M,_,rfl,O,N,_]:=r.tp I.fh g;let#[p2,ys,_,rfl,hq,rq,_]:=o.tp I.fh u;have Z:=(N.un e1).1;have Y:=(rq.un e2).1;refine .inr #[p,p2,M,ys,rfl,rfl,O,hq,?_,by rw[Z.9,Y.9];exact hl,λz=>?_,λ_ l hl=>?_];intro z;subst z;cases Z;exact hn rfl;subst z;cases Y;exact n9 rfl hn2;exact k.tupD s I hl (Z.append Y) q
 |Sub=>let#[i,j,g,u,h]:=h;let#[rfl,rfl]:=W g u;exact k.d s I (.int _) h|Mult =>
  rcases h with⟨i,j,g,u,h⟩| ⟨x,y,g,u,h⟩| ⟨ts,m,ds,g,u,e,⟨b1,b2,b3⟩,q⟩
  let#[rfl,rfl]:=W g u;exact#[h.1,k.d s I (.int _) h.2]
  rotate_left
  let#[p,M,_,rfl,O,N,_]:=r.ls I.fh g;obtain rfl:=o.int u;have rr:=(N.un e).1;exact#[M,O,#[b1,b2,by rw[rr.9];exact b3],λl hl=>k.listD s I hl (rr.reps m.toNat) q];obtain rfl:=r.str g;obtain rfl:=o.int u;exact#[h.1,k.d s I (.str _) h.2]
 |FloorDiv=>let#[i,j,g,u,h]:=h;let#[rfl,rfl]:=W g u;exact#[h.1,k.d s I (.int _) h.2]|Mod=>let#[i,j,g,u,h]:=h;let#[rfl,rfl]:=W g u;exact#[h.1,k.d s I (.int _) h.2]|Pow=>let#[i,j,g,u,h]:=h;let#[rfl,rfl]:=W g u;exact#[h.1,k.d s I (.int _) h.2]|_=>exact h.elim
def ng{m:Bool->Prop}(z:Bool)(n:Rep K X v x)(e:Rep K X w y)(h:Bw x y λk=>m (if z then !k else k))(k:∀c,m c->R (.bl c) X):rEq K z v w X R:=by
 have u:GG x/\GG y/\m (if z then !PyData.eqv x y else Q2 x y)->(∃l g,Rep K X v l/\Rep K X w g/\GG l/\GG g/\R (.bl (if z then !PyData.eqv l g else Q2 l g)) X):=λ#[p,o,q] =>
  #[x,y,n,e,p,o,k _ q]
 cases n with
 |int i=>cases e with|int j=>exact k _ h|_=>exact u h
 |str i=>cases e with|str j=>exact k _ h|_=>exact u h
 |bl i=>cases e with|bl j=>exact k _ h|_=>exact u h
 |_=>exact u h
def HW{F:Hp}{v:V}{a:D}(h:Rep K F v a)(x:SA a=j3):(v=.non/\a=.none)∨(∃b,v=.bl b/\a=.bool b)∨(∃i,v=.int i/\a=.int i)∨∃z,v=.str z/\a=.str z:=by cases h<;>first|exact n9 (show Kz=j3 from x) QD|simp
def j9{F:Hp}{v w:V}{a b:D}(x:Rep K F v a)(h:Rep K F w b)(u:SA a=j3)(y:SA b=j3):de v w=Q2 a b:=by rcases HW x u with⟨rfl,rfl⟩| ⟨b,rfl,rfl⟩| ⟨i,rfl,rfl⟩| ⟨z,rfl,rfl⟩<;>rcases HW h y with⟨rfl,rfl⟩| ⟨b,rfl,rfl⟩| ⟨i,rfl,rfl⟩| ⟨z,rfl,rfl⟩<;>rfl
def GW{F:Hp}{v:V}{a:D}(h:Rep K F v a)(x:SA a=j3):bI v=true:=by rcases HW h x with⟨rfl,_⟩| ⟨_,rfl,_⟩| ⟨_,rfl,_⟩| ⟨_,rfl,_⟩<;>rfl
def FN{F:Hp}:∀{vs:LV}{x:List D},Reps K F vs x->x.all SA=j3->vs.all bI=j3
 |_,_,.nil,_=>rfl|_,_,.cons h t,f=>by rw[qB,Qc]at f ⊢;exact#[GW h f.1,FN t f.2]
def DN{F:Hp}{v:V}{a:D}(z:Rep K F v a)(u:SA a=j3):∀{vs:LV}{x:List D},Reps K F vs x->x.all SA=j3->inV v vs=x.any λy=>Q2 y a
 |_,_,.nil,_=>rfl|_,_,.cons h t,f=>by rw[qB,Qc]at f;have e:=DN z u t f.2;unfold inV at e ⊢;rw[qj,qj,j9 h z f.1 u,e]
def xg{q:Bool->Prop}(i:Bool)(u:Rep K X v x)(p:Rep K X w y)(h:jw x y λk=>q (if i then !k else k))(k:∀c,q c->R (.bl c) X):ZV K i v w X R:=by
 have g:=p;cases p with
 |str z=>cases u with|str z=>exact k _ h|_=>exact h.elim
 |@lst _ _ o n e =>
   rcases h.1 with⟨j,fs⟩| ⟨m,l⟩
   refine .inl #[_,_,rfl,.inl n,GW u j,FN e fs,?_];rw[DN u j e fs];exact k _ h.2;exact .inr #[_,o,u,.inl g,m,l,k _ h.2]
 |@tup _ _ o n e =>
   rcases h.1 with⟨j,fs⟩| ⟨m,l⟩
   refine .inl #[_,_,rfl,.inr n,GW u j,FN e fs,?_];rw[DN u j e fs];exact k _ h.2;exact .inr #[_,o,u,.inr g,m,l,k _ h.2]
 |_=>exact h.elim
def SQ(e:Rep K X v x)(u:Rep K X w y)(h:ZZ g x y z)(k:∀c,z c->R (.bl c) X):tZ g v w X R:=by unfold ZZ at h;split at h;cases e.inv;cases u.inv;exact k _ h;exact h.elim
def Rep.non_iff(h:Rep K X v x):decide (v=.non)=OB x:=by cases h<;>rfl
def EW(u:Rep K X v x)(z:Rep K X w y)(h:gU j x y i)(k:∀c,i c->R (.bl c) X):RH K j v w X R:=by
 cases j with|Eq=>exact ng Kz u z h k|NotEq=>exact ng j3 u z h k|Lt=>exact SQ u z h k|LtE=>exact SQ u z h k|Gt=>exact SQ u z h k|GtE=>exact SQ u z h k|In=>exact xg Kz u z h k|NotIn=>exact xg j3 u z h k|Is=>have g:B0 x y i:=h;unfold B0 at g;split at g;cases z.inv;have e:=u.non_iff;show R (.bl (decide (v=.non))) X;rw[e];exact k _ g;exact g.elim|IsNot=>have g:B0 x y λk=>i (!k):=h;unfold B0 at g;split at g;cases z.inv;have e:=u.non_iff;show R (.bl (!decide (v=.non))) X;rw[e];exact k _ g;exact g.elim
def HJ(r:Reps K F xs h):(!h.isEmpty)=!xs.isEmpty:=by cases r<;>rfl
def aX{e:Bool->Hp->Prop}(j:Rep K X v x)(h:cJ x g)(k:∀c,g c->e c X):yG K v X e:=by
 cases j with|bl b=>exact k _ h|int i=>exact k _ h|non=>exact k _ h|str z=>exact#[h.1,k _ h.2]|@lst _ _ l u y=>exact#[_,.inl #[_,u,rfl],k _ (HJ y▸h)]|@tup _ _ l u y=>exact#[_,.inr (.inl #[_,u,rfl]),k _ (HJ y▸h)]|_=>exact h.elim
def P9{y:Bool->Hp->Prop}(u:Rep K X v x)(h:Gn x z)(k:∀c,z c->y c X):nS v X y:=by unfold Gn at h;split at h;cases u.inv;exact k _ h;exact h.elim
def idx_ok(s:Ste F H S ρ B X S1 A)(I:Rl K B X S1 A σ)(o:Tr K B X G v a E)(N:∀b,E b->∃(i:Nat) (s:Sl),i∈C/\A[i]?=jb (jb s)/\S1 i b)(n:Tr K B X J w b L)(h:BO a.vw b.vw λz=>Q z Kz A)(k:sB K C F H S ρ σ Q R):N5 K v w X R:=by
 rcases h with⟨z,i,c,j,g,e,u,q⟩| ⟨O,i,d,j,g,e,q⟩| ⟨O,i,d,j,g,e,q⟩
 obtain rfl:=o.str j;obtain rfl:=n.int g;exact#[e,c,u,k.d s I (.str _) q];let#[p,l,P,rfl,W,m,Y]:=o.ls I.fh j;obtain rfl:=n.int g;let#[x,Z,u,r,y]:=m.at e;exact#[l,x,.inl W,u,k _ B X S1 A _ Kz Z s I #[r,λz=>(by cases z),λ_ b M=>N b (Y b (y b M)),λz=>(by cases z)] q];let#[p,l,P,rfl,W,m,Y]:=o.tp I.fh j;obtain rfl:=n.int g;let#[x,Z,u,r,y]:=m.at e;exact#[l,x,.inr W,u,k _ B X S1 A _ Kz Z s I #[r,λz=>(by cases z),λ_ b M=>N b (Y b (y b M)),λz=>(by cases z)] q]
def Reps.cut{xs:LV}{y:List D}(r:Reps K F xs y)(h x:Option Int):Reps K F (bU xs h x) (ZE y h x):=by unfold bU ZE;rw[r.9];exact(r.drop _).take _
def Jj(s:Ste F H S ρ B X S1 A)(I:Rl K B X S1 A σ)(g:Tr K B X G v a E)(h:OE a.vw j m λz n=>Q z n A)(k:sB K C F H S ρ σ Q R):Bu K v j m X R:=by
 rcases h with⟨z,x,h⟩| ⟨o,r,x,e,q⟩| ⟨o,r,x,e,n,q⟩
 obtain rfl:=g.str x;exact#[h.1,k.d s I (.str _) h.2];let#[p,u,_,rfl,i,y,_]:=g.ls I.fh x;exact .inl #[p,u,rfl,i,λl hl=>k.listD s I hl ((y.un e).1.cut _ _) q];let#[p,u,_,rfl,i,y,_]:=g.tp I.fh x;refine .inr (.inl #[p,u,rfl,i,by rw[(y.un e).1.length];exact n,λl hl=>k.tupD s I hl ((y.un e).1.cut _ _) q])
def Zc{y:Option Int->Hp->Prop}(z:Rep K X v x)(h:vE x P)(k:∀o,P o->y o X):TM v X y:=by unfold vE at h;split at h;cases z.inv;exact k _ h;exact h.elim
def Zu:D->ky
 | .none=>.type "NoneType"|.bool _=>.type "bool"|.int _=>.type "int"|.str _=>.type "str"|.list _=>.type "list"|.tuple _=>.type "tuple"|.dict _=>.type "dict"
def Rep.ty(u:Rep K X v x)(h:isD n x=jb k):TyOf K X v (Zu x)∨Kx K X v (Zu x):=by
 cases u with|exc _ _ _=>cases h|cls _=>cases h|dct _ _ _=>cases h|non=>exact .inl .non|bl b=>exact .inl (.bl _)|int b=>exact .inl (.int _)|str b=>exact .inl (.str _)|lst y z=>exact .inr (.inl #[_,_,rfl,y,rfl])|tup y z=>exact .inr (.inr #[_,_,rfl,y,rfl])
def Ol(h:isD n x=jb k)(y:CP n=j3):WZ K (Zu x) (.type n)=jb k:=by simp only[CP,ql,beq_iff_eq]at y;rcases y with((((rfl|rfl)|rfl)|rfl)|rfl)|rfl<;>cases x<;>simp[isD]at h<;>subst h<;>rfl
def om(y:Rep K X v x)(h:isD n x=jb k)(z:CP n=j3)(q:R (.bl k) X):Db K [v,.ty n] X R :=
 #[_,_,Zu x,.type n,k,rfl,y.ty h,rfl,Ol h z,q]
inductive Tn(K:QC)(F H:Hp)(Y:iA):LV->LT->Prop where
 |nil:Tn K F H Y [] []
 |cons {v:V}{t:T}{vs:LV}{ts:LT}{Z:iA}:Tr K F H Kz v t Z->(∀b,Z b->Y b)->Tn K F H Y vs ts->Tn K F H Y (v::vs) (t::ts)
def mK(x:LT):∀{xs:List (T×Bool)},PD xs=x->YB xs=x.map T.vw
 |[],h=>by subst h;rfl|p::r,h=>by subst h;simp only[YB,PD,QR,mK _ rfl]
def Tn.one(h:Tn K F H Y vs y)(e:y.map T.vw=[x]):∃v t Z,vs=[v]/\y=[t]/\t.vw=x/\Tr K F H Kz v t Z/\∀b,Z b->Y b:=by
 cases h with
 |nil=>cases e|cons r z t =>
  simp only[QR,wj]at e;cases t with|nil=>exact#[_,_,_,rfl,rfl,e.1,r,z]|cons _ _ _=>simp at e
def Tn.two(h:Tn K F H Y vs k)(e:k.map T.vw=[x,y]):∃v w t u Z g,vs=[v,w]/\k=[t,u]/\t.vw=x/\u.vw=y/\Tr K F H Kz v t Z/\Tr K F H Kz w u g/\(∀b,Z b->Y b)/\(∀b,g b->Y b):=by
 cases h with|nil=>cases e|cons r z t=>simp only[QR,wj]at e;let#[v,u,g,rfl,rfl,l,j,i]:=t.one e.2;exact#[_,_,_,_,_,_,rfl,rfl,e.1,l,r,j,z,i]
def NX:∀{xs:LV}{ys:LS},Reps K F xs (ys.map Jz)->xs=ys.map V.str
 |_,[],.nil=>rfl|_,y::ys,.cons h t=>by cases h;rw[QR,NX t]
def Xn{M:Bi}{Y:iA}{vs:LV}{N:LT}(s:Ste F H S ρ B X S1 A)(I:Rl K B X S1 A σ)(x:Tn K B X Y vs N)(h:RO M (N.map T.vw) λz n=>Q z n A)(k:sB K C F H S ρ σ Q R):zt K M vs X R:=by
 cases M with
 |len =>
  rcases h with⟨z,e,h⟩| ⟨W,e,h⟩| ⟨W,e,h⟩
  let#[v,t,Z,rfl,rfl,e,r,_]:=x.one e;obtain rfl:=r.str e;exact .inl #[_,rfl,h.1,k.d s I (.int _) h.2];let#[v,t,Z,rfl,rfl,e,r,_]:=x.one e;let#[p,m,_,rfl,g,y,_]:=r.ls I.fh e;exact .inr #[_,m,rfl,.inl g,by rw[y.9];exact k.d s I (.int _) h];let#[v,t,Z,rfl,rfl,e,r,_]:=x.one e;let#[p,m,_,rfl,g,y,_]:=r.tp I.fh e;exact .inr #[_,m,rfl,.inr g,by rw[y.9];exact k.d s I (.int _) h]
 |all=>let#[W,bs,e,o,q]:=h;let#[v,t,Z,rfl,rfl,e,r,_]:=x.one e;let#[p,m,_,rfl,g,y,_]:=r.ls I.fh e;obtain rfl:=(y.un o).1.bools;exact#[_,bs,rfl,g,k.d s I (.bl _) q]|int =>
  rcases h with⟨i,e,h⟩| ⟨b,e,h⟩| ⟨z,n,e,h1,h2,q⟩
  let#[v,t,Z,rfl,rfl,e,r,_]:=x.one e;obtain rfl:=r.int e;exact .inl #[_,rfl,k.d s I (.int _) h];let#[v,t,Z,rfl,rfl,e,r,_]:=x.one e;obtain rfl:=r.bool e;exact .inr (.inl #[_,rfl,k.d s I (.int _) h]);let#[v,t,Z,rfl,rfl,e,r,_]:=x.one e;obtain rfl:=r.str e;exact .inr (.inr #[_,n,rfl,h1,h2,k.d s I (.int _) q])
 |str =>
  rcases h with⟨i,e,h⟩| ⟨z,e,h⟩
  let#[v,t,Z,rfl,rfl,e,r,_]:=x.one e;obtain rfl:=r.int e;exact .inl #[_,rfl,h.1,k.d s I (.str _) h.2];let#[v,t,Z,rfl,rfl,e,r,_]:=x.one e;obtain rfl:=r.str e;exact .inr #[_,rfl,k.d s I (.str _) h]
 |any=>let#[W,bs,e,o,q]:=h;let#[v,t,Z,rfl,rfl,e,r,_]:=x.one e;let#[p,m,_,rfl,g,y,_]:=r.ls I.fh e;obtain rfl:=(y.un o).1.bools;exact#[_,bs,rfl,g,k.d s I (.bl _) q]|list =>
  rcases h with⟨W,O,e,o,q⟩| ⟨W,O,e,o,q⟩
  let#[v,t,Z,rfl,rfl,e,r,_]:=x.one e;let#[p,m,_,rfl,g,y,_]:=r.ls I.fh e;exact#[_,m,rfl,.inl g,λl hl=>k.listD s I hl (y.un o).1 q];let#[v,t,Z,rfl,rfl,e,r,_]:=x.one e;let#[p,m,_,rfl,g,y,_]:=r.tp I.fh e;exact#[_,m,rfl,.inr g,λl hl=>k.listD s I hl (y.un o).1 q]
 |tuple=>let#[W,O,e,o,q]:=h;let#[v,t,Z,rfl,rfl,e,r,_]:=x.one e;let#[p,m,_,rfl,g,y,_]:=r.ls I.fh e;exact#[_,m,rfl,.inl #[g,λl hl=>k.tupD s I hl (y.un o).1 q]]|max=>let#[i,j,e,h]:=h;let#[v,w,t,u,Z,Z',rfl,rfl,e1,e2,r1,P,_,_]:=x.two e;obtain rfl:=r1.int e1;obtain rfl:=P.int e2;exact#[_,_,rfl,k.d s I (.int _) h]
def ol(s:Ste F H S ρ B X S1 A)(I:Rl K B X S1 A σ)(i:Tr K B X G v a E)(j:Tn K B X Y vs g)(h:Yo m a.vw (g.map T.vw) λz n=>Q z n A)(k:sB K C F H S ρ σ Q R):Yd K m v vs X R:=by
 cases m with|split=>let#[z,y,u,e,h]:=h;let#[w,t,Z,rfl,rfl,e,r,_]:=j.one e;obtain rfl:=i.str u;obtain rfl:=r.str e;exact#[_,_,rfl,rfl,h.1,h.2.1,h.2.2.1,λp x=>k.listD s I x (Reps.map_str _) h.2.2.2]|join=>let#[z,O,l,u,e,M,W,q]:=h;let#[w,t,Z,rfl,rfl,e,r,_]:=j.one e;obtain rfl:=i.str u;let#[p,N,_,rfl,x,o,_]:=r.ls I.fh e;obtain rfl:=NX (o.un M).1;exact#[z,p,l,rfl,rfl,x,W,k.d s I (.str _) q]|_=>exact h.elim
def Cr{x:Vw}(h:x.isS=j3):∃z,x=.sc (.str z):=by
 cases x with
 |sc d=>cases d with|str z=>exact#[z,rfl]|_=>exact(QD h).elim
 |_=>exact(QD h).elim
def Iq(x:Tr K B X G v a E)(h:pR m a.vw=j3):C3 K m.ty v X:=by
 have h:=jA h;let#[z,y]:=Cr h.1;obtain rfl:=x.str y;cases m with|split=>rfl|join=>rfl|_=>exact(QD h.2).elim
end
inductive AV(K:QC)(F H:Hp):List Md->LV->List (T×Bool)->(kl->Prop)->(kl->Prop)->Prop where
 |nil {md:List Md}{W Y:iA}:(∀b,¬ W b)->AV K F H md [] [] W Y
 |chg {md:List Md}{v:V}{vs:LV}{x:T}{xs:List (T×Bool)}{W Y:iA}:(md.headD .fro).isMut=j3->AV K F H md.tail vs xs W Y->AV K F H md (v::vs) ((x,j3)::xs) W Y
 |new {md:List Md}{v:V}{vs:LV}{x:T}{xs:List (T×Bool)}{Z W W' Y:iA}:(md.headD .fro).isMut=Kz->Tr K F H j3 v x Z->AV K F H md.tail vs xs W' Y->(∀b,Z b->¬ W' b)->(∀b,W b↔Z b∨W' b) ->
   AV K F H md (v::vs) ((x,j3)::xs) W Y
 |tmp {md:List Md}{v:V}{vs:LV}{x:T}{xs:List (T×Bool)}{Z W Y:iA}:(md.headD .fro).isMut=Kz->Tr K F H Kz v x Z->(∀b,Z b->Y b)->AV K F H md.tail vs xs W Y ->
   AV K F H md (v::vs) ((x,Kz)::xs) W Y
section
variable{K:QC}{F H c w:Hp}{S S1:Ft}{ρ y:yA}{σ:St}
def AV.sub{u:iA}(h:AV K F H md vs xs W Y)(k:∀b,Y b->u b):AV K F H md vs xs W u:=by
 induction h with|nil h=>exact .nil h|chg h t x=>exact .chg h (x k)|new h r t n q x=>exact .new h r (x k) n q|tmp h r z t x=>exact .tmp h r (λb a=>k b (z b a)) (x k)
def AV.dom(h:AV K F H md vs xs W Y):∀b,W b->H b≠js/\F b=none:=by
 induction h with|nil h=>exact λb u=>n9 u (h b)|chg h t x=>exact x|new h r t n q x=>exact λb u=>((q b).mp u).elim (r.dom b) (x b)|tmp h r z t x=>exact x
def AV.mono(h:AV K F H md vs xs W Y)(e:Same F c)(k:∀b,W b∨Y b->w b=H b/\c b=js):AV K c w md vs xs W Y:=by
 induction h with|nil h=>exact .nil h|chg h t x=>exact .chg h (x k)|new h r t n q x=>exact .new h (r.mono e λb u=>k b (.inl ((q b).mpr (.inl u)))) (x λb u=>k b (u.imp (λz=>(q b).mpr (.inr z)) id)) n q|tmp h r z t x=>exact .tmp h (r.mono e λb u=>k b (.inr (z b u))) z (x k)
def AV.length(h:AV K F H md vs xs W Y):vs.9=xs.length:=by
 induction h with|nil h=>rfl|chg h t x=>simp[x]|new h r t n q x=>simp[x]|tmp h r z t x=>simp[x]
def iS:∀(xs:List (T×Bool)),(gE xs).9=xs.9
 |[]=>rfl|_::r=>pu (·+1) (iS r)
def AV.trs(h:AV K F H md vs xs W Y):(∀(i:Nat),(md.getD i .fro).isMut=Kz)->fF xs=j3->Trs K F H j3 vs (gE xs) W:=by
 induction h with
 |nil h=>exact λ_ _=>.nil h|@chg md _ _ _ _ _ _ h t u =>
  intro m;have:=m 0;cases md with|nil=>cases h|cons a r=>exact n9 h (by simpa using this)
 |@new md v vs x xs Z W k Y h r t n q u =>
  intro m e;simp only[fF,Qc]at e;exact .cons r (u (λi=>by cases md with|nil=>exact m i|cons a md=>exact m (i+1)) e.2) n q
 |@tmp md v vs x xs Z W Y h r z t u =>
  intro m e;simp only[fF,Qc]at e;refine .cons (S1:=λ_=>False) ?_ (u (λi=>by cases md with|nil=>exact m i|cons a md=>exact m (i+1)) e.2) (λ_ z=>z.elim) λb=>by simp
  cases x with
  |d x=>cases r with|d r n=>exact .d r λ_ z=>z
  |_=>exact n9 e.1 (by simp[LG,T.isD])
def ul(i:Nat):((([]:List Md).getD i .fro).isMut)=false:=rfl
def AV.tn(h:AV K F H md vs xs W Y)(e:Same F c)(k:∀b,W b->c b=H b)(i:∀b,Y b->F b=js->c b=js)(j:md=[]):Tn K c H Y vs (PD xs):=by
 induction h with|nil h=>exact .nil|chg h t g=>subst j;cases h|@new md v vs x xs Z W m Y h r t n q g=>subst j;refine .cons (Z:=λ_=>False) ?_ (λb z=>z.elim) (g (λb a=>k b ((q b).mpr (.inr a))) i rfl);exact .d (r.kept e λb u a l=>by rw[k b ((q b).mpr (.inl a))];exact l) λ_ z=>z|@tmp md v vs x xs Z W Y h r z t g=>subst j;exact .cons (r.mono e λb a=>#[rfl,i b (z b a) (r.dom b a).2]) z (g k i rfl)
structure AR(K:QC)(ws:LN)(md:List Md)(H0:Hp)(S0:Ft)(ρ0:yA)(F H:Hp)(S:Ft)(ρ:yA)(vs:LV)(xs:List (T×Bool))(W Y:iA):Prop where
 av:AV K F H md vs xs W Y
 fr:∀b,W b->H0 b=js∨U ρ0 S0 b
 tm:∀b,Y b->∃(i:Nat) (s:Sl),i∈ws/\ρ[i]?=jb (jb s)/\S i b
 nw:∀(i:Nat) s,ρ[i]?=jb (jb s)->∀b,W b->¬ S i b
def AR.held(h:AR K z md k u x F H S ρ vs xs W Y):Held F H S ρ W:=#[h.av.dom,h.nw]
def AR.from(s:Stp F H S ρ c w S1 y)(h:AR K z md w S1 y a k u x vs xs W Y):AR K z md H S ρ a k u x vs xs W Y :=
 #[h.av,λb e=>by rcases h.fr b e with q|q;exact .inl (s.dm b q);exact(s.uu b q).symm,h.tm,h.nw]
def AR.vars(h:AR K z md a u x F H S ρ vs xs W Y)(k:∀i∈z,i∈us):AR K us md a u x F H S ρ vs xs W Y :=
 #[h.av,h.fr,λb e=>let#[i,s,j,g]:=h.tm b e;#[i,s,k i j,g],h.nw]
def AR.frz{m:LN}{vs:LV}{xs:List (T×Bool)}{W Y:iA}(s:Ste F H S ρ c w S1 y)(I:Rl K c w S1 y σ)(h:AR K m [] H S ρ c w S1 y vs xs W Y) :
  ∃a,Ste F H S ρ a w S1 y/\Rl K a w S1 y σ/\Tn K a w Y vs (PD xs) /\
   ∀st e t' k,Tr K c w st e t' k->(∀b,k b->∃(i:Nat) (s:Sl),y[i]?=jb (jb s)/\S1 i b)->Tr K a w st e t' k:=by
 have u:=h.held;have l:=CD (H:=w) λb x=>(u.dom b x).2;refine#[jF c w W,s.frz (λb x=>(u.dom b x).2) h.fr,I.frz u,h.av.tn l (λb x=>kD x) (λb o p=>?_) rfl,λst e t' k r n=>r.mono l λb x=>#[rfl,?_]];let#[i,g,_,j,q]:=h.tm b o;rw[xB λz=>h.nw i g j b z q];exact p;let#[i,g,X,j]:=n b x;rw[xB λz=>u.nw i g X b z j];exact(r.dom b x).2
def vB:List Md->LV->LV
 |_,[]=>[]|md,v::vs=>match md.headD .fro with
  | .chg=>v::vB md.tail vs|_=>vB md.tail vs
noncomputable abbrev fu(K:QC)(p:PX)(md:List Md)(F H:Hp)(S:Ft)(ρ:yA)(σ:St)(Q:List (T×Bool)->yA->Prop)(R:LV->Hp->Prop):Prop :=
 ∀vs u x z h k W Y,Ste F H S ρ u x z h->Rl K u x z h σ->AR K (vJ p) md H S ρ u x z h vs k W Y->(vB md vs).map (λv=>jb (jb v))=(dA md p).map (λj=>σ[j]?)->Q k h->R vs x
def Oe(K:QC)(F _H:Hp)(x:XD)(h:Option kl):Prop:=∃a,h=jb a/\Rep K F (.ref a) (FF x.1 x.2)
def LF(K:QC)(F H:Hp)(S:Ft)(ρ:yA)(E:XE)(EK:XK):Prop:=∀x k u h a z,Stp F H S ρ u h a z->Same u h->Oe K u h x k->E x->EK .none k h
def LF.from(h:LF K F H S ρ E EK)(s:Stp F H S ρ c w S1 y):LF K c w S1 y E EK:=λx k e b a z u f r q=>h x k e b a z (s.trans u) f r q
def LF.never:LF K F H S ρ (λ_=>False) (λ_ _ _=>False):=λ_ _ _ _ _ _ _ _ _ z=>z
inductive ArgsR(K:QC)(F H:Hp)(Y:iA):List Md->LV->LT->Prop where
 |nil {md:List Md}:ArgsR K F H Y md [] []
 |chg {md:List Md}{v:V}{vs:LV}{t:T}{ts:LT}:md.headD .fro=.chg->ArgsR K F H Y md.tail vs ts->ArgsR K F H Y md (v::vs) (t::ts)
 |rd {md:List Md}{v:V}{vs:LV}{t:T}{ts:LT}{Z:iA}:md.headD .fro≠.chg->Tr K F H Kz v t Z->(∀b,Z b->Y b)->ArgsR K F H Y md.tail vs ts->ArgsR K F H Y md (v::vs) (t::ts)
structure Frm(M:iA)(F H F' H':Hp):Prop where
 ff:Same F F'
 fh:Same F' H'
 hh:∀b u,H b=jb u->¬ M b->H' b=jb u
 dm:∀b,H' b=js->H b=js
 fn:∀b,F b=js->F' b≠js->M b∨H b=js
def lift(K:QC)(P:PSp):Sp:=λvs H Q E=>∃(F:Hp) (u:LT) (M Y:iA),Same F H/\ArgsR K F H Y P.md vs u/\Trs K F H j3 (vB P.md vs) (ZB P.md u) M/\(∀b,Y b->¬ M b) /\
 P.run u (λr os=>∀v z h Z k,Frm M F H z h->Tr K z h j3 v r Z->Trs K z h j3 (vB P.md vs) os k->(∀b,Z b->¬ k b)->(∀b,Z b∨k b->M b∨H b=js)->Q v h)
  (λx=>∀a z h,Frm M F H z h->Oe K z h x a->E .none a h)
structure GOk(K:QC)(Γ:Ev)(Ψ:PEv):Prop where
 sp:∀f vs H Q E,lift K (Ψ.sp f) vs H Q E->Γ.sp f vs H Q E
 va:∀x d,Ψ.va x=jb d->∀F,Rep K F (Γ.va x) d
 dc:∀x kds,Ψ.dc x=jb kds->∃kvs,Γ.dc x=jb kvs/\ge (λ(p:Str×V) (q:Str×D)=>p.1=q.1/\∀F,Rep K F p.2 q.2) kvs kds
structure PSnd(K:QC)(Γ:Ev)(Ψ:PEv)(p:PX):Prop where
 e:∀{E:XE}{EK:XK}{F H:Hp}{S:Ft}{ρ:yA}{σ:St}{Q:TK}{R:VK},Rl K F H S ρ σ->LF K F H S ρ E EK->(pe Ψ p E).e ρ Q->sB K (vJ p) F H S ρ σ Q R->(wp K Γ p EK).e σ H R
 t:∀{E:XE}{EK:XK}{F H:Hp}{S:Ft}{ρ:yA}{σ:St}{Q:Bool->yA->Prop}{R:Bool->Hp->Prop},Rl K F H S ρ σ->LF K F H S ρ E EK->(pe Ψ p E).t ρ Q->cI K F H S ρ σ Q R->(wp K Γ p EK).t σ H R
 a:∀{E:XE}{EK:XK}{F H:Hp}{S:Ft}{ρ:yA}{σ:St}{md:List Md}{Q:List (T×Bool)->yA->Prop}{R:LV->Hp->Prop},Rl K F H S ρ σ->LF K F H S ρ E EK->(∀j∈dA md p,∃v,σ[j]?=jb (jb v))->(pe Ψ p E).a md ρ Q->fu K p md F H S ρ σ Q R->(wp K Γ p EK).a σ H R
end
section
variable{K:QC}{Γ:Ev}{Ψ:PEv}{E:XE}{EK:XK}{F H A U:Hp}{S S1:Ft}{ρ o:yA}{σ:St}
def pj(C:PSnd K Γ Ψ b)(I:Rl K F H S ρ σ)(X:LF K F H S ρ E EK){RR:VK}(h:sq x ρ (cu (pe Ψ b E).e) P)(B:∀w F' H' S' u y m Z,Ste F H S ρ F' H' S' u->Rl K F' H' S' u σ->(∀st v k,Tr K F H st v x k->Tr K F' H' st v x k)->(x.isD=Kz->u=ρ/\S'=S)->VR K (vJ b) H S ρ F' H' S' u w y m Z->P (y,m) u->RR w H') :
  (wp K Γ b EK).e σ H RR:=by
 unfold sq at h;cases hd:x.isD with
 |true =>
  rw[hd,n8 rfl]at h;refine C.e I X h λw F' H' S' u y m Z s l r q=>B w F' H' S' u y m Z s l (λst v k a=>?_) (λz=>(by rw[hd]at z;cases z)) r q;cases x with
  |d x=>cases a with|d r n=>exact .d (r.mono s.ff) n
  |_=>cases hd
 |false =>
  rw[hd,n7 (by simp)]at h;have X':LF K F H S (lockA ρ) E EK:=λx dx F2 H2 S2 G J f r q=>X x dx F2 H2 S ρ J.unlockA f r q;refine C.e I.lockA X' h λw F' H' S' u y m Z s l r q=>?_;have M:∀st v t k,Tr K F H st v t k->Tr K F' H' st v t k:=λst v t k a=>s.keep a λb _=>tE b;refine B w F' H' S ρ y m Z #[s.unlockA,λj t h=>#[t,h]] (I.unlockA s.toStp l.fh) (λst v k a=>M st v _ k a) (λ_=>#[rfl,rfl]) #[r.tr,λe b g=>?_,λe b g=>?_,λe i W N b g z=>?_] q;exact .inl ((r.fr e b g).elim id λz=>n9 z (tE b));let#[i,W,O,Y,p]:=r.tm e b g;cases W with
  |own t=>let#[t0,Q]:=s.ow i t Y;let#[_,_,e0]:=MB Q;cases e0|bor t =>
   cases hd:t.isD with|true=>exact n9 p (l.isD Y hd)|false=>let#[g1,g2]:=s.bo i t Y hd;let#[L,R,_]:=MB g1;rw[g2]at p;exact#[i,L,O,R,p]
  rcases r.fr e b g with q|q
  ·exact(I.dom N z).1 q
  exact n9 q (tE b)
def Bp(J:PSnd K Γ Ψ b)(I:Rl K F H S ρ σ)(X:LF K F H S ρ E EK)(L:∀j∈dA md b,∃v,σ[j]?=jb (jb v)){RR:LV->Hp->Prop}(h:sq x ρ ((pe Ψ b E).a md) P)(G:∀m F' H' S' u ys W Y,Ste F H S ρ F' H' S' u->Rl K F' H' S' u σ->(∀st v k,Tr K F H st v x k->Tr K F' H' st v x k)->(x.isD=Kz->u=ρ/\S'=S)->AR K (vJ b) md H S ρ F' H' S' u m ys W Y->(vB md m).map (λv=>jb (jb v))=(dA md b).map (λj=>σ[j]?)->P ys u->RR m H') :
  (wp K Γ b EK).a σ H RR:=by
 unfold sq at h;cases hd:x.isD with
 |true =>
  rw[hd,n8 rfl]at h;refine J.a I X L h λw F' H' S' u y W Y s l r p q=>G w F' H' S' u y W Y s l (λst v k e=>?_) (λz=>(by rw[hd]at z;cases z)) r p q;cases x with
  |d x=>cases e with|d r n=>exact .d (r.mono s.ff) n
  |_=>cases hd
 |false =>
  rw[hd,n7 (by simp)]at h;have X':LF K F H S (lockA ρ) E EK:=λx dx F2 H2 S2 M N f r q=>X x dx F2 H2 S ρ N.unlockA f r q;refine J.a I.lockA X' L h λw F' H' S' u y W Y s l r p q=>?_;have Q:∀st v t k,Tr K F H st v t k->Tr K F' H' st v t k:=λst v t k e=>s.keep e λb _=>tE b;refine G w F' H' S ρ y W Y #[s.unlockA,λj t h=>#[t,h]] (I.unlockA s.toStp l.fh) (λst v k e=>Q st v _ k e) (λ_=>#[rfl,rfl]) #[r.av,λb g=>?_,λb g=>?_,λi C R b g z=>?_] p q;exact .inl ((r.fr b g).elim id λz=>n9 z (tE b));let#[i,C,h1,B,Z]:=r.tm b g;cases C with
  |own t=>let#[t0,h0]:=s.ow i t B;let#[_,_,e0]:=MB h0;cases e0|bor t =>
   cases hd:t.isD with|true=>exact n9 Z (l.isD B hd)|false=>let#[g1,g2]:=s.bo i t B hd;let#[O,g3,_]:=MB g1;rw[g2]at Z;exact#[i,O,h1,g3,Z]
  rcases r.fr b g with q|q
  ·exact(I.dom R z).1 q
  exact n9 q (tE b)
def IG(j:PSnd K Γ Ψ a)(I:Rl K F H S ρ σ)(X:LF K F H S ρ E EK){RR:VK}(h:(pe Ψ a E).e ρ P)(g:∀v F' H' S' y x n Z,Ste F H S ρ F' H' S' y->Rl K F' H' S' y σ->LF K F' H' S' y E EK->Tr K F' H' Kz v (cA x n) Z->(LG x n=j3->Rep K F' v x.er)->(∀b,Z b->∃(i:Nat) (s:Sl),i∈vJ a/\y[i]?=jb (jb s)/\S' i b)->P x n y->RR v H') :
  (wp K Γ a EK).e σ H RR:=by
 refine j.e I X h λv F' H' S' y x n Z s Y r q=>?_;let#[W,m,z,p,k,l,u,_]:=r.frz s Y;exact g v W H' S' y x n m z p (X.from z.toStp) k l u q
def rX(ia:PSnd K Γ Ψ a)(ib:PSnd K Γ Ψ b)(I:Rl K F H S ρ σ)(X:LF K F H S ρ E EK){P:T->Bool->T->Bool->yA->Prop}{RR:V->V->Hp->Prop}(h:(pe Ψ a E).e ρ λx n o=>sq (cA x n) o (cu (pe Ψ b E).e) λy u=>P x n y.1 y.2 u)(Q:∀v w F' H' S' z x n y m g Zb,Ste F H S ρ F' H' S' z->Rl K F' H' S' z σ->LF K F' H' S' z E EK->Tr K F' H' Kz v (cA x n) g->(∀b,g b->∃(i:Nat) (s:Sl),i∈vJ a/\z[i]?=jb (jb s)/\S' i b)->Tr K F' H' Kz w (cA y m) Zb ->
   P x n y m z->RR v w H'):(wp K Γ a EK).e σ H λv U=>(wp K Γ b EK).e σ U λw p=>RR v w p:=by
 refine IG ia I X h λv A U S1 o x n g G I1 X1 j _ W N=>?_;refine pj ib I1 X1 N λw F2 p Y u y m Z C I2 O hs L M=>?_;let#[F3,Z3,B,I3,J,_,_,R]:=L.frz C I2;have q:∀b,g b->∃(i:Nat) (s:Sl),i∈vJ a/\u[i]?=jb (jb s)/\Y i b:=by
  cases hd:(cA x n).isD with
  |true =>
   intro b l;exfalso;generalize cA x n=t at j hd;cases j with|d r n=>exact n b l|_=>cases hd
  |false=>let#[e1,e2]:=hs hd;rw[e1,e2];exact W
 have k:=G.trans B;exact Q v w F3 p Y u x n y m g Z3 k I3 (X.from k.toStp) (R _ _ _ _ (O _ _ _ j) λb l=>let#[i,s,_,h2]:=q b l;#[i,s,h2]) q J M
def IK{y:PX}(k:PSnd K Γ Ψ y)(I:Rl K F H S ρ σ)(X:LF K F H S ρ E EK){P:List (T×Bool)->yA->Prop}{RR:LV->Hp->Prop}(h:(pe Ψ y E).a [] ρ P)
  (u:∀vs F' H' S' x xs Y,Ste F H S ρ F' H' S' x->Rl K F' H' S' x σ->LF K F' H' S' x E EK->Tn K F' H' Y vs (PD xs)->(∀b,Y b->∃(i:Nat) (s:Sl),i∈vJ y/\x[i]?=jb (jb s)/\S' i b)->P xs x->RR vs H'):(wp K Γ y EK).a σ H RR:=by
 refine k.a (md:=[]) I X (λ_ e=>kH e) h λvs F' H' S' x xs W Y s j r _ q=>?_;let#[l,z,g,t,_]:=r.frz s j;exact u vs l H' S' x xs Y z g (X.from z.toStp) t r.tm q
def So{a l:PX}(ia:PSnd K Γ Ψ a)(ib:PSnd K Γ Ψ l)(I:Rl K F H S ρ σ)(X:LF K F H S ρ E EK){P1:T->Bool->Prop}{P:T->Bool->List (T×Bool)->yA->Prop}{R1:V->Hp->Prop}{RR:V->LV->Hp->Prop}
  (h:(pe Ψ a E).e ρ λx n o=>P1 x n/\sq (cA x n) o ((pe Ψ l E).a []) λxs z=>P x n xs z)
  (k1:∀v F' H' x n u,Tr K F' H' Kz v (cA x n) u->P1 x n->R1 v H')
  (Q:∀v vs F' H' S' y x n xs u Y,Ste F H S ρ F' H' S' y->Rl K F' H' S' y σ->LF K F' H' S' y E EK->Tr K F' H' Kz v (cA x n) u->(∀b,u b->∃(i:Nat) (s:Sl),i∈vJ a/\y[i]?=jb (jb s)/\S' i b)->Tn K F' H' Y vs (PD xs) ->
   P x n xs y->RR v vs H'):(wp K Γ a EK).e σ H λv U=>R1 v U/\(wp K Γ l EK).a σ U λvs m=>RR v vs m:=by
 refine IG ia I X h λv A U S1 o x n u G I1 X1 g _ Z #[N,M]=>#[k1 v A U x n u g N,?_]
 refine Bp ib I1 X1 (λ_ hj=>kH hj) M λvs F2 m q z xs W Y C I2 O hs J _ L=>?_;let#[F3,B,I3,tn,R]:=J.frz C I2;have p:∀b,u b->∃(i:Nat) (s:Sl),i∈vJ a/\z[i]?=jb (jb s)/\q i b:=by
  cases hd:(cA x n).isD with
  |true =>
   intro b j;exfalso;generalize cA x n=t at g hd;cases g with|d r n=>exact n b j|_=>cases hd
  |false=>let#[e1,e2]:=hs hd;rw[e1,e2];exact Z
 have k:=G.trans B;exact Q v vs F3 m q z x n xs u Y k I3 (X.from k.toStp) (R _ _ _ _ (O _ _ _ g) λb j=>let#[i,s,_,h2]:=p b j;#[i,s,h2]) p tn L
def TY(K:QC)(F H:Hp)(Y:iA):Item->T->Prop
 | .one v,t=>∃Z,Tr K F H Kz v t Z/\∀b,Z b->Y b|.tup vs,t=>∃h,t=.d (.tuple h)/\Reps K F vs h
def Tn.mono(h:Tn K F H Y vs x)(e:Same F A)(k:∀b,Y b->U b=H b/\A b=js):Tn K A U Y vs x:=by
 induction h with|nil=>exact .nil|cons r z t y=>exact .cons (r.mono e λb u=>k b (z b u)) z y
def TY.mono(h:TY K F H Y it t)(e:Same F A)(k:∀b,Y b->U b=H b/\A b=js):TY K A U Y it t:=by
 cases it with|one v=>let#[Z,r,z]:=h;exact#[Z,r.mono e λb y=>k b (z b y),z]|tup vs=>let#[x,u,r]:=h;exact#[x,u,r.mono e]
def Z8{Y:iA}{st:Bool}{xs:LV}{x:LT}{Z:iA}(r:Trs K F H st xs x Z):(∀b,Z b->Y b)->ge (TY K F H Y) (xs.map .one) x :=
 Trs.ind1 (Q:=λxs x Z=>(∀b,Z b->Y b)->ge (TY K F H Y) (xs.map .one) x) (λ_ _=>.nil) (λh _ _ q i z=>.cons #[_,h.weak,λb y=>z b ((q b).mpr (.inl y))] (i λb y=>z b ((q b).mpr (.inr y)))) r
def aR{α:Type}(f:α->V)(g:α->D)(h:∀x,Rep K F (f x) (g x)):∀(l:List α),ge (TY K F H Y) (l.map λx=>.one (f x)) (l.map λx=>T.d (g x))
 |[]=>.nil|x::r=>.cons #[λ_=>False,.d (h x) λ_ z=>z,λ_ z=>z.elim] (aR f g h r)
def Tr.lsS{st:Bool}{v:V}{t:T}{Z:iA}{u:LT}(f:Same F H)(h:Tr K F H st v t Z)(e:t.vw=.ls u):∃a vs S',v=.ref a/\mD K H a vs/\Trs K F H Kz vs u S'/\(∀b,S' b->Z b)/\∀F' H',Same F F'->Same F' H'->(∀b,Z b->H' b=H b)->mD K H' a vs:=by
 cases h with
 |d r n =>
  cases r with|lst q r=>injection e with e;subst e;exact#[_,_,_,rfl,f.seq q,Trs.of_reps r,λb x=>x.elim,λF' H' z y _=>(z.trans y).seq q]|_=>cases e
 |lst h _ r n q=>injection e with e;subst e;exact#[_,_,_,rfl,mD.of h,r.weak,λb x=>(q b).mpr (.inr x),λF' H' _ _ k=>mD.of ((k _ ((q _).mpr (.inl rfl))).trans h)]|tup=>cases e|lstF h r n=>injection e with e;subst e;exact#[_,_,_,rfl,f.seq h,Trs.of_reps r,λb x=>x.elim,λF' H' z y _=>(z.trans y).seq h]
def Tr.tpS{st:Bool}{v:V}{t:T}{Z:iA}{y:LT}(f:Same F H)(h:Tr K F H st v t Z)(e:t.vw=.tp y):∃a vs S',v=.ref a/\GE K H a vs/\Trs K F H Kz vs y S'/\(∀b,S' b->Z b)/\∀F' H',Same F F'->Same F' H'->(∀b,Z b->H' b=H b)->GE K H' a vs:=by
 cases h with
 |d r n =>
  cases r with|tup q r=>injection e with e;subst e;exact#[_,_,_,rfl,f.tupl q,Trs.of_reps r,λb x=>x.elim,λF' H' u z _=>(u.trans z).tupl q]|_=>cases e
 |tup h _ r n q=>injection e with e;subst e;exact#[_,_,_,rfl,GE.of h,r.weak,λb x=>(q b).mpr (.inr x),λF' H' _ _ k=>GE.of ((k _ ((q _).mpr (.inl rfl))).trans h)]|lst=>cases e|lstF=>cases e
def bj:∀x:LN,Trs K F H Kz (x.map λc=>V.str #[(List.toArray [c])]) (x.map λc=>T.d (.str #[(List.toArray [c])])) (λ_=>False):=λx=>by
 have h:Reps K F (x.map λc=>V.str #[(List.toArray [c])]) (x.map λc=>Jz #[(List.toArray [c])]):=by
  induction x with|nil=>exact .nil|cons c x y=>exact .cons (.str _) y
 have:=Trs.of_reps (H:=H) (st:=Kz) h
 rwa [Q8]at this
def Tr.seqS{st:Bool}{v:V}{t:T}{Z:iA}{x:LT}(f:Same F H)(h:Tr K F H st v t Z)(e:t.vw.seq=jb x):∃vs sz,v=Src.v sz/\gK K H sz vs/\(∃S',Trs K F H Kz vs x S')/\∀F' H',Same F F'->Same F' H'->(∀b,Z b->H' b=H b)->gK K H' sz vs:=by
 generalize ev:t.vw=w at e;cases w with
 |ls i=>cases e;let#[a,vs,S',rfl,k,y,_,u]:=h.lsS f ev;exact#[vs,.l a,rfl,k,#[S',y],u]|tp i=>cases e;let#[a,vs,S',rfl,k,y,_,u]:=h.tpS f ev;exact#[vs,.t a,rfl,k,#[S',y],u]|sc d =>
  cases d with|str z=>obtain rfl:=h.str ev;have g:(if z.cps.all (· < 128) then jb (z.cps.toList.map λc=>T.d (.str #[(List.toArray [c])])) else js)=jb x:=e;split at g;rename_i ha;cases g;exact#[_,.s z 0,rfl,#[ha,rfl],#[_,bj _],λ_ _ _ _ _=>#[ha,rfl]];cases g|_=>cases e
 |_=>cases e
def Fd{Y:iA}{xs ys:LV}{y x:List D}(r:Reps K F xs y)(w:Reps K F ys x):ge (TY K F H Y) ((xs.zip ys).map λp=>.tup [p.1,p.2]) ((y.zip x).map λp=>T.d (.tuple [p.1,p.2])):=by
 induction y generalizing xs ys x with
 |nil=>cases r.inv;exact .nil|cons d y i =>
  let#[v,vs,rfl,h,t]:=r.inv;cases x with|nil=>cases w.inv;exact .nil|cons e x=>let#[u,a,rfl,k,z]:=w.inv;exact .cons #[[_,_],rfl,.cons h (.cons k .nil)] (i t z)
def NT{Y:iA}{xs:LV}{x:List D}(r:Reps K F xs x)(g:Nat->Int):∀n:Nat,ge (TY K F H Y) ((xs.zipIdx n).map λp=>.tup [.int (g p.2),p.1]) ((x.zipIdx n).map λp=>T.d (.tuple [.int (g p.2),p.1])) :=
 Reps.ind1 (Q:=λxs x=>∀n:Nat,ge (TY K F H Y) ((xs.zipIdx n).map λp=>.tup [.int (g p.2),p.1]) ((x.zipIdx n).map λp=>T.d (.tuple [.int (g p.2),p.1]))) (λ_=>.nil) (λh _ i n=>.cons #[[_,_],rfl,.cons (.int _) (.cons h .nil)] (i (n+1))) r
def HH{P:ItK}{Y:iA}{vs:LV}{ts:LT}{RD:LT->Prop}{RR:List Item->(Hp->Prop)->Hp->Prop}(f:Same F H)(X:Tn K F H Y vs ts)(h:mC P (ts.map T.vw) RD)
  (k:∀xs ys st,ge (TY K F H Y) xs ys->(∀F' H',Same F F'->Same F' H'->(∀b,Y b->H' b=H b)->st H')->RD ys->RR xs st H):NB K P vs H RR:=by
 cases P with
 |val =>
  rcases h with⟨z,e,h⟩| ⟨J,e,h⟩| ⟨J,e,h⟩
  let#[v,t,Z,rfl,rfl,e,r,_]:=X.one e;obtain rfl:=r.str e;exact .inl #[_,rfl,k _ _ _ (aR (λc=>.str #[(List.toArray [c])]) (λc=>.str #[(List.toArray [c])]) (λc=>.str _) _) (λ_ _ _ _ _=>trivial) h];let#[v,t,Z,rfl,rfl,e,r,z]:=X.one e;let#[p,xs,S',rfl,hp,m,L,s]:=r.lsS f e;exact .inr (.inl #[_,xs,rfl,hp,k _ _ _ (Z8 m λb g=>z b (L b g)) (λF' H' a l q=>s F' H' a l λb g=>q b (z b g)) h]);let#[v,t,Z,rfl,rfl,e,r,z]:=X.one e;let#[p,xs,S',rfl,hp,m,L,s]:=r.tpS f e;exact .inr (.inr #[_,xs,rfl,hp,k _ _ _ (Z8 m λb g=>z b (L b g)) (λF' H' a l q=>s F' H' a l λb g=>q b (z b g)) h])
 |rng1=>let#[j,e,h]:=h;let#[v,t,Z,rfl,rfl,e,r,_]:=X.one e;obtain rfl:=r.int e;exact#[_,rfl,h.1,k _ _ _ (aR (λ(i:Nat)=>.int (i:Int)) (λ(i:Nat)=>.int (i:Int)) (λc=>.int _) _) (λ_ _ _ _ _=>trivial) h.2]|zip2=>let#[x,y,J,ws,ds,es,e,I,g2,G,g4,q]:=h;let#[v,w,t,u,Z,Z',rfl,rfl,a,l,B,O,W,y2]:=X.two e;let#[xs,sz,rfl,C,#[_,m],s]:=B.seqS f (by rw[a];exact I);let#[ys,M,rfl,R,#[_,N],Q]:=O.seqS f (by rw[l];exact g2);exact#[sz,M,xs,ys,rfl,C,R,k _ _ _ (Fd (m.un G).1 (N.un g4).1) (λF' H' a l q=>#[s F' H' a l λb g=>q b (W b g),Q F' H' a l λb g=>q b (y2 b g)]) q]|enum=>let#[x,J,ds,e,I,G,q]:=h;let#[v,t,Z,rfl,rfl,a,B,W]:=X.one e;let#[xs,sz,rfl,C,#[_,m],s]:=B.seqS f (by rw[a];exact I);exact#[sz,xs,rfl,C,k _ _ _ (NT (m.un G).1 (λi=>(i:Int)) 0) (λF' H' a l q=>s F' H' a l λb g=>q b (W b g)) q]|enumA=>let#[x,n,J,ds,e,I,G,g4,q]:=h;let#[v,w,t,u,Z,Z',rfl,rfl,a,l,B,O,W,y2]:=X.two e;let#[xs,sz,rfl,C,#[_,m],s]:=B.seqS f (by rw[a];exact I);obtain rfl:=O.int l;exact#[_,sz,xs,rfl,C,g4,k _ _ _ (NT (m.un G).1 (λi=>(((_+i:Nat)):Int)) 0) (λF' H' a l q=>s F' H' a l λb g=>q b (W b g)) q]
end
def NH(S:Ft)(i:Nat)(Z:iA):Ft:=λj=>if j=i then Z else S j
def IA:NH S i Z i=Z:=n8 rfl
def VA(h:j≠i):NH S i Z j=S j:=n7 h
def bA{α:Type}{l:List α}{i j:Nat}{x y:α}(h:(l.set i x)[j]?=jb y):(i=j/\y=x/\i<l.9)∨(i≠j/\l[j]?=jb y):=by rw[wZ]at h;by_cases e:i=j;subst e;rw[n8 rfl]at h;by_cases hl:i<l.9;rw[n8 hl]at h;cases h;exact .inl #[rfl,rfl,hl];rw[n7 hl]at h;cases h;rw[n7 e]at h;exact .inr #[e,h]
def FX{α:Type}{l:List α}{i:Nat}{x:α}(h:i<l.9):(l.set i x)[i]?=jb x:=by rw[wZ,n8 rfl,n8 h]
def VF{α:Type}{l:List α}{i j:Nat}{x:α}(h:i≠j):(l.set i x)[j]?=l[j]?:=by rw[wZ,n7 h]
section
variable{K:QC}{Γ:Ev}{Ψ:PEv}{E:XE}{EK:XK}{F H l X:Hp}{S S1:Ft}{ρ g:yA}{σ:St}
def Rl.setB(I:Rl K F H S ρ σ)(i:Nat)(r:Tr K F H Kz v t Z)(q:∀(j:Nat) u,j≠i->ρ[j]?=jb (jb (.own u))->∀b,Z b->¬ S j b):Rl K F H (NH S i Z) (ρ.set i (jb (.bor t))) (σ.set i (jb v)) where
 fh:=I.fh
 len:=by simpa using I.len
 sl:=λj s h=>by
  rcases bA h with⟨rfl,e,hl⟩| ⟨m,h⟩
  cases e;exact#[v,FX (by rw[<- I.len];exact hl),by rw[IA];exact r];rw[VF m,VA (Qz m)];exact I.sl j s h
 dj:=λj k a s n x z b y hk=>by
  rcases bA x with⟨_,e,_⟩| ⟨p,x⟩
  cases e;rw[VA (Qz p)]at y;rcases bA z with⟨e,_,_⟩| ⟨o,z⟩
  subst e;rw[IA]at hk;exact q j a n x b hk y;rw[VA (Qz o)]at hk;exact I.dj j k a s n x z b y hk
structure Bd(J:LN)(F H:Hp)(S:Ft)(ρ:yA)(σ:St)(F' H':Hp)(S':Ft)(ρ':yA)(σ':St):Prop where
 ff:Same F F'
 hh:Same H H'
 fn:∀b,F b=js->F' b≠js->H b=js
 out:∀j,j∉J->ρ'[j]?=ρ[j]?/\S' j=S j/\σ'[j]?=σ[j]?
 inn:∀j t,j∈J->ρ'[j]?≠jb (jb (.own t))
def Bd.U(h:Bd J F H S ρ σ F' H' S' x σ')(u:U x S' b):L3.U ρ S b:=by let#[i,t,y,k]:=u;by_cases z:i∈J;exact n9 y (h.inn i t z);let#[e,a,_]:=h.out i z;rw[e]at y;rw[a]at k;exact#[i,t,y,k]
def Bd.dm(h:Bd J F H S ρ σ F' H' S' x σ')(b:kl)(e:H' b=js):H b=none:=h.hh.free e
def HX{Y:iA}(B:∀b,Y b->¬ U ρ S b):∀(a:LN) {vs:LV}{A:LT}{S1:Ft}{g y:yA}{x:St}{J:LN},(∀i∈a,i∈J)->Rl K F H S1 g x->(∀b,U g S1 b->U ρ S b)->Tn K F H Y vs A->nE a A g=jb y ->
  ∃σ' S',dB a vs x=jb σ'/\Rl K F H S' y σ'/\(∀j,j∉J->y[j]?=g[j]?/\S' j=S1 j/\σ'[j]?=x[j]?)/\(∀j t,y[j]?=jb (jb (.own t))->j∉a/\g[j]?=jb (jb (.own t)))
 |[],_,_,S1,g,y,x,J,hJ,I,hu,.nil,h=>by simp only[nE,Qx]at h;subst h;exact#[x,S1,rfl,I,λ_ _=>#[rfl,rfl,rfl],λj t h=>#[(by simp),h]]|[],_,_,_,_,_,_,_,_,_,_,.cons _ _ _,h=>by simp[nE]at h|_::_,_,_,_,_,_,_,_,_,_,_,.nil,h=>by simp[nE]at h|i::a,_,_,S1,g,y,x,J,hJ,I,hu,.cons (v:=v) (t:=t) (Z:=Z) r z tl,h=>by
  simp only[nE]at h;have nu:∀b,Z b->¬ U g S1 b:=λb s u=>B b (z b s) (hu b u);have Q:=I.setB i r λj u _ k b s L=>nu b s #[j,u,k,L];have q:∀b,U (g.set i (jb (.bor t))) (NH S1 i Z) b->U ρ S b:=λb zz=>by
   let#[j,u,W,C]:=zz
   rcases bA W with⟨_,e,_⟩| ⟨n,W⟩
   cases e;rw[VA (Qz n)]at C;exact hu b #[j,u,W,C]
  let#[σ',S',P,O,N,M]:=HX B a (λj k=>hJ j (QI _ k)) Q q tl h;refine#[σ',S',P,O,λj k=>?_,λj u k=>?_];let#[p,o,G]:=N j k;have n:i≠j:=λe=>k (e▸hJ i QL);rw[VF n]at p G;rw[VA (Qz n)]at o;exact#[p,o,G];let#[p,o]:=M j u k;rcases bA o with⟨_,e,_⟩| ⟨n,o⟩
  cases e;exact#[λm=>(QO.mp m).elim (λe=>n e.symm) p,o]
def Tn.of_trs{Y:iA}{st:Bool}{vs:LV}{x:LT}{Z:iA}(r:Trs K F H st vs x Z):(∀b,Z b->Y b)->Tn K F H Y vs x :=
 Trs.ind1 (Q:=λvs x Z=>(∀b,Z b->Y b)->Tn K F H Y vs x) (λ_ _=>.nil) (λh _ _ q i z=>.cons h.weak (λb y=>z b ((q b).mpr (.inl y))) (i λb y=>z b ((q b).mpr (.inr y)))) r
def jO{Y:iA}{RP:St->Hp->Prop}(I:Rl K F H S ρ σ)(hy:∀b,Y b->¬ U ρ S b)(r:TY K F H Y it t)(h:yO G t ρ R)(k:∀C B A y N,Bd G.ix F H S ρ σ A y N C B->Rl K A y N C B->R C->RP B y):bindI K G it σ H RP:=by
 have nm:∀(i:Nat) {v:V}{t:T}{Z:iA}{A y:Hp}{N:Ft},Same F A->Same H y->(∀b,F b=js->A b≠js->H b=js)->Rl K A y N ρ σ->N=S->Tr K A y Kz v t Z->(∀b,Z b->¬ U ρ S b)->R (ρ.set i (jb (.bor t)))->G=.nm i->RP (σ.set i (jb v)) y:=by
  intro i v t Z A y N Q e2 e3 I2 hS r hz q ht;subst hS ht;refine k _ _ A y (NH N i Z) #[Q,e2,e3,λj M=>?_,λj u M hu=>?_] (I2.setB i r λj u _ M b W hs=>hz b W #[j,u,M,hs]) q;have n:i≠j:=λe=>M (by subst e;exact qD.mpr rfl);exact#[VF n,VA (Qz n),VF n];have e:j=i:=qD.mp M;subst e;rcases bA hu with⟨_,e,_⟩| ⟨n,_⟩
  cases e;exact n rfl
 have tp:∀(o:LN) {vs:LV}{O:LT}{y:Hp}{x:yA},Same H y->G=.tp o->Tn K F y Y vs O->nE o O ρ=jb x->R x->∃m,dB o vs σ=jb m/\RP m y:=by intro o vs O y x e2 ht r e q;subst ht;let#[m,S',g1,g2,g3,g4]:=HX hy o (J:=o) (λi hi=>hi) (I.same e2) (λb u=>u) r e;exact#[m,g1,k _ _ F y S' #[.refl _,e2,λb h z=>n9 h z,g3,λj u M hu=>(g4 j u hu).1 M] g2 q]
 cases it with
 |one v =>
  let#[Z,r,z]:=r;cases G with|nm i=>exact nm i (.refl _) (.refl _) (λb h z=>n9 h z) I rfl r (λb W=>hy b (z b W)) h rfl|tp o=>have P:(match t.vw with | .tp O=>∃x,nE o O ρ=jb x/\R x|_=>False):=h;split at P;rename_i O e;let#[x,Q,q]:=P;let#[a,vs,S',rfl,L,rp,z2]:=r.tp I.fh e;let#[m,g1,g2]:=tp o (.refl _) rfl (Tn.of_trs rp λb W=>z b (z2 b W)) Q q;exact#[vs,m,L,g1,g2];exact P.elim
 |tup vs =>
  let#[ds,rfl,rd]:=r;cases G with|nm i=>intro p L;refine nm i (AB (I.fh.free L)) (AB L) (λb h1 P=>?_) (I.newT L (.tup vs)) rfl (.d (S:=λ_=>False) (.tup (GE.of fA) (rd.mono (AB (I.fh.free L)))) λ_ z=>z) (λb z=>z.elim) h rfl;by_cases W:b=p;rw[W];exact L;rw[vA W]at P;exact n9 h1 P|tp o=>intro H' s;let#[x,Q,q]:=h;exact tp o s rfl (Tn.of_trs (Trs.of_reps (st:=Kz) rd) λb W=>W.elim) Q q
def DR(k:Nat)(S:Ft):Ft:=λi=>if i<k then λ_=>False else S (i - k)
def eP:∀(m:List Bool) (ρ:yA) (i:Nat) s,(uE m ρ)[i]?=jb (jb s)->ρ[i]?=jb (jb s)/\m.getD i Kz=Kz
 |[],ρ,i,s,h=>by
  have e:uE [] ρ=ρ:=by cases ρ<;>rfl
  rw[e]at h;exact#[h,rfl]
 |b::m,[],i,s,h=>by simp[uE]at h|b::m,v::ρ,0,s,h=>by
  cases b with|true=>simp[uE]at h|false=>simp[uE]at h;simp[h]
 |b::m,v::ρ,i+1,s,h=>by simp only[uE,w4]at h;let#[y,x]:=eP m ρ i s h;exact#[by simpa using y,by simpa using x]
def sP:∀(m:List Bool) (σ:St) (i:Nat) v,σ[i]?=jb (jb v)->m.getD i Kz=Kz->(xE m σ)[i]?=jb (jb v)
 |[],σ,i,v,h,_=>by
  have e:xE [] σ=σ:=by cases σ<;>rfl
  rw[e];exact h
 |b::m,[],i,v,h,_=>by simp at h|b::m,w::σ,0,v,h,hb=>by
  have:b=false:=by simpa using hb
  subst this;simpa[xE]using h
 |b::m,w::σ,i+1,v,h,hb=>by simp only[xE,w4];exact sP m σ i v (by simpa using h) (by simpa using hb)
def tP:∀(m:List Bool) (ρ:yA),(uE m ρ).9=ρ.9
 |[],ρ=>by cases ρ<;>rfl|_::_,[]=>rfl|b::m,v::ρ=>by simp[uE,tP m ρ]
def fH{ρ:yA}(h:(HK k x ρ)[i]?=jb (jb s)):k<=i/\ρ[i - k]?=jb (jb s)/\x.getD (i - k) Kz=false:=by unfold HK at h;rcases QAr i k with z|z;rw[Qw (by simpa using z),wW]at h;split at h<;>cases h;rw[Qj (by simpa using z)]at h;simp only[qN]at h;let#[u,y]:=eP x ρ _ s h;exact#[z,u,y]
def Rl.ent(I:Rl K F H S ρ σ)(k:Nat)(x:List Bool):Rl K F H (DR k S) (HK k x ρ) (sG k x σ) where
 fh:=I.fh
 len:=by simp[HK,sG,tP,UK,I.len]
 sl:=λi s h=>by let#[e,a,u]:=fH h;let#[v,o,m]:=I.sl _ s a;refine#[v,?_,?_];unfold sG;rw[Qj (by simpa using e)];simp only[qN];exact sP x σ _ v o u;unfold DR;rw[n7 ()];exact m
 dj:=λi j t s n a u b z y=>by let#[Y,q,_]:=fH a;let#[r,p,_]:=fH u;unfold DR at z y;rw[n7 ()]at z y;exact I.dj (i - k) (j - k) t s () q p b z y
def XY(b:kl):¬ U (HK k x (lockA ρ)) S' b:=λzz=>by let#[i,t,h,_]:=zz;let#[_,y,_]:=fH h;let#[_,_,e]:=MB y;cases e
def Paired.get_of{α u:Type}{R:α->u->Prop}{xs:List α}{ys:List u}(h:ge R xs ys):∀{i:Nat}{x:α},xs[i]?=jb x->∃y,ys.drop i=y::ys.drop (i+1)/\R x y:=by
 induction h with
 |nil=>intro i x e;simp at e|@cons x y xs ys h t a =>
  intro i z e;cases i with|zero=>simp at e;subst e;exact#[y,by simp,h]|succ i=>let#[k,j,b]:=a (i:=i) (by simpa using e);exact#[k,by simpa using j,b]
structure Pur(F H F' H':Hp):Prop where
 ff:Same F F'
 hh:Same H H'
 fn:∀b,F b=js->F' b≠js->H b=js
def Pur.trans(a:Pur F H l X)(b:Pur l X u y):Pur F H u y:=#[a.ff.trans b.ff,a.hh.trans b.hh,λx h z=>by by_cases q:l x=js;exact a.hh.free (b.fn x q z);exact a.fn x h q]
def Pur.ste(p:Pur F H l X):Ste F H S ρ l X S ρ:=#[#[p.ff,λb u h _=>p.hh b u h,λb h=>p.hh.free h,λb h z=>.inr (p.fn b h z),λb h=>.inl h,λ_ _ h _=>#[h,rfl]],λ_ t h=>#[t,h]]
def Pur.rl(p:Pur F H l X)(f:Same l X)(I:Rl K F H S ρ σ):Rl K l X S ρ σ:=#[f,I.len,λi s e=>by
 let#[v,z,h]:=I.sl i s e;exact#[v,z,h.mono p.ff λb y=>by
  let#[x,k]:=h.dom b y;refine#[?_,?_];cases e:H b with|none=>exact n9 e x|some u=>exact p.hh b u e
  by_cases q:l b=js
  ·exact q
  exact n9 (p.fn b k q) x],I.dj]
def Stp.pur(s:Stp F H S ρ l X S' x)(n:∀b,¬ U ρ S b):Pur F H l X:=#[s.ff,λb u h=>s.hh b u h (n b),λb h z=>(s.fn b h z).elim (λq=>n9 q (n b)) id]
def Pur.trs(p:Pur F H l X){st:Bool}{v:LV}{t:LT}{Z:iA}(h:Trs K F H st v t Z):Trs K l X st v t Z:=h.mono p.ff λb y=>by
  let#[x,z]:=h.dom b y;refine#[?_,?_];cases e:H b with|none=>exact n9 e x|some u=>exact p.hh b u e
  by_cases q:l b=js
  ·exact q
  exact n9 (p.fn b z q) x
def e9{c:yA->(Bool->yA->Prop)->Prop}{e:yA->TK->Prop}{tc:TT}{te:TE}(ic:∀{F H:Hp}{S:Ft}{ρ:yA}{σ:St}{Q:Bool->yA->Prop}{R:Bool->Hp->Prop},Rl K F H S ρ σ->c ρ Q->cI K F H S ρ σ Q R->tc σ H R)(ie:∀{F H:Hp}{S:Ft}{ρ:yA}{σ:St}{Q:TK}{R:VK},Rl K F H S ρ σ->e ρ Q->sB K us F H S ρ σ Q R->te σ H R)(s:Ste F0 H0 S0 L F H S ρ)(I:Rl K F H S ρ σ){st:Hp->Prop}(pr:ge (TY K F H Y) xs ys)(hyd:∀b,Y b->H b≠js/\F b=js)(hst:∀F' H',Same F F'->Same F' H'->(∀b,Y b->H' b=H b)->st H')(h:gD (gH O (HK G a (lockA ρ)) c e) ys [] λys=>Q (.lst ys) j3 ρ)(k:sB K ws F0 H0 S0 L σ Q R) :
  aQ K xs st O tc te (sG G a σ) H R:=by
 refine fU ?_;have len:=Wo pr;have yk:∀{F' H':Hp},Pur F H F' H'->∀b,Y b->H' b=H b/\F' b=none:=λ{F' H'} p b o=>by
  let#[d1,d2]:=hyd b o;refine#[?_,?_];cases e:H b with|none=>exact n9 e d1|some u=>exact p.hh b u e
  by_cases q:F' b=js
  ·exact q
  exact n9 (p.fn b d2 q) d1
 refine#[λi B H'=>∃F' m W,Pur F H F' H'/\Same F' H'/\Trs K F' H' j3 B m W/\(∀b,W b->H b=js)/\gD (gH O (HK G a (lockA ρ)) c e) (ys.drop i) m λys=>Q (.lst ys) j3 ρ,
  #[F,[],λ_=>False,#[.refl _,.refl _,λb h z=>n9 h z],I.fh,.nil λ_ z=>z,λ_ z=>z.elim,by simpa using h],?_,?_,?_]
 rintro i B H' _ ⟨F',m,W,p,f,_,_,_⟩;exact hst F' H' p.ff f λb o=>(yk p b o).1;rintro i x B X hx ⟨l,m,W,p1,f1,C,N,hc⟩;let#[y,hd,ry]:=Paired.get_of pr hx;rw[hd]at hc;unfold gD at hc;unfold gH at hc;have I1:Rl K l X (DR G S) (HK G a (lockA ρ)) (sG G a σ):=((p1.rl f1 I).lockA).ent G a;refine jO I1 (λb _=>XY b) (ry.mono p1.ff (yk p1)) hc λρ2 σ2 F2 H2 S2 J I2 hc=>?_;have p2:Pur l X F2 H2:=#[J.ff,J.hh,J.fn]
 have nu2:∀b,¬ U ρ2 S2 b:=λb u=>XY b (J.U u);refine ic I2 hc λb F3 H3 S3 ρ3 s3 I3 q=>?_;have P:Pur F2 H2 F3 H3:=s3.toStp.pur nu2;have M:∀b,¬ U ρ3 S3 b:=λb zz=>by let#[j,t,h1,_]:=zz;let#[t0,h0]:=s3.ow j t h1;by_cases hj:j∈O.ix;exact J.inn j t0 hj h0;rw[(J.out j hj).1]at h0;let#[_,h1,_]:=fH h0;let#[_,_,e]:=MB h1;cases e
 have A:=p1.trans (p2.trans P);cases b with
 |false=>exact#[F3,m,W,A,I3.fh,P.trs (p2.trs C),N,q]|true =>
  refine ie I3 q λv F4 H4 S4 ρ4 z n Z s4 I4 r4 zz=>?_;let#[hk,hl,hc]:=zz;have p4:Pur F3 H3 F4 H4:=s4.toStp.pur M;have ra4:=p4.trs (P.trs (p2.trs C));have rz:∃Z',Tr K F4 H4 j3 v z Z'/\∀b,Z' b->H3 b=none:=by
   cases n with
   |true=>exact#[Z,r4.tr,λb o=>(r4.fr rfl b o).elim id λu=>n9 u (M b)]|false =>
    cases z with|d x=>have tr:=r4.tr;let#[r,n]:=tr.invd;exact#[λ_=>False,.d r λ_ z=>z,λ_ z=>z.elim]|_=>exact n9 hk (by simp[LG,T.isD])
  let#[Z',rz,fz]:=rz;refine#[by rw[C.9];exact hl,F4,_,λb=>W b∨Z' b,A.trans p4,I4.fh,ra4.append (Trs.one rz) λb o hz=>?_,λb o=>?_,hc];have q1:=(C.dom b o).1;exact q1 ((p2.trans P).hh.free (fz b hz));rcases o with o|o
  ·exact N b o
  exact A.hh.free (fz b o)
 rintro B H' ⟨F',m,W,p,f,C,N,hc⟩;rw[len,QBV]at hc;unfold gD at hc;have I':=p.rl f I;refine#[by rw[C.9];exact hc.1,λq hq=>?_];refine sB.list (k.from s) (p.ste) I' hq C (λb o=>.inl (N b o)) #[C.dom,λi sl hi b o z=>?_] hc.2;exact(I.dom hi z).1 (N b o)
def ZT:∀{m:List Bool}(ρ:yA),(∀b∈m,b=Kz)->uE m ρ=ρ
 |[],ρ,_=>by cases ρ<;>rfl|b::m,[],_=>rfl|b::m,v::ρ,h=>by have e:b=false:=h b QL;subst e;simp[uE,ZT ρ λb x=>h b (QI _ x)]
def YT:∀{m:List Bool}(σ:St),(∀b∈m,b=Kz)->xE m σ=σ
 |[],σ,_=>by cases σ<;>rfl|b::m,[],_=>rfl|b::m,v::σ,h=>by have e:b=false:=h b QL;subst e;simp[xE,YT σ λb x=>h b (QI _ x)]
def UR{ρ:yA}:(QK h js++ρ)[h+i]?=ρ[i]?:=by rw[Qj (by simp)];simp
def Zs{ρ:yA}{S:Ft}(h:U (QK y js++ρ) (DR y S) b):U ρ S b:=by let#[i,t,x,u]:=h;rcases QAr i y with z|z;rw[Qw (by simpa using z),wW]at x;split at x<;>cases x;let#[j,rfl]:=QBR z;rw[UR]at x;unfold DR at u;rw[n7 (),qR]at u;exact#[j,t,x,u]
def Xc(G:∀j∈J,j<y)(x:Bd J F H (DR y S) (QK y js++ρ) o l X S1 g m)(s:Ste l X S1 g B A Y k):Ste F H S ρ B A (λi=>Y (y+i)) (k.drop y):=by
 have Z:∀i,y+i∉J:=λi z=>by have:=G _ z;omega
 have p:∀b,U g S1 b->U ρ S b:=λb u=>Zs (x.U u);refine#[#[x.ff.trans s.ff,λb u e n=>s.hh b u (x.hh b u e) λz=>n (p b z),λb e=>x.dm b (s.dm b e),λb e z=>?_,λb #[i,t,a,r]=>?_,λj t h n=>?_],λj t h=>?_];by_cases q:l b=js
 ·exact(s.fn b q z).imp (p b) (x.dm b)
 exact .inr (x.fn b e q);rw[wO]at a;exact(s.uu b #[_,t,a,r]).imp (p b) (x.dm b);rw[wO]at h;let#[a,r]:=s.bo _ t h n;let#[L,I,_]:=x.out _ (Z j);rw[L,UR]at a;refine#[a,?_];show Y (y+j)=S j;rw[r,I];unfold DR;rw[n7 (),qR];rw[wO]at h;let#[C,W]:=s.ow _ t h;rw[(x.out _ (Z j)).1,UR]at W;exact#[C,W]
def Dk(I:Rl K F H S ρ x)(e:x.drop u=σ):Rl K F H (λi=>S (u+i)) (ρ.drop u) σ where
 fh:=I.fh
 len:=by rw[<- e,wQ,wQ,I.len]
 sl:=λi s h=>by rw[wO]at h;let#[v,z,y]:=I.sl _ s h;exact#[v,by rw[<- e,wO];exact z,y]
 dj:=λi j t s n z y=>by rw[wO]at z y;exact I.dj _ _ t s () z y
def i9{G:Tg}{e:yA->TK->Prop}{te:TE}(B:∀j∈G.ix,j<a)(hm:∀b∈u,b=Kz)(ie:∀{F H:Hp}{S:Ft}{ρ:yA}{σ:St}{Q:TK}{R:VK},Rl K F H S ρ σ->e ρ Q->sB K us F H S ρ σ Q R->te σ H R)(s:Ste F0 H0 S0 W F H S ρ)(I:Rl K F H S ρ σ){st:Hp->Prop}(pr:ge (TY K F H λ_=>False) xs ys)(O:∀F' H',Same F F'->Same F' H'->st H')(h:TJ G a e ys [] ρ λp r=>Q (.lst (p.map T.d)) j3 r)(k:sB K ws F0 H0 S0 W σ Q R) :
  aQ K xs st G (λ_ H Q=>Q j3 H) te (sG a u σ) H R:=by
 refine fU ?_;have len:=Wo pr;have es:sG a u σ=QK a js++σ:=by unfold sG;rw[YT σ hm]
 refine#[λi Y H'=>∃F' J m p,Ste F H S ρ F' H' J m/\Rl K F' H' J m σ/\Reps K F' Y p/\TJ G a e (ys.drop i) p m λp r=>Q (.lst (p.map T.d)) j3 r,
  #[F,S,ρ,[],.refl,I,.nil,by simpa using h],?_,?_,?_]
 rintro i Y H' _ ⟨F',J,m,p,N,P,_,_⟩;exact O F' H' N.ff P.fh;rintro i x Y X hx ⟨l,S1,g,p,s1,I1,A,hc⟩;let#[y,hd,ry]:=Paired.get_of pr hx;rw[hd]at hc;unfold TJ at hc;have C:Rl K l X (DR a S1) (HK a u g) (sG a u σ):=I1.ent a u;have em:HK a u g=QK a js++g:=by unfold HK;rw[ZT g hm]
 rw[em]at C;refine jO C (λb z=>z.elim) (ry.mono s1.ff λb z=>z.elim) hc λr L F2 H2 S2 bd I2 hc=>?_;have e2:L.drop a=σ:=by apply wY;intro i;rw[wO,(bd.out (a+i) λz=>by have:=B _ z;omega).2.2,es,Qj (by simp)];simp
 refine ie I2 hc λv F4 H4 S4 M z n Z s4 I4 r4 zz=>?_;let#[hk,hl,hc]:=zz;let#[F5,Z5,s5,I5,_,er,_]:=r4.frz s4 I4;have o:=Xc B bd s5;exact#[by rw[A.9];exact hl,F5,_,M.drop a,p++[z.er],s1.trans o,Dk I5 e2,(A.mono o.ff).append (.cons (er hk) .nil),hc];rintro Y H' ⟨F',J,m,p,N,P,A,hc⟩;rw[len,QBV]at hc;unfold TJ at hc;exact#[by rw[A.9];exact hc.1,λq hq=>(k.from s).listD N P hq A hc.2]
end
section
variable{K:QC}{Γ:Ev}{Ψ:PEv}{E:XE}{EK:XK}{F H l c:Hp}{S S1:Ft}{ρ y:yA}{σ:St}
def Tr.shal(h:Tr K F H Kz v u Z)(e:zE u=jb t):Tr K F H Kz v t Z:=by
 unfold zE at e;split at e;rename_i ts ev;cases x:bF ts with
 |none=>rw[x]at e;cases e|some i =>
  rw[x]at e;injection e with e;subst e;cases h with
  |d r n =>
   cases r with|lst q r=>injection ev with ev;subst ev;rw[nA]at x;injection x with x;subst x;exact .lstF q r n|_=>cases ev
  |lst a k z g b=>injection ev with ev;subst ev;show Tr K F H Kz _ (.lst (i.map T.d)) Z;rw[<- lM x];exact .lst a k z g b|tup=>cases ev|lstF a k z=>injection ev with ev;subst ev;rw[nA]at x;injection x with x;subst x;exact .lstF a k z
 split at e
 ·injection e with e;subst e;exact h
 cases e
def AV.pass(h:AV K F H md vs xs W Y)(e:Same F l)(k:∀b,W b->l b=H b)(J:∀b,Y b->F b=js->l b=js) :
  ∀{os X:LT},BA md xs os=jb X->ArgsR K l H Y md vs X/\ZB md X=os:=by
 induction h with
 |nil h =>
  intro os X a;cases os with|nil=>simp only[BA,Qx]at a;subst a;exact#[.nil,rfl]|cons _ _=>simp[BA]at a
 |@chg md v vs x xs W Y h t I =>
  intro os X a;have i:md.headD .fro=.chg:=by generalize md.headD .fro=m at h;cases m<;>first|rfl|cases h
  unfold BA at a;rw[i]at a;cases os with
  |nil=>cases a|cons o os =>
   cases g:BA md.tail xs os with|none=>simp only[g,wy]at a;cases a|some C=>simp only[g,qK,Qx]at a;subst a;let#[s,p]:=I k J g;refine#[.chg i s,?_];unfold ZB;rw[i];simp only[p]
 |@new md v vs x xs Z W M Y h r t n q I =>
  intro os X a;have A:Tr K l H Kz v (.d x.er) (λ_=>False):=.d (r.kept e λb u G L=>by rw[k b ((q b).mpr (.inl G))];exact L) λ_ z=>z;have j:=@I (λb G=>k b ((q b).mpr (.inr G))) J;unfold BA at a;cases i:md.headD .fro with
  |chg=>rw[i]at h;cases h|fro =>
   simp only[i,cA]at a;cases g:BA md.tail xs os with|none=>simp only[g,wy]at a;cases a|some C=>simp only[g,qK,Qx]at a;subst a;let#[s,p]:=j g;exact#[.rd (by rw[i];simp) A (λ_ z=>z.elim) s,by unfold ZB;rw[i];exact p]
  |shal =>
   simp only[i,cA]at a;cases B:zE (.d x.er) with
   |none=>simp only[B]at a;cases a|some u =>
    simp only[B]at a;cases g:BA md.tail xs os with|none=>simp only[g,wy]at a;cases a|some C=>simp only[g,qK,Qx]at a;subst a;let#[s,p]:=j g;exact#[.rd (by rw[i];simp) (A.shal B) (λ_ z=>z.elim) s,by unfold ZB;rw[i];exact p]
  |bor =>
   simp only[i,cA]at a;cases g:BA md.tail xs os with|none=>simp only[g,wy]at a;cases a|some C=>simp only[g,qK,Qx]at a;subst a;let#[s,p]:=j g;exact#[.rd (by rw[i];simp) A (λ_ z=>z.elim) s,by unfold ZB;rw[i];exact p]
 |@tmp md v vs x xs Z W Y h r z t I =>
  intro os X a;have A:Tr K l H Kz v x Z:=r.mono e λb G=>#[rfl,J b (z b G) (r.dom b G).2]
  have j:=@I k J;unfold BA at a;cases i:md.headD .fro with
  |chg=>rw[i]at h;cases h|fro =>
   simp only[i,cA]at a;cases x with
   |d x =>
    cases g:BA md.tail xs os with|none=>simp only[g,wy]at a;cases a|some C=>simp only[g,qK,Qx]at a;subst a;let#[s,p]:=j g;exact#[.rd (by rw[i];simp) A z s,by unfold ZB;rw[i];exact p]
   |_=>cases a
  |shal =>
   simp only[i,cA]at a;cases B:zE x with
   |none=>simp only[B]at a;cases a|some u =>
    simp only[B]at a;cases g:BA md.tail xs os with|none=>simp only[g,wy]at a;cases a|some C=>simp only[g,qK,Qx]at a;subst a;let#[s,p]:=j g;exact#[.rd (by rw[i];simp) (A.shal B) z s,by unfold ZB;rw[i];exact p]
  |bor =>
   simp only[i,cA]at a;cases g:BA md.tail xs os with|none=>simp only[g,wy]at a;cases a|some C=>simp only[g,qK,Qx]at a;subst a;let#[s,p]:=j g;exact#[.rd (by rw[i];simp) A z s,by unfold ZB;rw[i];exact p]
def FE:∀(J:LN) (ρ:yA) (i:Nat) s,(clear J ρ)[i]?=jb (jb s)->i∉J/\ρ[i]?=jb (jb s)
 |[],ρ,i,s,h=>#[(by simp),h]|j::J,ρ,i,s,h=>by
  unfold clear at h;let#[u,z]:=FE J _ i s h;rcases bA z with⟨_,e,_⟩| ⟨n,x⟩
  cases e;exact#[λm=>(QO.mp m).elim (λe=>n e.symm) u,x]
def yQ:∀(J:LN) (ρ:yA),(clear J ρ).9=ρ.9
 |[],_=>rfl|j::J,ρ=>by unfold clear;rw[yQ J];simp
def Rl.drop(I:Rl K F H S ρ σ)(hl:y.9=ρ.9)(h:∀(i:Nat) s,y[i]?=jb (jb s)->ρ[i]?=jb (jb s)):Rl K F H S y σ :=
 #[I.fh,hl.trans I.len,λi s e=>I.sl i s (h i s e),λi j t s n z x=>I.dj i j t s n (h i _ z) (h j _ x)]
def rF:∀{J:LN}{ρ:yA}{os:LT},fB J ρ=jb os->os.length=J.9/\∀(i:Nat) j,J[i]?=jb j->∃t,os[i]?=jb t/\ρ[j]?=jb (jb (.own t))
 |[],ρ,os,h=>by simp only[fB,Qx]at h;subst h;exact#[rfl,λi j e=>by simp at e]|j::J,ρ,os,h=>by
  unfold fB at h;split at h;rename_i t e;cases x:fB J ρ with
  |none=>rw[x]at h;cases h|some m =>
   rw[x]at h;injection h with h;subst h;let#[a,z]:=rF x;refine#[by simp[a],λi k hk=>?_];cases i with|zero=>simp at hk;subst hk;exact#[t,rfl,e]|succ i=>let#[u,g,b]:=z i k (by simpa using hk);exact#[u,by simpa using g,b]
  cases h
def Rl.trs(I:Rl K F H S ρ σ):∀{J:LN}{os:LT}{vs:LV},J.Nodup->fB J ρ=jb os->vs.map (λv=>jb (jb v))=J.map (λj=>σ[j]?)->Trs K F H j3 vs os (λb=>∃j∈J,S j b)
 |[],os,vs,_,h,hv=>by
  simp only[fB,Qx]at h;subst h;cases vs with|nil=>exact .nil λb zz=>by let#[j,n,_]:=zz;simp at n|cons _ _=>simp at hv
 |j::J,os,vs,nd,h,hv=>by
  unfold fB at h;split at h;rename_i t e;cases a:fB J ρ with
  |none=>rw[a]at h;cases h|some s =>
   rw[a]at h;injection h with h;subst h;cases vs with
   |nil=>simp at hv|cons v vs =>
    simp only[QR,wj]at hv;let#[g,r,q]:=I.sl j _ e;rw[r]at hv;have:v=g:=by simpa using hv.1
    subst this;have x:=wH.mp nd;refine .cons q (Rl.trs I x.2 a hv.2) (λb p #[k,hk,z]=>?_) λb=>?_;let#[i,o]:=QAG.mp hk;let#[u,_,m]:=(rF a).2 i k o;exact I.dj j k t _ (λz=>x.1 (z▸hk)) e m b p z;constructor
    ·rintro⟨k,hk,z⟩
     rcases QO.mp hk with e|e;subst e;exact .inl z;exact .inr #[k,e,z]
    rintro(z|⟨k,hk,z⟩)
    ·exact#[j,QL,z]
    exact#[k,QI _ hk,z]
  cases h
def Rl.setO(I:Rl K F H S ρ σ)(i:Nat)(hv:σ[i]?=jb (jb v))(r:Tr K F H j3 v t Z)(g:∀(j:Nat) s,j≠i->ρ[j]?=jb (jb s)->∀b,Z b->¬ S j b):Rl K F H (NH S i Z) (ρ.set i (jb (.own t))) σ where
 fh:=I.fh
 len:=by simpa using I.len
 sl:=λj s h=>by
  rcases bA h with⟨rfl,e,hl⟩| ⟨p,h⟩
  cases e;exact#[v,hv,by rw[IA];exact r];rw[VA (Qz p)];exact I.sl j s h
 dj:=λj k m s n a x b z hk=>by
  rcases bA a with⟨e,_,_⟩| ⟨o,a⟩
  subst e;rw[IA]at z;rcases bA x with⟨e,_,_⟩| ⟨u,x⟩
  exact n e;rw[VA (Qz u)]at hk;exact g k s (Qz u) x b z hk;rw[VA (Qz o)]at z;rcases bA x with⟨e,_,_⟩| ⟨u,x⟩
  subst e;rw[IA]at hk;exact g j _ n a b hk z;rw[VA (Qz u)]at hk;exact I.dj j k m s n a x b z hk
def BM:∀{J:LN}{os:LT}{vs:LV}{M:iA}{S1:Ft}{y x:yA},J.Nodup->Rl K F H S1 y σ->Trs K F H j3 vs os M->vs.map (λv=>jb (jb v))=J.map (λj=>σ[j]?)->Held F H S1 y M->IC J os y=jb x ->
  ∃o,Rl K F H o x σ/\(∀i,i∉J->x[i]?=y[i]?/\o i=S1 i)/\∀i∈J,∀s,x[i]?=jb (jb s)->(∃t,s=.own t)/\∀b,o i b->M b
 |[],os,vs,M,S1,y,x,nd,I,r,hv,hm,h=>by
  cases os with|nil=>simp only[IC,Qx]at h;subst h;exact#[S1,I,λ_ _=>#[rfl,rfl],λi a=>by simp at a]|cons _ _=>simp[IC]at h
 |j::J,os,vs,M,S1,y,x,nd,I,r,hv,hm,h=>by
  cases r with
  |nil _=>simp[IC]at h|@cons _ v t vs ts _ Z R L G n q =>
   simp only[IC]at h;simp only[QR,wj]at hv;have g:=wH.mp nd;have I2:=I.setO j hv.1.symm L λk s _ hk b u=>hm.nw k s hk b ((q b).mpr (.inl u));have A:Held F H (NH S1 j Z) (y.set j (jb (.own t))) R:=#[λb u=>hm.dom b ((q b).mpr (.inr u)),λi s a b u z=>by
    rcases bA a with⟨rfl,_,_⟩| ⟨Y,a⟩
    rw[IA]at z;exact n b z u;rw[VA (Qz Y)]at z;exact hm.nw i s a b ((q b).mpr (.inr u)) z]
   let#[o,Q,C,P]:=BM g.2 I2 G hv.2 A h;refine#[o,Q,λi a=>?_,λi a s W=>?_];have B:j≠i:=λe=>a (e▸QL);let#[X,p]:=C i λm=>a (QI _ m);rw[VF B]at X;rw[VA (Qz B)]at p;exact#[X,p];rcases QO.mp a with e|e
   ·subst e
    let#[X,p]:=C i g.1;rw[X]at W;rcases bA W with⟨_,e,_⟩| ⟨Y,_⟩
    injection e with e;refine#[#[t,e],λb u=>?_];rw[p,IA]at u;exact(q b).mpr (.inl u);exact n9 rfl Y
   let#[O,N]:=P i e s W;exact#[O,λb u=>(q b).mpr (.inr (N b u))]
def re{f:Str}{as:PX}(g:GOk K Γ Ψ)(ia:PSnd K Γ Ψ as)(I:Rl K F H S ρ σ)(X:LF K F H S ρ E EK){Q:TK}{R:VK}{ws:LN}(h:(pe Ψ (.call f as) E).e ρ Q)(k:sB K ws F H S ρ σ Q R):(wp K Γ (.call f as) EK).e σ H R:=by
 let#[os,ho,nd,h]:=h;generalize hJ:dA (Ψ.sp f).md as=J at ho nd h;have own:∀j∈J,∃t,ρ[j]?=jb (jb (.own t)):=λj A=>by let#[i,hi]:=QAG.mp A;let#[t,_,e]:=(rF ho).2 i j hi;exact#[t,e]
 have I0:Rl K F H S (clear J ρ) σ:=I.drop (yQ J ρ) λi s e=>(FE J ρ i s e).2;have O:∀b,U (clear J ρ) S b->U ρ S b:=λb #[i,t,h1,N]=>#[i,t,(FE J ρ i _ h1).2,N]
 have X0:LF K F H S (clear J ρ) E EK:=λx dx F2 H2 S2 G o ff r q=>X x dx F2 H2 (λ_ _=>False) [] #[o.ff,λb u e n=>o.hh b u e λz=>n (O b z),o.dm,λb e z=>(o.fn b e z).imp (O b) id,λb zz=>by let#[i,t,e,_]:=zz;simp at e,λj t e=>by simp at e] ff r q;have hm:∀j∈dA (Ψ.sp f).md as,∃v,σ[j]?=jb (jb v):=λj A=>by let#[t,e]:=own j (hJ▸A);let#[v,h1,_]:=I.sl j _ e;exact#[v,h1]
 show(wp K Γ as EK).a σ H λvs c=>Γ.sp f vs c R EK;refine ia.a I0 X0 hm h λvs l c S1 y xs W Y s1 I1 r1 mv q1=>?_;rw[hJ]at mv;let#[ts,hp,q1]:=q1;have hw:=r1.held;have o:=s1.frz (λb m=>(hw.dom b m).2) r1.fr;have P:=I1.frz hw;have yk:∀b,Y b->l b=js->jF l c W b=none:=λb hy hf=>by let#[i,sl,_,N,h3]:=r1.tm b hy;rw[xB λz=>r1.nw i sl N b z h3];exact hf
 let#[ar,mt]:=r1.av.pass (CD λb m=>(hw.dom b m).2) (λb m=>kD m) yk hp;generalize jF l c W=F2 at o P yk ar;have M0:=I.trs nd ho mv;have hM:Held F H S (clear J ρ) (λb=>∃j∈J,S j b):=#[λb #[j,A,m]=>let#[t,e]:=own j A;I.dom e m,λi s e b zz z=>by let#[j,A,m]:=zz;let#[C,B]:=FE J ρ i s e;let#[t,et]:=own j A;exact I.dj j i t s (λq=>C (q▸A)) et B b m z]
 have M:=hM.step o.toStp P;have M2:Trs K F2 c j3 (vB (Ψ.sp f).md vs) (ZB (Ψ.sp f).md ts) (λb=>∃j∈J,S j b):=by
  rw[mt];refine M0.mono o.ff λb m=>?_;refine#[?_,(M.dom b m).2];cases e:H b with|none=>exact n9 e (hM.dom b m).1|some u=>exact o.hh b u e (hM.nu b m)
 refine g.sp f vs c R EK #[F2,ts,_,Y,P.fh,ar,M2,λb hy m=>?_,?_];let#[i,sl,_,N,h3]:=r1.tm b hy;exact M.nw i sl N b m h3
 ·have up:∀b,(∃j∈J,S j b)->U ρ S b:=λb #[j,A,m]=>let#[t,e]:=own j A;#[j,t,e,m]
  have lk:∀b,(∃j∈J,S j b)∨c b=js->U ρ S b∨H b=none:=λb m=>m.imp (up b) (o.dm b);refine(Ψ.sp f).mono ?_ ?_ q1
  rotate_left
  rintro x qx dx F' H' p xr;refine X x dx F' H' (λ_ _=>False) [] #[o.ff.trans p.ff,λb u e n=>p.hh b u (o.hh b u e λz=>n (O b z)) λz=>n (up b z),λb e=>o.dm b (p.dm b e),λb e z=>?_,λb zz=>by let#[i,t,e,_]:=zz;simp at e,λj t e=>by simp at e] p.fh xr qx;by_cases q:F2 b=js;exact lk b (p.fn b q z);exact(o.fn b e q).imp (O b) id;rintro r os' ⟨G,hput,q⟩ v F' H' Z M' p tr trs dz hf;have I3:Rl K F' H' S1 y σ:=#[p.fh,P.len,λi s e=>by
   let#[w,g1,g2]:=P.sl i s e;refine#[w,g1,g2.mono p.ff λb m=>?_];let#[d1,d2]:=g2.dom b m;have nM:¬ ∃j∈J,S j b:=λz=>M.nw i s e b z m;refine#[?_,?_];cases e:c b with|none=>exact n9 e d1|some u=>exact p.hh b u e nM
   by_cases z:F' b=js
   ·exact z
   exact((p.fn b d2 z).elim nM d1).elim,P.dj]
  have nw3:∀b,(∃j∈J,S j b)∨c b=js->∀(i:Nat) s,y[i]?=jb (jb s)->¬ S1 i b:=λb m i s e z=>by rcases m with m|m;exact M.nw i s e b m z;exact(P.dom e z).1 m
  have hM':Held F' H' S1 y M':=#[trs.dom,λi s e b m=>nw3 b (hf b (.inr m)) i s e]
  let#[S2,I4,g2,g3]:=BM nd I3 trs mv hM' hput;have L:∀i s,G[i]?=jb (jb s)->(i∈J/\(∃t,s=.own t)/\∀b,S2 i b->M' b)∨(i∉J/\y[i]?=jb (jb s)/\S2 i=S1 i):=λi s e=>by by_cases hi:i∈J;exact .inl #[hi,g3 i hi s e];let#[C,B]:=g2 i hi;exact .inr #[hi,C▸e,B]
  have st:Ste F H S ρ F' H' S2 G:=#[#[o.ff.trans p.ff,λb u e n=>p.hh b u (o.hh b u e λz=>n (O b z)) λz=>n (up b z),λb e=>o.dm b (p.dm b e),λb e z=>by
    by_cases q:F2 b=js;exact lk b (p.fn b q z);exact(o.fn b e q).imp (O b) id,
   λb zz=>by
    let#[i,t,h1,N]:=zz
    rcases L i _ h1 with⟨_,_,e⟩| ⟨_,C,B⟩
    exact lk b (hf b (.inr (e b N)));rw[B]at N;exact(o.uu b #[i,t,C,N]).imp (O b) id,
   λj t e hd=>by
    rcases L j _ e with⟨_,⟨t',z⟩,_⟩| ⟨_,C,B⟩
    cases z;let#[b1,b2]:=o.bo j t C hd;exact#[(FE J ρ j _ b1).2,B.trans b2]],
   λj t e=>by
    rcases L j _ e with⟨A,_,_⟩| ⟨_,C,B⟩
    exact own j A;let#[t0,e0]:=o.ow j t C;exact#[t0,(FE J ρ j _ e0).2]]
  refine k v F' H' S2 G r j3 Z st I4 #[tr,λ_ b m=>?_,λz=>(by cases z),λ_ i s e b m z=>?_] q;exact(lk b (hf b (.inl m))).symm;rcases L i s e with⟨_,_,B⟩| ⟨_,C,B⟩
  ·exact dz b m (B b z)
  rw[B]at z;exact nw3 b (hf b (.inl m)) i s C z
def V9(g:GOk K Γ Ψ)(ia:PSnd K Γ Ψ J)(I:Rl K F H S ρ σ)(hJ:dA (Ψ.sp f).md J=[]){Q:T->Prop}{R:VK}{p:XK}(h:(pe Ψ J (λ_=>False)).a (Ψ.sp f).md ρ λxs y=>y=ρ/\∃A,BA (Ψ.sp f).md xs []=jb A/\(Ψ.sp f).run A (λr _=>Q r) E2)(kn:∀v F' H' S' r Z,Ste F H S ρ F' H' S' ρ->Rl K F' H' S' ρ σ->VR K [] H S ρ F' H' S' ρ v r j3 Z->Q r->R v H')(kx:∀x G F' H' S',Ste F H S ρ F' H' S' ρ->Rl K F' H' S' ρ σ->Oe K F' H' x G->E2 x->p .none G H'):(wp K Γ J (λ_ _ _=>False)).a σ H λvs c=>Γ.sp f vs c R p:=by
 refine ia.a I (λ_ _ _ _ _ _ _ _ _ z=>z.elim) (by rw[hJ];exact λj z=>n9 z (by simp)) h λvs l c S1 y xs W Y s1 I1 B P L=>?_;rw[hJ]at P;let#[er,A,hp,L]:=L;subst er;have M:=B.held;have o:=s1.frz (λb m=>(M.dom b m).2) B.fr;have X:=I1.frz M;have O:∀b,Y b->l b=js->jF l c W b=none:=λb hy C=>by let#[i,sl,_,h2,h3]:=B.tm b hy;rw[xB λz=>B.nw i sl h2 b z h3];exact C
 let#[ar,mt]:=B.av.pass (CD λb m=>(M.dom b m).2) (λb m=>kD m) O hp;generalize jF l c W=F2 at o X O ar;have mn:vB (Ψ.sp f).md vs=[]:=by simpa using P
 have M2:Trs K F2 c j3 (vB (Ψ.sp f).md vs) (ZB (Ψ.sp f).md A) (λ_=>False):=by rw[mt,mn];exact .nil λ_ z=>z
 have go:∀{F' H':Hp},Frm (λ_=>False) F2 c F' H'->Ste F H S y F' H' S1 y/\Rl K F' H' S1 y σ:=λ{F' H'} k=>by
  refine#[#[#[o.ff.trans k.ff,λb u e n=>k.hh b u (o.hh b u e n) (λz=>z),λb e=>o.dm b (k.dm b e),λb e z=>?_,o.uu,o.bo],o.ow],k.fh,X.len,λi s e=>?_,X.dj];by_cases q:F2 b=js
  ·rcases k.fn b q z with z|z
   ·exact z.elim
   exact .inr (o.dm b z)
  exact o.fn b e q;let#[w,g1,g2]:=X.sl i s e;refine#[w,g1,g2.mono k.ff λb m=>?_];let#[d1,d2]:=g2.dom b m;refine#[?_,?_];cases e:c b with|none=>exact n9 e d1|some u=>exact k.hh b u e λz=>z
  by_cases z:F' b=js
  ·exact z
  exact((k.fn b d2 z).elim (λz=>z) d1).elim
 refine g.sp f vs c R p #[F2,A,_,Y,X.fh,ar,M2,λb hy z=>z,?_];refine(Ψ.sp f).mono ?_ ?_ L;intro r os' q v F' H' Z M' k tr trs dz C;let#[st,N]:=go k;refine kn v F' H' S1 r Z st N #[tr,λ_ b m=>?_,λz=>(by cases z),λ_ i s e b m z=>?_] q;rcases C b (.inl m) with q|q
 ·exact q.elim
 exact .inl (o.dm b q);rcases C b (.inl m) with q|q
 ·exact q.elim
 exact(X.dom e z).1 q;intro x qx G F' H' k xr;let#[st,N]:=go k;exact kx x G F' H' S1 st N xr qx
end
section
variable{K:QC}{Γ:Ev}{Ψ:PEv}{E:XE}{EK:XK}{F H o l:Hp}{S S1:Ft}{ρ g:yA}{σ:St}
def RC(x:ρ[j]?=jb (jb (.own t)))(h:(ρ.set j (jb (.bor t)))[i]?=jb (jb s)):(i=j/\s=.bor t)∨(i≠j/\ρ[i]?=jb (jb s)):=by
 rcases bA h with⟨rfl,e,_⟩| ⟨n,h⟩
 injection e with e;exact .inl #[rfl,e];exact .inr #[Qz n,h]
def Rl.lock1(I:Rl K F H S ρ σ)(h:ρ[j]?=jb (jb (.own t))):Rl K F H S (ρ.set j (jb (.bor t))) σ where
 fh:=I.fh
 len:=by simpa using I.len
 sl:=λi s e=>by
  rcases RC h e with⟨rfl,rfl⟩| ⟨_,e⟩
  let#[v,a,u]:=I.sl i _ h;exact#[v,a,u.weak];exact I.sl i s e
 dj:=λi k x s n p m=>by
  rcases RC h p with⟨_,z⟩| ⟨r,y⟩
  cases z;rcases RC h m with⟨q,_⟩| ⟨_,b⟩
  ·exact I.dj i k x _ n y (q▸h)
  exact I.dj i k x s n y b
def Rl.lock1U(I:Rl K F H S ρ σ)(x:ρ[j]?=jb (jb (.own t)))(b:kl)(y:S j b):¬ U (ρ.set j (jb (.bor t))) S b:=λzz=>by
 let#[i,u,h,k]:=zz
 rcases RC x h with⟨_,z⟩| ⟨n,h⟩
 cases z;exact I.dj i j u _ n h x b k y
def lock1U(y:ρ[j]?=jb (jb (.own t)))(h:U (ρ.set j (jb (.bor t))) S b):U ρ S b:=by
 let#[i,u,x,k]:=h;rcases RC y x with⟨_,z⟩| ⟨n,x⟩
 cases z;exact#[i,u,x,k]
def LF.lock1(X:LF K F H S ρ E EK)(y:ρ[j]?=jb (jb (.own t))):LF K F H S (ρ.set j (jb (.bor t))) E EK:=λx a p m s k h f r q =>
 X x a p m (λ_ _=>False) [] #[h.ff,λb u e n=>h.hh b u e λz=>n (lock1U y z),h.dm,λb e z=>(h.fn b e z).imp (lock1U y) id,λb zz=>by let#[i,t,e,_]:=zz;simp at e,λj t e=>by simp at e] f r q
def DT(I:Rl K F H S ρ σ)(x:ρ[j]?=jb (jb (.own t)))(s:Ste F H S (ρ.set j (jb (.bor t))) r p m h)(Y:Rl K r p m h σ)(k:S j b) :
  ∀(i:Nat) y,i≠j->h[i]?=jb (jb y)->¬ m i b:=λi y n e z=>by
 cases y with
 |own u=>rcases s.uu b ⟨i,u,e,z⟩ with q|q;exact I.lock1U x b k q;exact(I.dom x k).1 q
 |bor u =>
  cases hd:u.isD with
  |true=>exact Y.isD e hd z|false =>
   let#[a,X]:=s.bo i u e hd;rw[X]at z;rcases RC x a with⟨q,_⟩| ⟨_,a⟩
   exact n q;exact I.dj j i t _ (Qz n) x a b k z
def oJ{B:Hp}{W:iA}(I:Rl K F H S ρ σ)(a:ρ[j]?=jb (jb (.own t)))(hv:σ[j]?=jb (jb O))(s:Ste F H S (ρ.set j (jb (.bor t))) p m Y x)(A:Rl K p m Y x σ)(L:∀b u,m b=jb u->¬ S j b->B b=jb u)(dm:∀b,B b=js->m b=js)(r:Tr K p B j3 O t' J)(R:∀b,J b->S j b∨W b∨m b=js)(hw:Held p m Y x W)(M:∀b,W b->H b=js∨U (ρ.set j (jb (.bor t))) S b) :
  Ste F H S ρ p B (NH Y j J) (x.set j (jb (.own t')))/\Rl K p B (NH Y j J) (x.set j (jb (.own t'))) σ/\∀b,S j b∨W b∨m b=js->∀(i:Nat) y,i≠j->x[i]?=jb (jb y)->¬ Y i b:=by
 have Q:∀b,S j b∨W b∨m b=js->∀(i:Nat) y,i≠j->x[i]?=jb (jb y)->¬ Y i b:=λb h i y n e z=>by rcases h with h|h|h;exact DT I a s A h i y n e z;exact hw.nw i y e b h z;exact(A.dom e z).1 h
 have P:∀b,S j b->U ρ S b:=λb h=>#[j,t,a,h]
 have lk:∀b,S j b∨W b∨m b=js->U ρ S b∨H b=none:=λb h=>by rcases h with h|h|h;exact .inl (P b h);exact(M b h).symm.imp (lock1U a) id;exact .inr (s.dm b h)
 have fS:∀b,S j b->p b=none:=λb h=>by
  by_cases q:p b=js;exact q;rcases s.fn b (I.dom a h).2 q with z|z
  ·exact n9 z (I.lock1U a b h)
  exact n9 z (I.dom a h).1
 have fh:Same p B:=λb u e=>L b u (A.fh b u e) λz=>by rw[fS b z]at e;cases e
 have I3:Rl K p B Y (x.set j js) σ:=#[fh,by simpa using A.len,λi y e=>by
   rcases bA e with⟨_,z,_⟩| ⟨n,e⟩
   cases z;let#[v,C,X]:=A.sl i y e;refine#[v,C,X.mono (.refl _) λb h=>#[?_,(X.dom b h).2]];cases eb:m b with|none=>exact n9 eb (X.dom b h).1|some u=>exact L b u eb λz=>DT I a s A z i y (Qz n) e h,
  λi k u y n Z G=>by
   rcases bA Z with⟨_,z,_⟩| ⟨_,Z⟩
   cases z;rcases bA G with⟨_,z,_⟩| ⟨_,G⟩
   ·cases z
   exact A.dj i k u y n Z G]
 have I4:=I3.setO j hv r λi y n e b h=>by
  rcases bA e with⟨_,z,_⟩| ⟨_,e⟩
  cases z;exact Q b (R b h) i y n e
 have es:(x.set j js).set j (jb (.own t'))=x.set j (jb (.own t')):=by simp
 rw[es]at I4;refine#[#[#[s.ff,λb u e n=>L b u (s.hh b u e λz=>n (lock1U a z)) λz=>n (P b z),λb e=>s.dm b (dm b e),λb e z=>(s.fn b e z).imp (lock1U a) id,λb #[i,u,C,X]=>?_,λi u e hd=>?_],λi u e=>?_],I4,Q];rcases bA C with⟨rfl,_,_⟩| ⟨n,C⟩
 ·rw[IA]at X
  exact lk b (R b X)
 rw[VA (Qz n)]at X;exact(s.uu b #[i,u,C,X]).imp (lock1U a) id;rcases bA e with⟨rfl,z,_⟩| ⟨n,e⟩
 ·cases z
 let#[Z,G]:=s.bo i u e hd;rcases RC a Z with⟨z,_⟩| ⟨_,Z⟩
 exact n9 z.symm n;exact#[Z,by rw[VA (Qz n)];exact G];rcases bA e with⟨rfl,_,_⟩| ⟨n,e⟩
 ·exact#[t,a]
 let#[t0,N]:=s.ow i u e;rcases RC a N with⟨_,z⟩| ⟨_,N⟩
 cases z;exact#[t0,N]
def bM(x:F a=js)(r:Trs K F H j3 ys us P)(n:¬ P a):Tr K F (LA H a (.lst ys)) j3 (.ref a) (.lst us) λb=>b=a∨P b :=
 .lst (S':=P) fA x (r.mono (.refl _) λb h=>#[vA λz=>n (z▸h),(r.dom b h).2]) n λb=>W9
def XH{Sp:iA}(k:Sp a)(b:kl)(u:HO)(e:H b=jb u)(y:¬ Sp b):LA H a h b=jb u:=by have x:b≠a:=λz=>y (by rw[z];exact k);rw[vA x];exact e
def MG(b:kl)(e:LA H a x b=js):H b=none:=by by_cases h:b=a;rw[h,fA]at e;cases e;rw[vA h]at e;exact e
def Trs.cutT:∀{vs:LV}{k:LT}{Z:iA}(n:Nat),Trs K F H j3 vs k Z->∃P1 u,Trs K F H j3 (vs.take n) (k.take n) P1/\Trs K F H j3 (vs.drop n) (k.drop n) u/\(∀b,P1 b->¬ u b)/\∀b,P1 b∨u b->Z b
 |_,_,_,0,h=>#[λ_=>False,_,.nil λ_ z=>z,h,λ_ z=>z.elim,λ_ z=>z.elim QV id]|[],_,_,n+1,h=>by cases h;exact#[λ_=>False,λ_=>False,.nil λ_ z=>z,.nil λ_ z=>z,λ_ z=>z.elim,λ_ z=>z.elim QV QV]|v::vs,_,_,n+1,h=>by let#[_,_,S1,p,rfl,r,e,a,q]:=h.invv;let#[P1,u,m,j,i,p4]:=Trs.cutT n e;exact#[λb=>S1 b∨P1 b,u,.cons r m (λb x z=>a b x (p4 b (.inl z))) λb=>W9,j,λb x z=>x.elim (λy=>a b y (p4 b (.inr z))) λy=>i b y z,λb x=>(q b).mpr (x.elim (λy=>y.elim .inl λy=>.inr (p4 b (.inl y))) λy=>.inr (p4 b (.inr y)))]
def kd{m:Mt}{v:V}{s:T}{Sp W:iA}{vs:LV}{ts:LT}{N:T->T->Prop}{R:VK}(f:Same F H)(r:Tr K F H j3 v s Sp)(M:Trs K F H j3 vs ts W)(Z:∀b,Sp b->¬ W b)(h:lN m s ts N)
  (k:∀w r s' H' S1 Q,(∀b u,H b=jb u->¬ Sp b->H' b=jb u)->(∀b,H' b=js->H b=js)->Tr K F H' j3 v s' S1->Tr K F H' j3 w r Q->(∀b,Q b->¬ S1 b)->(∀b,S1 b∨Q b->Sp b∨W b∨H b=js)->N r s'->R w H'):Yd K m v vs H R:=by
 cases m with
 |append =>
  let#[C,t0,rfl,rfl,h]:=h;cases r with
  |@lst _ a B _ _ S' J I p A y =>
   have e:Sp a:=(y a).mpr (.inl rfl);cases M with
   |@cons _ w t ws us _ L W2 X G n q =>
    cases G with
    |nil O =>
     have j:∀b,W b↔L b:=λb=>by rw[q b];simp[O b]
     refine#[_,B,_,rfl,rfl,J,by rw[p.9];exact h.1,k .non (.d .none) _ _ _ (λ_=>False) (XH e) MG (bM I (Trs.append p (Trs.one X) λb x Y=>Z b ((y b).mpr (.inr x)) ((j b).mpr Y)) λz=>z.elim A λz=>Z a e ((j a).mpr z)) (.d .non λ_ z=>z) (λ_ z=>z.elim) (λb x=>?_) h.2];rcases x with(x|x|x)|x;exact .inl (x▸e);exact .inl ((y b).mpr (.inr x));exact .inr (.inl ((j b).mpr x));exact x.elim
 |extend =>
  let#[C,vs0,rfl,rfl,h]:=h;cases r with
  |@lst _ a B _ _ S' J I p A y =>
   have e:Sp a:=(y a).mpr (.inl rfl);cases M with
   |@cons _ w t ws us _ L W2 X G n q =>
    cases G with
    |nil O =>
     have j:∀b,W b↔L b:=λb=>by rw[q b];simp[O b]
     let#[c,zs,S2,rfl,g1,g2,g3,g4,g5]:=X.inv;have P:∀b,S2 b->W b:=λb x=>(j b).mpr ((g5 b).mpr (.inr x));refine#[a,c,B,zs,rfl,rfl,J,g1,by rw[p.9,g3.9];exact h.1,k .non (.d .none) _ _ _ (λ_=>False) (XH e) MG (bM I (Trs.append p g3 λb x Y=>Z b ((y b).mpr (.inr x)) (P b Y)) λz=>z.elim A λz=>Z a e (P a z)) (.d .non λ_ z=>z) (λ_ z=>z.elim) (λb x=>?_) h.2];rcases x with(x|x|x)|x;exact .inl (x▸e);exact .inl ((y b).mpr (.inr x));exact .inr (.inl (P b x));exact x.elim
 |insert =>
  let#[C,i,t0,rfl,rfl,hi,hl,h]:=h;let#[a,B,S',rfl,J,I,p,A,y]:=r.inv;have e:Sp a:=(y a).mpr (.inl rfl);cases M with
  |@cons _ w t ws us _ L W2 X G n q =>
   let#[X,n1]:=X.invd;cases X.inv;let#[w2,ws2,W3,W4,rfl,r3,r4,n3,q3]:=G.inv;let#[rfl,n4]:=r4.inv;have j:∀b,W b↔W3 b:=λb=>by rw[q b,q3 b];simp[n1 b,n4 b]
   let#[P1,P2,p1,p2,p3,p4]:=Trs.cutT i.toNat p;have e3:=p.9;refine#[a,i,w2,B,rfl,rfl,J,(),(),k .non (.d .none) _ _ _ (λ_=>False) (XH e) MG (bM I (Trs.append p1 (.cons r3 p2 (λb x Y=>Z b ((y b).mpr (.inr (p4 b (.inr Y)))) ((j b).mpr x)) λb=>W9) λb x Y=>Y.elim (λz=>Z b ((y b).mpr (.inr (p4 b (.inl x)))) ((j b).mpr z)) (p3 b x)) λz=>?_) (.d .non λ_ z=>z) (λ_ z=>z.elim) (λb x=>?_) h];rcases z with z|z|z
   ·exact A (p4 a (.inl z))
   exact Z a e ((j a).mpr z);exact A (p4 a (.inr z));rcases x with(x|x|x|x)|x
   ·exact .inl (x▸e)
   exact .inl ((y b).mpr (.inr (p4 b (.inl x))));exact .inr (.inl ((j b).mpr x));exact .inl ((y b).mpr (.inr (p4 b (.inr x))));exact x.elim
 |_=>exact h.elim
def Trs.setD(a:Rep K F u x):∀{vs:LV}{k:LT}{Z:iA}(n:Nat),Trs K F H j3 vs k Z->∃P,Trs K F H j3 (vs.set n u) (k.set n (.d x)) P/\∀b,P b->Z b
 |[],_,_,n,h=>by cases h;exact#[λ_=>False,.nil λ_ z=>z,λ_ z=>z.elim]|v::vs,_,_,n,h=>by
  let#[_,_,S1,p,rfl,r,e,m,q]:=h.invv;cases n with|zero=>exact#[λb=>False∨p b,.cons (.d a λ_ z=>z) e (λ_ z=>z.elim) λb=>W9,λb y=>(q b).mpr (.inr (y.elim QV id))]|succ n=>let#[P,j,i]:=Trs.setD a n e;exact#[λb=>S1 b∨P b,.cons r j (λb y z=>m b y (i b z)) λb=>W9,λb y=>(q b).mpr (y.imp id (i b))]
def z5{Sp:iA}{R:Hp->Prop}(r:Tr K F H j3 v t Sp)(W:Rep K F p y)(A:Rep K F j x)(h:uo t y x N)(k:∀t' H' S1,(∀b u,H b=jb u->¬ Sp b->H' b=jb u)->(∀b,H' b=js->H b=js)->Tr K F H' j3 v t' S1->(∀b,S1 b->Sp b)->N t'->R H'):uP v p j H R:=by
 let#[L,i,n,rfl,rfl,C,q]:=h;cases W.inv;let#[a,Z,M,rfl,J,I,Y,G,X]:=r.inv;have s:Sp a:=(X a).mpr (.inl rfl);let#[P,B,m]:=Y.setD A n;refine#[a,Z,i,n,rfl,rfl,J,by rw[Y.9];exact C,k _ _ _ (XH s) MG (bM I B λz=>G (m a z)) (λb e=>?_) q];rcases e with e|e;exact e▸s;exact(X b).mpr (.inr (m b e))
def Trs.part2:∀{vs:LV}{m:LT}{Z:iA}{i:Nat}{t:T},Trs K F H j3 vs m Z->m[i]?=jb t->∃v S1,vs[i]?=jb v/\Tr K F H j3 v t S1/\(∀b,S1 b->Z b) /\
  ∀(H':Hp) t' u (W:iA),(∀b,Z b->¬ S1 b->H' b=H b)->Tr K F H' j3 v t' u->(∀b,u b->S1 b∨W b)->(∀b,Z b->¬ W b)->∃P,Trs K F H' j3 vs (m.set i t') P/\∀b,P b->Z b∨W b
 |[],_,_,i,t,h,e=>by cases h;cases e|v::vs,_,_,i,t,h,e=>by
  let#[_,_,X,I,rfl,h,t,n,q]:=h.invv;cases i with|zero=>cases e;exact#[_,X,rfl,h,λb x=>(q b).mpr (.inl x),λH' t' u W k r j a=>#[λb=>u b∨I b,.cons r (t.mono (.refl _) λb x=>#[k b ((q b).mpr (.inr x)) λz=>n b z x,(t.dom b x).2]) (λb x z=>(j b x).elim (λy=>n b y z) (a b ((q b).mpr (.inr z)))) λb=>W9,λb x=>x.elim (λy=>(j b y).imp (λy=>(q b).mpr (.inl y)) id) λy=>.inl ((q b).mpr (.inr y))]]|succ i=>let#[v,S1,C,B,p,A]:=Trs.part2 (i:=i) t e;refine#[v,S1,C,B,λb x=>(q b).mpr (.inr (p b x)),λH' t' u W k r j a=>?_];let#[P,G,s]:=A H' t' u W (λb x Y=>k b ((q b).mpr (.inr x)) Y) r j λb x=>a b ((q b).mpr (.inr x));exact#[λb=>X b∨P b,.cons (h.mono (.refl _) λb x=>#[k b ((q b).mpr (.inl x)) λz=>n b x (p b z),(h.dom b x).2]) G (λb x z=>(s b z).elim (n b x) (a b ((q b).mpr (.inl x)))) λb=>W9,λb x=>x.elim (λy=>.inl ((q b).mpr (.inl y))) λy=>(s b y).imp (λy=>(q b).mpr (.inr y)) id]
def sX(r:Tr K F H j3 v (.tup us) Z)(e:us[k]?=jb (.lst q)):∃a j b vs S1,v=.ref a/\H a=jb (.tup j)/\Z a/\j.9=us.9/\j[k]?=jb (.ref b)/\H b=jb (.lst vs)/\Trs K F H j3 vs q S1/\Z b/\(∀c,S1 c->Z c)/\¬ S1 b /\
  ∀(H':Hp) u y h (W:iA),(∀c,Z c->¬ S1 c->c≠b->H' c=H c)->H' b=jb (.lst u)->Trs K F H' j3 u y h->(∀c,h c->S1 c∨W c)->(∀c,Z c->¬ W c)->∃P,Tr K F H' j3 v (.tup (us.set k (.lst y))) P/\∀c,P c->Z c∨W c:=by
 let#[a,j,M,rfl,G,h2,C,p,x]:=r.inv;let#[w,S1,g1,g2,I,g4]:=C.part2 e;let#[b,vs,L,rfl,f1,f2,f3,J,i]:=g2.inv;have m:M b:=I b ((i b).mpr (.inl rfl));have s:∀c,L c->M c:=λc hc=>I c ((i c).mpr (.inr hc));refine#[a,j,b,vs,L,rfl,G,(x a).mpr (.inl rfl),C.9,g1,f1,f3,(x b).mpr (.inr m),λc hc=>(x c).mpr (.inr (s c hc)),J,λH' u y h W A k2 R Y n=>?_];have O:¬ h b:=λz=>(Y b z).elim J (n b ((x b).mpr (.inr m)));let#[P,N,X]:=g4 H' (.lst y) (λc=>c=b∨h c) W (λc hc B=>A c ((x c).mpr (.inr hc)) (λz=>B ((i c).mpr (.inr z))) λz=>B ((i c).mpr (.inl z))) (.lst k2 f2 R O λc=>W9) (λc hc=>hc.elim (λe=>.inl ((i c).mpr (.inl e))) λz=>(Y c z).imp (λz=>(i c).mpr (.inr z)) id) λc hc=>n c ((x c).mpr (.inr hc));have Q:=A a ((x a).mpr (.inl rfl)) (λz=>p (s a z)) λz=>p (z▸m);exact#[λc=>c=a∨P c,.tup (Q.trans G) h2 N (λz=>(X a z).elim p (n a ((x a).mpr (.inl rfl)))) λc=>W9,λc hc=>hc.elim (λe=>.inl ((x c).mpr (.inl e))) λz=>(X c z).imp (λz=>(x c).mpr (.inr z)) id]
end
section
variable{K:QC}{Γ:Ev}{Ψ:PEv}
noncomputable abbrev V3(K:QC)(Γ:Ev)(Ψ:PEv)(p:PX):Prop:=∀{E:XE}{y:XK}{F H:Hp}{S:Ft}{h:yA}{x:St}{Q:TK}{R:VK},Rl K F H S h x->LF K F H S h E y->(pe Ψ p E).e h Q->sB K (vJ p) F H S h x Q R->(wp K Γ p y).e x H R
def lV(g:V3 K Γ Ψ p){Q:Bool->yA->Prop}(I:Rl K F H S ρ σ)(X:LF K F H S ρ E EK)(h:(pe Ψ p E).e ρ λt _ y=>cJ t.er λb=>Q b y)(k:cI K F H S ρ σ Q R) :
  (wp K Γ p EK).e σ H λx j=>yG K x j R :=
 g I X h λv m l i z t n Z s u r q=>aX (r.tr.rep u.fh) q λc a=>k c m l i z s u a
def PSnd.of_e(g:∀E ρ Q,(pe Ψ p E).t ρ Q=(pe Ψ p E).e ρ λt _ y=>cJ t.er λb=>Q b y)(z:∀EK σ H R,(wp K Γ p EK).t σ H R=(wp K Γ p EK).e σ H λx j=>yG K x j R)(i:∀E,(pe Ψ p E).a=IE.a)(u:V3 K Γ Ψ p):PSnd K Γ Ψ p where
 e:=u
 t:=λI X h k=>by rw[g]at h;rw[z];exact lV u I X h k
 a:=λI X _ h k=>by rw[i]at h;exact h.elim
def PSnd.of_0(x:∀E,(pe Ψ p E).t=IE.t)(z:∀E,(pe Ψ p E).a=IE.a)(y:V3 K Γ Ψ p):PSnd K Γ Ψ p where
 e:=y
 t:=λI X h k=>by rw[x]at h;exact h.elim
 a:=λI X _ h k=>by rw[z]at h;exact h.elim
def PSnd.of_t(n:∀E ρ Q,(pe Ψ p E).e ρ Q=(pe Ψ p E).t ρ λb z=>Q (.d (.bool b)) Kz z)(u:∀EK σ H R,(wp K Γ p EK).t σ H R=(wp K Γ p EK).e σ H λx r=>nS x r R)(o:∀E,(pe Ψ p E).a=IE.a)(i:∀{E:XE}{EK:XK}{F H:Hp}{S:Ft}{ρ:yA}{σ:St}{Q:Bool->yA->Prop}{R:VK},Rl K F H S ρ σ->LF K F H S ρ E EK->(pe Ψ p E).t ρ Q->cI K F H S ρ σ Q (λb=>R (.bl b))->(wp K Γ p EK).e σ H R):PSnd K Γ Ψ p where
 e:=λI X h k=>by rw[n]at h;exact i I X h λb m l j y s g q=>sB.d k s g (.bl b) q
 t:=λI X h k=>by rw[u];exact i I X h λb m l j y s g q=>k b m l j y s g q
 a:=λI X _ h k=>by rw[o]at h;exact h.elim
def vf(i:Nat):V3 K Γ Ψ (.var i):=by
 intro E m F H S y a Q R I X h k;have x:Uu y[i]? λt=>Q t Kz y:=h;show(match a[i]? with|some (jb v)=>R v H|_=>False);have u:∀s,y[i]?=jb (jb s)->Q s.t Kz y->(match a[i]? with|some (jb v)=>R v H|_=>False):=λs e q=>by let#[v,l,j]:=I.sl i _ e;rw[l];exact k v F H S y s.t Kz (S i) .refl I #[j.weak,λz=>(by cases z),λ_ b g=>#[i,s,qD.mpr rfl,e,g],λz=>(by cases z)] q
 unfold Uu at x;split at x;rename_i e;exact u _ e x;rename_i e;exact u _ e x;exact x.elim;exact x.elim
def ml{m:Mt}{v:V}{s:T}{H F:Hp}{Z:iA}(h:isMut m=j3)(x:UJ m s=j3)(r:Tr K F H j3 v s Z):C3 K m.ty v H:=by
 unfold UJ at x;split at x;let#[_,_,_,rfl,y,_,_,_,_]:=r.inv;refine .inl #[?_,_,mD.of y];cases m with|append=>rfl|extend=>rfl|insert=>rfl|_=>cases h
 cases x
def PSnd.bad(h:∀E,pe Ψ p E=IE):PSnd K Γ Ψ p:=#[λ_ _ q _=>by rw[h]at q;exact q.elim,λ_ _ q _=>by rw[h]at q;exact q.elim,λ_ _ _ q _=>by rw[h]at q;exact q.elim]
def Hv{m:Mt}{o C:PX}(io:PSnd K Γ Ψ o)(ia:PSnd K Γ Ψ C):V3 K Γ Ψ (.mt m o C):=by
 intro E EK F H S J M Q R I X h k;show(wp K Γ o EK).e M H λx L=>C3 K m.ty x L/\(wp K Γ C EK).a M L λvs Z=>Yd K m x vs Z R;cases hm:isMut m with
 |false =>
  have h:(pe Ψ o E).e J λx n N=>pR m (cA x n).vw=j3/\sq (cA x n) N ((pe Ψ C E).a []) λl y=>Yo m (cA x n).vw (YB l) λz k=>Q z k y:=by have B:(if isMut m=j3 then _ else _):=h;rw[hm,n7 (by simp)]at B;exact B
  refine So (P1:=λx n=>pR m (cA x n).vw=j3) (R1:=λv L=>C3 K m.ty v L) (RR:=λv vs Z=>Yd K m v vs Z R) io ia I X h (λv F' H' x n Za r p=>Iq r p) λv vs F' H' S' ρ' x n l Za Y s I' X' r _ tn q=>?_;rw[mK _ rfl]at q;exact ol s I' r tn q k
 |true =>
  have h:U5 (eV o) λj=>pE J[j]? λt=>UJ m t=j3/\(pe Ψ C E).a [] (J.set j (jb (.bor t))) λl y=>fF l=j3/\y[j]?=jb (jb (.bor t))/\lN m t (gE l) λr s'=>Q r j3 (y.set j (jb (.own s'))):=by have B:(if isMut m=j3 then _ else _):=h;rw[hm,n8 rfl]at B;exact B
  let#[j,rfl,h]:=X5 h;have h:pE J[j]? _:=h;unfold pE at h;split at h;rename_i t g;let#[ht,q1]:=h;let#[v0,hv,A]:=I.sl j _ g;have IL:=I.lock1 g;have n0:=I.lock1U g;have A:Tr K F H j3 v0 t (S j):=A;have XL:=X.lock1 g;show(match M[j]? with|some (jb v)=>_|_=>False);rw[hv];refine#[ml hm ht A,?_];refine ia.a (md:=[]) IL XL (λ_ g=>kH g) q1 λvs F2 Z S2 y l W Y O I2 G _ q2=>?_;let#[he,hj2,q2]:=q2;have r2:Tr K F2 Z j3 v0 t (S j):=O.toStp.keep A n0;have hw:=G.held;have trs:=G.av.trs ul he;have wS:∀b,S j b->¬ W b:=λb u hb2=>by rcases G.fr b hb2 with q|q;exact(A.dom b u).1 q;exact n0 b u q
  refine kd I2.fh r2 trs wS q2 λw r s' H3 S3 Zr hh dm P rr dz hf q=>?_;let#[st,I3,nw]:=oJ I g hv O I2 hh dm P (λb u=>hf b (.inl u)) hw G.fr;have zr:∀b,Zr b->S j b∨W b∨Z b=none:=λb u=>hf b (.inr u);refine k w F2 H3 _ _ r j3 Zr st I3 #[rr,λ_ b u=>?_,λz=>(by cases z),λ_ i sl e b u z=>?_] q;rcases zr b u with q|q|q
  ·exact .inr #[j,t,g,q]
  exact(G.fr b q).imp id (lock1U g);exact .inl (O.dm b q);rcases bA e with⟨rfl,_,_⟩| ⟨n,e⟩
  ·rw[IA]at z
   exact dz b u z
  rw[VA (Qz n)]at z;exact nw b (zr b u) i sl (Qz n) e z
  all_goals exact h.elim
def aK(h:ge (λ(p:Str×V) (q:Str×D)=>p.1=q.1/\∀F,Rep K F p.2 q.2) x y)(z:Str)(F:Hp) :
  (∀d,y.lookup z=jb d->∃v,x.lookup z=jb v/\Rep K F v d)/\Rep K F ((x.lookup z).getD .non) ((y.lookup z).getD .none):=by
 induction h with
 |nil=>exact#[λd e=>(by simp at e),.non]|@cons p q m j h t i =>
  let#[k,g]:=p;let#[b,l]:=q;let#[u,a]:=h;have u:k=b:=u;subst u;rw[Ql,Ql];cases e:z==k with|true=>exact#[λd e=>by cases e;exact#[g,rfl,a F],a F]|false=>exact i
def Tn.one1{Y:iA}{vs:LV}{x:D}(h:Tn K F H Y vs [.d x]):∃v,vs=[v]/\Rep K F v x:=by
 cases h with|cons r _ t=>cases t;let#[r,_]:=r.invd;exact#[_,rfl,r]
def Tn.two1{Y:iA}{vs:LV}{x y:D}(h:Tn K F H Y vs [.d x,.d y]):∃v w,vs=[v,w]/\Rep K F v x/\Rep K F w y:=by
 cases h with|cons r _ t=>let#[w,rfl,z]:=t.one1;let#[r,_]:=r.invd;exact#[_,w,rfl,r,z]
def Reps.rep(h:Reps K F vs x):∀(k:Nat),Reps K F (QK k vs).flatten (QK k x).flatten
 |0=>.nil|k+1=>by rw[Qs,Qs,qV,qV];exact h.append (Reps.rep h k)
def YZ(h:ge (λ(p:Str×V) (q:Str×D)=>p.1=q.1/\∀F,Rep K F p.2 q.2) x y)(l:y.lookup z=js):x.lookup z=none:=by
 induction h with
 |nil=>rfl|@cons p q j g h t a =>
  let#[u,m]:=p;let#[k,i]:=q;have b:u=k:=h.1;subst b;rw[Ql]at l ⊢;cases e:z==u with|true=>rw[e]at l;cases l|false=>rw[e]at l;exact a l
def Rep.exc_i{K:QC}{p:Int}(h:Rep K F v (FF x p)):∃a C y,v=.ref a/\F a=jb (.ext (dH C a y))/\F y=jb (.xd (JI p))/\ExC K C x:=by
 unfold FF at h;generalize hd:PyData.dict [(.none,.list [.str x,.int p])]=d at h;cases h with
 |exc g e b=>cases hd;exact#[_,_,_,rfl,g,e,b]|cls h=>cases hd|@dct a u i z _ _ _ =>
  cases u with
  |nil=>cases hd|cons k r=>cases z with|nil=>cases hd|cons d z=>cases hd
 |_=>cases hd
def Rep.cls_i{K:QC}(h:Rep K F v (IF x)):∃C,v=.ref C/\ExC K C x:=by
 unfold IF at h;generalize hd:PyData.dict [(.none,.str x)]=d at h;cases h with
 |exc g e b=>cases hd|cls h=>cases hd;exact#[_,rfl,h]|@dct a z u y _ _ _ =>
  cases z with
  |nil=>cases hd|cons k r=>cases y with|nil=>cases hd|cons d y=>cases hd
 |_=>cases hd
def d9:∀{ks ls:LS}{y x:List D},ks.9=y.9->ls.length=x.9->OI ks y=OI ls x->ks=ls/\y=x
 |[],[],[],[],_,_,_=>#[rfl,rfl]|[],_::_,[],_::_,_,_,h=>by cases h|_::_,[],_::_,[],_,_,h=>by cases h|k::ks,l::ls,d::y,e::x,h1,h2,h=>by let#[a,b]:=QAW h;let#[i,g]:=Wh a;let#[u,z]:=d9 (ks:=ks) (ls:=ls) (Wl h1) (Wl h2) b;exact#[by rw[PyData.str.inj i,u],by rw[g,z]]
def Rep.dct_i{K:QC}(h:Rep K F v (.dict (OI ks x)))(b:ks≠[])(hl:ks.9=x.9):∃a xs,v=.ref a/\F a=jb (.dK (pG ks xs))/\Reps K F xs x:=by
 cases ks with
 |nil=>exact n9 rfl b|cons k ks=>cases x with
  |nil=>cases hl|cons d x =>
   generalize hd:PyData.dict (OI (k::ks) (d::x))=y at h;cases h with|exc u z e=>cases hd|cls h=>cases hd|@dct a ls xs g u z r=>let#[rfl,rfl]:=d9 hl (z.trans r.9) (PyData.dict.inj hd);exact#[a,xs,rfl,u,r]|_=>cases hd
def CY{K:QC}(z:Str):∀{ks:LS}{xs:LV}{y:List D},Reps K F xs y->(∀d,(ks.zip y).lookup z=jb d->∃v,YF (pG ks xs) (.inr z)=jb v/\Rep K F v d)/\((ks.zip y).lookup z=js->YF (pG ks xs) (.inr z)=js)
 |[],_,_,_=>#[λd h=>(by cases h),λ_=>rfl]|_::_,_,_,.nil=>#[λd h=>(by cases h),λ_=>rfl]|k::ks,x::xs,d::y,.cons r t=>by
  have j:(∀d,(ks.zip y).lookup z=jb d->∃v,YF (pG ks xs) (.inr z)=jb v/\Rep K F v d)/\((ks.zip y).lookup z=js->YF (pG ks xs) (.inr z)=js):=CY z t;let#[a,b]:=j;by_cases e:z=k;subst e;have u:(((z::ks).zip (d::y)).lookup z)=jb d:=by simp[Ql]
  have g:YF (pG (z::ks) (x::xs)) (.inr z)=jb x:=uJ rfl;exact#[λl h=>#[x,g,by rw[u]at h;cases h;exact r],λh=>by rw[u]at h;cases h];have i:(z==k)=false:=by simpa using e
  have u:(((k::ks).zip (d::y)).lookup z)=(ks.zip y).lookup z:=by show wf z ((k,d)::ks.zip y)=_;rw[Ql,i]
  have g:YF (pG (k::ks) (x::xs)) (.inr z)=YF (pG ks xs) (.inr z):=bJ λq=>e (QDQ q).symm;rw[u,g];exact#[a,b]
def Sb{Q:TK}(g:GOk K Γ Ψ)(s:Ste F H S ρ E N S1 X)(I:Rl K E N S1 X σ)(i:Tn K E N Y vs ts)(h:HQ Ψ o ts λz n=>Q z n X)(k:sB K ws F H S ρ σ Q R):iZ K Γ o vs N R:=by
 cases o with
 |dget x=>let#[z,W,rfl,e,q]:=h;let#[v,rfl,r]:=i.one1;cases r.inv;let#[u,J,p]:=g.dc _ _ e;exact#[u,J,k.d s I (aK p _ E).2 q]|dix x=>let#[z,W,d,rfl,e,l,q]:=h;let#[v,rfl,r]:=i.one1;cases r.inv;let#[u,J,p]:=g.dc _ _ e;let#[v,O,b]:=(aK p _ E).1 d l;exact#[u,v,J,O,k.d s I b q]|dgetD x =>
  let#[z,d,W,rfl,e,q]:=h;let#[v,w,rfl,Z,b]:=i.two1;cases Z.inv;let#[u,J,p]:=g.dc _ _ e;refine#[u,J,k.d s I ?_ q];cases l:W.lookup z with|none=>rw[YZ p l];exact b|some d'=>let#[v',O,r']:=(aK p _ E).1 d' l;rw[O];exact r'
 |dgt=>let#[z,ks,M,d,rfl,#[hn,hl],hd,q]:=h;let#[v,w,rfl,Z,b]:=i.two1;cases b.inv;let#[a,xs,rfl,ha,G]:=Z.dct_i hn hl;let#[v,ev,rv]:=(CY (ks:=ks) z G).1 d hd;exact#[a,v,rfl,.inl #[_,.inr z,.inl (I.fh _ _ ha),rfl,ev.symm],k.d s I rv q]|plc=>let#[x,p,rfl,q]:=h;let#[v,rfl,r]:=i.one1;let#[a,C,L,rfl,B,A,j]:=r.exc_i;exact#[a,C,L,p,rfl,I.fh _ _ B,I.fh _ _ A,j.ex,k.d s I (.int _) q]|isC =>
  let#[x,p,z,rfl,q]:=h;let#[v,w,rfl,Z,b]:=i.two1;let#[a,C,L,rfl,B,A,j]:=Z.exc_i;let#[D,rfl,P]:=b.cls_i;refine .inr #[a,C,L,.ref D,_,rfl,I.fh _ _ B,#[_,I.fh _ _ A],j.ex,.inl #[D,rfl,P.ex,rfl],k.d (n:=Kz) s I (.bl _) ?_];have e:decide (D=C∨D=wOf K)=decide (z=x∨z="WorldError"):=by refine decide_eq_decide.mpr ?_;rw[j.inj P,P.isW]
  rw[e];exact q
 |isT y m=>let#[rfl,x,p,rfl,q]:=h;let#[v,rfl,r]:=i.one1;let#[a,C,L,rfl,B,A,j]:=r.exc_i;exact .inr #[a,C,L,.ty "ValueError",_,rfl,I.fh _ _ B,#[_,I.fh _ _ A],j.ex,.inr #[_,rfl,by decide +kernel,rfl],k.d s I (.bl _) q]|tmul =>
  let#[M,n,rfl,h0,#[B,A,j],q]:=h;let#[v,w,rfl,Z,b]:=i.two1;cases b.inv;let#[a,xs,rfl,hq,G]:=Z.inv;have hl:=G.9;refine#[xs,I.fh.tupl hq,λz=>h0 ?_,#[B,A,by rw[hl];exact j],λz=>?_,λz p hp=>k.tupD s I hp (G.rep _) q];subst z;exact Ww.mp hl.symm;subst z;have e:∀M:List D,(QK (wk 1) M).flatten=M:=λM=>by simp
  rw[e]at q;exact k.d s I (.tup hq G) q
section
variable{F H:Hp}
def xS:∀{xs:List (T×Bool)},jL xs=j3->∀t∈PD xs,t.isD=j3
 |[],_,t,h=>by simp[PD]at h|p::r,h,t,y=>by
  simp only[jL,Qc]at h;simp only[PD,QO]at y;rcases y with rfl|y;let#[x,n]:=p;cases n with
  |true=>rfl|false =>
   have z:=h.1;cases x with|d x=>rfl|_=>cases z
  exact xS h.2 t y
def Tn.bare(h:Tn K F H Y vs y):(∀t∈y,t.isD=j3)->Tn K F H (λ_=>False) vs y:=by
 induction h with
 |nil=>exact λ_=>.nil|@cons v t vs y Z r z b k =>
  intro hd;refine .cons (Z:=λ_=>False) ?_ (λ_ z=>z) (k λu a=>hd u (QI _ a));have hd:=hd t QL;cases t with
  |d x=>cases r with|d q _=>exact .d q λ_ z=>z
  |_=>cases hd
end
def rP:∀(u y:List (AD×V)),((y++u).map (·.1)).Nodup->vH y u=y++u
 |[],y,_=>by rw[Qe];rfl|(k,v)::r,y,h=>by
  have a:YF y k=none:=by unfold YF;rw[Option.map_eq_none_iff,List.find?_eq_none];intro x b z;have z:x.1=k:=pz z;rw[Q5,W7]at h;exact h.2.2 _ (Qa.mpr #[x,b,z]) _ (Qa.mpr #[(k,v),QL,rfl]) rfl
  show vH (CM y k v) r=_;rw[R5 v a,rP r _ (by rw[Q9];exact h),Q9];rfl
def lY{ks:LS}{xs:LV}(h:ks.9=xs.9):(pG ks xs).map (·.1)=ks.map λz=>(Sum.inr z:AD):=by unfold pG;exact List.map_fst_zip (by rw[QG,h];exact QX _)
def gY:∀(ks:LS) (xs:LV),(ks.map V.str).zip xs=(pG ks xs).map λh=>(kV h.1,h.2)
 |[],_=>rfl|_::_,[]=>rfl|k::ks,x::xs=>by show(V.str k,x)::(ks.map V.str).zip xs=(V.str k,x)::(pG ks xs).map _;rw[gY ks xs]
def Tn.keptD{K:QC}:∀{vs:LV}{xs:List (T×Bool)},Tn K F H Y vs (PD xs)->jL xs=j3->Reps K F vs (ersT (gE xs))
 |_,[],.nil,_=>.nil|_,(t,n)::xs,.cons r _ tn,h=>by
  have h:=jA h;refine .cons ?_ (Tn.keptD tn h.2);have r:Tr K F H Kz _ (cA t n) _:=r;cases n with
  |true=>cases r with|d q _=>exact q
  |false =>
   cases t with
   |d x=>cases r with|d q _=>exact q
   |_=>exact(QD h.1).elim
def Hm{ks:LS}{C:PX}(ia:PSnd K Γ Ψ C){E:XE}{EK:XK}{F H:Hp}{S:Ft}{ρ:yA}{σ:St}{Q:TK}{R:VK}{ws:LN}(I:Rl K F H S ρ σ)(X:LF K F H S ρ E EK)(h:(pe Ψ (.dsp ks C) E).e ρ Q)(k:sB K ws F H S ρ σ Q R):(wp K Γ (.dsp ks C) EK).e σ H R:=by
 intro p x;have M:Ste F H S ρ F (LA H p (.dK [])) S ρ:=Ste.refl.new x _;have I0:Rl K F (LA H p (.dK [])) S ρ σ:=I.new x _;refine IK ia I0 (X.from M.toStp) h λvs r L J a xs Y l m X1 tn _ zz=>?_;let#[#[nd,A,lx,ad],q]:=zz;have Z:¬ U ρ S p:=λ#[i,t,e,z]=>(I.dom e z).1 x;have B:L p=jb (.dK []):=l.hh p _ fA Z;have fp:F p=none:=I.fh.free x;have g:r p=none:=by
  by_cases z:r p=js;exact z;rcases l.fn p fp z with q|q
  ·exact(Z q).elim
  rw[fA]at q;cases q
 have N:=tn.keptD ad;have W:ks.9=vs.length:=by rw[N.9,vU,lx,iS]
 have np:∀(i:Nat) j,a[i]?=jb (jb j)->¬ J i p:=λi j e z=>by
  cases j with
  |own t=>rcases l.uu p ⟨i,t,e,z⟩ with q|q;exact Z q;rw[fA]at q;cases q
  |bor t =>
   cases hd:t.isD with|true=>exact m.isD e hd z|false=>let#[o,e2]:=l.bo i t e hd;rw[e2]at z;exact(I.dom o z).1 x
 refine#[B,pG ks vs,gY ks vs,?_,?_];have:=pu We (lY W);rw[QG,QG]at this;rw[this];exact A;rw[rP _ [] (by rw[Qu,lY W];exact QBG.mpr (nd.imp λh z=>h (QDQ z))),Qu];have s:=M.trans l;have O:∀{G:Hp}{b:kl}{u:HO},G b=jb u->G p=js->b≠p:=λe z=>CA e z;have s2:Ste F H S ρ (LA r p (.dK (pG ks vs))) (LA L p (.dK (pG ks vs))) J a:=#[#[λb u e=>by
   have o:=s.ff b u e;rw[vA (O o g)];exact o,λb u e n=>by
   rw[vA (O e x)];exact s.hh b u e n,λb e=>by
   by_cases z:b=p;rw[z];exact x;rw[vA z]at e;exact s.dm b e,λb e z=>by
   by_cases y:b=p;exact .inr (by rw[y];exact x);rw[vA y]at z;exact s.fn b e z,s.uu,s.bo],s.ow]
 have I2:Rl K (LA r p (.dK (pG ks vs))) (LA L p (.dK (pG ks vs))) J a σ:=#[λb u e=>by
   by_cases z:b=p;rw[z,fA]at e ⊢;exact e;rw[vA z]at e ⊢;exact m.fh b u e,m.len,λi j e=>by
   let#[w,g1,g2]:=m.sl i j e;refine#[w,g1,g2.mono (AB g) λb hb=>?_];have P:b≠p:=λz=>np i j e (z▸hb);exact#[vA P,by rw[vA P];exact(g2.dom b hb).2],m.dj]
 exact k.d s2 I2 (.dct fA W (N.mono (AB g))) q
def DA(g:GOk K Γ Ψ):∀(p:PX),PSnd K Γ Ψ p
 | .var i=>#[vf i,λI X h k=>lV (Γ:=Γ) (Ψ:=Ψ) (vf i) I X h k,λI X _ h k=>h.elim]|.int i=>#[λI X h k=>sB.d k .refl I (.int i) h,λI X h k=>k _ _ _ _ _ .refl I h,λI X _ h k=>h.elim]|.str x=>#[λI X h k=>sB.d k .refl I (.str x) h,λI X h k=>h.elim,λI X _ h k=>h.elim]|.bl b=>#[λI X h k=>sB.d k .refl I (.bl b) h,λI X h k=>k _ _ _ _ _ .refl I h,λI X _ h k=>h.elim]|.non=>#[λI X h k=>sB.d k .refl I .non h,λI X h k=>k _ _ _ _ _ .refl I h,λI X _ h k=>h.elim]|.glo x=>.of_e (λ_ _ _=>rfl) (λ_ _ _ _=>rfl) (λ_=>rfl) λ{E M F H S J G Q R} I X h k=>by have h:(match Ψ.va x with|some d=>Q (.d d) Kz J|none=>False):=h;split at h;rename_i d e;exact sB.d k .refl I (g.va x d e F) h;exact h.elim
 | .bty _ _=>.bad λ_=>rfl|.bin op a b=>.of_e (λ_ _ _=>rfl) (λ_ _ _ _=>rfl) (λ_=>rfl) λ{E M F H S J G Q R} I X h k =>
  rX (P:=λx n y m N=>binT op (cA x n).vw (cA y m).vw λz k=>Q z k N) (RR:=λx y H2=>Be K op x y H2 R) (DA g a) (DA g b) I X h λv w F' O S' A x n y m Za Zb s C X' ra _ rb q=>vn s C ra rb q k
 | .cmp op a b=>.of_t (λ_ _ _=>rfl) (λ_ _ _ _=>rfl) (λ_=>rfl) λ{E M F H S J G Q R} I X h k =>
  rX (P:=λx n y m N=>gU op x.er y.er λk=>Q k N) (RR:=λx y H2=>RH K op x y H2 R) (DA g a) (DA g b) I X h λv w F' O S' A x n y m Za Zb s C X' ra _ rb q =>
   EW (by have:=ra.rep C.fh;rwa [OJ]at this) (by have:=rb.rep C.fh;rwa [OJ]at this) q λc qc=>k c F' O S' A s C qc
 | .chn o p a b c=>.of_t (λ_ _ _=>rfl) (λ_ _ _ _=>rfl) (λ_=>rfl) λ{E M F H S J G Q R} I X h k =>
  rX (P:=λx n y m N=>gU o x.er y.er λk=>if k=j3 then sq (cA y m) N (cu (pe Ψ c E).e) λz ρ3=>gU p y.er z.1.er λk=>Q k ρ3 else Q Kz N)
   (RR:=λx y H2=>RH K o x y H2 λz H3=>nS z H3 λk H4=>if k=j3 then(wp K Γ c M).e G H4 λw' H5=>RH K p y w' H5 R else R (.bl Kz) H4) (DA g a) (DA g b) I X h
   λv w F' O S' A x n y m Za Zb s C X' ra _ rb q=>by
    refine EW (R:=λz H3=>nS z H3 λk H4=>if k=j3 then(wp K Γ c M).e G H4 λw' H5=>RH K p w w' H5 R else R (.bl Kz) H4) (by have:=ra.rep C.fh;rwa [OJ]at this) (by have:=rb.rep C.fh;rwa [OJ]at this) q λkb qc=>?_;cases kb with|false=>exact k Kz F' O S' A s C qc|true=>rw[n8 rfl]at qc;refine pj (RR:=λw' H5=>RH K p w w' H5 R) (DA g c) C X' qc λw2 F2 H2 S2 N z l Z s2 I2 kp _ r2 q2=>?_;have rb2:=(kp _ _ _ rb).rep I2.fh;rw[OJ]at rb2;exact EW rb2 (r2.tr.rep I2.fh) q2 λcb qb=>k cb F2 H2 S2 N (s.trans s2) I2 qb
 | .and a b=>#[λ{E M F H S J G Q R} I X h k=>by
   refine(DA g a).e (Q:=λx _ B=>Gn x.er λc=>if c=j3 then(pe Ψ b E).e B Q else Q (.d (.bool Kz)) Kz B) (R:=λx L=>nS x L λc H2=>if c=j3 then(wp K Γ b M).e G H2 R else R (.bl Kz) H2) I X h λv F' O S' A x n Z s C r q=>?_;refine P9 (r.tr.rep C.fh) q λc qc=>?_;cases c with|false=>exact sB.d k s C (.bl Kz) qc|true=>exact(DA g b).e C (X.from s.toStp) qc ((k.from s).vars λi hi=>Qg _ hi),
  λ{E M F H S J G Q R} I X h k=>by
   refine(DA g a).t (Q:=λc B=>if c=j3 then(pe Ψ b E).t B Q else Q Kz B) (R:=λc L=>if c=j3 then(wp K Γ b M).t G L R else R Kz L) I X h λc F' O S' A s C qc=>?_;cases c with|false=>exact k _ F' O S' A s C qc|true=>exact(DA g b).t C (X.from s.toStp) qc (cI.from k s),λI X _ h k=>h.elim]
 | .or a b=>#[λ{E M F H S J G Q R} I X h k=>by
   refine(DA g a).e (Q:=λx _ B=>Gn x.er λc=>if c=j3 then Q (.d (.bool j3)) Kz B else(pe Ψ b E).e B Q) (R:=λx L=>nS x L λc H2=>if c=j3 then R (.bl j3) H2 else(wp K Γ b M).e G H2 R) I X h λv F' O S' A x n Z s C r q=>?_;refine P9 (r.tr.rep C.fh) q λc qc=>?_;cases c with|true=>exact sB.d k s C (.bl j3) qc|false=>exact(DA g b).e C (X.from s.toStp) qc ((k.from s).vars λi hi=>Qg _ hi),
  λ{E M F H S J G Q R} I X h k=>by
   refine(DA g a).t (Q:=λc B=>if c=j3 then Q j3 B else(pe Ψ b E).t B Q) (R:=λc L=>if c=j3 then R j3 L else(wp K Γ b M).t G L R) I X h λc F' O S' A s C qc=>?_;cases c with|true=>exact k _ F' O S' A s C qc|false=>exact(DA g b).t C (X.from s.toStp) qc (cI.from k s),λI X _ h k=>h.elim]
 | .not a=>#[λ{E M F H S J G Q R} I X h k=>by
   refine(DA g a).e (Q:=λx _ B=>cJ x.er λc=>Q (.d (.bool (!c))) Kz B) (R:=λx L=>yG K x L λc H2=>R (.bl (!c)) H2) I X h λv F' O S' A x n Z s C r q=>?_;exact aX (r.tr.rep C.fh) q λc qc=>sB.d k s C (.bl _) qc,
  λ{E M F H S J G Q R} I X h k=>(DA g a).t (Q:=λc B=>Q (!c) B) (R:=λc L=>R (!c) L) I X h λc F' O S' A s C qc=>k _ F' O S' A s C qc,λI X _ h k=>h.elim]
 | .ife c a b=>.of_0 (λ_=>rfl) (λ_=>rfl) λ{E M F H S J G Q R} I X h k=>by
  refine(DA g c).t (Q:=λk B=>if k=j3 then(pe Ψ a E).e B Q else(pe Ψ b E).e B Q) (R:=λk L=>if k=j3 then(wp K Γ a M).e G L R else(wp K Γ b M).e G L R) I X h λc F' O S' A s C qc=>?_;cases c with|true=>exact(DA g a).e C (X.from s.toStp) qc ((k.from s).vars λi hi=>qJ _ hi)|false=>exact(DA g b).e C (X.from s.toStp) qc ((k.from s).vars λi hi=>Qg _ hi)
 | .call f as=>.of_e (λ_ _ _=>rfl) (λ_ _ _ _=>rfl) (λ_=>rfl) λ{E M F H S J G Q R} I X h k=>re g (DA g as) I X h k|.isi a c=>by
  have key:∀{E:XE}{M:XK}{F H:Hp}{S:Ft}{J:yA}{G:St}{Q:Bool->yA->Prop}{R:VK},Rl K F H S J G->LF K F H S J E M->(pe Ψ (.isi a c) E).t J Q->cI K F H S J G Q (λb=>R (.bl b))->(wp K Γ (.isi a c) M).e G H R:=by intro E M F H S J G Q R I X h k;refine(DA g a).e (Q:=λx _ B=>Ld c x.er λb=>Q b B) I X h λv F' O S' A x n Z s C r q=>?_;let#[z,n,rfl]:=Gd q;let#[b,h1,h2,q]:=q;exact om (r.tr.rep C.fh) h1 h2 (k b F' O S' A s C q)
  refine#[λI X h k=>key I X h λb F' O S' A s C q=>sB.d k s C (.bl b) q,λ{E M F H S J G Q R} I X h k=>?_,λI X _ h k=>h.elim];exact key (R:=λv L=>yG K v L R) I X h λb F' O S' A s C q=>k b F' O S' A s C q
 | .bi f as=>.of_e (λ_ _ _=>rfl) (λ_ _ _ _=>rfl) (λ_=>rfl) λ{E M F H S J G Q R} I X h k =>
  IK (P:=λxs B=>RO f (YB xs) λz k=>Q z k B) (RR:=λvs L=>zt K f vs L R) (DA g as) I X h λvs F' O S' A xs Y s C X' tn _ q=>by rw[mK _ rfl]at q;exact Xn s C tn q k
 | .prm o as=>.of_e (λ_ _ _=>rfl) (λ_ _ _ _=>rfl) (λ_=>rfl) λ{E M F H S J G Q R} I X h k =>
  IK (P:=λxs B=>HQ Ψ o (PD xs) λz k=>Q z k B) (RR:=λvs L=>iZ K Γ o vs L R) (DA g as) I X h λvs F' O S' A xs Y s C X' tn _ q=>Sb g s C tn q k
 | .mt m o as=>.of_e (λ_ _ _=>rfl) (λ_ _ _ _=>rfl) (λ_=>rfl) (Hv (DA g o) (DA g as))|.idx a b=>by
  have he:V3 K Γ Ψ (.idx a b):=λ{E M F H S J G Q R} I X h k =>
   rX (P:=λx n y m N=>BO (cA x n).vw (cA y m).vw λz=>Q z Kz N) (RR:=λx y H2=>N5 K x y H2 R) (DA g a) (DA g b) I X h λv w F' O S' A x n y m Za Zb s C X' ra za rb q=>idx_ok s C ra za rb q k
  exact#[he,λI X h k=>lV he I X h k,λI X _ h k=>h.elim]
 | .slc a lo hi=>.of_0 (λ_=>rfl) (λ_=>rfl) λ{E M F H S J G Q R} I X h k=>by
  have part:∀(p:PX),PSnd K Γ Ψ p->∀{F H:Hp}{S:Ft}{J:yA}{x:T}{P:Option Int->yA->Prop}{RP:Option Int->Hp->Prop},Rl K F H S J G->LF K F H S J E M ->
    sq (α:=Option Int) x J (if isNop p=j3 then λJ (R:Option Int->yA->Prop)=>R js J else λJ R=>(pe Ψ p E).e J λl _ N=>vE l.er λo=>R o N) P ->
    (∀o F' O S' A,Ste F H S J F' O S' A->Rl K F' O S' A G->(∀st v Zx,Tr K F H st v x Zx->Tr K F' O st v x Zx)->P o A->RP o O) ->
    (if isNop p=j3 then λ(R:Option Int->Hp->Prop)=>R js H else λR=>(wp K Γ p M).e G H λl H2=>TM l H2 R) RP:=by
   intro p ip F H S J x P RP I X h k;cases hn:isNop p with
   |true=>simp only[hn,if_true]at h ⊢;refine k js F H S J .refl I (λ_ _ _ r=>r) ?_;unfold sq at h;split at h<;>exact h|false =>
    simp only[hn,Qo,if_false]at h ⊢;have h2:sq x J (cu (pe Ψ p E).e) λy A=>vE y.1.er λo=>P o A:=by unfold sq at h ⊢;exact h
    refine pj ip I X h2 λw F' O S' A y m Z s C kp _ r q=>Zc (r.tr.rep C.fh) q λo qo=>k o F' O S' A s C kp qo
  refine IG (DA g a) I X h λv F1 L S1 B x n Za s1 I1 X1 r1 _ z1 h1=>?_;refine part lo (DA g lo) I1 X1 h1 λl F2 H2 S2 N s2 I2 k2 h2=>?_;refine part hi (DA g hi) I2 (X1.from s2.toStp) h2 λu F3 H3 S3 ρ3 s3 I3 k3 h3=>?_;exact Jj (s1.trans (s2.trans s3)) I3 (k3 _ _ _ (k2 _ _ _ r1)) h3 k
 | .nop=>.bad λ_=>rfl|.dsp ks as=>.of_0 (λ_=>rfl) (λ_=>rfl) λ{E M F H S J G Q R} I X h k=>Hm (DA g as) I X h k|.lst as=>.of_0 (λ_=>rfl) (λ_=>rfl) λ{E M F H S J G Q R} I X h k=>by refine(DA g as).a (md:=[]) (R:=λxs L=>xs.9<=ke/\∀p,L p=js->R (.ref p) (LA L p (.lst xs))) I X (λ_ hj=>kH hj) h λvs F' O S' A xs W Y s C r _ q=>?_;exact#[by rw[r.av.9];exact q.2.1,λp hp=>sB.list k s C hp (r.av.trs ul q.1) r.fr r.held q.2.2]|.tup as=>.of_0 (λ_=>rfl) (λ_=>rfl) λ{E M F H S J G Q R} I X h k=>by refine(DA g as).a (md:=[]) (R:=λxs L=>xs.9<=ke/\∀p,L p=js->R (.ref p) (LA L p (.tup xs))) I X (λ_ hj=>kH hj) h λvs F' O S' A xs W Y s C r _ q=>?_;exact#[by rw[r.av.9];exact q.2.1,λp hp=>sB.tup k s C hp (r.av.trs ul q.1) r.fr r.held q.2.2]|.comp mask tgs tg ik its cond elt=>.of_0 (λ_=>rfl) (λ_=>rfl) λ{E M F H S J G Q R} I X h k=>by
  refine IK (RR:=λvs L=>NB K ik vs L λxs st H2=>aQ K xs st tg (if isNop cond=j3 then λ_ H Q=>Q j3 H else(wp K Γ cond (λ_ _ _=>False)).t) (wp K Γ elt (λ_ _ _=>False)).e (sG tgs.9 mask G) H2 R) (DA g its) I X h λvs F1 L S1 B xs Y s1 I1 X1 tn tm q1=>?_;rw[mK _ rfl]at q1;refine HH I1.fh tn q1 λxs ys st pr hst hc=>?_;refine e9 (us:=vJ elt) ?_ ?_ s1 I1 pr (λb hb=>?_) hst hc k;intro F H S J G Q R I h k;cases hn:isNop cond with|true=>simp only[hn,if_true]at h ⊢;exact k j3 F H S J .refl I h|false=>simp only[hn,Qo,if_false]at h ⊢;exact(DA g cond).t I LF.never h k
  intro F H S J G Q R I h k;exact(DA g elt).e I LF.never h k;let#[i,sl,_,h2,h3]:=tm b hb;exact I1.dom h2 h3
 | .eff p=>by
  cases p with
  |comp mask tgs tg ik its cond elt=>refine .of_0 (λ_=>rfl) (λ_=>rfl) λ{E M F H S J G Q R} I X h k=>?_;let#[#[hc,hm,ht],h]:=h;refine IK (RR:=λvs L=>NB K ik vs L λxs st H2=>aQ K xs st tg (if isNop cond=j3 then λ_ H Q=>Q j3 H else(wp K Γ cond (λ_ _ _=>False)).t) (wp K Γ elt (λ_ _ _=>False)).e (sG tgs.9 mask G) H2 R) (DA g its) I X h λvs F1 L S1 B xs Y s1 I1 X1 tn tm q1=>?_;let#[ha,q1]:=q1;rw[mK _ rfl]at q1;have tn':=tn.bare (xS ha);refine HH I1.fh tn' q1 λxs ys st pr hst hc'=>?_;rw[n8 hc];refine i9 (us:=vJ elt) (λj hj=>by simpa using Qr.mp ht j hj) (λb hb=>by simpa using Qr.mp hm b hb) ?_ s1 I1 pr (λF' O e1 e2=>hst F' O e1 e2 λb z=>z.elim) hc' k;intro F H S J G Q R I h k;exact(DA g elt).e I LF.never h k|slc a lo hi =>
   cases lo with
   |nop =>
    cases hi with
    |int i =>
     refine .of_0 (λ_=>rfl) (λ_=>rfl) λ{E M F H S J G Q R} I X h k=>?_;show(wp K Γ a M).e G H λx L=>Bu K x js (jb i) L R;refine IG (DA g a) I X h λv F1 L S1 B x n Zx s1 I1 X1 _ er1 _ zz=>?_;let#[he,ds,ed,q]:=zz;have rx:=er1 he;rw[ed]at rx;let#[_,_,rfl,hp,rp]:=rx.inv;rename_i b vs _;have hl:=rp.9;by_cases w:HT.sIx vs.9 0 js=0/\HT.sIx vs.9 vs.9 (jb i)=vs.9;refine .inr (.inr #[b,vs,rfl,I1.fh.tupl hp,w,?_]);have ec:ZE ds js (jb i)=ds:=by unfold ZE;rw[hl]at w;rw[w.1,w.2,List.drop_zero,Nat.sub_zero,List.take_length]
     rw[ec]at q;exact sB.d k s1 I1 (.tup hp rp) q;exact .inr (.inl #[b,vs,rfl,I1.fh.tupl hp,w,λl hl=>k.tupD s1 I1 hl (rp.cut _ _) q])
    |_=>exact .bad λ_=>rfl
   |_=>exact .bad λ_=>rfl
  |_=>exact .bad λ_=>rfl
 | .anil=>#[λI X h k=>h.elim,λI X h k=>h.elim,λ{E M F H S J G md Q R} I X _ h k=>k [] F H S J [] (λ_=>False) (λ_=>False) .refl I #[.nil λ_ z=>z,λ_ z=>z.elim,λ_ z=>z.elim,λ_ _ _ _ z=>z.elim] (by cases md with|nil=>rfl|cons m r=>cases m<;>rfl) h]
 | .acons a as=>#[λI X h k=>h.elim,λI X h k=>h.elim,λ{E M F H S J G md Q R} I X hm h k=>by
  show(wp K Γ a M).e G H λx L=>(wp K Γ as M).a G L λxs H2=>R (x::xs) H2;have vr2:∀i∈vJ as,i∈vJ (.acons a as):=λi hi=>Qg _ hi;cases hmd:(md.headD .fro).isMut with
  |true =>
   have h2:C8 a=j3/\(pe Ψ as E).a md.tail J λxs B=>Q ((.d .none,j3)::xs) B:=by have h3:(if(md.headD .fro).isMut=j3 then _ else _):=h;rw[hmd,n8 rfl]at h3;exact h3
   obtain⟨m,md',rfl⟩:∃m md',md=m::md':=by
    cases md with|nil=>cases hmd|cons m md'=>exact#[m,md',rfl]
   have em:m=.chg:=by have hmd:m.isMut=true:=hmd;cases m<;>first|rfl|cases hmd
   subst em;let#[j,rfl]:=Sa h2.1;let#[v,hv]:=hm j (show j∈j::dA md' as from QL);show(match G[j]? with|some (jb v)=>_|_=>False);rw[hv];refine(DA g as).a I X (λi hi=>hm i (QI _ hi)) h2.2 λvs F' O S' A xs W Y s C r mv q=>?_;refine k (v::vs) F' O S' A _ W Y s C #[.chg hmd r.av,r.fr,(r.vars vr2).tm,r.nw] ?_ q;show(jb (jb v))::(vB md' vs).map _=G[j]?::(dA md' as).map _;have mv:(vB md' vs).map (λv=>jb (jb v))=(dA md' as).map (λj=>G[j]?):=mv;rw[hv,mv]
  |false =>
   have h2:(pe Ψ a E).e J λx n B=>sq (α:=List (T×Bool)) (if n=j3 then .d .none else x) B ((pe Ψ as E).a md.tail) λxs N=>Q ((x,n)::xs) N:=by have h3:(if(md.headD .fro).isMut=j3 then _ else _):=h;rw[hmd,n7 (by simp)]at h3;exact h3
   have hroots:dA md (.acons a as)=dA md.tail as:=by
    cases md with|nil=>exact vP.symm▸rfl|cons m md'=>have hmd:m.isMut=false:=hmd;cases m<;>first|rfl|cases hmd
   have hmv:∀v vs,vB md (v::vs)=vB md.tail vs:=λv vs=>by unfold vB;generalize md.headD .fro=m at hmd;cases m<;>first | (cases vs<;>rfl)|cases hmd
   refine(DA g a).e I X h2 λv F1 L S1 B x n Z s1 I1 r1 q1=>?_;refine Bp (DA g as) I1 (X.from s1.toStp) (λi hi=>hm i (by rw[hroots];exact hi)) q1 λvs F2 H2 S2 N xs W Y s2 I2 kp hs r2 mv q2=>?_;have s12:=s1.trans s2;have r2':=(r2.from s1.toStp).vars vr2;have mv':(vB md (v::vs)).map (λv=>jb (jb v))=(dA md (.acons a as)).map (λj=>G[j]?):=by rw[hroots,hmv];exact mv
   cases n with
   |true =>
    have hd:=r1.held;have hd2:=hd.step s2.toStp I2;refine k (v::vs) F2 H2 S2 N _ (λb=>Z b∨W b) Y s12 I2 #[.new hmd (s2.toStp.keep r1.tr hd.nu) r2.av (λb hb hw=>?_) λb=>W9,λb hb=>?_,r2'.tm,λi sl e b hb=>?_] mv' q2;rcases r2.fr b hw with q|q
    ·exact(hd.dom b hb).1 q
    exact hd.nu b hb q;rcases hb with hb|hb
    ·exact r1.fr rfl b hb
    exact r2'.fr b hb;rcases hb with hb|hb
    ·exact hd2.nw i sl e b hb
    exact r2.nw i sl e b hb
   |false =>
    have za:∀b,Z b->∃(i:Nat) (s:Sl),i∈vJ a/\N[i]?=jb (jb s)/\S2 i b:=by
     cases hd:x.isD with
     |true =>
      intro b hb;exfalso;have tr:=r1.tr;cases x with
      |d x=>cases tr with|d r n=>exact n b hb
      |_=>cases hd
     |false=>let#[e1,e2]:=hs hd;rw[e1,e2];exact r1.tm rfl
    refine k (v::vs) F2 H2 S2 N _ W (λb=>Z b∨Y b) s12 I2 #[.tmp hmd (kp _ _ _ r1.tr) (λb hb=>.inl hb) (r2.av.sub λb hb=>.inr hb),r2'.fr,λb hb=>?_,r2.nw] mv' q2;rcases hb with hb|hb;let#[i,sl,h1,h2]:=za b hb;exact#[i,sl,qJ _ h1,h2];exact r2'.tm b hb]
end
structure Sts(C J:LN)(F H:Hp)(S:Ft)(ρ:yA)(σ:St)(F' H':Hp)(S':Ft)(ρ':yA)(σ':St):Prop where
 ff:Same F F'
 hh:∀b u,H b=jb u->¬ U ρ S b->H' b=jb u
 dm:∀b,H' b=js->H b=js
 fn:∀b,F b=js->F' b≠js->U ρ S b∨H b=js
 uu:∀b,U ρ' S' b->U ρ S b∨H b=js
 bo:∀(j:Nat) t,j∉J->ρ'[j]?=jb (jb (.bor t))->t.isD=Kz->ρ[j]?=jb (jb (.bor t))/\S' j=S j/\σ'[j]?=σ[j]?
 sg:∀j∈C,σ'[j]?=σ[j]?
structure Stc(C:LN)(F H:Hp)(S:Ft)(ρ:yA)(σ:St)(F' H':Hp)(S':Ft)(ρ':yA)(σ':St):Prop where
 ff:Same F F'
 hh:∀b u,H b=jb u->¬ U ρ S b->H' b=jb u
 dm:∀b,H' b=js->H b=js
 fn:∀b,F b=js->F' b≠js->U ρ S b∨H b=js
 uu:∀b,U ρ' S' b->U ρ S b∨H b=js
 sg:∀j∈C,σ'[j]?=σ[j]?
section
variable{K:QC}{Γ:Ev}{Ψ:PEv}{E:XE}{EK:XK}{F H p X B L:Hp}{S S1 G:Ft}{ρ g Y:yA}{σ m A:St}{C J:LN}
def Stp.sts(s:Stp F H S ρ p X S1 g):Sts C J F H S ρ σ p X S1 g σ:=#[s.ff,s.hh,s.dm,s.fn,s.uu,λj t _ e h=>let#[y,x]:=s.bo j t e h;#[y,x,rfl],λ_ _=>rfl]
def Sts.refl:Sts C J F H S ρ σ F H S ρ σ:=Stp.refl.sts
def Sts.trans(a:Sts C J F H S ρ σ p X S1 g m)(b:Sts C [] p X S1 g m B L G Y A):Sts C J F H S ρ σ B L G Y A where
 ff:=a.ff.trans b.ff
 hh:=λx u h n=>b.hh x u (a.hh x u h n) λz=>by rcases a.uu x z with q|q;exact n q;rw[q]at h;cases h
 dm:=λx h=>a.dm x (b.dm x h)
 fn:=λx h z=>by
  by_cases q:p x=js;rcases b.fn x q z with w|w
  ·exact a.uu x w
  exact .inr (a.dm x w);exact a.fn x h q
 uu:=λx h=>by rcases b.uu x h with w|w;exact a.uu x w;exact .inr (a.dm x w)
 bo:=λj t y h n=>by let#[r,o,l]:=b.bo j t (by simp) h n;let#[i,e,k]:=a.bo j t y r n;exact#[i,o.trans e,l.trans k]
 sg:=λj y=>(b.sg j y).trans (a.sg j y)
def Sts.c(s:Sts C J F H S ρ σ p X S1 g m):Stc C F H S ρ σ p X S1 g m:=#[s.ff,s.hh,s.dm,s.fn,s.uu,s.sg]
def Stc.trans(a:Stc C F H S ρ σ p X S1 g m)(b:Stc C p X S1 g m B L G Y A):Stc C F H S ρ σ B L G Y A where
 ff:=a.ff.trans b.ff
 hh:=λx u h n=>b.hh x u (a.hh x u h n) λz=>by rcases a.uu x z with q|q;exact n q;rw[q]at h;cases h
 dm:=λx h=>a.dm x (b.dm x h)
 fn:=λx h z=>by
  by_cases q:p x=js;rcases b.fn x q z with w|w
  ·exact a.uu x w
  exact .inr (a.dm x w);exact a.fn x h q
 uu:=λx h=>by rcases b.uu x h with w|w;exact a.uu x w;exact .inr (a.dm x w)
 sg:=λj y=>(b.sg j y).trans (a.sg j y)
def LF.fromS(h:LF K F H S ρ E EK)(s:Sts C J F H S ρ σ p X S1 g m):LF K p X S1 g E EK:=λx k B L G Y y f r q =>
 h x k B L (λ_ _=>False) [] #[s.ff.trans y.ff,λb u e n=>y.hh b u (s.hh b u e n) (λz=>(s.uu b z).elim n λw=>(by rw[w]at e;cases e)),λb e=>s.dm b (y.dm b e),λb e z=>by
  by_cases q:p b=js;rcases y.fn b q z with w|w
  ·exact s.uu b w
  exact .inr (s.dm b w);exact s.fn b e q,λb zz=>by let#[i,t,e,_]:=zz;simp at e,λj t e=>by simp at e] f r q
structure EndsOk(K:QC)(C:LN)(F H:Hp)(S:Ft)(ρ:yA)(σ:St)(Z:PEnds)(Dn:Ends):Prop where
 nx:∀F' H' S' ρ' σ',Sts C [] F H S ρ σ F' H' S' ρ' σ'->Rl K F' H' S' ρ' σ'->Z.nx ρ'->Dn.nx σ' H'
 rt:∀v t W F' H' S' ρ' σ',Stc C F H S ρ σ F' H' S' ρ' σ'->Rl K F' H' S' ρ' σ'->Tr K F' H' j3 v t W->Held F' H' S' ρ' W->(∀b,W b->H b=js∨U ρ S b)->Z.rt t ρ'->Dn.rt v H'
 bk:∀F' H' S' ρ' σ',Sts C [] F H S ρ σ F' H' S' ρ' σ'->Rl K F' H' S' ρ' σ'->Z.bk ρ'->Dn.bk σ' H'
 ct:∀F' H' S' ρ' σ',Sts C [] F H S ρ σ F' H' S' ρ' σ'->Rl K F' H' S' ρ' σ'->Z.ct ρ'->Dn.ct σ' H'
def mx(s:Sts C J F H S ρ σ p X S1 g m){W:iA}(fr:∀b,W b->X b=js∨U g S1 b):∀b,W b->H b=js∨U ρ S b:=λb h=>by rcases fr b h with q|q;exact .inl (s.dm b q);exact(s.uu b q).symm
def EndsOk.from(ok:EndsOk K C F H S ρ σ Z b)(s:Sts C [] F H S ρ σ p X S1 g m):EndsOk K C p X S1 g m Z b :=
 #[λa k u y x z I q=>ok.nx a k u y x (s.trans z) I q,λv t W a k u y x z I r h fr q=>ok.rt v t W a k u y x (s.c.trans z) I r h (mx s fr) q,
  λa k u y x z I q=>ok.bk a k u y x (s.trans z) I q,λa k u y x z I q=>ok.ct a k u y x (s.trans z) I q]
def Sts.setD(s:Sts C J F H S ρ σ p X S1 g m)(i:Nat)(k:i∉C)(v:V){t:T}(z:t.isD=j3)(Z:iA):Sts C J F H S ρ σ p X (NH S1 i Z) (g.set i (jb (.bor t))) (m.set i (jb v)) :=
 #[s.ff,s.hh,s.dm,s.fn,λb zz=>by
  let#[j,u,x,y]:=zz
  rcases bA x with⟨_,e,_⟩| ⟨n,x⟩
  cases e;rw[VA (Qz n)]at y;exact s.uu b #[j,u,x,y],
 λj u h e hd=>by
  rcases bA e with⟨_,e,_⟩| ⟨n,e⟩
  injection e with e;injection e with e;subst e;rw[z]at hd;cases hd;rw[VA (Qz n),VF n];exact s.bo j u h e hd,
 λj h=>by have n:i≠j:=λe=>k (e▸h);rw[VF n];exact s.sg j h]
def Rl.setD(I:Rl K F H S ρ σ)(i:Nat)(r:Rep K F v x):Rl K F H (NH S i λ_=>False) (ρ.set i (bD x)) (σ.set i (jb v)) :=
 I.setB i (.d r λ_ z=>z) λ_ _ _ _ _ z=>z.elim
def Rl.setN(I:Rl K F H S ρ σ)(i:Nat)(r:Tr K F H j3 v t Z)(a:∀(j:Nat) s,j≠i->ρ[j]?=jb (jb s)->∀b,Z b->¬ S j b):Rl K F H (NH S i Z) (ρ.set i (jb (.own t))) (σ.set i (jb v)) where
 fh:=I.fh
 len:=by simpa using I.len
 sl:=λj s h=>by
  rcases bA h with⟨rfl,e,hl⟩| ⟨l,h⟩
  cases e;exact#[v,FX (by rw[<- I.len];exact hl),by rw[IA];exact r];rw[VF l,VA (Qz l)];exact I.sl j s h
 dj:=λj k o s n u x b y hk=>by
  rcases bA u with⟨e,_,_⟩| ⟨q,u⟩
  subst e;rw[IA]at y;rcases bA x with⟨e,_,_⟩| ⟨z,x⟩
  exact n e;rw[VA (Qz z)]at hk;exact a k s (Qz z) x b y hk;rw[VA (Qz q)]at y;rcases bA x with⟨e,_,_⟩| ⟨z,x⟩
  subst e;rw[IA]at hk;exact a j _ n u b hk y;rw[VA (Qz z)]at hk;exact I.dj j k o s n u x b y hk
def Sts.setN(s:Sts C J F H S ρ σ p X S1 g m)(i:Nat)(z:i∉C)(v:V)(t:T){Z:iA}(fr:∀b,Z b->H b=js∨U ρ S b):Sts C J F H S ρ σ p X (NH S1 i Z) (g.set i (jb (.own t))) (m.set i (jb v)) :=
 #[s.ff,s.hh,s.dm,s.fn,λb zz=>by
  let#[j,u,y,x]:=zz
  rcases bA y with⟨rfl,_,_⟩| ⟨n,y⟩
  rw[IA]at x;exact(fr b x).symm;rw[VA (Qz n)]at x;exact s.uu b #[j,u,y,x],
 λj u h e hd=>by
  rcases bA e with⟨_,e,_⟩| ⟨n,e⟩
  cases e;rw[VA (Qz n),VF n];exact s.bo j u h e hd,
 λj h=>by have n:i≠j:=λe=>z (e▸h);rw[VF n];exact s.sg j h]
def VR.strict(r:VR K h H S ρ p X S1 g v t n Z)(e:LG t n=j3):∃W,Tr K p X j3 v t W/\Held p X S1 g W/\∀b,W b->H b=js∨U ρ S b:=by
 cases n with
 |true=>exact#[Z,r.tr,r.held,r.fr rfl]|false =>
  have y:=r.tr;cases t with
  |d x=>cases y with|d q _=>exact#[λ_=>False,.d q λ_ z=>z,.none,λ_ z=>z.elim]
  |_=>cases e
def Rl.frz1(I:Rl K F H S ρ σ)(x:ρ[i]?=jb (jb (.own t))):Rl K (jF F H (S i)) H (NH S i λ_=>False) (ρ.set i (bD t.er)) σ/\Sts C [] F H S ρ σ (jF F H (S i)) H (NH S i λ_=>False) (ρ.set i (bD t.er)) σ:=by
 let#[v,hv,r]:=I.sl i _ x;have a:=CD (H:=H) λb (h:S i b)=>(r.dom b h).2;have O:Rl K F H S (ρ.set i js) σ:=I.drop (by simp) λj s e=>by
  rcases bA e with⟨_,z,_⟩| ⟨_,e⟩
  cases z;exact e
 have Z:Held F H S (ρ.set i js) (S i):=#[r.dom,λj s e b h z=>by
  rcases bA e with⟨_,q,_⟩| ⟨n,e⟩
  cases q;exact I.dj i j t s n x e b h z]
 have N:=O.frz Z;have o:Rep K (jF F H (S i)) v t.er:=Tr.kept a r λb u h e=>by rw[kD h];exact e
 have l:=N.setD i o;have M:(ρ.set i js).set i (bD t.er)=ρ.set i (bD t.er):=by simp
 have W:σ.set i (jb v)=σ:=by apply wY;intro j;rw[wZ];split;rename_i e;subst e;split;exact hv.symm;rename_i n;rw[qP ()];rfl
 rw[M,W]at l;refine#[l,#[a,λb u e _=>e,λb e=>e,λb e z=>.inl ?_,λb #[j,u,y,k]=>.inl ?_,λj u _ e hd=>?_,λ_ _=>rfl]];by_cases h:S i b
 ·exact#[i,t,x,h]
 rw[xB h]at z;exact n9 e z;rcases bA y with⟨_,q,_⟩| ⟨n,y⟩
 ·cases q
 rw[VA (Qz n)]at k;exact#[j,u,y,k];rcases bA e with⟨_,q,_⟩| ⟨n,e⟩
 ·injection q with q;injection q with q;subst q;cases hd
 exact#[e,VA (Qz n),rfl]
def pP:ρ.modify i f=match ρ[i]? with|some o=>ρ.set i (f o)|none=>ρ:=by
 apply wY;intro j;rw[QAO];cases h:ρ[i]? with|none=>simp only;by_cases e:i=j;subst e;simp[h];simp[e]|some o=>simp only;rw[wZ];by_cases e:i=j;subst e;let#[hl,rfl]:=QZ.mp h;simp[hl];simp[e]
def RE{α:Type}{l:List α}{i:Nat}{o:α}(h:l[i]?=jb o):l.set i o=l:=by apply wY;intro j;rw[wZ];split;rename_i e;subst e;rw[n8 (QZ.mp h).1,h];rfl
def Rl.frzE1(I:Rl K F H S ρ σ)(k:ρ[i]?=jb (jb (.own (.lst y)))):∃F' S',Rl K F' H S' (ρ.set i (jb (.own (.lst (y.map λt=>.d t.er))))) σ/\Sts C [] F H S ρ σ F' H S' (ρ.set i (jb (.own (.lst (y.map λt=>.d t.er))))) σ:=by
 let#[v,hv,r]:=I.sl i _ k;have r:Tr K F H j3 v (.lst y) (S i):=r;cases r with
 |@lst _ a vs _ _ W hH hF N P q =>
  have dm:∀b,W b->H b≠js/\F b=none:=λb x=>I.dom k ((q b).mpr (.inr x));have Z:=CD (H:=H) λb x=>(dm b x).2;have I0:Rl K F H S (ρ.set i js) σ:=I.drop (by simp) λj s e=>by
   rcases bA e with⟨_,z,_⟩| ⟨_,e⟩
   cases z;exact e
  have R:Held F H S (ρ.set i js) W:=#[dm,λj s e b x z=>by
   rcases bA e with⟨_,q,_⟩| ⟨n,e⟩
   cases q;exact I.dj i j _ s n k e b ((q b).mpr (.inr x)) z]
  have O:Tr K (jF F H W) H j3 (.ref a) (.lst (y.map λt=>.d t.er)) (λb=>b=a):=by
   have:=Trs.of_reps (F:=jF F H W) (H:=H) (st:=j3) (Trs.kept Z N λb u x e=>by rw[kD x];exact e);have e:∀y:LT,(ersT y).map T.d=y.map λt=>T.d t.er:=λy=>by
    induction y with|nil=>rfl|cons t y Q=>rw[ersT,QR,QR,Q]
   rw[e]at this;exact .lst hH (by rw[xB P];exact hF) this (λz=>z) λb=>#[.inl,λz=>z.elim id λz=>z.elim]
  have M:=(I0.frz R).setO i hv O λj s n h b x z=>by
   rcases bA h with⟨_,q,_⟩| ⟨n,e⟩
   cases q;exact I.dj i j _ s n k e b ((q b).mpr (.inl x)) z
  rw[List.set_set]at M;refine#[_,_,M,Z,λb u e _=>e,λb e=>e,λb e z=>.inl ?_,λb #[j,u,o,l]=>.inl ?_,λj u _ e hd=>?_,λ_ _=>rfl];by_cases x:W b
  ·exact#[i,_,k,(q b).mpr (.inr x)]
  rw[xB x]at z;exact n9 e z;rcases bA o with⟨rfl,_,_⟩| ⟨n,o⟩
  ·rw[IA]at l
   exact#[_,_,k,(q b).mpr (.inl l)]
  rw[VA (Qz n)]at l;exact#[j,u,o,l];rcases bA e with⟨_,q,_⟩| ⟨n,e⟩
  ·cases q
  exact#[e,VA (Qz n),rfl]
def Rl.frzEm(I:Rl K F H S ρ σ)(i:Nat):∃F' S',Rl K F' H S' (ρ.modify i CO) σ/\Sts C [] F H S ρ σ F' H S' (ρ.modify i CO) σ:=by
 rw[pP]
 match h:ρ[i]? with
 |none=>exact#[F,S,I,.refl]|some (jb (.own (.lst ts)))=>exact I.frzE1 h|some (jb (.own (.d x)))=>simp only[CO,RE h];exact#[F,S,I,.refl]|some (jb (.own (.tup x)))=>simp only[CO,RE h];exact#[F,S,I,.refl]|some (jb (.own (.dct x y)))=>simp only[CO,RE h];exact#[F,S,I,.refl]|some (jb (.bor x))=>simp only[CO,RE h];exact#[F,S,I,.refl]|some js=>simp only[CO,RE h];exact#[F,S,I,.refl]
def Rl.frzAt:∀(x:LN) {F:Hp}{S:Ft}{ρ:yA},Rl K F H S ρ σ->∃F' S',Rl K F' H S' (frzAt x ρ) σ/\Sts C [] F H S ρ σ F' H S' (frzAt x ρ) σ
 |[],F,S,ρ,I=>#[F,S,I,.refl]|i::x,F,S,ρ,I=>by
  have one:∃p S1,Rl K p H S1 (ρ.modify i BW) σ/\Sts C [] F H S ρ σ p H S1 (ρ.modify i BW) σ:=by
   rw[pP];cases h:ρ[i]? with
   |none=>exact#[F,S,I,.refl]|some o =>
    cases o with
    |none=>have e:ρ.set i (BW js)=ρ:=RE h;simp only[e];exact#[F,S,I,.refl]|some y =>
     cases y with|bor t=>have e:ρ.set i (BW (jb (.bor t)))=ρ:=RE h;simp only[e];exact#[F,S,I,.refl]|own t=>exact#[_,_,I.frz1 h]
  let#[p,S1,a,u]:=one;let#[B,G,k,z]:=Rl.frzAt x a;exact#[B,G,k,u.trans z]
end
def YK(C:LN):PT->Bool
 | .seq s r=>YK C s&&YK C r|.set i _=>!C.contains i|.own i _=>!C.contains i|.ife _ a b=>YK C a&&YK C b|.for_ x _ _ h=>x.ix.all (λi=>!C.contains i)&&YK C h|.nil=>j3|.expr _=>j3|.setX _ _ i _=>!C.contains i|.setL i j _=>!C.contains i&&!C.contains j|.ret _=>j3|.rse _ _ _=>j3|.tryC i _ _ _ j k=>(match i with|none=>j3|some i=>!C.contains i)&&(!C.contains j&&!C.contains k)
 | .frz _ s=>YK C s|.frE _ s=>YK C s|.six _ _ _=>j3|.pap _ _ _=>j3
section
variable{K:QC}{Γ:Ev}{F H:Hp}{S:Ft}{ρ:yA}{σ:St}{C:LN}
def uR(h:(ρ.set i js)[j]?=jb (jb s)):j≠i/\ρ[j]?=jb (jb s):=by
 rcases bA h with⟨_,z,_⟩| ⟨n,e⟩
 cases z;exact#[Qz n,e]
def Rl.off{σ':St}(I:Rl K F H S ρ σ)(hl:σ'.9=σ.9)(e:∀k,k≠i->σ'[k]?=σ[k]?):Rl K F H S (ρ.set i js) σ' where
 fh:=I.fh
 len:=by rw[we,I.len,hl]
 sl:=λk s h=>by let#[n,h]:=uR h;rw[e k n];exact I.sl k s h
 dj:=λk l t s n y x=>I.dj k l t s n (uR y).2 (uR x).2
end
section
variable{K:QC}{Γ:Ev}{Ψ:PEv}{E:XE}{EK:XK}{F H D B F2 N:Hp}{S S1 R:Ft}{ρ A P:yA}{σ M O:St}{C J:LN}
def Sts.bind(s:Sts C J F H S ρ σ D B S1 A M)(b:Bd L D B S1 A M F2 N R P O)(y:∀j∈L,j∈J)(k:∀j∈L,j∉C):Sts C J F H S ρ σ F2 N R P O :=
 #[s.ff.trans b.ff,λx u e n=>b.hh x u (s.hh x u e n),λx e=>s.dm x (b.dm x e),λx e z=>by
  by_cases q:D x=js;exact .inr (s.dm x (b.fn x q z));exact s.fn x e q,λx u=>s.uu x (b.U u),λj t h e hd=>by
  let#[o,m,l]:=b.out j λz=>h (y j z);rw[o]at e;let#[i,g,a]:=s.bo j t h e hd;exact#[i,m.trans g,l.trans a],λj h=>(b.out j λz=>k j z h).2.2.trans (s.sg j h)]
def iY{k:Tg}{body:PEnds->yA->Prop}{tb:TS}{st:Hp->Prop}(ib:∀{F H:Hp}{S:Ft}{ρ:yA}{σ:St}{Z:PEnds}{l:Ends},Rl K F H S ρ σ->LF K F H S ρ E EK->body Z ρ->EndsOk K C F H S ρ σ Z l->tb l σ H)(I:Rl K F H S ρ σ)(X:LF K F H S ρ E EK)(hC:∀j∈k.ix,j∉C)(pr:ge (TY K F H Y) xs ys)(hy:∀b,Y b->¬ U ρ S b/\H b≠js/\F b=js)(hst:∀F' H',Same F F'->Same F' H'->(∀b,Y b->H' b=H b)->st H')(h:PJ body k Z ys ρ)(onx:∀F' H' S' z σ',Sts C k.ix F H S ρ σ F' H' S' z σ'->Rl K F' H' S' z σ'->Z.nx z->l.nx σ' H')(ort:∀v t W F' H' S' z σ',Stc C F H S ρ σ F' H' S' z σ'->Rl K F' H' S' z σ'->Tr K F' H' j3 v t W->Held F' H' S' z W->(∀b,W b->H b=js∨U ρ S b)->Z.rt t z->l.rt v H'):yo K xs st k tb l σ H:=by
 intro J hJ;have len:=Wo pr;have yk:∀{D B:Hp}{S1:Ft}{A:yA}{M:St},Sts C k.ix F H S ρ σ D B S1 A M->∀b,Y b->B b=H b/\D b=none:=λ{D B S1 A M} s b Q=>by
  let#[n,d1,d2]:=hy b Q;refine#[?_,?_];cases e:H b with|none=>exact n9 e d1|some u=>exact s.hh b u e n
  by_cases q:D b=js
  ·exact q
  exact((s.fn b d2 q).elim n d1).elim
 refine#[λi m σ' H'=>i<=xs.9/\m=xs.9 - i/\∃z F' S',Sts C k.ix F H S ρ σ F' H' S' z σ'/\Rl K F' H' S' z σ'/\PJ body k Z (ys.drop i) z,#[_,QB1 _,rfl,ρ,F,S,.refl,I,by simpa using h],?_];rintro i m M B ⟨hi,rfl,A,D,S1,o,I1,h1⟩;have hs:=hst D B o.ff I1.fh λb Q=>(yk o b Q).1;rcases QAr i xs.9 with g|hge;refine .inr #[hJ.go i B hs g,λσ' H'=>i+1<=xs.9/\∃z F' S',Sts C k.ix F H S ρ σ F' H' S' z σ'/\Rl K F' H' S' z σ'/\PJ body k Z (ys.drop (i+1)) z,λσ' H' #[a,b]=>#[_,(),a,rfl,b],λx N hyl=>?_];let#[it,hx,hm]:=hJ.yld i B x N hs g hyl;let#[y,hd,ry]:=Paired.get_of pr hx;rw[hd]at h1;unfold PJ at h1;have key:L3.bindI K k it M B λO N=>tb { l with nx:=λσ' H'=>i+1<=xs.9/\∃z F' S',Sts C k.ix F H S ρ σ F' H' S' z σ'/\Rl K F' H' S' z σ'/\PJ body k Z (ys.drop (i+1)) z,ct:=λσ' H'=>i+1<=xs.9/\∃z F' S',Sts C k.ix F H S ρ σ F' H' S' z σ'/\Rl K F' H' S' z σ'/\PJ body k Z (ys.drop (i+1)) z,bk:=l.nx } O N:=by
  refine jO I1 (λb Q u=>?_) (ry.mono o.ff (yk o)) h1 λP O F2 H3 R bd I2 h2=>?_;rcases o.uu b u with q|q
  ·exact(hy b Q).1 q
  exact(hy b Q).2.1 q;have L:=o.bind bd (λj hj=>hj) hC;exact ib I2 (X.fromS L) h2 #[λF' H' S' z σ' p G q=>#[g,z,F',S',L.trans p,G,q],λv t W F' H' S' z σ' p G r hw fr q=>ort v t W F' H' S' z σ' (L.c.trans p) G r hw (mx L fr) q,
   λF' H' S' z σ' p G q=>onx F' H' S' z σ' (L.trans p) G q,λF' H' S' z σ' p G q=>#[g,z,F',S',L.trans p,G,q]]
 exact zO hm key;have e:ys.drop i=[]:=QBb ();rw[e]at h1;exact .inl #[hJ.stop i B hs hge,onx D B S1 A M o I1 h1]
def bH:∀(J:LN) (ρ:yA) (i:Nat) s,(kill J ρ)[i]?=jb (jb s)->ρ[i]?=jb (jb s)/\(i∈J->∀t,s=.bor t->t.isD=j3)
 |[],ρ,i,s,h=>#[h,λz=>by simp at z]|j::J,ρ,i,s,h=>by
  unfold kill at h;let#[x,k]:=bH J _ i s h;rw[QAO]at x;by_cases e:j=i;subst e;simp only[reduceIte]at x;cases q:ρ[j]? with
  |none=>rw[q]at x;cases x|some o =>
   rw[q]at x;have x:fC o=jb s:=by simpa using x
   cases o with
   |none=>cases x|some u =>
    cases u with
    |own t=>cases x;exact#[rfl,λ_ y z=>by cases z]|bor t =>
     have x:(if t.isD=j3 then jb (Sl.bor t) else js)=jb s:=x;cases hd:t.isD with|true=>rw[hd,n8 rfl]at x;cases x;exact#[rfl,λ_ y z=>by cases z;exact hd]|false=>rw[hd]at x;simp at x
  simp only[e,if_false]at x;refine#[by simpa using x,λm=>k ((QO.mp m).elim (λz=>n9 z.symm e) id)]
def tN:∀(J:LN) (ρ:yA),(kill J ρ).9=ρ.9
 |[],_=>rfl|j::J,ρ=>by unfold kill;rw[tN J];simp
def Sts.kill(s:Sts C J F H S ρ σ D B S1 A M):Sts C [] F H S ρ σ D B S1 (L3.kill J A) M :=
 #[s.ff,s.hh,s.dm,s.fn,λb #[i,t,x,h]=>s.uu b #[i,t,(bH J A i _ x).1,h],λj t _ e hd=>by let#[x,h]:=bH J A j _ e;by_cases y:j∈J;rw[h y t rfl]at hd;cases hd;exact s.bo j t y x hd,s.sg]
def CT:∀(L:LN) (ρ:yA) (j:Nat),(lock L ρ)[j]?=if j∈L then ρ[j]?.map uH else ρ[j]?
 |[],ρ,j=>by simp[lock]|i::L,ρ,j=>by
  have x:∀o,uH (uH o)=uH o:=λo=>by
   match o with
   |none=>rfl|some (.own _)=>rfl|some (.bor _)=>rfl
  unfold lock;rw[CT L,QAO];by_cases e:i=j;subst e;cases h:ρ[i]? with|none=>simp|some o=>simp[x]
  have y:¬ j=i:=λz=>e z.symm;simp[e,y]
def UT:∀(L:LN) (ρ:yA),(lock L ρ).9=ρ.9
 |[],_=>rfl|i::L,ρ=>by unfold lock;rw[UT L];simp
def fM:∀(L:LN) (x ρ:yA) (j:Nat),(∀i∈L,i<ρ.9)->(ZD L x ρ)[j]?=if j∈L then jb (x[j]?.getD js) else ρ[j]?
 |[],x,ρ,j,_=>by simp[ZD]|i::L,x,ρ,j,h=>by unfold ZD;rw[fM L x _ j (λk hk=>by simpa using h k (QI _ hk)),wZ];by_cases e:i=j;subst e;simp[h i QL];have y:¬ j=i:=λz=>e z.symm;simp[e,y]
def dM:∀(L:LN) (h ρ:yA),(ZD L h ρ).9=ρ.9
 |[],_,_=>rfl|i::L,h,ρ=>by unfold ZD;rw[dM L];simp
def YI{ρ:yA}:∀(x:LN),∀i∈jD ρ x,∃t,ρ[i]?=jb (jb (.own t))
 |[],i,h=>by simp[jD]at h|j::x,i,h=>by
  unfold jD at h;split at h
  ·rename_i ho
   rcases QO.mp h with e|e
   ·subst e
    unfold EM at ho;split at ho;rename_i t e;exact#[t,e]
    all_goals cases ho
   exact YI x i e
  exact YI x i h
def AM{ρ:yA}(h:ρ[i]?=jb (jb (.own t))):∀(x:LN),i∈x->i∈jD ρ x
 |[],hi=>by simp at hi|j::x,hi=>by
  unfold jD;rcases QO.mp hi with e|e;subst e;have:EM ρ[i]?=true:=by rw[h];rfl
  rw[n8 this];exact QL;have:=AM h x e;split;exact QI _ this;exact this
section
variable{L:LN}(y:∀i∈L,∃t,ρ[i]?=jb (jb (.own t)))
include y
def rL(h:(lock L ρ)[i]?=jb (jb s)):(i∈L/\∃t,ρ[i]?=jb (jb (.own t))/\s=.bor t)∨(i∉L/\ρ[i]?=jb (jb s)):=by rw[CT]at h;by_cases x:i∈L;rw[n8 x]at h;let#[t,e]:=y i x;rw[e]at h;injection h with h;injection h with h;exact .inl #[x,t,e,h.symm];rw[n7 x]at h;exact .inr #[x,h]
def nG(h:U (lock L ρ) S b):U ρ S b:=by
 let#[i,t,x,z]:=h;rcases rL y x with⟨_,u,_,e⟩| ⟨_,x⟩
 cases e;exact#[i,t,x,z]
def Rl.lock(I:Rl K F H S ρ σ):Rl K F H S (L3.lock L ρ) σ where
 fh:=I.fh
 len:=by rw[UT];exact I.len
 sl:=λi s e=>by
  rcases rL y e with⟨_,t,h,rfl⟩| ⟨_,h⟩
  let#[v,u,x]:=I.sl i _ h;exact#[v,u,x.weak];exact I.sl i s h
 dj:=λi j t s n a k=>by
  rcases rL y a with⟨_,_,_,z⟩| ⟨_,u⟩
  cases z;rcases rL y k with⟨_,b,x,_⟩| ⟨_,x⟩
  ·exact I.dj i j t _ n u x
  exact I.dj i j t s n u x
def Rl.lockU(I:Rl K F H S ρ σ)(x:i∈L)(k:S i b):¬ U (L3.lock L ρ) S b:=λzz=>by
 let#[j,t,h,a]:=zz
 let#[g,e]:=y i x;rcases rL y h with⟨_,_,_,z⟩| ⟨u,h⟩
 cases z;exact I.dj j i t _ (λz=>u (z▸x)) h e b a k
def xZ(I:Rl K F H S ρ σ)(s:Sts C [] F H S (lock L ρ) σ D B S1 A M)(Q:Rl K D B S1 A M)(hl:∀i∈L,A[i]?=ρ[i]?.map uH) :
  ∃R,Rl K D B R (ZD L ρ A) M/\Sts C [] F H S ρ σ D B R (ZD L ρ A) M:=by
 classical
 have l1:∀i∈L,∃t,ρ[i]?=jb (jb (.own t))/\A[i]?=jb (jb (.bor t)):=λi h=>by let#[t,e]:=y i h;have:=hl i h;rw[e]at this;exact#[t,e,this]
 have hlt:∀i∈L,i<A.length:=λi h=>by let#[t,_,e]:=l1 i h;exact(QZ.mp e).1
 let R:Ft:=λi=>if i∈L then S i else S1 i
 have p:∀i∈L,R i=S i:=λi h=>n8 h;have m:∀i,i∉L->R i=S1 i:=λi h=>n7 h;have get:∀i g,(ZD L ρ A)[i]?=jb (jb g)->(i∈L/\∃t,ρ[i]?=jb (jb (.own t))/\A[i]?=jb (jb (.bor t))/\g=.own t)∨(i∉L/\A[i]?=jb (jb g)):=λi g e=>by rw[fM L ρ A i hlt]at e;by_cases h:i∈L;rw[n8 h]at e;let#[t,l,W]:=l1 i h;rw[l]at e;injection e with e;have e:jb (Sl.own t)=jb g:=e;injection e with e;exact .inl #[h,t,l,W,e.symm];rw[n7 h]at e;exact .inr #[h,e]
 have far:∀i∈L,∀k g,k∉L->A[k]?=jb (jb g)->∀b,S i b->¬ S1 k b:=λi h k g hk e b o z=>by
  let#[t,l,_]:=l1 i h;cases g with
  |own u=>rcases s.uu b ⟨k,u,e,z⟩ with q|q;exact I.lockU y h o q;exact(I.dom l o).1 q
  |bor u =>
   cases hd:u.isD with
   |true=>exact Q.isD e hd z|false =>
    let#[X,Y,_]:=s.bo k u (by simp) e hd;rw[Y]at z;rcases rL y X with⟨q,_⟩| ⟨_,X⟩
    exact hk q;exact I.dj i k t _ (λq=>hk (q▸h)) l X b o z
 refine#[R,#[Q.fh,by rw[dM];exact Q.len,λi g e=>?_,λi k t g n l W b o hk=>?_],#[s.ff,λb u e n=>s.hh b u e λz=>n (nG y z),s.dm,λb e z=>(s.fn b e z).imp (nG y) id,λb #[i,t,h1,h2]=>?_,λj t _ e hd=>?_,s.sg]];rcases get i g e with⟨h,t,l,W,rfl⟩| ⟨h,l⟩
 ·rw[p i h]
  let#[v,X,Y]:=I.sl i _ l;cases hd:t.isD with
  |true =>
   let#[v',g3,g4]:=Q.sl i _ W;refine#[v',g3,?_];have nb:∀b,¬ S i b:=λb=>I.isD l hd;cases t with|d x=>have g4:Tr K D B Kz v' (.d x) (S1 i):=g4;let#[r,_]:=g4.invd;exact .d r nb|_=>cases hd
  |false =>
   let#[_,_,g5]:=s.bo i t (by simp) W hd;refine#[v,g5.trans X,?_];have Y:Tr K F H j3 v t (S i):=Y;refine Y.mono s.ff λb o=>?_;let#[d1,d2]:=Y.dom b o;have nu:=I.lockU y h o;refine#[?_,?_];cases eb:H b with|none=>exact n9 eb d1|some u=>exact s.hh b u eb nu
   by_cases q:D b=js
   ·exact q
   exact((s.fn b d2 q).elim nu d1).elim
 rw[m i h];exact Q.sl i g l;rcases get i _ l with⟨h,t',Z,a2,_⟩| ⟨h,Z⟩
 ·rw[p i h]at o
  rcases get k g W with⟨a,t2,G,b2,_⟩| ⟨a,G⟩
  rw[p k a]at hk;exact I.dj i k t' _ n Z G b o hk;rw[m k a]at hk;exact far i h k g a G b o hk
 rw[m i h]at o;rcases get k g W with⟨a,t2,G,b2,_⟩| ⟨a,G⟩
 rw[p k a]at hk;exact far k a i _ h Z b hk o;rw[m k a]at hk;exact Q.dj i k t g n Z G b o hk;rcases get i _ h1 with⟨h,t',Z,a2,_⟩| ⟨h,Z⟩
 ·rw[p i h]at h2
  exact .inl #[i,t',Z,h2]
 rw[m i h]at h2;exact(s.uu b #[i,t,Z,h2]).imp (nG y) id;rcases get j _ e with⟨_,_,_,_,z⟩| ⟨hj,l⟩
 ·cases z
 let#[X,Y,g3]:=s.bo j t (by simp) l hd;rcases rL y X with⟨q,_⟩| ⟨_,X⟩
 exact n9 q hj;exact#[X,(m j hj).trans Y,g3]
end
def sE(h:(!C.contains i)=j3):i∉C:=λz=>by have:C.contains i=true:=Qb.mpr z;rw[this]at h;cases h
def X7{x:LN}(h:(x.all λi=>!C.contains i)=j3):∀i∈x,i∉C:=λi y=>sE (Qr.mp h i y)
def B5(ok:EndsOk K C F H S ρ σ Z h)(s:Ste F H S ρ D B S1 A)(I:Rl K D B S1 A σ)(r:Tr K D B j3 v t W)(x:Held D B S1 A W)(fr:∀b,W b->H b=js∨U ρ S b)(q:Z.rt t A):h.rt v B :=
 ok.rt v t W D B S1 A σ (s.toStp.sts (J:=[])).c I r x fr q
def FQ(g:GOk K Γ Ψ):∀(e:PX) {F H:Hp}{S:Ft}{ρ:yA}{σ:St}{Z:PEnds}{m:Ends},Rl K F H S ρ σ->LF K F H S ρ E EK->oE Ψ E Z.rt e ρ->EndsOk K C F H S ρ σ Z m->(wp K Γ e EK).e σ H m.rt:=by
  intro e F H S ρ σ Z m I X h ok;have Y:∀e,(pe Ψ e E).e ρ (λx n A=>LG x n=j3/\Z.rt x A)->(wp K Γ e EK).e σ H m.rt:=λe h=>by refine(DA g e).e (Q:=λx n A=>LG x n=j3/\Z.rt x A) I X h λv F' H' S' o x n Za s J r #[he,q]=>?_;let#[W,G,L,fr]:=r.strict he;exact B5 ok s J G L fr q
  cases e with
  |ife t a b =>
   have h:(pe Ψ t E).t ρ λk A=>if k=j3 then oE Ψ E Z.rt a A else oE Ψ E Z.rt b A:=h
   refine(DA g t).t I X h λk F' H' S' o s J q=>?_;cases k with|true=>exact FQ g a J (X.from s.toStp) q (ok.from s.toStp.sts)|false=>exact FQ g b J (X.from s.toStp) q (ok.from s.toStp.sts)
  |var i =>
   have y:Bv ρ i Z.rt ρ[i]?:=h;show(match σ[i]? with|some (jb v)=>m.rt v _|_=>False)
   match hd:ρ[i]?,y with
   |some (jb (.own t)),y =>
    let#[v,l,r]:=I.sl i _ hd;rw[l];have I0:Rl K F H S (ρ.set i js) σ:=I.drop (by simp) λj s e=>by
     rcases bA e with⟨_,z,_⟩| ⟨_,e⟩
     cases z;exact e
    refine ok.rt v t (S i) F H S (ρ.set i js) σ #[.refl _,λb u e _=>e,λb e=>e,λb e z=>n9 e z,λb #[j,u,l,h2]=>.inl ?_,λ_ _=>rfl] I0 r #[r.dom,λj s e b p z=>?_] (λb p=>.inr #[i,t,hd,p]) y;rcases bA l with⟨_,z,_⟩| ⟨_,l⟩
    ·cases z
    exact#[j,u,l,h2];rcases bA e with⟨_,q,_⟩| ⟨n,e⟩
    ·cases q
    exact I.dj i j t s n hd e b p z
   |some (jb (.bor t)),y =>
    let#[v,l,r]:=I.sl i _ hd;rw[l];let#[ht,y]:=y;cases t with|d x=>have r:Tr K F H Kz v (.d x) (S i):=r;let#[q,n]:=r.invd;exact B5 (W:=λ_=>False) ok .refl I (.d q λ_ z=>z) .none (λ_ z=>z.elim) y|_=>cases ht
   |some js,y=>exact y.elim|none,y=>exact y.elim
  |_=>exact Y _ h
def pJ(g:GOk K Γ Ψ):∀(p:PT) {F H:Hp}{S:Ft}{ρ:yA}{σ:St}{Z:PEnds}{L:Ends},YK C p=j3->Rl K F H S ρ σ->LF K F H S ρ E EK->mB Ψ E p Z ρ->EndsOk K C F H S ρ σ Z L->lS K Γ EK p L σ H
 | .nil,_,_,_,_,_,_,_,c,I,X,h,ok=>ok.nx _ _ _ _ _ .refl I h|.seq s r,_,_,_,_,_,_,_,c,I,X,h,ok=>by let#[c1,c2]:=jA c;exact pJ g s c1 I X h #[λF' H' S' o σ' s' J q=>pJ g r c2 J (X.fromS s') q (ok.from s'),ok.rt,ok.bk,ok.ct]|.set i e,F,H,S,ρ,σ,Z,L,c,I,X,h,ok=>by have hi:=sE c;refine IG (RR:=λx B=>L.nx (σ.set i (jb x)) B) (DA g e) I X h λv F' H' S' o x n Za s J X' r er _ zz=>?_;let#[he,q]:=zz;exact ok.nx _ _ _ _ _ (s.toStp.sts.setD i hi v rfl _) (J.setD i (er he)) q|.setX j k i e,F,H,S,ρ,σ,Z,L,c,I,X,h,ok=>by
  have h:pE ρ[j]? _:=h;unfold pE at h;split at h;rename_i t hj;let#[v0,hv,r0]:=I.sl j _ hj;have r0:Tr K F H j3 v0 t (S j):=r0;show(wp K Γ e EK).e σ H λv B=>∃l xs,v=.ref l/\mD K B l xs/\xs.9=2/\∃a r,xs=a::r/\(match σ[j]? with|some (jb ov)=>(wp K Γ k EK).e σ B λiv H3=>uP ov iv a H3 λH4=>∃b r',r=b::r'/\(r'=[]/\L.nx (σ.set i (jb b)) H4)|_=>False);refine IG (DA g e) (I.lock1 hj) (X.lock1 hj) h λxv D B S1 A x n Zx s1 I1 X1 _ er1 _ zz=>?_;let#[he,a,b,ex,q1]:=zz;have rx:=er1 he;rw[ex]at rx;cases rx with
  |lst hq hr =>
   cases hr with
   |cons ra hr=>cases hr with
    |cons rb hr=>cases hr with|nil=>refine#[_,_,rfl,I1.fh.seq hq,rfl,_,_,rfl,?_];rw[hv];refine IG (DA g k) I1 X1 q1 λiv F2 N R P y m Zy s2 I2 X2 _ er2 _ zz=>?_;let#[he2,hj2,q2]:=zz;have s12:=s1.trans s2;refine z5 (s12.toStp.keep r0 (I.lock1U hj)) (er2 he2) (ra.mono s2.ff) q2 λt' H3 S3 hh dm rt sub q=>?_;let#[st,I3,_]:=oJ (W:=λ_=>False) I hj hv s12 I2 hh dm rt (λb hb=>.inl (sub b hb)) .none (λ_ z=>z.elim);exact#[_,_,rfl,rfl,ok.nx _ _ _ _ _ (st.toStp.sts.setD i (sE c) _ rfl _) (I3.setD i (rb.mono s2.ff)) q]
  all_goals exact h.elim
 | .setL i j e,F,H,S,ρ,σ,Z,L,c,I,X,h,ok=>by
  let#[c1,c2]:=jA c;refine IG (RR:=λv B=>bindL K [i,j] v σ B λO N=>L.nx O N) (DA g e) I X h λv F' H' S' o x n Za s J X' r er _ zz=>?_;let#[he,a,b,ex,q]:=zz;have rp:=er he;rw[ex]at rp;let#[_,_,rfl,hq,hr]:=rp.inv;let#[_,_,rfl,ra,hr]:=hr.inv;let#[_,_,rfl,rb,hr]:=hr.inv;cases hr with|nil=>exact#[_,_,J.fh.seq hq,rfl,rfl,ok.nx _ _ _ _ _ ((s.toStp.sts.setD i (sE c1) _ rfl _).setD j (sE c2) _ rfl _) ((J.setD i ra).setD j rb) q]
 | .expr e,F,H,S,ρ,σ,Z,L,c,I,X,h,ok=>(DA g e).e I X h λv F' H' S' o x n Za s J r q=>ok.nx _ _ _ _ _ s.toStp.sts J q|.ret e,F,H,S,ρ,σ,Z,L,c,I,X,h,ok=>FQ g e I X h ok|.ife t a b,F,H,S,ρ,σ,Z,L,c,I,X,h,ok=>by
  let#[c1,c2]:=jA c;refine(DA g t).t I X h λk F' H' S' o s J q=>?_;cases k with|true=>exact pJ g a c1 J (X.from s.toStp) q (ok.from s.toStp.sts)|false=>exact pJ g b c2 J (X.from s.toStp) q (ok.from s.toStp.sts)
 | .for_ tg ik its body,F,H,S,ρ,σ,Z,L,c,I,X,h,ok=>by
  let#[c1,c2]:=jA c;have hC:=X7 c1;refine IK (RR:=λvs B=>NB K ik vs B λxs st N=>yo K xs st tg (lS K Γ EK body) L σ N) (DA g its) I X h λvs D B S1 A xs Y s1 I1 X1 tn tm q=>?_;rw[mK _ rfl]at q;have ok1:=ok.from s1.toStp.sts;cases ha:jL xs with
  |true=>have tn':=tn.bare (xS ha);refine HH I1.fh tn' q λits ys st pr hst hc=>?_;rw[ha,n8 rfl]at hc;refine iY (λI X h ok=>pJ g body c2 I X h ok) I1 X1 hC pr (λb z=>z.elim) hst hc ?_ ?_;exact λF' H' S' o σ' s' I' q=>ok1.nx _ _ _ _ _ s'.kill (I'.drop (tN _ _) λi sl e=>(bH _ _ i sl e).1) q;exact λv t W F' H' S' o σ' s' I' r hw fr q=>ok1.rt v t W F' H' S' o σ' s' I' r hw fr q|false =>
   refine HH I1.fh tn q λits' ys st pr hst hc=>?_;rw[ha,n7 (by simp)]at hc;have hL:=YI (ρ:=A) (vJ its);have IL:=I1.lock hL;have sL:Sts C [] D B S1 A σ D B (λ_ _=>False) [] σ:=#[.refl _,λb u e _=>e,λb e=>e,λb e z=>n9 e z,λb zz=>by let#[i,t,e,_]:=zz;simp at e,λj t _ e=>by simp at e,λ_ _=>rfl]
   have XL:LF K D B S1 (lock (jD A (vJ its)) A) E EK:=λx dx F2 N R P s2 f r q =>
    X1 x dx F2 N (λ_ _=>False) [] #[s2.ff,λb u e n=>s2.hh b u e λz=>n (nG hL z),s2.dm,λb e z=>(s2.fn b e z).imp (nG hL) id,λb zz=>by let#[i,t,e,_]:=zz;simp at e,λj t e=>by simp at e] f r q
   refine iY (λI X h ok=>pJ g body c2 I X h ok) IL XL hC pr (λb hb=>?_) hst hc ?_ ?_;let#[i,sl,h1,h2,h3]:=tm b hb;refine#[λu=>?_,I1.dom h2 h3];cases sl with
   |own t=>exact I1.lockU hL (AM h2 _ h1) h3 u|bor t =>
    let#[j,t',e1,e2]:=u;rcases rL hL e1 with⟨_,_,_,z⟩| ⟨_,e1⟩
    cases z;exact I1.dj j i t' _ (λz=>by subst z;rw[h2]at e1;cases e1) e1 h2 b e2 h3
   intro F' H' S' o σ' s' I' #[q1,q2];have sk:=s'.kill;have Ik:=I'.drop (tN tg.ix o) λi sl e=>(bH _ _ i sl e).1;let#[R,I2,s2]:=xZ hL I1 sk Ik λi hi=>(q1 i hi).2;exact ok1.nx _ _ _ _ _ s2 I2 q2;intro v t W F' H' S' o σ' s' I' r hw fr q;exact ok1.rt v t W F' H' S' o σ' #[s'.ff,λb u e n=>s'.hh b u e λz=>n (nG hL z),s'.dm,λb e z=>(s'.fn b e z).imp (nG hL) id,λb u=>(s'.uu b u).imp (nG hL) id,s'.sg] I' r hw (λb hb=>(fr b hb).imp id (nG hL)) q
 | .own i e,F,H,S,ρ,σ,Z,L,c,I,X,h,ok=>by refine(DA g e).e (Q:=λx n A=>LG x n=j3/\Z.nx (A.set i (jb (.own x)))) I X h λv F' H' S' o x n Za s J r #[he,q]=>?_;let#[W,r2,hw,fr]:=r.strict he;exact ok.nx _ _ _ _ _ (s.toStp.sts.setN i (sE c) v x fr) (J.setN i r2 λj sl _ e b hb=>hw.nw j sl e b hb) q|.six j i e,F,H,S,ρ,σ,Z,L,c,I,X,h,ok=>by
  have h:pE ρ[j]? _:=h;unfold pE at h;split at h;rename_i t hj;let#[v0,hv,r0]:=I.sl j _ hj;have r0:Tr K F H j3 v0 t (S j):=r0;show(wp K Γ e EK).e σ H λv B=>(match σ[j]? with|some (jb ov)=>(wp K Γ i EK).e σ B λiv H3=>uP ov iv v H3 λH4=>L.nx σ H4|_=>False)
  refine IG (DA g e) (I.lock1 hj) (X.lock1 hj) h λxv D B S1 A x n Zx s1 I1 X1 _ er1 _ zz=>?_;let#[he,q1]:=zz;have rx:=er1 he;rw[hv];refine IG (DA g i) I1 X1 q1 λiv F2 N R P y m Zy s2 I2 X2 _ er2 _ zz=>?_;let#[he2,hj2,q2]:=zz;have s12:=s1.trans s2;refine z5 (s12.toStp.keep r0 (I.lock1U hj)) (er2 he2) (rx.mono s2.ff) q2 λt' H3 S3 hh dm rt sub q=>?_;let#[st,I3,_]:=oJ (W:=λ_=>False) I hj hv s12 I2 hh dm rt (λb hb=>.inl (sub b hb)) .none (λ_ z=>z.elim);exact ok.nx _ _ _ _ _ st.toStp.sts I3 q
  all_goals exact h.elim
 | .pap j k e,F,H,S,ρ,σ,Z,L,c,I,X,h,ok=>by
  have h:pE ρ[j]? _:=h;unfold pE at h;split at h;rename_i t hj;let#[v0,hv,r0]:=I.sl j _ hj;have r0:Tr K F H j3 v0 t (S j):=r0;have later:∀{F' H':Hp}{S':Ft}{o:yA},Ste F H S (ρ.set j (jb (.bor t))) F' H' S' o->∀b,S j b->H' b=H b:=λ{F' H' S' o} s b hb=>by
   cases e:H b with|none=>exact n9 e (r0.dom b hb).1|some u=>exact s.hh b u e (I.lock1U hj b hb)
  show(match σ[j]? with|some (jb ov)=>(wp K Γ k EK).e σ H λiv B=>N5 K ov iv B λw N=>C3 K "list" w N/\(wp K Γ e EK).e σ N λxv H3=>O5 w [xv] H3 λ_ H4=>L.nx σ H4|_=>False);rw[hv];refine IG (DA g k) (I.lock1 hj) (X.lock1 hj) h λiv D B S1 A y m Zy s1 I1 X1 _ er1 _ zz=>?_;let#[he1,us,i,n,ts,et,ey,hi,hu,q1]:=zz;subst et;have r1:=s1.toStp.keep r0 (I.lock1U hj);let#[a,ws,b,vs,P1,rfl,ha,za,wl,hw,hb,_]:=sX r1 hu;have ri:=er1 he1;rw[ey]at ri;cases ri.inv;refine#[ws,.ref b,.inr (GE.of ha),?_,.inl #[rfl,_,mD.of hb],?_];unfold FB;rw[wl,hi];exact hw;refine(DA g e).e I1 X1 q1 λxv F2 N R P x l Zx s2 I2 r2 #[he2,hj2,hl,q2]=>?_;have s12:=s1.trans s2;have r3:=s12.toStp.keep r0 (I.lock1U hj);let#[W,rw',hwd,frw]:=(r2.from s1.toStp).strict he2;let#[a',ws',b',vs',Q1,ea,ha',za',_,hw',hb',h3,zb,sub,nb,put]:=sX r3 hu;cases ea;have e2:ws'=ws:=by rw[later s12 a za,<- later s1 a za,ha]at ha';cases ha';rfl
  subst e2;rw[hw]at hw';cases hw';have wS:∀c,S j c->¬ W c:=λc hc hc2=>by rcases frw c hc2 with q|q;exact(r0.dom c hc).1 q;exact I.lock1U hj c hc q
  refine#[_,vs',_,rfl,rfl,hb',by rw[h3.9];exact hl,?_];have t0:=h3.mono (F':=F2) (H':=LA N b (.lst (vs'++[xv]))) (.refl _) λc hc=>#[vA λz=>nb (by rw[<- z];exact hc),(h3.dom c hc).2]
  have t1:=rw'.mono (F':=F2) (H':=LA N b (.lst (vs'++[xv]))) (.refl _) λc hc=>#[vA λz=>wS b zb (by rw[<- z];exact hc),(rw'.dom c hc).2]
  let#[P2,p1,p2]:=put _ _ _ _ W (λc _ _ hb=>vA hb) fA (Trs.append t0 (Trs.one t1) λc hc=>wS c (sub c hc)) (λc hc=>hc) wS;let#[st,I3,_]:=oJ (W:=W) I hj hv s12 I2 (λc u e n=>(vA λz=>n (by rw[z];exact zb)).trans e) (λc=>MG c) p1 (λc hc=>(p2 c hc).imp id .inl) hwd frw;exact ok.nx _ _ _ _ _ st.toStp.sts I3 q2
  all_goals exact h.elim
 | .rse x m e,F,H,S,ρ,σ,Z,L,c,I,X,h,ok=>by
  let#[hm,y,hc,h]:=h;let#[C0,eC,Y]:=(g.va x _ hc F).cls_i;refine#[?_,C0,y,eC,Y,?_];cases m with|none=>trivial|some j=>let#[p,e1,e2]:=hm;let#[v,h1,r]:=I.sl j _ e1;have r:Tr K F H Kz v (.d (.int p)) (S j):=r;let#[q,n]:=r.invd;cases q.inv;exact#[p,h1,e2]
  refine(DA g e).e I X h λv F' H' S' o x n Za s J r #[p,ev,q]=>?_;subst ev;have ri:=r.tr;let#[ri,_]:=ri.invd;cases ri.inv;refine#[p,rfl,λea dx n1 n2 n3=>?_];have f1:F' ea=none:=by
   cases z:F' ea with|none=>rfl|some u=>have:=J.fh _ _ z;rw[n1]at this;cases this
  have f2:F' dx=none:=by
   cases z:F' dx with|none=>rfl|some u=>have:=J.fh _ _ z;rw[n2]at this;cases this
  have nn:∀(G:Hp) b u,G ea=js->G dx=js->G b=jb u->(LA (LA G dx (.xd (JI p))) ea (.ext (dH C0 ea dx))) b=jb u:=λG b u a1 a2 e=>by rw[vA (CA e a1),vA (CA e a2)];exact e
  refine X (y,p) (jb ea) (LA (LA F' dx (.xd (JI p))) ea (.ext (dH C0 ea dx))) _ (λ_ _=>False) [] #[λb u e=>nn F' b u f1 f2 (s.ff b u e),λb u e nu=>nn H' b u n1 n2 (s.hh b u e nu),λb e=>?_,λb e z=>?_,λb zz=>by let#[i,t,e,_]:=zz;simp at e,λj t e=>by simp at e] (λb u e=>?_) #[ea,rfl,.exc fA ((vA n3).trans fA) Y] q;by_cases z1:b=ea
  ·rw[z1,fA]at e;cases e
  rw[vA z1]at e;by_cases z2:b=dx;rw[z2,fA]at e;cases e;rw[vA z2]at e;exact s.dm b e;by_cases z1:b=ea
  ·exact .inr (s.dm b (by rw[z1];exact n1))
  by_cases z2:b=dx
  ·exact .inr (s.dm b (by rw[z2];exact n2))
  rw[vA z1,vA z2]at z;exact s.fn b e z;by_cases z1:b=ea
  ·rw[z1,fA]at e ⊢;exact e
  rw[vA z1]at e ⊢;by_cases z2:b=dx;rw[z2,fA]at e ⊢;exact e;rw[vA z2]at e ⊢;exact J.fh b u e
 | .tryC i f as x j k,F,H,S,ρ,σ,Z,L,c,I,X,h,ok=>by
  let#[#[jk,hk],hc,hJ,h]:=h;let#[C0,eC,Y]:=(g.va x _ hc F).cls_i;let#[c1,c2]:=jA c;let#[c2,c3]:=jA c2;refine#[#[C0,eC,Y],V9 g (DA g as) I hJ h (λv F' H' S' r Zr s J vr q=>?_) λy dx F' H' S' s J xr q=>?_];cases i with|none=>exact ok.nx _ _ _ _ _ s.toStp.sts J q|some i=>let#[F2,Z2,s2,J2,_,e2,_,_]:=vr.frz s J;exact ok.nx _ _ _ _ _ (s2.toStp.sts.setD i (sE c1) v rfl _) (J2.setD i (e2 rfl)) q
  let#[a,ed,rp]:=xr;refine#[a,ed,?_];have J1:=J.setD j rp;have s1:Sts C [] F H S ρ σ F' H' (NH S' j λ_=>False) (ρ.set j (bD (FF y.1 y.2))) (σ.set j (jb (.ref a))):=s.toStp.sts.setD j (sE c2) (.ref a) rfl _;have e1:(ρ.set j (jb (Sl.bor (.d (FF y.1 y.2)))))[k]?=jb none:=(Qy jk).trans hk;have e2:(ρ.set j (jb (Sl.bor (.d (FF y.1 y.2))))).set k js=ρ.set j (bD (FF y.1 y.2)):=by apply wY;intro m;by_cases z:m=k;subst z;rw[qH (QZ.mp e1).1,e1];rw[Qy (Qz z)]
  have J2:=J1.off (i:=k) (σ':=(σ.set j (jb (.ref a))).set k js) (by simp) λm hm=>Qy (Qz hm);rw[e2]at J2;refine ok.nx _ _ _ _ _ #[s1.ff,s1.hh,s1.dm,s1.fn,s1.uu,λm t hm e hd=>?_,λm hm=>?_] J2 q;have mk:m≠k:=λz=>by rw[z,e1]at e;cases e
  rw[Qy (Qz mk)];exact s1.bo m t hm e hd;rw[Qy (λz:k=m=>sE c3 (by rw[z];exact hm))];exact s1.sg m hm
 | .frE i s,F,H,S,ρ,σ,Z,L,c,I,X,h,ok=>by let#[F',S',I',s']:=I.frzEm (C:=C) i;exact pJ g s c I' (X.fromS s') h (ok.from s')|.frz is s,F,H,S,ρ,σ,Z,L,c,I,X,h,ok=>by let#[F',S',I',s']:=I.frzAt (C:=C) is;exact pJ g s c I' (X.fromS s') h (ok.from s')
end
def Ku(x:Str)(n:String):Bool:=(x==("bool":Str)&&n == "bool")||(x==("int":Str)&&n == "int")||(x==("str":Str)&&n == "str")||(x==("list":Str)&&n == "list")||(x==("tuple":Str)&&n == "tuple")||(x==("ValueError":Str)&&n == "ValueError")
def B4(h:Ku x n=j3):Zz x=jb (.type n):=by simp only[Ku,ql,Qc,beq_iff_eq]at h;rcases h with((((⟨rfl,rfl⟩| ⟨rfl,rfl⟩)|⟨rfl,rfl⟩)|⟨rfl,rfl⟩)|⟨rfl,rfl⟩)|⟨rfl,rfl⟩<;>kernel_rfl
structure Need where
 fn:LS
 va:LS
 no:LS
 dc:LS:=[]
def aq(n:Need):Prm->Bool
 | .dget x | .dix x | .dgetD x=>n.dc.contains x
 | .tmul=>j3|.plc=>j3|.dgt=>j3|.isC=>n.no.contains ("isinstance":Str)|.isT x m=>n.no.contains ("isinstance":Str)&&(n.no.contains x&&Ku x m)
def yw(n:Need):ItK->Bool
 | .val=>j3|.rng1=>n.no.contains ("range":Str)|.zip2=>n.no.contains ("zip":Str)|.enum | .enumA=>n.no.contains ("enumerate":Str)
def gB(n:Need):PX->Bool
 | .glo x=>n.va.contains x|.bty x t=>n.no.contains x&&Ku x t|.bin _ a b | .cmp _ a b | .and a b | .or a b | .idx a b | .acons a b=>gB n a&&gB n b
 | .not a | .lst a | .tup a | .eff a | .dsp _ a=>gB n a
 | .chn _ _ a b c | .ife a b c | .slc a b c=>gB n a&&(gB n b&&gB n c)
 | .call f h=>n.fn.contains f&&gB n h|.bi f h=>n.no.contains f.nm&&gB n h|.prm o h=>aq n o&&gB n h|.isi a c=>n.no.contains ("isinstance":Str)&&(gB n a&&gB n c)|.mt _ o h=>gB n o&&gB n h|.comp _ _ _ k z y u=>yw n k&&(gB n z&&(gB n y&&gB n u))|_=>j3
def hG(n:Need):PT->Bool
 | .seq s r=>hG n s&&hG n r|.set _ e=>gB n e|.own _ e=>gB n e|.expr e=>gB n e|.setL _ _ e=>gB n e|.setX _ k _ e=>gB n k&&gB n e|.ret e=>gB n e|.ife c a b=>gB n c&&(hG n a&&hG n b)|.for_ _ z y h=>yw n z&&(gB n y&&hG n h)|.nil=>j3|.six _ i e=>gB n i&&gB n e|.pap j k e=>gB n (O6 j k e)|.frz _ s=>hG n s|.frE _ s=>hG n s|.rse x _ e=>n.va.contains x&&(n.no.contains ("raise":Str)&&gB n e)|.tryC _ f u x _ _=>n.fn.contains f&&(gB n u&&n.va.contains x)
def VN(h:Ev)(n:Need):Glob:=#[h,λf=>f∈n.fn,λx=>x∈n.va,λx=>x∈n.no,λx=>x∈n.dc]
def M8(h:yw n x=j3):Du (VN y n) x:=by
 cases x with|val=>trivial|_=>exact Qb.mp h
def Tb(h:aq n o=j3):tq (VN k n) o:=by
 cases o with|tmul=>trivial|plc=>trivial|dgt=>trivial|isC=>exact Qb.mp h|isT x m=>let#[u,y]:=jA h;let#[y,z]:=jA y;exact#[Qb.mp u,Qb.mp y,B4 z]|dget x=>exact Qb.mp h|dix x=>exact Qb.mp h|dgetD x=>exact Qb.mp h
def rC:∀(p:PX),gB n p=j3->RA (VN Z n) p:=by
 intro p;induction p with
 |glo x=>intro h;exact Qb.mp h|bty x t=>intro h;let#[u,z]:=jA h;exact#[Qb.mp u,B4 z]|bin _ a b y k|cmp _ a b y k|and a b y k|or a b y k|idx a b y k|acons a b y k=>intro h;let#[u,z]:=jA h;exact#[y u,k z]
 |not a y|lst a y|tup a y|eff a y|dsp _ a y=>intro h;exact y h
 |chn _ _ a b c y k g|ife a b c y k g|slc a b c y k g=>intro h;let#[u,e]:=jA h;let#[z,i]:=jA e;exact#[y u,k z,g i]
 |call f j y=>intro h;let#[u,z]:=jA h;exact#[Qb.mp u,y z]|bi f j y=>intro h;let#[u,z]:=jA h;exact#[Qb.mp u,y z]|prm o j y=>intro h;let#[u,z]:=jA h;exact#[Tb u,y z]|isi a c y g=>intro h;let#[u,e]:=jA h;let#[z,i]:=jA e;exact#[Qb.mp u,y z,g i]|mt _ o j q y=>intro h;let#[u,z]:=jA h;exact#[q u,y z]|comp _ _ _ K m l W X s r=>intro h;let#[u,h]:=jA h;let#[z,h]:=jA h;let#[i,Y]:=jA h;exact#[M8 u,X z,s i,r Y]|_=>intro _;trivial
def HZ:∀(p:PT),hG n p=j3->gG (VN W n) p:=by
 intro p;induction p with
 |seq s r l Y=>intro h;let#[u,z]:=jA h;exact#[l u,Y z]|set _ e|own _ e|expr e|ret e|setL _ _ e=>intro h;exact rC _ h
 |six _ i e=>intro h;let#[u,z]:=jA h;exact#[rC _ u,rC _ z]|setX _ k _ e=>intro h;let#[u,z]:=jA h;exact#[rC _ u,rC _ z]|pap j k e=>intro h;exact rC _ h|frz _ s l=>intro h;exact l h|frE _ s l=>intro h;exact l h|rse x m e=>intro h;let#[u,y]:=jA h;let#[z,g]:=jA y;exact#[Qb.mp u,Qb.mp z,rC _ g]|tryC i f A x j k=>intro h;let#[u,y]:=jA h;let#[z,g]:=jA y;exact#[Qb.mp u,rC _ z,Qb.mp g]|ife c a b Z o=>intro h;let#[u,y]:=jA h;let#[z,g]:=jA y;exact#[rC _ u,Z z,o g]|for_ _ K X q o=>intro h;let#[u,y]:=jA h;let#[z,g]:=jA y;exact#[M8 u,rC _ z,o g]|_=>intro _;trivial
def BN(N ps:LS)(sc:gV):Bool:=sc.kind==.function&&!sc.isCoroutine&&!sc.isGenerator&&zH N&&N.take ps.9==ps &&
 ps.all (λx=>sc.names.lookup x==jb .local||sc.names.lookup x==jb .cell)&&sc.names.all λy=>y.2 != .free
def cH(h:BN N ps sc=j3):FnScope N ps sc:=by simp only[BN,Qc,Qr,ql,beq_iff_eq,wx,bne_iff_ne,ne_eq]at h;let#[#[#[#[#[#[b,a],k],u],z],y],x]:=h;exact#[b,a,k,rD u,z,y,x]
def XB(n:Need)(b:PT)(N ps:LS)(st:y1):Bool:=BN N ps (oA st)&&HR b #[N,oA st] (JB st)&&hG n b
def Uk:Md->T->Sl
 | .chg,t=>.own t|_,t=>.bor t
def BF:List Md->LT->yA
 |_,[]=>[]|md,t::ts=>jb (Uk (md.headD .fro) t)::BF md.tail ts
def AA(N:LS)(md:List Md)(h:LT):yA:=BF md h++QK (N.9 - h.9) js
def jC:Nat->List Md->Nat->LN
 |_,_,0=>[]|k,md,n+1=>match md.headD .fro with
  | .chg=>k::jC (k+1) md.tail n|_=>jC (k+1) md.tail n
def S6:Option (LT)->(LT->Prop)->Prop
 |some os,Q=>Q os|none,_=>False
def aC(P:PSp)(n:Nat)(Q:T->LT->Prop):PEnds where
 nx:=λh=>S6 (fB (jC 0 P.md n) h) (Q (.d .none))
 rt:=λt h=>S6 (fB (jC 0 P.md n) h) (Q t)
abbrev Hu(Ψ:PEv)(b:PT)(p:PSp)(N ps:LS)(h:LT)(Q:T->LT->Prop):Prop:=h.9=ps.9/\pF Ψ b (aC p ps.9 Q) (AA N p.md h)
abbrev yL(Ψ:PEv)(b:PT)(p:PSp)(N ps:LS):Prop:=∀(h:LT) (Q:T->LT->Prop) (E:XE),p.run h Q E->h.9=ps.9/\pF Ψ b (aC p ps.9 Q) (AA N p.md h)
def bV(h:Str->Option ky)(x:Str):V:=((h x).bind cO).getD .non
def T1(e:hI):Str×V:=((match e.key with | .str z _=>z|_=>""),(cO e.val).getD .non)
def Om(K:QC)(h:Str->Option ky)(x:Str):Option (List (Str×V)):=match h x with
 |some (.ref a)=>match K.lookup a with
  |some o=>match o.data with
   | .dict y _=>jb (y.toList.map T1)|_=>js
  |none=>js
 |_=>js
def Cm(K:QC)(h:Str->Option ky)(Ψ:PEv):Ev:=#[λf=>lift K (Ψ.sp f),bV h,Om K h]
structure DictOk(P:vb)(w:vu)(K:QC)(mg:Str->Option ky)(x:Str)(kds:List (Str×D)):Prop where
 at':∃a kvs,mg x=jb (.ref a)/\Om K mg x=jb kvs/\Fa P w K a kvs/\ge (λ(p:Str×V) (q:Str×D)=>p.1=q.1/\∀F,Rep K F p.2 q.2) kvs kds
structure ValsOk(P:vb)(w:vu)(K:QC)(mg:Str->Option ky)(Ψ:PEv)(va dc:LS):Prop where
 dic:∀x kds,Ψ.dc x=jb kds->DictOk P w K mg x kds
 hasD:∀x∈dc,∃kds,Ψ.dc x=jb kds
 rep:∀x d,Ψ.va x=jb d->∀F,Rep K F (bV mg x) d
 has:∀x∈va,∃u v,mg x=jb u/\cO u=jb v
def OX(h:cO u=jb v):ZA v u:=by cases u<;>first|cases h;done | (cases QW h;first|rfl|exact#[_,rfl])
section
variable{P:vb}{w:vu}{K:QC}{mg:Str->Option ky}{base:v6}{Ψ:PEv}
noncomputable abbrev Ga(P:vb)(w:vu)(K:QC):jV:=zf P w K (wOf K) (iOf K)
def U3(P:vb)(w:vu)(K:QC)(mg:Str->Option ky)(base:v6):Prop:=∃h,(∀k,FnOk P w K mg base Ha (k+1) (iOf K) h ["self","words","place"] (zP K (wOf K) (iOf K)))/\xF K h ["self","words","place"] []
def BE(P:vb)(w:vu)(K:QC)(mg:Str->Option ky)(base:v6)(Ψ:PEv)(k:Nat)(f:Str):Prop :=
 ∃(a:kl) (x:x3) (h:LS),FnOk P w K mg base (Ga P w K) k a x h (lift K (Ψ.sp f))/\mg f=jb (.ref a)/\qq K (.ref a)=j3/\xF K x h []
def BE.mono(h:BE P w K mg base Ψ j f)(hk:j<=k):BE P w K mg base Ψ k f:=by let#[a,u,x,z,y]:=h;exact#[a,u,x,z.mono hk,y]
def ArgsR.length(a:ArgsR K F H Y md vs h):vs.9=h.length:=by
 induction a with|nil=>rfl|chg _ _ i=>exact pu Nat.succ i|rd _ _ _ _ i=>exact pu Nat.succ i
def JJ:∀(m:List Md) (h:LT),(BF m h).9=h.9
 |_,[]=>rfl|m,d::ds=>by unfold BF;rw[QM,QM,JJ]
def N6(h:m≠.chg)(t:T):Uk m t=.bor t:=by cases m<;>first|rfl|exact n9 rfl h
def XI(md:List Md)(v:V)(vs:LV):vB md (v::vs)=match md.headD .fro with | .chg=>v::vB md.tail vs|_=>vB md.tail vs:=by first | (rw[vB];done) | (rw[vB];cases md.headD .fro<;>rfl)
def gN(md:List Md)(v:T)(vs:LT):ZB md (v::vs)=match md.headD .fro with | .chg=>v::ZB md.tail vs|_=>ZB md.tail vs:=by first | (rw[ZB];done) | (rw[ZB];cases md.headD .fro<;>rfl)
def gP(md:List Md)(t:T)(h:LT):BF md (t::h)=jb (Uk (md.headD .fro) t)::BF md.tail h:=by rw[BF]
def Fe(a:ArgsR K F H Y md vs h):∀{M:iA},Trs K F H j3 (vB md vs) (ZB md h) M ->
  ∃Z:Ft,(∀(i:Nat) s,(BF md h)[i]?=jb (jb s)->∃v,vs[i]?=jb v/\Tr K F H s.st v s.t (Z i))/\(∀(i:Nat) t,(BF md h)[i]?=jb (jb (.own t))->∀b,Z i b->M b)/\(∀(i:Nat) t,(BF md h)[i]?=jb (jb (.bor t))->∀b,Z i b->Y b) /\
   ∀(i j:Nat) t u,i≠j->(BF md h)[i]?=jb (jb (.own t))->(BF md h)[j]?=jb (jb (.own u))->∀b,Z i b->¬ Z j b:=by
 induction a with
 |nil=>exact λ_=>#[λ_ _=>False,λi s e=>by simp[BF]at e,λi t e=>by simp[BF]at e,λi t e=>by simp[BF]at e,λi j t u _ e=>by simp[BF]at e]|@chg md v vs t h k I p =>
  intro M r;have E:vB md (v::vs)=v::vB md.tail vs:=by rw[XI,k]
  have C:ZB md (t::h)=t::ZB md.tail h:=by rw[gN,k]
  rw[E,C]at r;cases r with
  |@cons _ _ _ _ _ _ G N o J n q =>
   let#[Z,A,g,W,X]:=p J;have B:BF md (t::h)=jb (.own t)::BF md.tail h:=by rw[gP,k];rfl
   rw[B];refine#[Nat.rec G λi _=>Z i,λi s e=>?_,λi u e b x=>?_,λi u e b x=>?_,λi j u w m e l b x y=>?_];cases i with|zero=>simp at e;subst e;exact#[v,rfl,o]|succ i=>exact A i s (by simpa using e)
   cases i with|zero=>exact(q b).mpr (.inl x)|succ i=>exact(q b).mpr (.inr (g i u (by simpa using e) b x))
   cases i with|zero=>simp at e|succ i=>exact W i u (by simpa using e) b x
   cases i with
   |zero =>
    cases j with|zero=>exact m rfl|succ j=>exact n b x (g j w (by simpa using l) b y)
   |succ i =>
    cases j with|zero=>exact n b y (g i u (by simpa using e) b x)|succ j=>exact X i j u w (λz=>m (by rw[z])) (by simpa using e) (by simpa using l) b x y
 |@rd md v vs t h G k o L I p =>
  intro M r;have E:vB md (v::vs)=vB md.tail vs:=by rw[XI];cases e:md.headD .fro<;>first|exact n9 e k|rfl
  have C:ZB md (t::h)=ZB md.tail h:=by rw[gN];cases e:md.headD .fro<;>first|exact n9 e k|rfl
  rw[E,C]at r;let#[Z,A,g,W,X]:=p r;have B:BF md (t::h)=jb (.bor t)::BF md.tail h:=by rw[gP,N6 k]
  rw[B];refine#[Nat.rec G λi _=>Z i,λi s e=>?_,λi u e b x=>?_,λi u e b x=>?_,λi j u w m e l b x y=>?_];cases i with|zero=>simp at e;subst e;exact#[v,rfl,o]|succ i=>exact A i s (by simpa using e)
  cases i with|zero=>simp at e|succ i=>exact g i u (by simpa using e) b x
  cases i with|zero=>exact L b x|succ i=>exact W i u (by simpa using e) b x
  cases i with
  |zero=>simp at e|succ i =>
   cases j with|zero=>simp at l|succ j=>exact X i j u w (λz=>m (by rw[z])) (by simpa using e) (by simpa using l) b x y
def j5(f:Same F H)(h:ArgsR K F H Y md vs x)(o:Trs K F H j3 (vB md vs) (ZB md x) M)(W:∀b,Y b->¬ M b) :
  ∃S,Rl K F H S (AA N md x) (mF N vs)/\∀b,U (AA N md x) S b->M b:=by
 let#[Z,r,a,q,p]:=Fe h o;have hl:=h.9;have get:∀(i:Nat) s,(AA N md x)[i]?=jb (jb s)->(BF md x)[i]?=jb (jb s):=λi s e=>by
  unfold AA at e;rcases QAr i x.9 with z|z
  ·rwa [Qw (by rw[JJ];exact z)]at e
  rw[Qj (by rw[JJ];exact z),wW]at e;split at e<;>cases e
 refine#[Z,#[f,?_,λi s e=>?_,λi j t s n m l b k y=>?_],λb #[i,t,e,k]=>a i t (get i _ e) b k];unfold AA mF;rw[QJ,QJ,JJ,QG,qN,qN,hl];let#[v,g,X]:=r i s (get i s e);refine#[v,?_,X];unfold mF;rw[Qw (by rw[QG];exact(QZ.mp g).1),Qd,g];rfl;cases s with|own u=>exact p i j t u n (get i _ m) (get j _ l) b k y|bor u=>exact W b (q j u (get j _ l) b y) (a i t (get i _ m) b k)
def kQ:∀{md:List Md}{k n:Nat}{vs:LV}{σ:St},vs.9=n->(∀(i:Nat) v,vs[i]?=jb v->σ[k+i]?=jb (jb v))->(vB md vs).map (λv=>jb (jb v))=(jC k md n).map λj=>σ[j]?
 |md,k,0,vs,σ,h,g=>by
  cases vs with|nil=>rfl|cons _ _=>cases h
 |md,k,n+1,vs,σ,h,g=>by
  cases vs with
  |nil=>cases h|cons v vs =>
   have x:=kQ (md:=md.tail) (k:=k+1) (n:=n) (vs:=vs) (σ:=σ) (by simpa using h) λi w y=>by have:=g (i+1) w (by simpa using y);rw[show k+1+i=k+(i+1) by omega];exact this
   have z:=g 0 v rfl;rw[XI];unfold jC;cases e:md.headD .fro with|chg=>simp only[QR,x];rw[show σ[k]?=jb (jb v) from z]|_=>exact x
def AN:∀{md:List Md}{k n j:Nat},j∈jC k md n->k<=j
 |md,k,0,j,h=>by simp[jC]at h|md,k,n+1,j,h=>by
  unfold jC at h;cases e:md.headD .fro with
  |chg=>rw[e]at h;rcases QO.mp h with z|z;omega;have:=AN z;omega
  |_=>rw[e]at h;have:=AN h;omega
def lU:∀(md:List Md) (k n:Nat),(jC k md n).Nodup
 |md,k,0=>QBy|md,k,n+1=>by
  have h:=lU md.tail (k+1) n;unfold jC;cases e:md.headD .fro with|chg=>exact wH.mpr #[λz=>by have:=AN z;omega,h]|_=>exact h
def Xm(F:FnOk P w K mg base Ha k f z ps y):FnOk P w K mg base i k f z ps y :=
 #[F.len,λA x s H args u vs Q E a b c d e=>WJ (F.run A x s H args u vs Q E a b c d e) λr j h=>by
  cases r with|error v=>exact QV h|ok g=>cases g<;>exact h]
def j4(h:zf P w K W fI l H s (λ_ _ _=>False) v s'):False:=by let#[_,_,_,_,_,_,_,_,_,_,_,_,z]:=h;exact z
def JY{R:PSp}{x B:Str}{st:y1}{f:kl}{fd:x3}{N ps:LS}{k:Nat}{b:PT}{n:Need}(F:Fun K x B st f fd)(chk:XB n b N ps st=j3)(hc:YK (jC 0 R.md ps.9) b=j3)
  (fns:∀g∈n.fn,BE P w K mg base Ψ k g) (o:ValsOk P w K mg Ψ n.va n.dc) (nos:∀y∈n.no,mg y=js) (er:n.no.contains ("raise":Str)=j3->2<=k/\U3 P w K mg base)
  (body:∀G Q E,R.run G Q E->G.9=ps.9/\∃E':XE,(∀x,E' x->E x)/\mB Ψ E' b (aC R ps.9 Q) (AA N R.md G)):FnOk P w K mg base (Ga P w K) (k+1) f fd ps (lift K R):=by
 let#[c12,c3]:=jA chk;let#[c1,c2]:=jA c12;have S:=cH c1;let#[oc,od,kV,doc,pm,an,cdv,ct,osl,rfl,lk,hcd]:=F.ex;refine ug lk hcd S (λvs H Q E h=>?_) λA C s H vs Q E hr h=>?_;let#[F',G,M,Y,h1,O,h3,h4,h5]:=h;rw[O.9];exact(body G _ _ h5).1;let#[F',G,M,Y,h1,O,h3,h4,h5]:=h;let#[hlen,E',hE',q]:=body G _ _ h5;refine#[lS K (Cm K mg Ψ) E b,λpins s1 σ1 H1 D I1 L=>?_,?_];have ok:OkS ((LK (Ga P w K) P w K mg base N B (oA st) f cdv A C s H E).wish (SX (LK (Ga P w K) P w K mg base N B (oA st) f cdv A C s H E) (wOf K) (iOf K) E)) #[N,oA st] (VN (Cm K mg Ψ) n) E:={
  N:=rfl
  sc:=rfl
  calm:=rfl
  un:=by have:=hr.un;show(A.deeper _).units+66<eI;omega
  fn:=λg hg=>by let#[a,gd,gps,g1,g2,g3,g4]:=fns g hg;exact#[Ga P w K,k,a,gd,gps,g1,hr,g2,g3,g4,L6 rfl λ_ _ z=>z,λ_ _ _ _ _ z=>j4 z]
  val:=λy hy=>by let#[u,v,e1,e2]:=o.has y hy;refine#[u,e1,?_];show ZA (bV mg y) u;unfold bV;rw[e1];show ZA ((cO u).getD .non) u;rw[e2];exact OX e2
  no:=λy hy=>nos y hy
  dic:=λy hy=>by let#[kds,e]:=o.hasD y hy;let#[a,kvs,h1,O,h3,_]:=(o.dic y kds e).at';exact#[a,kvs,h1,O,h3]
  po:=Vc (EK:=E) rfl rfl I1.ok.frames rfl
  nd:=S.nd
  cel:=λ_=>rfl
  rs:=sZ rfl λ_ _ z=>z
  er:=λhx=>by let#[h2k,fdI,FI,BI]:=er (Qb.mpr hx);exact#[1,fdI,FI 0,hr.mono h2k,BI]
  cx:=λg hg=>by let#[a,gd,gps,g1,g2,g3,g4]:=fns g hg;exact#[k,a,gd,gps,g1,hr,g2,g3,g4]
  st:=rfl
  fr:=rfl }
 refine qU ((Yv b ok c2 (HZ b c3)).1 pins s1 σ1 H1 D (I1.wish _) L) (λ_ _ q=>q.unwish) λv s2 hx=>?_;exact Z0 I1.ok.frames (λ_ _ z=>z) hx;let#[S0,I,hU]:=j5 (N:=N) h1 O h3 h4;have g:GOk K (Cm K mg Ψ) Ψ:=#[λ_ _ _ _ _ h=>h,λy d e F=>o.rep y d e F,λy kds e=>by let#[a,kvs,_,O,_,h4]:=(o.dic y kds e).at';exact#[kvs,O,h4]]
 have hvl:vs.9=ps.length:=O.length.trans hlen;have fin:∀v t W X p J l m,Stc (jC 0 R.md ps.9) F' H S0 (AA N R.md G) (mF N vs) X p J l m->Rl K X p J l m->Tr K X p j3 v t W->Held X p J l W->(∀b,W b->H b=js∨U (AA N R.md G) S0 b) ->
   S6 (fB (jC 0 R.md ps.9) l) (λos=>∀v F3 H3 Z M',Frm M F' H F3 H3->Tr K F3 H3 j3 v t Z->Trs K F3 H3 j3 (vB R.md vs) os M'->(∀b,Z b->¬ M' b)->(∀b,Z b∨M' b->M b∨H b=js)->Q v H3)->Q v p:=by
  intro v t W X p J l m s I2 r L fr q;cases eo:fB (jC 0 R.md ps.9) l with
  |none=>rw[eo]at q;exact q.elim|some os =>
   rw[eo]at q;have hv:(vB R.md vs).map (λv=>jb (jb v))=(jC 0 R.md ps.9).map λj=>m[j]?:=by rw[kQ (md:=R.md) (k:=0) (n:=ps.9) (vs:=vs) (σ:=mF N vs) hvl λi w L=>?_];exact Wi λj hj=>(s.sg j hj).symm;unfold mF;rw[QAC,Qw (by rw[QG];exact(QZ.mp L).1),Qd,L];rfl
   have trs:=I2.trs (lU _ _ _) eo hv;have own:∀j∈jC 0 R.md ps.9,∃t,l[j]?=jb (jb (.own t)):=λj hj=>by let#[i,hi]:=QAG.mp hj;let#[t,_,e]:=(rF eo).2 i j hi;exact#[t,e]
   have lk:∀b,U (AA N R.md G) S0 b∨H b=js->M b∨H b=none:=λb hb=>hb.imp (hU b) id;refine q v X p W _ #[s.ff,I2.fh,λb u e n=>s.hh b u e λz=>n (hU b z),s.dm,λb e z=>lk b (s.fn b e z)] r trs (λb hb #[j,hj,z]=>?_) λb hb=>?_;let#[t',e]:=own j hj;exact L.nw j _ e b hb z;rcases hb with hb|⟨j,hj,z⟩
   ·exact lk b (fr b hb).symm
   let#[t',e]:=own j hj;exact lk b (s.uu b #[j,t',e,z])
 refine pJ g b hc I (λx dx X p J l s fh xr ex=>?_) q #[?_,?_,λ_ _ _ _ _ _ _ z=>z.elim,λ_ _ _ _ _ _ _ z=>z.elim];exact hE' x ex dx X p #[s.ff,fh,λb u e n=>s.hh b u e λz=>n (hU b z),s.dm,λb e z=>(s.fn b e z).imp (hU b) id] xr;intro X p J l m s I2 q;exact fin .non (.d .none) (λ_=>False) X p J l m s.c I2 (.d .non λ_ z=>z) .none (λ_ z=>z.elim) q;intro v t W X p J l m s I2 r L fr q;exact fin v t W X p J l m s I2 r L fr q
def T0{R:PSp}{Ψ':PEv}{x z:Str}{st:y1}{f:kl}{i:x3}{N ps:LS}{k:Nat}{b:PT}{n:Need}(F:Fun K x z st f i)(j:mg x=jb (.ref f))(l:xF K i ps [])(chk:XB n b N ps st=j3)(hc:YK (jC 0 R.md ps.9) b=j3)
  (e:∀g∈n.fn,BE P w K mg base Ψ k g) (h:ValsOk P w K mg Ψ n.va n.dc) (a:∀y∈n.no,mg y=js)
  (er:n.no.contains ("raise":Str)=j3->2<=k/\U3 P w K mg base) (body:∀u Q E,R.run u Q E->u.9=ps.9/\∃E':XE,(∀x,E' x->E x)/\mB Ψ E' b (aC R ps.9 Q) (AA N R.md u)) (m:Ψ'.sp x=R):BE P w K mg base Ψ' (k+1) x :=
 #[f,i,ps,by rw[m];exact JY F chk hc e h a er body,j,F.kp,l]
def je{x y:Str}{st:y1}{f:kl}{e:x3}{N ps:LS}{k:Nat}{b:PT}{n:Need}(F:Fun K x y st f e)(i:mg x=jb (.ref f))(j:xF K e ps [])(chk:XB n b N ps st=j3)(g:∀z Q E,¬ (Ψ.sp x).run z Q E):BE P w K mg base Ψ (k+1) x:=by refine#[f,e,ps,Xm (F.ok (cH (jA (jA chk).1).1) (λvs H Q E h=>?_) (λq A u s H vs Q E X h=>?_)),i,F.kp,j];let#[r,z,M,Y,p,o,m,l,a]:=h;exact(g _ _ _ a).elim;let#[r,z,M,Y,p,o,m,l,a]:=h;exact(g _ _ _ a).elim
end
def PQ:PSp where
 md:=[.shal]
 run:=λx Q _=>∃h:LJ,h.9<=63/\(∀n∈h,qf n<=1048576)/\x=[.lst ((h.map j0).map T.d)]/\Q (.d (.bool j3)) []
def ao:PSp:=#[[],λ_ _ _=>False,λ_ _ h=>h]
def xP{K:QC}{F:Hp}:∀(ns:LJ),Reps K F (ns.map V.int) (ns.map j0)
 |[]=>.nil|n::r=>.cons (.int n) (xP r)
def Ml(K:QC)(H:Hp)(a:kl)(ns:LJ)(hl:ns.9<=63)(h:∀n∈ns,qf n<=1048576)(x:mD K H a (ns.map V.int)):lift K PQ [.ref a] H (λv _=>v=.bl j3) λ_ _ _=>False:=by refine#[H,[.lst ((ns.map j0).map T.d)],λ_=>False,λ_=>False,.refl _,.rd (Z:=λ_=>False) (by simp[PQ]) (.lstF x (xP ns) λ_ z=>z) (λ_ z=>z) .nil,.nil λ_ z=>z,λ_ z=>z.elim,ns,hl,h,rfl,λv k u Z y _ r _ _ _=>?_];let#[r,_]:=r.invd;cases r.inv;rfl
def vV{ns:LJ}:∀n∈ns,QAP (.int n)<=w8 (ns.map QAX.int):=by
 induction ns with|nil=>intro n h;cases h|cons m ns x=>intro n h;show _<=QAP (.int m)+1+w8 (ns.map QAX.int);rcases QO.mp h with rfl|h;omega;have:=x n h;omega
def Xe{ns:LJ}(h:QAX.layableAll [.list (ns.map .int)]=j3):∀n∈ns,qf n<=1048576:=by
 intro n z;have k:=(PySem.W.layableW_iff.mp (PySem.W.layableW_arg h _ QL)).2.2;have b:w8 (ns.map QAX.int)<=2 ^ 20:=k;have y:=vV n z;have u:QAP (.int n)=if n==0 then 0 else n.natAbs.log2+1:=rfl
 rw[PySem.intBits_le_iff];by_cases x:n=0;subst x;exact Nat.pow_pos (by decide);have:(n==0)=false:=by simpa using x
 rw[u,this]at y;have a:n.natAbs.log2+1<=1048576:=by have:n.natAbs.log2+1<=w8 (ns.map QAX.int):=y;omega
 exact(QAe (show n.natAbs≠0 by omega)).mp ()
def SU(K:QC)(x:Str)(st:y1):Prop:=∃f h,qw K vl x=jb (jb (.ref f))/\Fun K x x st f h
def dO(K:QC)(x:Str)(d:D):Prop:=∃u v,qw K vl x=jb (jb u)/\cO u=jb v/\∀F,Rep K F v d
def M3:ky->Option (V×D)
 | .int i _=>jb (.int i,.int i)|.str z _=>jb (.str z,.str z)|.bool b=>jb (.bl b,.bool b)|.none=>jb (.non,.none)|_=>js
def tV{K:QC}{u:ky}{v:V}{d:D}(h:M3 u=jb (v,d)):ZA v u/\∀F,Rep K F v d:=by
 cases u with|int i t=>cases QW h;exact#[#[_,rfl],λ_=>.int _]|str i t=>cases QW h;exact#[#[_,rfl],λ_=>.str _]|bool i=>cases QW h;exact#[rfl,λ_=>.bl _]|none=>cases QW h;exact#[rfl,λ_=>.non]|_=>cases h
def G5{K:QC}{f:kl}{x:List D}{i:Option kl}{its:LW}{n:Nat}{a:Array (Option ky)}
  (l:K.lookup f=jb #[.type "tuple",i,.seq its.toArray n,a]) (h:(its.map M3).map (λo=>o.map QCW)=x.map jb) (q:x.9<=ke):∀F,Rep K F (.ref f) (.tuple x):=by
 have k:∀(its:LW) (x:List D),(its.map M3).map (λo=>o.map QCW)=x.map jb->∃vs,YA vs its/\∀F,Reps K F vs x:=by
  intro its;induction its with
  |nil =>
   intro x h;cases x with|nil=>exact#[[],.nil,λ_=>.nil]|cons _ _=>simp at h
  |cons u its j =>
   intro x h;cases x with
   |nil=>simp at h|cons d x =>
    simp only[QR,wj]at h;let#[vs,z,y]:=j x h.2;cases e:M3 u with|none=>rw[e]at h;cases h.1|some p=>rw[e]at h;let#[v,m]:=p;have:=QW h.1;have:m=d:=this;subst this;let#[g,b]:=tV (K:=K) e;exact#[v::vs,.cons g z,λF=>.cons (b F) (y F)]
 let#[vs,z,y]:=k its x h;intro F;refine .tup (.inr #[_,its.toArray,n,l,rfl,rfl,?_,by simpa using z]) (y F);have s:=z.9;have r:=(y F).9;simp;omega
inductive Ent(K:QC)(w:vu):List hI->List (Str×D)->Prop where
 |nil:Ent K w [] []
 |cons {x:Str}{t:Tok}{u:ky}{v:V}{d:D}{es:List hI}{kds:List (Str×D)}:cO u=jb v->(∀F,Rep K F v d)->Ent K w es kds->Ent K w (#[WY w.params x,.str x t,u]::es) ((x,d)::kds)
def Ent.sc{K:QC}{w:vu}{x:Str}{t:Tok}{u:ky}{d:D}{z:List hI}{y:List (Str×D)}(h:(M3 u).map QCW=jb d)(r:Ent K w z y):Ent K w (#[WY w.params x,.str x t,u]::z) ((x,d)::y):=by
 cases e:M3 u with|none=>rw[e]at h;cases h|some p=>rw[e]at h;let#[v,k]:=p;have:k=d:=QW h;subst this;have ok:=(tV (K:=K) e).2;unfold M3 at e;split at e<;>cases e;exact .cons rfl ok r;exact .cons rfl ok r;exact .cons rfl ok r;exact .cons rfl ok r
def Ent.tup{K:QC}{w:vu}{x:Str}{t:Tok}{f:kl}{z:List D}{a:Option kl}{its:LW}{n:Nat}{k:Array (Option ky)}{u:List hI}{y:List (Str×D)}
  (l:K.lookup f=jb #[.type "tuple",a,.seq its.toArray n,k]) (h:(its.map M3).map (λo=>o.map QCW)=z.map jb) (b:z.9<=ke) (r:Ent K w u y):Ent K w (#[WY w.params x,.str x t,.ref f]::u) ((x,.tuple z)::y) :=
 .cons rfl (G5 l h b) r
def aO(w:vu)(K:QC)(x:Str)(h:List (Str×D)):Prop:=∃(a:kl) (y:Array hI) (z:Nat),qw K vl x=jb (jb (.ref a))/\(a==Gz)=Kz/\K.lookup a=jb #[.type "dict",js,.dict y z,#[]]/\Ent K w y.toList h/\(h.map qk).Nodup
def Ent.all{K:QC}{w:vu}{P:vb}{a:List hI}{y:List (Str×D)}(h:Ent K w a y):∃us:List (Str×ky),us.map qk=y.map qk/\KV (a.map T1) us/\Pairs (Wu P w) a us/\(∀e∈a,∃k,(Wu P w).is k e.key=j3/\e.hash=(Wu P w).hash k) /\
  ge (λ(p:Str×V) (q:Str×D)=>p.1=q.1/\∀F,Rep K F p.2 q.2) (a.map T1) y:=by
 induction h with
 |nil=>exact#[[],rfl,.nil,.nil,λ_ z=>(by cases z),.nil]|@cons x t u v d a y g l _ j =>
  let#[us,s,r,o,n,m]:=j;have i:T1 #[WY w.params x,.str x t,u]=(x,v):=by unfold T1;show(x,(cO u).getD .non)=(x,v);rw[g];rfl
  refine#[(x,u)::us,by simp[s],?_,.cons (QDM P w x t) rfl o,λe b=>?_,?_];rw[QR,i];exact .cons #[rfl,OX g] r;rcases QO.mp b with rfl|b
  ·exact#[x,QDM P w x t,rfl]
  exact n e b;rw[QR,i];exact .cons #[rfl,l] m
section
variable{P:vb}{w:vu}{K:QC}{mg:Str->Option ky}{base h:v6}{Ψ:PEv}
def aO.inMg(X:K.In h)(G:h.Ns vl mg)(v:aO w K x y):DictOk P w K mg x y:=by let#[a,u,r,q,p,z,o,n]:=v;have e:=QAY X G q;let#[k,l,j,i,g,b]:=o.all (P:=P);refine#[a,u.toList.map T1,e,?_,#[p,k,j,λs hk=>#[_,u,r,hk a _ z,#[rfl,rfl,rfl],rfl,λe m=>g e (by simpa using m),i,by rw[l];exact n]],b];unfold Om;rw[e];simp only[z]
def dO.inMg(X:K.In h)(G:h.Ns vl mg)(v:dO K x d):(∀F,Rep K F (bV mg x) d)/\∃u v,mg x=jb u/\cO u=jb v:=by
 let#[u,v,k,y,z]:=v;have e:=QAY X G k;refine#[λF=>?_,u,v,e,y];have:bV mg x=v:=by unfold bV;rw[e];show(cO u).getD .non=v;rw[y];rfl
 rw[this];exact z F
def S8{R:PSp}{Ψ':PEv}{x:Str}{st:y1}{N ps:LS}{k:Nat}{b:PT}{n:Need}(X:K.In h)(G:h.Ns vl mg)(D:SU K x st)(chk:XB n b N ps st=j3)(hc:YK (jC 0 R.md ps.9) b=j3)
  (p:∀(kV j m:ky) (r:Option kl) (l ct:ky) (us:LW),us.9=ps.9->Bz (qZ x x (bC st) (JB st) (oA st) .none kV j m r l ct) #[us,[]]=n5 (ps.zip us))
  (i:∀g∈n.fn,BE P w K mg base Ψ k g) (z:ValsOk P w K mg Ψ n.va n.dc) (e:∀y∈n.no,qw K vl y=jb js)
  (er:n.no.contains ("raise":Str)=j3->2<=k/\U3 P w K mg base) (body:∀u Q E,R.run u Q E->u.9=ps.9/\∃E':XE,(∀x,E' x->E x)/\mB Ψ E' b (aC R ps.9 Q) (AA N R.md u)) (q:Ψ'.sp x=R):BE P w K mg base Ψ' (k+1) x:=by
 let#[f,s,a,F]:=D;exact T0 F (QAY X G a) (F.binds p) chk hc i z (λy o=>QAu X G (e y o)) er body q
def Ko{x:Str}{st:y1}{N ps:LS}{k:Nat}{b:PT}{n:Need}(X:K.In h)(G:h.Ns vl mg)(D:SU K x st)(chk:XB n b N ps st=j3)
  (g:∀(kV y e:ky) (j:Option kl) (z ct:ky) (us:LW),us.9=ps.9->Bz (qZ x x (bC st) (JB st) (oA st) .none kV y e j z ct) #[us,[]]=n5 (ps.zip us))
  (i:∀u Q E,¬ (Ψ.sp x).run u Q E):BE P w K mg base Ψ (k+1) x:=by
 let#[f,l,a,F]:=D;exact je F (QAY X G a) (F.binds g) chk i
def BE.to{Ψ':PEv}(h:BE P w K mg base Ψ k x)(e:Ψ'.sp x=Ψ.sp x):BE P w K mg base Ψ' k x:=by let#[f,a,y,u,z]:=h;exact#[f,a,y,by rw[e];exact u,z]
def Nl{x:Str}{st:y1}{ps:LS}{k:Nat}{j:kl}(X:K.In h)(G:h.Ns vl mg)(D:SU K "law" st)(q:ps=[x])(g:mg "law"=jb (.ref j))(p:Ψ.sp "law"=PQ)
  (Y:∀(kV z i:ky) (l:Option kl) (b ct:ky) (us:LW),us.9=ps.9->Bz (qZ "law" "law" (bC st) (JB st) (oA st) .none kV z i l b ct) #[us,[]]=n5 (ps.zip us))
  (H:∀base:v6,K.In base->base.Ns vl mg->∀f y,Fun K "law" "law" st f y->mg "law"=jb (.ref f)->FnOk P w K mg base (Ga P w K) k f y ps (lift K (Ψ.sp "law"))) :
  ∃y:x3,(∀(s:kt) (u:ky),Cz s y #[[u],[]] [(x,u)])/\∀base:v6,K.In base->base.Ns vl mg->FnOk P w K mg base (Ga P w K) k j y [x] (lift K PQ):=by
 let#[f,y,a,F]:=D;have e:=g.symm.trans (QAY X G a);cases e;subst q;refine#[y,λs u=>?_,λbase o n=>?_];let#[W,Z,kV,z,i,l,b,ct,m,rfl,A,r]:=F.ex;exact .of_eq (Y kV z i l b ct [u] rfl);rw[<- p];exact H base o n j y F g
end
def UB{α:Type}{body:T->(Option T->Prop)->Prop}(g f:α->T):∀(l:List α) (h:LT) (Q:LT->Prop),(∀x∈l,∀R:Option T->Prop,R (jb (f x))->body (g x) R)->h.9+l.9<=ke->Q (h++l.map f)->gD body (l.map g) h Q
 |[],h,Q,_,hl,q=>by simp only[wJ,gD];exact#[by simpa using hl,by simpa using q]|x::r,h,Q,hb,hl,q=>by simp only[QR,gD];refine hb x QL _ ?_;simp only[QM]at hl;refine#[(),UB g f r _ Q (λy z=>hb y (QI _ z)) (by simp;omega) (by simpa using q)]
def vD{α:Type}{body:T->(Option T->Prop)->Prop}(g f:α->T)(p:α->Bool):∀(l:List α) (h:LT) (Q:LT->Prop),(∀x∈l,∀R:Option T->Prop,R (if p x=j3 then jb (f x) else js)->body (g x) R)->h.9+l.9<=ke->Q (h++(l.filter p).map f)->gD body (l.map g) h Q
 |[],h,Q,_,hl,q=>by simp only[wJ,gD];exact#[by simpa using hl,by simpa using q]|x::r,h,Q,hb,hl,q=>by
  simp only[QR,gD];refine hb x QL _ ?_;simp only[QM]at hl;cases u:p x with|true=>refine#[(),vD g f p r _ Q (λy z=>hb y (QI _ z)) (by simp;omega) ?_];rw[QDN,n8 u]at q;simpa using q|false=>refine vD g f p r _ Q (λy z=>hb y (QI _ z)) () ?_;rw[QDN,n7 (by rw[u];simp)]at q;exact q
def MH{α:Type}{xs:List α}{i:Int}(y:0<=i)(x:i<xs.9):∃v,FB xs i=jb v/\xs[i.toNat]?=jb v:=by
 have h:i.toNat<xs.length:=()
 have e:((i.toNat:Nat):Int)=i:=()
 have q:=UA (qC h);rw[e]at q;exact#[xs[i.toNat],q,qC h]
def ZG{α h:Type}(f:α->h)(xs:List α)(i:Int):FB (xs.map f) i=(FB xs i).map f:=by
 unfold FB;rw[QG];cases N3 xs.9 i with|none=>rfl|some j=>exact Qd
def FC{α:Type}{Z:PEnds}(g:α->T)(W:List α->yA->Prop)(a:∀ρ,W [] ρ->Z.nx ρ)(k:∀x xs ρ (N:yA->Prop),(∀y,W xs y->N y)->W (x::xs) ρ->yO u (g x) ρ λz=>mB Ψ E body { Z with nx:=N,ct:=N,bk:=Z.nx } z):∀(xs:List α) (ρ:yA),W xs ρ->PJ (mB Ψ E body) u Z (xs.map g) ρ
 |[],ρ,w=>a ρ w|x::xs,ρ,w=>k x xs ρ (λh=>PJ (mB Ψ E body) u Z (xs.map g) h) (λh b=>FC g W a k xs h b) w
def cf(y:List (Str×PSp))(h:List (Str×D))(z:List (Str×List (Str×D))):PEv:=#[λf=>(y.lookup f).getD ao,λx=>h.lookup x,λx=>z.lookup x]
def pX{K:QC}{tbl:List (Str×D)}{b j:LS}(X:K.In h)(G:h.Ns vl g)(i:∀p∈tbl,dO K p.1 p.2)(hd:∀p∈y,aO w K p.1 p.2)(k:(b.all λx=>(tbl.map qk).contains x)=j3)(a:(j.all λx=>(y.lookup x).isSome)=j3):ValsOk P w K g (cf l tbl y) b j:=by
 refine#[λx z e=>(hd (x,z) (qQ e)).inMg X G,λx u=>QA9.mp (Qr.mp a x u),λx d e F=>((i (x,d) (qQ e)).inMg X G).1 F,λx u=>?_];have:=Qr.mp k x u;let#[p,m,e]:=Qa.mp (Qb.mp this);rw[<- e];exact((i p m).inMg X G).2
def KQ{α:Type}[BEq α][LawfulBEq α]{l m:List α}(h:(l.all λx=>m.contains x)=j3):∀x∈l,x∈m:=λx y=>Qb.mp (Qr.mp h x y)
def PF{α:Type}(o:Option α)(K:α->Prop):Prop:=∃a,o=jb a/\K a
def PF.mk{α:Type}{o:Option α}{a:α}{K:α->Prop}(e:o=jb a)(k:K a):PF o K:=#[a,e,k]
def AE{α:Type}{a:α}{K:α->Prop}:PF (jb a) K=K a:=Pz #[λzz=>by let#[_,e,k]:=zz;cases e;exact k,λk=>#[a,rfl,k]]
def zB{α:Type}{o:Option α}{a:α}{K:α->Prop}(h:o=jb a):PF o K=K a:=by rw[h];exact AE
def EG{α h:Type}{o:Option α}{f:α->h}{K:h->Prop}:PF (o.map f) K=PF o λa=>K (f a):=by
 cases o with|none=>exact Pz #[λzz=>(by let#[_,e,_]:=zz;cases e),λzz=>(by let#[_,e,_]:=zz;cases e)]|some a=>rw[qK,AE,AE]
def bB(Ψ:PEv)(e:PX)(E:XE)(ρ:yA)(K:TK):Prop:=(pe Ψ e E).e ρ K
def OQ(Ψ:PEv)(e:PX)(E:XE)(ρ:yA)(K:Bool->yA->Prop):Prop:=(pe Ψ e E).t ρ K
def iO(Ψ:PEv)(e:PX)(E:XE)(md:List Md)(ρ:yA)(K:List (T×Bool)->yA->Prop):Prop:=(pe Ψ e E).a md ρ K
def tI(p:PSp)(h:LT)(K:T->LT->Prop)(E:XE):Prop:=p.run h K E
def ub(x:T)(n:Bool)(Ψ:PEv)(b:PX)(E:XE)(ρ:yA)(K:TK):Prop:=sq (cA x n) ρ (cu (pe Ψ b E).e) λy h=>K y.1 y.2 h
def UX(x:T)(n:Bool)(Ψ:PEv)(b:PX)(E:XE)(md:List Md)(ρ:yA)(K:List (T×Bool)->yA->Prop):Prop:=sq (if n=j3 then .d .none else x) ρ ((pe Ψ b E).a md) K
def Jv(x:T)(n:Bool)(Ψ:PEv)(b:PX)(E:XE)(ρ:yA)(K:List (T×Bool)->yA->Prop):Prop:=sq (cA x n) ρ ((pe Ψ b E).a []) K
def FL(i:Nat)(σ ρ:yA)(K:TK):Prop:=Uu σ[i]? λt=>K t Kz ρ
def C5(i:Nat)(σ:yA)(ρ:yA)(j:Nat)(R:T->yA->Prop):Prop:=Bv ρ j R σ[i]?
def mZ(Ψ:PEv)(E:XE)(r:PT)(Z:PEnds)(i:Nat)(x:T)(n:Bool)(ρ:yA):Prop:=LG x n=j3/\mB Ψ E r Z (ρ.set i (bD x.er))
def Uq(Ψ:PEv)(E:XE)(r:PT)(Z:PEnds)(i:Nat)(x:T)(n:Bool)(ρ:yA):Prop:=LG x n=j3/\mB Ψ E r Z (ρ.set i (jb (.own x)))
def JE(x:T)(n:Bool)(P:Prop):Prop:=LG x n=j3/\P
def zC(h:hT)(x:T)(n:Bool)(y:T)(m:Bool)(Q:T->Bool->Prop):Prop:=binT h (cA x n).vw (cA y m).vw Q
def iC(h:fb)(x y:T)(Q:Bool->Prop):Prop:=gU h x.er y.er Q
def Aa(x:T)(Q:Bool->Prop):Prop:=cJ x.er Q
def Dw(x:T)(Q:Bool->Prop):Prop:=Gn x.er Q
def Hd(c:PX)(x:T)(Q:Bool->Prop):Prop:=Ld c x.er Q
def kJ(f:Bi)(xs:List (T×Bool))(Q:T->Bool->Prop):Prop:=RO f (YB xs) Q
def FG(Ψ:PEv)(o:Prm)(xs:List (T×Bool))(Q:T->Bool->Prop):Prop:=HQ Ψ o (PD xs) Q
def eE(x:T)(n:Bool)(y:T)(m:Bool)(Q:T->Prop):Prop:=BO (cA x n).vw (cA y m).vw Q
def OH(x:T)(n:Bool)(l u:Option Int)(Q:T->Bool->Prop):Prop:=OE (cA x n).vw l u Q
def oN(xs:List (T×Bool))(C:LT->Prop):Prop:=fF xs=j3/\C (gE xs)
def BP(h:ItK)(xs:List (T×Bool))(R:LT->Prop):Prop:=mC h (YB xs) R
def Oa(m:Mt)(x:T)(n:Bool)(xs:List (T×Bool))(Q:T->Bool->Prop):Prop:=Yo m (cA x n).vw (YB xs) Q
def DB(md:List Md)(xs:List (T×Bool))(C:LT->Prop):Prop:=PF (BA md xs []) C
def IP(Ψ:PEv)(E:XE)(x:List Bool)(y:LS)(u:Tg)(h z:PX)(ρ:yA):T->(Option T->Prop)->Prop:=gH u (HK y.9 x (lockA ρ)) (if isNop h=j3 then λρ R=>R j3 ρ else(pe Ψ h E).t) (pe Ψ z E).e
def vh(h:Tg)(x:T)(ρ:yA)(K:yA->Prop):Prop:=yO h x ρ K
section
variable{Ψ:PEv}{E:XE}{ρ:yA}{K:TK}{L:Bool->yA->Prop}{M:List (T×Bool)->yA->Prop}{a b c v its g q:PX}{w:T->yA->Prop}
def si{i:Nat}:bB Ψ (.var i) E ρ K=FL i ρ ρ K:=rfl
def Vi{i:Int}:bB Ψ (.int i) E ρ K=K (.d (.int i)) Kz ρ:=rfl
def Ji{x:Str}:bB Ψ (.str x) E ρ K=K (.d (.str x)) Kz ρ:=rfl
def Zi:bB Ψ .non E ρ K=K (.d .none) Kz ρ:=rfl
def cE{x:Str}{d:D}(h:Ψ.va x=jb d):bB Ψ (.glo x) E ρ K=K (.d d) Kz ρ:=by show(match Ψ.va x with|some d=>K (.d d) Kz ρ|none=>False)=_;rw[h]
def Hi{e:hT}:bB Ψ (.bin e a b) E ρ K=bB Ψ a E ρ λx n u=>ub x n Ψ b E u λy m h=>zC e x n y m λz k=>K z k h:=rfl
def Dh{u:fb}:OQ Ψ (.cmp u a b) E ρ L=bB Ψ a E ρ λx n z=>ub x n Ψ b E z λy m h=>iC u x y λk=>L k h:=rfl
def Fi{x:fb}:bB Ψ (.cmp x a b) E ρ K=OQ Ψ (.cmp x a b) E ρ λk h=>K (.d (.bool k)) Kz h:=rfl
def Fh{o p:fb}:OQ Ψ (.chn o p a b c) E ρ L=bB Ψ a E ρ λx n e=>ub x n Ψ b E e λy m h=>iC o x y λk=>if k=j3 then ub y m Ψ c E h λz l u=>iC p y z λk=>L k u else L Kz h:=rfl
def Gi{o p:fb}:bB Ψ (.chn o p a b c) E ρ K=OQ Ψ (.chn o p a b c) E ρ λk h=>K (.d (.bool k)) Kz h:=rfl
def Li:bB Ψ (.and a b) E ρ K=bB Ψ a E ρ λx _ h=>Dw x λc=>if c=j3 then bB Ψ b E h K else K (.d (.bool Kz)) Kz h:=rfl
def Gh:OQ Ψ (.and a b) E ρ L=OQ Ψ a E ρ λc h=>if c=j3 then OQ Ψ b E h L else L Kz h:=rfl
def su:bB Ψ (.or a b) E ρ K=bB Ψ a E ρ λx _ h=>Dw x λc=>if c=j3 then K (.d (.bool j3)) Kz h else bB Ψ b E h K:=rfl
def Ht:OQ Ψ (.or a b) E ρ L=OQ Ψ a E ρ λc h=>if c=j3 then L j3 h else OQ Ψ b E h L:=rfl
def Bh:OQ Ψ (.not a) E ρ L=OQ Ψ a E ρ λc h=>L (!c) h:=rfl
def BS:∀(md:List Md) (v:PX),(md.all λm=>!m.isMut)=j3->dA md v=[]:=by
 intro md;induction md with
 |nil=>intro v _;cases v<;>rfl|cons m md x =>
  intro v h;rw[qB,Qc]at h;cases m with
  |chg=>cases h.1|_=>cases v with|acons a v=>exact x v h.2|_=>rfl
def uA{f:Str}{p:PSp}{md:List Md}(h:Ψ.sp f=p)(n:p.md=md)(l:(md.all λm=>!m.isMut)=j3):bB Ψ (.call f v) E ρ K=iO Ψ v E md ρ λxs x=>DB md xs λz=>tI p z (λr os=>os=[]/\K r j3 x) E:=by
 have j:=BS;show(∃os,fB (dA (Ψ.sp f).md v) ρ=jb os/\(dA (Ψ.sp f).md v).Nodup/\(pe Ψ v E).a (Ψ.sp f).md (clear (dA (Ψ.sp f).md v) ρ) λxs x=>∃z,BA (Ψ.sp f).md xs os=jb z/\(Ψ.sp f).run z (λr u=>∃y,IC (dA (Ψ.sp f).md v) u x=jb y/\K r j3 y) E)=_;rw[h,n,j md v l];have i:∀(r:T) (os:LT) (x:yA),(∃y,IC [] os x=jb y/\K r j3 y)=(os=[]/\K r j3 x):=by
  intro r os x;cases os with|nil=>exact Pz #[λzz=>by let#[_,e,k]:=zz;cases e;exact#[rfl,k],λk=>#[_,rfl,k.2]]|cons _ _=>exact Pz #[λzz=>(by let#[_,e,k]:=zz;cases e),λk=>(by cases k.1)]
 have:=λ(x:yA)=>funext λr=>funext λos=>i r os x;simp only[this];exact Pz #[λzz=>by let#[_,e,_,k]:=zz;cases e;exact k,λk=>#[_,rfl,QBy,k]]
def xa{f:Str}:OQ Ψ (.call f v) E ρ L=bB Ψ (.call f v) E ρ λt _ h=>Aa t λb=>L b h:=rfl
def Ch:OQ Ψ (.isi a c) E ρ L=bB Ψ a E ρ λx _ h=>Hd c x λb=>L b h:=rfl
def tu{f:Bi}:bB Ψ (.bi f v) E ρ K=iO Ψ v E [] ρ λxs h=>kJ f xs λz k=>K z k h:=rfl
def Yi{o:Prm}:bB Ψ (.prm o v) E ρ K=iO Ψ v E [] ρ λxs h=>FG Ψ o xs λz k=>K z k h:=rfl
def R7(h:isMut m=Kz):pR m (cA (.d (.str z)) n).vw=true:=by cases n<;>cases m<;>first|rfl|cases h
def AY:bB Ψ (.mt .split a v) E ρ K=bB Ψ a E ρ λx n y=>pR .split (cA x n).vw=j3/\Jv x n Ψ v E y λxs h=>Oa .split x n xs λz k=>K z k h:=rfl
def RU{j:Nat}:bB Ψ (.mt .append (.var j) v) E ρ K=pE ρ[j]? λt=>UJ .append t=j3/\iO Ψ v E [] (ρ.set j (jb (.bor t))) λxs h=>fF xs=j3/\h[j]?=jb (jb (.bor t))/\lN .append t (gE xs) λr s'=>K r j3 (h.set j (jb (.own s'))):=rfl
def Xi:bB Ψ (.idx a b) E ρ K=bB Ψ a E ρ λx n u=>ub x n Ψ b E u λy m h=>eE x n y m λz=>K z Kz h:=rfl
def MU{i:Int}:bB Ψ (.slc a (.int i) .nop) E ρ K=bB Ψ a E ρ λx n h=>OH x n (jb i) js λz k=>K z k h:=by
 show(pe Ψ a E).e ρ (λx n h=>sq (cA x n) h (λρ (R:Option Int->yA->Prop)=>R (jb i) ρ) λl j=>sq (cA x n) j (λρ (R:Option Int->yA->Prop)=>R js ρ) λu y=>OE (cA x n).vw l u λz k=>K z k y)=_;have:∀x n h,(sq (cA x n) h (λρ (R:Option Int->yA->Prop)=>R (jb i) ρ) λl j=>sq (cA x n) j (λρ (R:Option Int->yA->Prop)=>R js ρ) λu y=>OE (cA x n).vw l u λz k=>K z k y)=OE (cA x n).vw (jb i) js λz k=>K z k h:=by intro x n h;unfold sq;split<;>rfl
 simp only[this];rfl
def NU{i:Int}:bB Ψ (.slc a .nop (.int i)) E ρ K=bB Ψ a E ρ λx n h=>OH x n js (jb i) λz k=>K z k h:=by
 show(pe Ψ a E).e ρ (λx n h=>sq (cA x n) h (λρ (R:Option Int->yA->Prop)=>R js ρ) λl j=>sq (cA x n) j (λρ (R:Option Int->yA->Prop)=>R (jb i) ρ) λu y=>OE (cA x n).vw l u λz k=>K z k y)=_;have:∀x n h,(sq (cA x n) h (λρ (R:Option Int->yA->Prop)=>R js ρ) λl j=>sq (cA x n) j (λρ (R:Option Int->yA->Prop)=>R (jb i) ρ) λu y=>OE (cA x n).vw l u λz k=>K z k y)=OE (cA x n).vw js (jb i) λz k=>K z k h:=by intro x n h;unfold sq;split<;>rfl
 simp only[this];rfl
def Ki:bB Ψ (.lst v) E ρ K=iO Ψ v E [] ρ λxs x=>xs.9<=ke/\oN xs λy=>K (.lst y) j3 x:=by have:∀(xs:List (T×Bool)) x,(xs.9<=ke/\oN xs λy=>K (.lst y) j3 x)=(fF xs=j3/\xs.9<=ke/\K (.lst (gE xs)) j3 x):=λxs x=>Pz #[λh=>#[h.2.1,h.1,h.2.2],λh=>#[h.2.1,h.1,h.2.2]];simp only[this];rfl
def ai:bB Ψ (.tup v) E ρ K=iO Ψ v E [] ρ λxs x=>xs.9<=ke/\oN xs λy=>K (RF y) j3 x:=by have:∀(xs:List (T×Bool)) x,(xs.9<=ke/\oN xs λy=>K (RF y) j3 x)=(fF xs=j3/\xs.9<=ke/\K (RF (gE xs)) j3 x):=λxs x=>Pz #[λh=>#[h.2.1,h.1,h.2.2],λh=>#[h.2.1,h.1,h.2.2]];simp only[this];rfl
def Da{h:List Bool}{z:LS}{u:Tg}{k:ItK}:bB Ψ (.comp h z u k its q g) E ρ K=iO Ψ its E [] ρ λxs y=>BP k xs λx =>
   gD (IP Ψ (λ_=>False) h z u q g y) x [] λys=>K (.lst ys) j3 y:=rfl
def lh:IP Ψ E [] [t] (.nm 0) .nop g ρ x R=bB Ψ g E (jb (.bor x)::lockA ρ) λy n _=>JE y n (R (jb y)):=rfl
def ya:IP Ψ E [] [t,u] (.tp [0,1]) .nop g ρ (.d (.tuple [x,y])) R=bB Ψ g E (bD x::bD y::lockA ρ) λy n _=>JE y n (R (jb y)):=AE
def mh:IP Ψ E [] [t] (.nm 0) (.cmp z a b) g ρ x R=OQ Ψ (.cmp z a b) E (jb (.bor x)::lockA ρ) λk h=>if k=j3 then bB Ψ g E h λy n _=>JE y n (R (jb y)) else R none:=rfl
def Ni{md:List Md}:iO Ψ .anil E md ρ M=M [] ρ:=rfl
def Ma:iO Ψ (.acons a v) E [] ρ M=bB Ψ a E ρ λx n y=>UX x n Ψ v E [] y λxs h=>M ((x,n)::xs) h:=rfl
def EU{md:List Md}:iO Ψ (.acons a v) E (.shal::md) ρ M=bB Ψ a E ρ λx n y=>UX x n Ψ v E md y λxs h=>M ((x,n)::xs) h:=rfl
def IU{md:List Md}:iO Ψ (.acons a v) E (.bor::md) ρ M=bB Ψ a E ρ λx n y=>UX x n Ψ v E md y λxs h=>M ((x,n)::xs) h:=rfl
def Eh:oE Ψ E w (.var i) ρ=C5 i ρ ρ i w:=rfl
def ki:oE Ψ E w (.ife c a b) ρ=OQ Ψ c E ρ λk h=>if k=j3 then oE Ψ E w a h else oE Ψ E w b h:=rfl
def yi:oE Ψ E w .non ρ=w (.d .none) ρ:=Pz #[λh=>h.2,λh=>#[rfl,h]]
def Pt{x:Bool}:oE Ψ E w (.bl x) ρ=w (.d (.bool x)) ρ:=Pz #[λh=>h.2,λh=>#[rfl,h]]
def Xa:oE Ψ E w (.call f v) ρ=bB Ψ (.call f v) E ρ λx n h=>JE x n (w x h):=rfl
def ui:oE Ψ E w (.bin y a b) ρ=bB Ψ (.bin y a b) E ρ λx n h=>JE x n (w x h):=rfl
def xi:oE Ψ E w (.cmp y a b) ρ=bB Ψ (.cmp y a b) E ρ λx n h=>JE x n (w x h):=rfl
def ci:oE Ψ E w (.and a b) ρ=bB Ψ (.and a b) E ρ λx n h=>JE x n (w x h):=rfl
def Ot:oE Ψ E w (.or a b) ρ=bB Ψ (.or a b) E ρ λx n h=>JE x n (w x h):=rfl
def Tt:oE Ψ E w (.bi f v) ρ=bB Ψ (.bi f v) E ρ λx n h=>JE x n (w x h):=rfl
def vi:oE Ψ E w (.idx a b) ρ=bB Ψ (.idx a b) E ρ λx n h=>JE x n (w x h):=rfl
def zi:oE Ψ E w (.lst v) ρ=bB Ψ (.lst v) E ρ λx n h=>JE x n (w x h):=rfl
def Va:oE Ψ E w (.comp h y u k its q g) ρ=bB Ψ (.comp h y u k its q g) E ρ λx n z=>JE x n (w x z):=rfl
def iy:FL (i+1) (s::σ) ρ K=FL i σ ρ K:=rfl
def Vy:FL 0 (jb (.bor t)::σ) ρ K=K t Kz ρ:=rfl
def Jy:FL 0 (jb (.own t)::σ) ρ K=K t Kz ρ:=rfl
def Ky:FL i (lockA σ) ρ K=FL i σ ρ K:=by
 unfold FL lockA;rw[Qd];cases σ[i]? with
 |none=>rfl|some s=>cases s with|none=>rfl|some s=>cases s<;>rfl
def py:C5 (i+1) (s::σ) ρ j w=C5 i σ ρ j w:=rfl
def ay:C5 0 (bD x::σ) ρ j w=w (.d x) ρ:=Pz #[λh=>h.2,λh=>#[rfl,h]]
def sy:C5 0 (jb (.own t)::σ) ρ j w=w t (ρ.set j js):=rfl
def Bx:ub (.d x) n Ψ b E ρ K=bB Ψ b E ρ K:=by cases n<;>rfl
def Xx:ub x j3 Ψ b E ρ K=bB Ψ b E ρ K:=rfl
def Ux:ub (.lst h) Kz Ψ b E ρ K=bB Ψ b E (lockA ρ) λy m _=>K y m ρ:=rfl
def uy:UX (.d x) n Ψ b E md ρ M=iO Ψ b E md ρ M:=by cases n<;>rfl
def vy:UX x j3 Ψ b E md ρ M=iO Ψ b E md ρ M:=rfl
def xy:UX (.lst h) Kz Ψ b E md ρ M=iO Ψ b E md (lockA ρ) λxs _=>M xs ρ:=rfl
def jy:Jv (.d x) n Ψ b E ρ M=iO Ψ b E [] ρ M:=by cases n<;>rfl
end
section
variable{Ψ:PEv}{E:XE}{ρ σ:yA}{Z:PEnds}{s r q:PT}{i:Nat}{e c its:PX}{o:Option Sl}{n:Bool}{v:D}{P:Prop}{z:List D}{x:T}
def xA:mB Ψ E .nil Z ρ=Z.nx ρ:=rfl
def Mh:mB Ψ E (.seq (.set i e) r) Z (o::σ)=bB Ψ e E (o::σ) λx n h=>mZ Ψ E r Z i x n h:=rfl
def Rh:mB Ψ E (.seq (.own i e) r) Z (o::σ)=bB Ψ e E (o::σ) λx n h=>Uq Ψ E r Z i x n h:=rfl
def Ka:mB Ψ E (.seq (.expr e) r) Z (o::σ)=bB Ψ e E (o::σ) λ_ _ h=>mB Ψ E r Z h:=rfl
def Oh:mB Ψ E (.seq (.ret e) r) Z (o::σ)=oE Ψ E Z.rt e (o::σ):=rfl
def Nh{x:Str}:mB Ψ E (.seq (.rse x m e) r) Z ρ=(Zd m ρ/\∃y,Ψ.va x=jb (IF y)/\bB Ψ e E ρ λv _ _=>∃p,v=.d (.int p)/\E (y,p)):=rfl
def Sh:mB Ψ E (.seq (.ife c s .nil) r) Z (o::σ)=OQ Ψ c E (o::σ) λk h=>if k=j3 then mB Ψ E s { Z with nx:=λy=>mB Ψ E r Z y } h else mB Ψ E r Z h:=rfl
def Ah:mB Ψ E (.seq (.for_ k b its q) r) Z (o::σ)=iO Ψ its E [] (o::σ) λxs h=>BP b xs λy =>
   if jL xs=j3 then PJ (mB Ψ E q) k { Z with nx:=λu=>mB Ψ E r Z (kill k.ix u) } y h
   else PJ (mB Ψ E q) k { Z with nx:=λu=>V4 k.ix (jD h (vJ its)) h (λa=>mB Ψ E r Z a) (kill k.ix u) } y (lock (jD h (vJ its)) h):=rfl
def Te:mZ Ψ E r Z i (.d v) n ρ=mB Ψ E r Z (ρ.set i (bD v)):=Pz #[λh=>h.2,λh=>#[by cases n<;>rfl,h]]
def jo:mZ Ψ E r Z i (.lst (z.map T.d)) j3 ρ=mB Ψ E r Z (ρ.set i (bD (.list z))):=by unfold mZ T.er;rw[EA];exact Pz #[λh=>h.2,λh=>#[rfl,h]]
def Hx:Uq Ψ E r Z i x j3 ρ=mB Ψ E r Z (ρ.set i (jb (.own x))):=Pz #[λh=>h.2,λh=>#[rfl,h]]
def Uy:JE (.d v) n P=P:=Pz #[λh=>h.2,λh=>#[by cases n<;>rfl,h]]
def Xy:JE x j3 P=P:=Pz #[λh=>h.2,λh=>#[rfl,h]]
def uY:(([]:LT)=[]/\P)=P:=Pz #[λh=>h.2,λh=>#[rfl,h]]
def Gr{A:Prop}:(if(true:Bool)=j3 then A else B)=A:=rfl
def Hr{A:Prop}:(if(false:Bool)=j3 then A else B)=B:=rfl
def Ex{v:Option Sl}:mB Ψ E r Z (QAZ (h::σ) 0 v)=mB Ψ E r Z (v::σ):=rfl
def Ax{v:Option Sl}:mB Ψ E r Z (QAZ (h::y::σ) 1 v)=mB Ψ E r Z (h::v::σ):=rfl
def Tx{v:Option Sl}:mB Ψ E r Z (QAZ (y::h::u::σ) 2 v)=mB Ψ E r Z (y::h::v::σ):=rfl
def Sx{v:Option Sl}:mB Ψ E r Z (QAZ (u::y::h::k::σ) 3 v)=mB Ψ E r Z (u::y::h::v::σ):=rfl
def Rx{v:Option Sl}:mB Ψ E r Z (QAZ (k::u::y::h::a::σ) 4 v)=mB Ψ E r Z (k::u::y::h::v::σ):=rfl
def Px{v:Option Sl}:mB Ψ E r Z (QAZ (a::k::u::y::h::b::σ) 5 v)=mB Ψ E r Z (a::k::u::y::h::v::σ):=rfl
def Ox{v:Option Sl}:mB Ψ E r Z (QAZ (b::a::k::u::y::h::g::σ) 6 v)=mB Ψ E r Z (b::a::k::u::y::h::v::σ):=rfl
def Nx{v:Option Sl}:mB Ψ E r Z (QAZ (g::b::a::k::u::y::h::j::σ) 7 v)=mB Ψ E r Z (g::b::a::k::u::y::h::v::σ):=rfl
def Mx{v:Option Sl}:mB Ψ E r Z (QAZ (j::g::b::a::k::u::y::h::l::σ) 8 v)=mB Ψ E r Z (j::g::b::a::k::u::y::h::v::σ):=rfl
def Lx{v:Option Sl}:mB Ψ E r Z (QAZ (l::j::g::b::a::k::u::y::h::m::σ) 9 v)=mB Ψ E r Z (l::j::g::b::a::k::u::y::h::v::σ):=rfl
end
section
variable{d:D}{n m:Bool}{i j:Int}{z y:Str}{b:Bool}{xs:List (T×Bool)}{a:LT}{v w:List D}{md:List Md}{t:T}{C:LT->Prop}{Q:T->Bool->Prop}{L:Bool->Prop}{R:T->Prop}{W:LT->Prop}
def VT{α:Type}(f:α->D)(l:List α):l.map (λc=>T.d (f c))=(l.map f).map T.d:=by rw[Q8];rfl
def ID:(cA (.lst (v.map T.d)) n).vw=.ls (v.map T.d):=by cases n;rfl;show Vw.ls ((ersT (v.map T.d)).map T.d)=_;rw[EA]
def di:DB md [] C=C []:=AE
def Fx:DB [] ((.d d,n)::xs) C=DB [] xs λa=>C (.d d::a):=by
 have e:BA [] ((.d d,n)::xs) []=(BA [] xs []).map (.d d::·):=by cases n<;>rfl
 unfold DB;rw[e,EG]
def Gx:DB (.bor::md) ((t,Kz)::xs) C=DB md xs λa=>C (t::a):=by have e:BA (.bor::md) ((t,Kz)::xs) []=(BA md xs []).map (t::·):=rfl;unfold DB;rw[e,EG]
def Uj:zE (.lst (v.map T.d))=jb (.lst (v.map T.d)):=by simp only[zE,T.vw,nA,qK]
def Dx(h:zE (cA t n)=jb u):DB (.shal::md) ((t,n)::xs) C=DB md xs λa=>C (u::a):=by
 have e:BA (.shal::md) ((t,n)::xs) []=(BA md xs []).map (u::·):=by show(match zE (cA t n) with|some t=>(BA md xs []).map (t::·)|none=>js)=_;rw[h]
 unfold DB;rw[e,EG]
def At:DB (.shal::md) ((.lst (v.map T.d),n)::xs) C=DB md xs λa=>C (.lst (v.map T.d)::a):=Dx (by cases n;exact Uj;show zE (.d (.list (ersT (v.map T.d))))=_;rw[EA];simp only[zE,T.vw,nA,qK])
def oi:oN [] C=C []:=Pz #[λh=>h.2,λh=>#[rfl,h]]
def zy:oN ((.d d,n)::xs) C=oN xs λa=>C (.d d::a):=by show((LG (.d d) n&&fF xs)=j3/\C (.d d::gE xs))=(fF xs=j3/\C (.d d::gE xs));rw[show LG (.d d) n=j3 by cases n<;>rfl,QAT]
def Mi{i j:Nat}{y:D}:vh (.tp [i,j]) (.d (.tuple [x,y])) ρ P=P ((ρ.set i (bD x)).set j (bD y)):=AE
def Os:yO h t ρ P=vh h t ρ P:=rfl
def Xh:zC .Add (.d (.int i)) n (.d (.int j)) m Q=Q (.d (.int (i+j))) false:=by unfold zC;rw[zA,zA];exact Vn i j
def Vh:zC .Add (.d (.str z)) n (.d (.str y)) m Q=(z.9+y.9<=ke/\Q (.d (.str (z++y))) Kz):=by unfold zC;rw[zA,zA];exact Kn z y
def nh:zC .Sub (.d (.int i)) n (.d (.int j)) m Q=Q (.d (.int (i - j))) false:=by unfold zC;rw[zA,zA];exact Yn i j
def rh:zC .Mult (.d (.int i)) n (.d (.int j)) m Q=(eN i j/\Q (.d (.int (i * j))) Kz):=by unfold zC;rw[zA,zA];exact Jn i j
def oh:zC .Mult (.d (.str z)) n (.d (.int j)) m Q=((-(2 ^ 31)<=j/\j<2 ^ 31/\z.9 * j.toNat<=ke)/\Q (.d (.str (aI z j))) Kz):=by unfold zC;rw[zA,zA];exact on z j
def Kh:zC .FloorDiv (.d (.int i)) n (.d (.int j)) m Q=((0<j/\j<2 ^ 200)/\Q (.d (.int (i / j))) Kz):=by unfold zC;rw[zA,zA];exact cn i j
def Jh:zC .Mod (.d (.int i)) n (.d (.int j)) m Q=(0<j/\Q (.d (.int (i % j))) Kz):=by unfold zC;rw[zA,zA];exact bn i j
def ph:zC .Pow (.d (.int i)) n (.d (.int j)) m Q=(La i j/\Q (.d (.int (i ^ j.toNat))) Kz):=by unfold zC;rw[zA,zA];exact Ue i j
def Vt:zC .Add (.lst (v.map T.d)) n (.lst (w.map T.d)) m Q=(v.9+w.9<=ke/\Q (.lst ((v++w).map T.d)) j3):=by unfold zC;rw[ID,ID,N9,nA,nA];exact Pz #[λzz=>by let#[_,_,x,h,k]:=zz;cases x;cases h;exact k,λk=>#[_,_,rfl,rfl,k]]
def Kt:zC .Add (.d (.tuple v)) n (.d (.tuple w)) m Q=((v≠[]/\w≠[]/\v.9+w.9<=ke)/\Q (.d (.tuple (v++w))) Kz):=by unfold zC;rw[zA,zA];show binT .Add (.tp (v.map T.d)) (.tp (w.map T.d)) Q=_;rw[Zn,nA,nA];exact Pz #[λzz=>by let#[_,_,g,e,u,x,h,k]:=zz;cases g;cases e;exact#[#[u,x,h],k],λ#[#[u,x,h],k]=>#[_,_,rfl,rfl,u,x,h,k]]
def Dt:zC .Add t n (.lst [.d d]) m Q=zC .Add t n (.lst ([d].map T.d)) m Q:=rfl
def Zh:zC .Add (.lst [.d d]) n t m Q=zC .Add (.lst ([d].map T.d)) n t m Q:=rfl
def Ct:zC .Add t n (.lst [.d d,.d e]) m Q=zC .Add t n (.lst ([d,e].map T.d)) m Q:=rfl
def ur:RF [.d d]=.d (.tuple [d]):=rfl
def Ig:iC .Eq (.d (.int i)) (.d (.int j)) L=L (decide (i=j)):=rfl
def Eg:iC .Eq (.d (.str z)) (.d (.str y)) L=L (decide (z=y)):=rfl
def Dg:iC .NotEq (.d (.int i)) (.d (.int j)) L=L (!decide (i=j)):=rfl
def Cg:iC .NotEq (.d (.str z)) (.d (.str y)) L=L (!decide (z=y)):=rfl
def Ds:iC .Lt (.d (.int i)) (.d (.int j)) L=L (decide (i<j)):=rfl
def Gs:iC .LtE (.d (.int i)) (.d (.int j)) L=L (decide (i<=j)):=rfl
def Lg:iC .Is (.d .none) (.d .none) L=L true:=rfl
def Ng:iC .Is (.d (.int i)) (.d .none) L=L false:=rfl
def Hg:iC .Is (.d (.tuple v)) (.d .none) L=L false:=rfl
def Mg:iC .Is (.lst a) (.d .none) L=L false:=rfl
def Ug:iC .IsNot (.d .none) (.d .none) L=L false:=rfl
def Bg:iC .IsNot (.d (.list v)) (.d .none) L=L true:=rfl
def Sg:iC .In (.d (.str z)) (.d (.str y)) L=L (inStr y z):=rfl
def Og:iC .In (.d (.str z)) (.d (.tuple v)) L=(((SA (.str z)=j3/\v.all SA=j3)∨(GG (.str z)/\GG (.list v)))/\L (v.any λy=>Q2 y (.str z))):=rfl
def D9:iC .NotIn (.d (.str z)) (.d (.tuple v)) L=(((SA (.str z)=j3/\v.all SA=j3)∨(GG (.str z)/\GG (.list v)))/\L (!(v.any λy=>Q2 y (.str z)))):=rfl
def Pg:iC .In (.d (.str z)) (.lst (v.map T.d)) L=(((SA (.str z)=j3/\v.all SA=j3)∨(GG (.str z)/\GG (.list v)))/\L (v.any λy=>Q2 y (.str z))):=by unfold iC T.er;rw[EA];rfl
def L9:iC .In (.d .none) (.lst (v.map T.d)) L=(((SA .none=j3/\v.all SA=j3)∨(GG .none/\GG (.list v)))/\L (v.any λy=>Q2 y .none)):=by unfold iC T.er;rw[EA];rfl
def yx:Aa (.d (.bool b)) L=L b:=rfl
def Jx:Dw (.d (.bool b)) L=L b:=rfl
def Lr(h:isD k d=jb b)(hk:CP k=j3):Hd (.bty x k) (.d d) L=L b:=by show(∃b,isD k d=jb b/\CP k=j3/\L b)=_;exact Pz #[λzz=>by let#[_,e,_,q]:=zz;rw[h]at e;cases e;exact q,λq=>#[_,h,hk,q]]
def Mr:Hd (.bty x "int") (.d (.int i)) L=L true:=Lr rfl rfl
def Nr:Hd (.bty x "bool") (.d (.int i)) L=L false:=Lr rfl rfl
def Af:kJ .len [(.d (.str z),n)] Q=(z.9<=ke/\Q (.d (.int z.9)) Kz):=by unfold kJ YB;rw[zA];exact yt z
def Rq:kJ .len [(.d (.list v),n)] Q=Q (.d (.int v.9)) false:=by unfold kJ YB;rw[zA];refine(xh _).trans ?_;rw[QG]
def Mq:kJ .len [(.d (.tuple v),n)] Q=Q (.d (.int v.9)) false:=by unfold kJ YB;rw[zA];refine(jt _).trans ?_;rw[QG]
def Pq:kJ .len [(.lst (v.map T.d),n)] Q=Q (.d (.int v.9)) false:=by unfold kJ YB;rw[ID];refine(xh _).trans ?_;rw[QG]
def yg:kJ .all [(.lst (v.map T.d),n)] Q=∃bs:List Bool,v=bs.map PyData.bool/\Q (.d (.bool (bs.all id))) false:=by unfold kJ YB;rw[ID];refine(Es _).trans ?_;simp only[nA,Qx]
def Aq:kJ .int [(.d (.bool b),n)] Q=Q (.d (.int (if b then 1 else 0))) false:=by unfold kJ YB;rw[zA];exact As b
def Tq:kJ .int [(.d (.str z),n)] Q=(z.9<=640/\PF (intText? z) λi=>Q (.d (.int i)) Kz):=by unfold kJ YB;rw[zA];exact Ts z
def Oq:kJ .str [(.d (.int i),n)] Q=(i.natAbs.log2<1920/\Q (.d (.str (n6 i))) Kz):=by unfold kJ YB;rw[zA];exact Ss i
def Nq:kJ .str [(.d (.str z),n)] Q=Q (.d (.str z)) false:=by unfold kJ YB;rw[zA];exact Rs z
def Tf:kJ .max [(.d (.int i),n),(.d (.int j),m)] Q=Q (.d (.int (if j > i then j else i))) false:=by unfold kJ YB YB;rw[zA,zA];exact Cn i j
def Aw:eE (.lst (v.map T.d)) n (.d (.int i)) m R=PF (FB v i) λd=>R (.d d):=by unfold eE;rw[ID,zA];refine(O8 _ _).trans ?_;show PF (FB (v.map T.d) i) R=_;rw[ZG,EG]
def Co:eE (.d (.list v)) n (.d (.int i)) m R=PF (FB v i) λd=>R (.d d):=by unfold eE;rw[zA,zA];refine(O8 _ _).trans ?_;show PF (FB (v.map T.d) i) R=_;rw[ZG,EG]
def Ei:eE (.d (.tuple v)) n (.d (.int i)) m R=PF (FB v i) λd=>R (.d d):=by unfold eE;rw[zA,zA];refine(N8 _ _).trans ?_;show PF (FB (v.map T.d) i) R=_;rw[ZG,EG]
def Ho:eE (.lst [.d d,.d e]) n t m R=eE (.lst ([d,e].map T.d)) n t m R:=rfl
def Tw:eE (.d (.str z)) n (.d (.int i)) m R=(z.9<=ke/\PF (FB z.cps.toList i) λc=>R (.d (.str #[(List.toArray [c])]))):=by unfold eE;rw[zA,zA];exact Jm _ _
def xx:OH (.d (.str z)) n l u Q=(z.9<=ke/\Q (.d (.str (QAF z l u))) Kz):=by unfold OH;rw[zA];exact Kj z
def Xv:OH (.d (.list v)) n l u Q=Q (.lst ((ZE v l u).map T.d)) true:=by unfold OH;rw[zA];refine(Zj _).trans ?_;rw[nA];exact AE
def Vv(h:ZE v l u=w):OH (.d (.list v)) n l u Q=Q (.lst (w.map T.d)) true:=by rw[<- h];exact Xv
def nr:Oa .split (.d (.str z)) n [(.d (.str y),m)] Q=((z.9<=ke/\0<y.9/\(qO z y).9<=ke)/\Q (.lst (((qO z y).map Jz).map T.d)) j3):=by unfold Oa YB;rw[zA,zA];refine(yr z y).trans ?_;rw[and_assoc,and_assoc]
def gr:(pR .split (cA (.d (.str z)) n).vw=j3/\P)=P:=Pz #[λh=>h.2,λh=>#[R7 rfl,h]]
def Ew:BP .val [(.d (.str z),n)] W=W (z.cps.toList.map λc=>.d (.str #[(List.toArray [c])])):=by unfold BP YB;rw[zA];exact B8 z
def Iw:BP .val [(.d (.list v),n)] W=W (v.map T.d):=by unfold BP YB;rw[zA];exact OT _
def No:BP .val [(.lst (v.map T.d),n)] W=W (v.map T.d):=by unfold BP YB;rw[ID];exact OT _
def Mo:BP .rng1 [(.d (.int j),n)] W=((-(2 ^ 62)<=j/\j<2 ^ 62)/\W ((QH j.toNat).map λ(i:Nat)=>.d (.int (i:Int)))):=by unfold BP YB;rw[zA];exact X8 j
def Oi{x y:Vw}(u:x.seq=jb (v.map T.d))(h:y.seq=jb (w.map T.d)):mC .zip2 [x,y] W=W ((v.zip w).map λp=>.d (.tuple [p.1,p.2])):=by rw[V8];exact Pz #[λzz=>by let#[_,_,_,_,o,l,g,e,k]:=zz;rw[u]at o;rw[h]at l;cases o;cases l;rw[nA]at g e;cases g;cases e;exact k,λk=>#[_,_,_,_,u,h,nA _,nA _,k]]
def kf:BP .zip2 [(.d (.tuple v),n),(.lst (w.map T.d),m)] W=W ((v.zip w).map λp=>.d (.tuple [p.1,p.2])):=by unfold BP YB YB;rw[zA,ID];exact Oi rfl rfl
def Oo:BP .enumA [(.d (.list v),n),(.d (.int i),m)] W=((0<=i/\i<2 ^ 62)/\W (v.zipIdx.map λp=>.d (.tuple [.int ((i.toNat+p.2:Nat):Int),p.1]))):=by unfold BP YB YB;rw[zA,zA];refine(K8 _ _).trans ?_;exact Pz #[λzz=>by let#[_,_,x,h,k]:=zz;cases x;rw[nA]at h;cases h;exact k,λk=>#[_,_,rfl,nA _,k]]
def Hf{Ψ:PEv}(h:Ψ.dc x=jb u):FG Ψ (.dget x) [(.d (.str z),n)] Q=Q (.d ((u.lookup z).getD .none)) false:=by unfold FG PD;rw[zA];refine(gk x z).trans ?_;rw[h];exact AE
def DV{Ψ:PEv}(h:Ψ.dc x=jb u)(e:(u.lookup z).getD .none=d):FG Ψ (.dget x) [(.d (.str z),n)] Q=Q (.d d) false:=by rw[<- e];exact Hf h
def Ck{Ψ:PEv}(h:Ψ.dc x=jb u)(e:u.lookup z=jb d):FG Ψ (.dix x) [(.d (.str z),n)] Q=Q (.d d) false:=by unfold FG PD;rw[zA];refine(fk x z).trans ?_;rw[h];exact Pz #[λzz=>by let#[_,_,l,g,k]:=zz;cases l;rw[e]at g;cases g;exact k,λk=>#[_,_,rfl,e,k]]
def Yq:FG Ψ .tmul [(.d (.tuple v),n),(.d (.int i),m)] Q=((v≠[]/\1<=i/\i<2 ^ 31/\v.9 * i.toNat<=ke)/\Q (.d (.tuple (QK i.toNat v).flatten)) Kz):=by unfold FG PD PD;rw[zA,zA];refine(dk v i).trans ?_;exact Pz #[λ#[u,x,h]=>#[#[u,x],h],λ#[#[u,x],h]=>#[u,x,h]]
def eZ(Q:T->LT->Prop):PEnds:={ nx:=λ_=>Q (.d .none) [],rt:=λt _=>Q t [] }
def ig{Q:T->LT->Prop}{t:T}:(eZ Q).rt t ρ=Q t []:=rfl
def Jg{Q:T->LT->Prop}:(eZ Q).nx ρ=Q (.d .none) []:=rfl
def rA{b:PT}{p:PSp}{ps:LS}{v:LT}{Q:T->LT->Prop}(ρ:yA)(h:pF Ψ b (eZ Q) ρ)(hl:autoParam (v.9=ps.length) zzr._auto_1)(hc:autoParam (jC 0 p.md ps.9=[]) zzr._auto_1)(x:autoParam (AA N p.md v=ρ) zzr._auto_1):v.9=ps.9/\pF Ψ b (aC p ps.9 Q) (AA N p.md v):=by
 have e:aC p ps.9 Q=eZ Q:=by unfold aC;rw[hc];rfl
 rw[e,x];exact#[hl,h]
end
def Xu:T->Bool
 | .d .none=>j3|.d (.bool _)=>j3|.d (.int _)=>j3|.d (.str _)=>j3|_=>Kz
def fZ(P:PSp)(md:List Md):PSp where
 md:=md
 run:=λx Q E=>P.run (x.map λ(t:T)=>T.d t.er) (λr os=>Xu r=j3/\Q r []) E
 mono:=λ{x Q Q' E E'} h g q=>P.mono (Q:=λr _=>Xu r=j3/\Q r []) (Q':=λr _=>Xu r=j3/\Q' r []) (E:=E) (E':=E') (λ_ _ q=>#[q.1,h _ _ q.2]) g q
section
variable{K:QC}{F H:Hp}
def R9{Y:iA}(j:Same F y)(i:∀b,Y b->F b=js->y b=H b):∀{md:List Md}{vs:LV}{x:LT},(md.all λm=>!m.isMut)=j3->ArgsR K F H Y md vs x->ArgsR K y H (λ_=>False) [] vs (x.map λ(t:T)=>T.d t.er):=by
 intro md vs x k h;induction h with
 |nil=>exact .nil|@chg md v vs t x e _ _ =>
  exfalso;cases md with|nil=>cases e|cons m md=>have e:m=.chg:=e;subst e;cases k
 |@rd md v vs t x Z e r z _ g =>
  rw[QR];refine .rd (Z:=λ_=>False) (by simp) (.d (r.kept j λb u a e=>?_) λ_ z=>z) (λ_ z=>z) (g ?_);rw[i b (z b a) (r.dom b a).2];exact e;cases md with|nil=>rfl|cons m md=>exact(jA k).2
def XJ:∀{md:List Md}(vs:LV),(md.all λm=>!m.isMut)=j3->vB md vs=[]
 |md,[],_=>by cases md<;>rfl|[],v::vs,h=>by rw[vB];exact XJ vs rfl|m::md,v::vs,h=>by
  let#[y,x]:=jA h;rw[vB];cases m with|chg=>cases y|_=>exact XJ vs x
def fN:∀{md:List Md}(vs:LT),(md.all λm=>!m.isMut)=j3->ZB md vs=[]
 |md,[],_=>by cases md<;>rfl|[],v::vs,h=>by rw[ZB];exact fN vs rfl|m::md,v::vs,h=>by
  let#[y,x]:=jA h;rw[ZB];cases m with|chg=>cases y|_=>exact fN vs x
def Tr.ownB:(∀{st:Bool}{v:V}{t:T}{S:iA},Tr K F H st v t S->∀b,S b->∃vs,H b=jb (.lst vs)∨H b=jb (.tup vs))/\∀{st:Bool}{vs:LV}{x:LT}{S:iA},Trs K F H st vs x S->∀b,S b->∃vs,H b=jb (.lst vs)∨H b=jb (.tup vs) :=
 Tr.ind (λ_ n b z=>(n b z).elim) (λh _ _ _ e i b z=>((e b).mp z).elim (λz=>by subst z;exact#[_,.inl h]) (i b)) (λh _ _ _ e i b z=>((e b).mp z).elim (λz=>by subst z;exact#[_,.inr h]) (i b)) (λ_ _ n b z=>(n b z).elim) (λn b z=>(n b z).elim) (λ_ _ _ e i j b z=>((e b).mp z).elim (i b) (j b))
def Tr.own:∀{st:Bool}{v:V}{t:T}{S:iA},Tr K F H st v t S->∀b,S b->∃vs,H b=jb (.lst vs)∨H b=jb (.tup vs):=(Tr.ownB ).1
def Trs.own:∀{st:Bool}{vs:LV}{h:LT}{S:iA},Trs K F H st vs h S->∀b,S b->∃vs,H b=jb (.lst vs)∨H b=jb (.tup vs):=(Tr.ownB ).2
def ArgsR.own(h:ArgsR K F H Y md vs y):ArgsR K F H (λb=>Y b/\∃vs,H b=jb (.lst vs)∨H b=jb (.tup vs)) md vs y:=by
 induction h with|nil=>exact .nil|chg e _ x=>exact .chg e x|rd e r z _ x=>exact .rd e r (λb u=>#[z b u,r.own b u]) x
def c8{P:PSp}{md:List Md}(S:P.md=[])(R:(md.all λm=>!m.isMut)=j3)(h:lift K (fZ P md) vs H Q E):lift K P vs H Q E:=by
 let#[F,I,M,Y0,fh,N,mt,dj,p]:=h;obtain⟨Y,hY,N⟩:∃Y:kl->Prop,(∀b,Y b->∃vs,H b=jb (.lst vs)∨H b=jb (.tup vs))/\ArgsR K F H Y (fZ P md).md vs I:=#[_,λb z=>z.2,N.own]
 have L:Same F (jF F H λb=>Y b/\F b=js):=CD λb s=>s.2;refine#[jF F H (λb=>Y b/\F b=js),I.map λ(t:T)=>T.d t.er,λ_=>False,λ_=>False,eY fh,?_,?_,λ_ z=>z.elim,?_];rw[S];exact R9 L (λb s hf=>kD #[s,hf]) R N;rw[S,XJ _ rfl,fN _ rfl];exact .nil λ_ z=>z;have p:P.run (I.map λ(t:T)=>T.d t.er) (λr _=>Xu r=j3/\∀v l j Z G,Frm M F H l j->Tr K l j j3 v r Z->Trs K l j j3 (vB md vs) [] G->(∀b,Z b->¬ G b)->(∀b,Z b∨G b->M b∨H b=js)->Q v j) (λx=>∀k l j,Frm M F H l j->Oe K l j x k->E .none k j):=p;refine P.mono (λr os #[sc,q] v l j Z G o tr _ _ _=>?_) (λx q k l j o xr=>?_) p;let#[a,rfl,rp]:=xr;let#[a',C,k,e,B,A,h3]:=rp.exc_i;cases e;have O:∀b u,F b=jb u->l b=jb u:=λb u z=>o.ff b u (L b u z);have X:∀b u,(b=a∨b=k)->l b=jb u->jF F l (λb=>(b=a∨b=k)/\F b=js) b=jb u:=λb u s z=>by
  by_cases n:F b=js;rw[kD #[s,n]];exact z;rw[xB λq=>n q.2];cases f:F b with|none=>exact n9 f n|some w=>rw[O b w f]at z;exact z
 refine q (jb a) (jF F l λb=>(b=a∨b=k)/\F b=js) j #[CD λb s=>s.2,λb u e=>?_,λb u e _=>o.hh b u e λz=>z,o.dm,λb e z=>?_] #[a,rfl,.exc (X a _ (.inl rfl) B) (X k _ (.inr rfl) A) h3];by_cases w:(b=a∨b=k)/\F b=js
 ·rw[kD (W:=λb=>(b=a∨b=k)/\F b=js) w]at e;exact o.fh b u e
 rw[xB (W:=λb=>(b=a∨b=k)/\F b=js) w]at e;exact o.fh b u (O b u e);by_cases w:(b=a∨b=k)/\F b=js
 ·by_cases g:jF F H (λb=>Y b/\F b=js) b=js
  ·refine .inr ((o.fn b g ?_).elim (λz=>z.elim) id)
   rcases w.1 with rfl|rfl;rw[B];exact λz=>by cases z
   rw[A];exact λz=>by cases z
  exfalso;by_cases y:Y b/\F b=js;let#[vs,hv]:=hY b y.1;have e2:∀u,H b=jb u->l b=jb u:=λu hu=>o.ff b u (by rw[kD (W:=λb=>Y b/\F b=js) y];exact hu);rcases w.1 with rfl|rfl<;>rcases hv with hv|hv<;>have z:=e2 _ hv;rw[B]at z;cases z;rw[B]at z;cases z;rw[A]at z;cases z;rw[A]at z;cases z;rw[xB (W:=λb=>Y b/\F b=js) y]at g;exact g e
 rw[xB (W:=λb=>(b=a∨b=k)/\F b=js) w]at z;exact n9 e z;have J:Frm M F H F j:=#[.refl _,(L.trans o.ff).trans o.fh,λb u e _=>o.hh b u e λz=>z,o.dm,λb e z=>n9 e z]
 refine q v F j (λ_=>False) (λ_=>False) J ?_ (by rw[XJ _ R];exact .nil λ_ z=>z) (λ_ z=>z.elim) (λ_ z=>z.elim (λz=>z.elim) λz=>z.elim);cases tr with
 |d r n =>
  cases r with|non=>exact .d .non λ_ z=>z|bl b=>exact .d (.bl b) λ_ z=>z|int i=>exact .d (.int i) λ_ z=>z|str x=>exact .d (.str x) λ_ z=>z|_=>cases sc
 |_=>cases sc
def BE.tmp{P:vb}{w:vu}{z:Str->Option ky}{y:v6}{Ψ Ψ':PEv}{x:Str}{k:Nat}{md:List Md}(h:BE P w K z y Ψ k x)(b:(Ψ.sp x).md=[])(a:(md.all λm=>!m.isMut)=j3)(e:Ψ'.sp x=fZ (Ψ.sp x) md):BE P w K z y Ψ' k x:=by let#[f,j,u,i,g]:=h;refine#[f,j,u,?_,g];rw[e];exact i.imp λvs H Q E q=>c8 b a q
end
section
variable{Ψ:PEv}{E:XE}{ρ σ:yA}{o:Option Sl}{K:TK}{L:Bool->yA->Prop}{M:List (T×Bool)->yA->Prop}{a b c e v its h u:PX}{w:T->yA->Prop}{r s:PT}{Z:PEnds}{j:Nat}
def Th:mB Ψ E (.seq (.frE i s) r) Z (o::σ)=mB Ψ E (.seq s r) Z ((o::σ).modify i CO):=rfl
def Ja:mB Ψ E (.seq (.frz x s) r) Z (o::σ)=mB Ψ E (.seq s r) Z (frzAt x (o::σ)):=rfl
def Lh:mB Ψ E (.seq (.six j a e) r) Z (o::σ)=pE (o::σ)[j]? λt=>bB Ψ e E ((o::σ).set j (jb (.bor t))) λx n k=>JE x n (bB Ψ a E k λy m z=>JE y m (z[j]?=jb (jb (.bor t))/\uo t y.er x.er λt'=>mB Ψ E r Z (z.set j (jb (.own t'))))):=rfl
def Ph:mB Ψ E (.seq (.pap j a e) r) Z (o::σ)=pE (o::σ)[j]? λt=>bB Ψ a E ((o::σ).set j (jb (.bor t))) λy m k=>JE y m (Bk t y.er λus n g=>bB Ψ e E k λx l z=>JE x l (z[j]?=jb (jb (.bor t))/\g.9<ke/\mB Ψ E r Z (z.set j (jb (.own (.tup (us.set n (.lst (g++[x]))))))))):=rfl
def Ca:bB Ψ (.mt .join a v) E ρ K=bB Ψ a E ρ λx n g=>pR .join (cA x n).vw=j3/\Jv x n Ψ v E g λxs y=>Oa .join x n xs λz k=>K z k y:=rfl
def PU:bB Ψ (.mt .extend (.var j) v) E ρ K=pE ρ[j]? λt=>UJ .extend t=j3/\iO Ψ v E [] (ρ.set j (jb (.bor t))) λxs x=>fF xs=j3/\x[j]?=jb (jb (.bor t))/\lN .extend t (gE xs) λr s'=>K r j3 (x.set j (jb (.own s'))):=rfl
def OU:bB Ψ (.mt .insert (.var j) v) E ρ K=pE ρ[j]? λt=>UJ .insert t=j3/\iO Ψ v E [] (ρ.set j (jb (.bor t))) λxs x=>fF xs=j3/\x[j]?=jb (jb (.bor t))/\lN .insert t (gE xs) λr s'=>K r j3 (x.set j (jb (.own s'))):=rfl
def Ci{x:List Bool}{y:LS}{i:Tg}{l:ItK}:bB Ψ (.eff (.comp x y i l its u h)) E ρ K=((isNop u=j3/\(x.all λb=>!b)=j3/\(i.ix.all λj=>decide (j<y.9))=j3)/\iO Ψ its E [] ρ λxs g=>jL xs=j3/\BP l xs λz=>TJ i y.9 (pe Ψ h (λ_=>False)).e z [] g λm k=>K (.lst (m.map T.d)) j3 k):=rfl
def Ih:oE Ψ E w (.tup v) ρ=bB Ψ (.tup v) E ρ λx n y=>JE x n (w x y):=rfl
def ji:oE Ψ E w (.slc a b c) ρ=bB Ψ (.slc a b c) E ρ λx n y=>JE x n (w x y):=rfl
def Yt{b:Bool}:IP Ψ E (b::m) [t] (.nm 0) .nop h ρ x R=bB Ψ h E (jb (.bor x)::uE (b::m) (lockA ρ)) λy n _=>JE y n (R (jb y)):=rfl
def Yy{b:Bool}{s:Option Sl}{σ:yA}:FL (i+1) (uE (b::m) (lockA (s::σ))) ρ K=FL i (uE m (lockA σ)) ρ K:=rfl
def gu{s:Option Sl}{σ:yA}:FL 0 (uE (false::m) (lockA (s::σ))) ρ K=FL 0 (lockA (s::σ)) ρ K:=rfl
end
section
variable{d:D}{v w:List D}{n m:Bool}{xs:List (T×Bool)}{C:LT->Prop}{Q:T->Bool->Prop}{R:T->Prop}{L:Bool->Prop}{t u:T}{z y:Str}{i k:Int}
def yy:oN ((.lst (v.map T.d),j3)::xs) C=oN xs λh=>C (.lst (v.map T.d)::h):=by show((LG (.lst (v.map T.d)) j3&&fF xs)=j3/\C (.lst (v.map T.d)::gE xs))=(fF xs=j3/\C (.lst (v.map T.d)::gE xs));rw[show LG (.lst (v.map T.d)) j3=j3 from rfl,QAT]
def bz:oN ((.lst h,j3)::xs) C=oN xs λus=>C (.lst h::us):=by show((LG (.lst h) j3&&fF xs)=j3/\C (.lst h::gE xs))=(fF xs=j3/\C (.lst h::gE xs));rw[show LG (.lst h) j3=j3 from rfl,QAT]
def kr:RF [.d d,.d e]=.d (.tuple [d,e]):=rfl
def Hs:iC .Gt (.d (.int i)) (.d (.int k)) L=L (decide (k<i)):=rfl
def Ls:iC .GtE (.d (.int i)) (.d (.int k)) L=L (decide (k<=i)):=rfl
def Rg:iC .In (.d (.str z)) (.d (.list v)) L=(((SA (.str z)=j3/\v.all SA=j3)∨(GG (.str z)/\GG (.list v)))/\L (v.any λy=>Q2 y (.str z))):=rfl
def F9:iC .NotIn (.d (.str z)) (.d (.list v)) L=(((SA (.str z)=j3/\v.all SA=j3)∨(GG (.str z)/\GG (.list v)))/\L (!(v.any λy=>Q2 y (.str z)))):=rfl
def Fg:iC .In (.d (.tuple h)) (.d (.list v)) L=(((SA (.tuple h)=j3/\v.all SA=j3)∨(GG (.tuple h)/\GG (.list v)))/\L (v.any λy=>Q2 y (.tuple h))):=rfl
def jg:kJ .any [(.lst (v.map T.d),n)] Q=∃bs:List Bool,v=bs.map PyData.bool/\Q (.d (.bool (bs.any id))) false:=by unfold kJ YB;rw[ID];show(∃x,∃bs:List Bool,[Vw.ls (v.map T.d)]=[.ls x]/\bF x=jb (bs.map PyData.bool)/\_)=_;exact Pz #[λzz=>by let#[_,bs,e,h,q]:=zz;cases e;rw[nA]at h;cases h;exact#[bs,rfl,q],λ#[bs,e,q]=>#[_,bs,rfl,by rw[e,nA],q]]
def Ef:kJ .list [(.d (.tuple v),n)] Q=Q (.lst (v.map T.d)) true:=by unfold kJ YB;rw[zA];exact Pz #[λh=>h.elim (λzz=>(by let#[_,_,e,_]:=zz;cases e)) λzz=>by let#[_,_,e,h,q]:=zz;cases e;rw[nA]at h;cases h;exact q,λq=>.inr #[_,_,rfl,nA _,q]]
def Rf:kJ .tuple [(.lst (v.map T.d),n)] Q=Q (.d (.tuple v)) false:=by unfold kJ YB;rw[ID];exact Pz #[λzz=>by let#[_,_,e,h,q]:=zz;cases e;rw[nA]at h;cases h;exact q,λq=>#[_,_,rfl,nA _,q]]
def Sf:kJ .tuple [(.d (.list v),n)] Q=Q (.d (.tuple v)) false:=by unfold kJ YB;rw[zA];exact Pz #[λzz=>by let#[_,_,e,h,q]:=zz;cases e;rw[nA]at h;cases h;exact q,λq=>#[_,_,rfl,nA _,q]]
def Kl{ys:LS}:Oa .join (.d (.str z)) n [(.lst ((ys.map Jz).map T.d),m)] Q=((ys.map (·.length)).sum+ys.9 * z.9<=16777216/\Q (.d (.str (wm z ys))) Kz):=by unfold Oa YB;rw[zA,ID];exact Pz #[λzz=>by let#[_,_,_,g,x,h,l,q]:=zz;cases g;cases x;rw[nA]at h;injection h with h;rw[List.map_inj_right λa b e=>by injection e]at h;subst h;exact#[l,q],λ#[l,q]=>#[_,_,ys,rfl,rfl,nA _,l,q]]
def Jr{ys:LS}:Oa .join (.d (.str z)) n [(.d (.list (ys.map Jz)),m)] Q=((ys.map (·.length)).sum+ys.9 * z.9<=16777216/\Q (.d (.str (wm z ys))) Kz):=by
 have:Oa .join (.d (.str z)) n [(.d (.list (ys.map Jz)),m)] Q=Oa .join (.d (.str z)) n [(.lst ((ys.map Jz).map T.d),Kz)] Q:=by unfold Oa YB;rw[zA,zA];rfl
 rw[this,Kl]
def lr:(pR .join (cA (.d (.str z)) n).vw=j3/\P)=P:=Pz #[λh=>h.2,λh=>#[R7 rfl,h]]
def Go:eE (.lst [.d d,.d e,.d f]) n t m R=eE (.lst ([d,e,f].map T.d)) n t m R:=rfl
def Fo:eE (.lst [.d d,.d e,.d f,.d g]) n t m R=eE (.lst ([d,e,f,g].map T.d)) n t m R:=rfl
def Do{k:D}:eE (.lst [.d d,.d e,.d f,.d g,.d h,.d k]) n t m R=eE (.lst ([d,e,f,g,h,k].map T.d)) n t m R:=rfl
def Kv{u:Option Int}(h:¬ (HT.sIx v.9 0 l=0/\HT.sIx v.9 v.9 u=v.9)):OH (.d (.tuple v)) n l u Q=Q (.d (.tuple (ZE v l u))) false:=by unfold OH;rw[zA];exact(Yj _).trans (Pz #[λzz=>by let#[_,e,_,q]:=zz;rw[nA]at e;cases e;exact q,λq=>#[_,nA _,h,q]])
def Lo:BP .val [(.d (.tuple v),n)] W=W (v.map T.d):=by unfold BP YB;rw[zA];exact U8 _
def P6{Ψ:PEv}(h:Ψ.dc x=jb a)(g:(a.lookup z).getD d=e):FG Ψ (.dgetD x) [(.d (.str z),n),(.d d,m)] Q=Q (.d e) false:=by subst g;unfold FG PD PD;rw[zA,zA];exact Pz #[λzz=>by let#[_,_,_,j,b,q]:=zz;cases j;rw[h]at b;cases b;exact q,λq=>#[_,_,_,rfl,h,q]]
end
def mX:∀{ks ls:LS}{y h:List D},ks.9=y.9->ls.length=h.9->OI ks y=OI ls h->ks=ls/\y=h
 |[],[],[],[],_,_,_=>#[rfl,rfl]|[],_::_,[],_::_,_,_,e=>by cases e|_::_,[],_::_,[],_,_,e=>by cases e|k::ks,l::ls,d::y,x::h,h1,h2,e=>by have e:(Jz k,d)::OI ks y=(Jz l,x)::OI ls h:=e;injection e with e1 e2;injection e1 with e1 e3;injection e1 with e1;let#[rfl,rfl]:=mX (Wl h1) (Wl h2) e2;exact#[by rw[e1],by rw[e3]]
def Mp(x:T)(n:Bool)(Ψ:PEv)(b:PX)(E:XE)(ρ:yA)(K:Option Int->yA->Prop):Prop:=sq (α:=Option Int) (cA x n) ρ (λρ R=>(pe Ψ b E).e ρ λl _ h=>vE l.er λo=>R o h) K
section
variable{Ψ:PEv}{E:XE}{ρ σ:yA}{o:Option Sl}{K:TK}{L:Bool->yA->Prop}{M:List (T×Bool)->yA->Prop}{a b c e v:PX}{w:T->yA->Prop}{r s:PT}{Z:PEnds}{j:Nat}{i:Nat}
def Uh{o:Prm}:OQ Ψ (.prm o v) E ρ L=bB Ψ (.prm o v) E ρ λt _ h=>Aa t λb=>L b h:=rfl
def Di{ks:LS}:bB Ψ (.dsp ks v) E ρ K=iO Ψ v E [] ρ λxs h=>(ks.Nodup/\ks.9<=15/\ks.9=xs.9/\jL xs=j3)/\K (.d (.dict (OI ks (ersT (gE xs))))) Kz h:=rfl
def ma{j i:Nat}:mB Ψ E (.seq (.setX j k i e) r) Z (o::σ)=pE (o::σ)[j]? λt=>bB Ψ e E ((o::σ).set j (jb (.bor t))) λx n z=>JE x n (∃a b,x.er=.list [a,b]/\bB Ψ k E z λy m h=>JE y m (h[j]?=jb (jb (.bor t))/\uo t y.er a λt'=>mB Ψ E r Z ((h.set j (jb (.own t'))).set i (bD b)))):=rfl
def aa{i j:Nat}:mB Ψ E (.seq (.setL i j e) r) Z (o::σ)=bB Ψ e E (o::σ) λx n h=>JE x n (∃a b,x.er=.list [a,b]/\mB Ψ E r Z ((h.set i (bD a)).set j (bD b))):=rfl
def An(h:Ψ.sp f=p)(n:p.md=[])(hv:Ψ.va x=jb (IF "WorldError")):mB Ψ E (.seq (.tryC q f v x j k) r) Z (o::σ)=((j≠k/\(o::σ)[k]?=jb js)/\iO Ψ v (λ_=>False) [] (o::σ) λxs z=>z=o::σ/\DB [] xs λu=>p.run u (λt _=>mB Ψ E r Z (Np q t (o::σ))) λy=>mB Ψ E r Z ((o::σ).set j (bD (FF y.1 y.2)))):=by show(_/\Ψ.va x=_/\dA (Ψ.sp f).md v=[]/\(pe Ψ v (λ_=>False)).a (Ψ.sp f).md (o::σ) λxs z=>z=(o::σ)/\∃u,BA (Ψ.sp f).md xs []=jb u/\(Ψ.sp f).run u _ _)=_;rw[h,n];have m:dA [] v=[]:=vP;exact Pz #[λ#[l,_,_,g]=>#[l,g],λ#[l,g]=>#[l,hv,m,g]]
def jf(m:isNop b=Kz):bB Ψ (.slc a .nop b) E ρ K=bB Ψ a E ρ λx n h=>Mp x n Ψ b E h λu y=>OH x n js u λz k=>K z k y:=by
 have:∀x n h,(sq (α:=Option Int) (cA x n) h (λρ (R:Option Int->yA->Prop)=>R js ρ) λl y=>sq (α:=Option Int) (cA x n) y (if isNop b=j3 then λρ (R:Option Int->yA->Prop)=>R js ρ else λρ R=>(pe Ψ b E).e ρ λl _ y=>vE l.er λo=>R o y) λu g=>OE (cA x n).vw l u λz k=>K z k g)=Mp x n Ψ b E h λu y=>OH x n js u λz k=>K z k y:=by
  intro x n h;unfold Mp OH;rw[m];have:∀(k:Option Int->yA->Prop),(sq (α:=Option Int) (cA x n) h (λρ (R:Option Int->yA->Prop)=>R js ρ) k)=k js h:=by intro k;unfold sq;split<;>rfl
  rw[this];rfl
 exact pu (λk=>(pe Ψ a E).e ρ k) (funext λx=>funext λn=>funext λh=>this x n h)
def LU:bB Ψ (.slc a .nop (.var k)) E ρ K=bB Ψ a E ρ λx n y=>Mp x n Ψ (.var k) E y λl h=>OH x n js l λz k=>K z k h:=jf rfl
def Lp:Mp (.d x) n Ψ b E ρ W=bB Ψ b E ρ λy _ h=>vE y.er λo=>W o h:=by cases n<;>rfl
end
section
variable{Ψ:PEv}{d:D}{v w:List D}{n m:Bool}{xs:List (T×Bool)}{C:LT->Prop}{Q:T->Bool->Prop}{R:T->Prop}{L:Bool->Prop}{t u:T}{z y:Str}{i k:Int}
def Ys:T.er (.d d)=d:=rfl
def Zq:FG Ψ .plc [(.d (FF z i),n)] Q=Q (.d (.int i)) false:=by unfold FG PD;rw[zA];exact Pz #[λzz=>by let#[_,_,e,q]:=zz;cases e;exact q,λq=>#[z,i,rfl,q]]
def Vq:FG Ψ .isC [(.d (FF z i),n),(.d (IF y),m)] Q=Q (.d (.bool (decide (y=z∨y="WorldError")))) false:=by unfold FG PD PD;rw[zA,zA];exact Pz #[λzz=>by let#[_,_,_,e,q]:=zz;cases e;exact q,λq=>#[z,i,y,rfl,q]]
def Kq:FG Ψ (.isT x "ValueError") [(.d (FF z i),n)] Q=Q (.d (.bool j3)) false:=by
 unfold FG PD;rw[zA];have h:JO.contains (.type "ValueError")=true:=by decide +kernel
 exact Pz #[λzz=>by let#[_,_,_,e,q]:=zz;cases e;rw[h]at q;exact q,λq=>#[rfl,z,i,rfl,by rw[h];exact q]]
def Xq(h:ks≠[]/\ks.9=v.9)(hd:(ks.zip v).lookup z=jb d):FG Ψ .dgt [(.d (.dict (OI ks v)),n),(.d (.str z),m)] Q=Q (.d d) false:=by unfold FG PD PD;rw[zA,zA];refine Pz #[λ#[_,x,b,_,e,a,g,q]=>?_,λq=>#[z,ks,v,d,rfl,h,hd,q]];injection e with e1 e2;injection e2 with e2 _;injection e1 with e1;injection e1 with e1;injection e2 with e2;injection e2 with e2;let#[rfl,rfl]:=mX h.2 a.2 e1;subst e2;rw[hd]at g;cases g;exact q
def Ut:zC .Mult (.lst (v.map T.d)) n (.d (.int k)) m Q=((-(2 ^ 31)<=k/\k<2 ^ 31/\v.9 * k.toNat<=ke)/\Q (.lst ((QK k.toNat v).flatten.map T.d)) j3):=by
 unfold zC;rw[ID,zA];refine Pz #[λh=>?_,λh=>.inr (.inr #[_,_,_,rfl,rfl,nA _,h])];rcases h with⟨_,_,e,_⟩| ⟨_,_,e,_⟩| ⟨_,_,_,b,a,x,h⟩
 cases e;cases e;cases b;cases a;rw[nA]at x;cases x;exact h
def Yh:zC .Mult (.lst [.d d]) n t m Q=zC .Mult (.lst ([d].map T.d)) n t m Q:=rfl
def On:zC .Add (.d (.list v)) n (.lst (w.map T.d)) m Q=(v.9+w.9<=ke/\Q (.lst ((v++w).map T.d)) j3):=by unfold zC;rw[zA,ID];show binT .Add (.ls (v.map T.d)) (.ls (w.map T.d)) Q=_;rw[N9,nA,nA];exact Pz #[λzz=>by let#[_,_,x,h,k]:=zz;cases x;cases h;exact k,λk=>#[_,_,rfl,rfl,k]]
def Bt:zC .Add t n (.lst [.d d,.d e,.d f]) m Q=zC .Add t n (.lst ([d,e,f].map T.d)) m Q:=rfl
def G9:iC .NotEq (.d (.list v)) (.lst (w.map T.d)) L=(GG (.list v)/\GG (.list w)/\L (!PyData.eqv (.list v) (.list w))):=by unfold iC T.er;rw[EA];rfl
def Ag:iC .In t (.lst [.d d,.d e]) L=iC .In t (.lst ([d,e].map T.d)) L:=rfl
def Gg:iC .Is (.d (FF z i)) (.d .none) L=L false:=rfl
end
end L2.L3
namespace L2.L3.Lib
open PySem PySem.Spec PyProof.Rows L2 L2.L3
def cK:LS:=["word","allowed"]
def IH:LS:=["word","allowed"]
def nR:Need:=#[[],[],["all"],[]]
def eG:PT :=
  %[.ret (.bi .all %[.comp [] ["sign"] (.nm 0) .val %[.var 0|1] .nop (.cmp .In (.var 0) (.var 2))|1])|2]
def rQ:LS:=["word"]
def MM:LS:=["word"]
def PZ:Need:=#[["is_made_of"],["LETTERS","MOST_LETTERS"],["len"],[]]
def SK:PT :=
  %[.ret (.and (.chn .LtE .LtE (.int 1) (.bi .len %[.var 0|1]) (.glo "MOST_LETTERS")) (.call "is_made_of" %[.var 0,.glo "LETTERS"|1]))|2]
def tQ:LS:=["word"]
def OM:LS:=["word"]
def SZ:Need:=#[["is_word"],["KEYWORDS"],[],[]]
def AK:PT :=
  %[.ret (.and (.call "is_word" %[.var 0|1]) (.cmp .NotIn (.var 0) (.glo "KEYWORDS")))|2]
def bK:LS:=["_law_heads"]
def EH:LS:=[]
def mR:Need:=#[[],[],[],[]]
def aG:PT :=
  %[.set 0 (.str "person matter against see tell by at who what since tellers wordings apart leans hidden strike quote"),.ret (.bin .Add (.mt .split (.var 0) %[.str " "|1]) (.lst %[.str "ground",.str "cut"|1]))|2]
def YL:LS:=["word"]
def sJ:LS:=["word"]
def gT:Need:=#[["is_made_of"],["FIGURES","MOST_FIGURES"],["len","int"],[]]
def pH:PT :=
  %[.ife (.or (.not (.chn .LtE .LtE (.int 1) (.bi .len %[.var 0|1]) (.glo "MOST_FIGURES"))) (.not (.call "is_made_of" %[.var 0,.glo "FIGURES"|1]))) %[.ret .non|2] .nil,.ife (.and (.cmp .Eq (.idx (.var 0) (.int 0)) (.str "0")) (.cmp .NotEq (.var 0) (.str "0"))) %[.ret .non|2] .nil,.ret (.bi .int %[.var 0|1])|2]
def DF(w a:Str):Bool:=w.cps.toList.all λc=>decide (c∈a.cps.toList)
def aE:Str:="abcdefghijklmnopqrstuvwxyz"
def rB(w:Str):Bool:=decide (1<=w.9)&&(decide (w.9<=8)&&DF w aE)
def keys:LS:=["person","matter","against","see","tell","by","at","who","what","since","tellers","wordings","apart","leans","hidden","strike","quote","ground","cut"]
def KA(w:Str):Bool:=rB w&&!((keys.map Jz).any λy=>Q2 y (.str w))
def pC:PSp where
 run:=λh Q _=>∃w a:Str,h=[.d (.str w),.d (.str a)]/\w.9<=ke/\Q (.d (.bool (DF w a))) []
def nD:PSp where
 run:=λh Q _=>∃w:Str,h=[.d (.str w)]/\w.9<=ke/\Q (.d (.bool (rB w))) []
def NE:PSp where
 run:=λh Q _=>∃w:Str,h=[.d (.str w)]/\w.9<=ke/\Q (.d (.bool (KA w))) []
def OC:PSp where
 run:=λh Q _=>h=[]/\Q (.lst ((keys.map Jz).map T.d)) []
def AG{w a:Str}{K:T->LT->Prop}{E:XE}(hl:w.9<=ke):tI pC [.d (.str w),.d (.str a)] K E=K (.d (.bool (DF w a))) []:=Pz #[λzz=>by let#[_,_,e,_,q]:=zz;cases e;exact q,λq=>#[w,a,rfl,hl,q]]
def VO{Ψ:PEv}:yL Ψ eG pC cK IH:=by rintro _ Q _ ⟨w,a,rfl,hl,q⟩;refine rA [bD (.str w),bD (.str a)] ?_;delta eG;simp![↓xA];refine UB (λc=>.d (.str #[(List.toArray [c])])) (λc=>.d (.bool (decide (c∈a.cps.toList)))) _ _ _ (λc _ R h=>?_) (by simpa[QCg]using hl) ?_;simp![↓xA];exact h;rw[Qu,VT];simp![↓xA];refine#[w.cps.toList.map λc=>decide (c∈a.cps.toList),by rw[Q8];rfl,?_];rw[QC5];exact q
def kL{w:Str}{K:T->LT->Prop}{E:XE}(hl:w.9<=ke):tI nD [.d (.str w)] K E=K (.d (.bool (rB w))) []:=Pz #[λzz=>by let#[_,e,_,q]:=zz;cases e;exact q,λq=>#[w,rfl,hl,q]]
def OV{Ψ:PEv}(z:Ψ.sp "is_made_of"=pC)(k:Ψ.va "LETTERS"=jb (.str aE))(u:Ψ.va "MOST_LETTERS"=jb (.int 8))(ds Q E)(h:nD.run ds Q E) :
  Hu Ψ SK nD rQ MM ds Q:=by
 let#[w,rfl,hl,q]:=h;refine rA [bD (.str w)] ?_;delta SK;simp![↓uA (md:=[]) z rfl rfl,↓cE k,↓cE u,↓AG hl];refine#[hl,?_];unfold rB at q;split;rename_i z;have y:decide (1<=w.9)=true:=by simp at z ⊢;omega
 rw[y]at q;split;rename_i h2;have x:decide (w.9<=8)=true:=by simp at h2 ⊢;omega
 rw[x]at q;exact q;rename_i h2;have x:decide (w.9<=8)=false:=by simp at h2 ⊢;omega
 rw[x]at q;exact q;rename_i z;have y:decide (1<=w.9)=false:=by simp at z ⊢;omega
 rw[y]at q;exact q
def ZP:(keys.map Jz).all SA=true:=by rfl
def XS{w:Str}{K:T->LT->Prop}{E:XE}(hl:w.9<=ke):tI NE [.d (.str w)] K E=K (.d (.bool (KA w))) []:=Pz #[λzz=>by let#[_,e,_,q]:=zz;cases e;exact q,λq=>#[w,rfl,hl,q]]
def RV{Ψ:PEv}(z:Ψ.sp "is_word"=nD)(y:Ψ.va "KEYWORDS"=jb (.tuple (keys.map Jz)))(ds Q E)(h:NE.run ds Q E) :
  Hu Ψ AK NE tQ OM ds Q:=by
 let#[w,rfl,hl,q]:=h;refine rA [bD (.str w)] ?_;delta AK;simp![↓uA (md:=[]) z rfl rfl,↓cE y,↓kL hl];unfold KA at q;cases x:rB w with|true=>rw[x]at q;exact#[.inl #[rfl,ZP],q]|false=>rw[x]at q;exact q
def ZS:qO (QA "person matter against see tell by at who what since tellers wordings apart leans hidden strike quote") (QA " ")=keys.take 17:=by decide +kernel
def nJ{K:T->LT->Prop}{E:XE}:tI OC [] K E=K (.lst ((keys.map Jz).map T.d)) []:=Pz #[λ#[_,q]=>q,λq=>#[rfl,q]]
def jT{Ψ:PEv}:yL Ψ aG OC bK EH:=by rintro _ Q _ ⟨rfl,q⟩;refine rA [js] ?_;delta aG;simp![ZS];exact#[by decide +kernel,by decide +kernel,by decide +kernel,by decide,by decide +kernel,q]
def V1(xs:List (Array Nat)):∀(h:Array Nat),(xs.foldl (·++·) h).toList=h.toList++(xs.map QCx).flatten:=by
 induction xs with|nil=>intro h;simp|cons a xs x=>intro h;rw[WK,x];simp
def XM(x:Str)(k:Int):(aI x k).cps.toList=(QK k.toNat x.cps.toList).flatten:=by
 unfold aI Txt.mul;split;rename_i h;have:k.toNat=0:=()
 rw[this];rfl;rename_i h;split;rename_i y;rw[ql]at y;rcases y with y|y;have:k=1:=by simpa using y
 subst this;simp;have z:x.9=0:=by simpa using y
 have:x.cps.toList=[]:=by
  have:x.cps.toList.9=0:=by rw[Q6];exact z
  exact Ww.mp this
 rw[this];simp;show((QK k.toNat x.cps).foldl (·++·) #[]).toList=_;rw[V1];simp
def VM(x:Str)(k:Int):(aI x k).9=k.toNat * x.length:=by have h:=pu We (XM x k);rw[Q6,yM,Q6]at h;exact h
def rG:Str:="0123456789"
def DP(w:Str):Bool:=decide (1<=w.9)&&(decide (w.9<=9)&&(DF w rG&&(w.cps.toList.head? != jb 48||decide (w.9=1))))
def gC(w:Str):Int:=((QCr w.cps.toList:Nat):Int)
def yH(w:Str):D:=if DP w=j3 then .int (gC w) else .none
def EC:PSp where
 run:=λh Q _=>∃w:Str,h=[.d (.str w)]/\w.9<=ke/\Q (.d (yH w)) []
def B1:rG.cps.toList=(QH 10).map (·+48):=by decide +kernel
def YY(c:Nat):decide (c∈rG.cps.toList)=(decide (48<=c)&&decide (c<=57)):=by rw[B1,<- Bool.decide_and];refine decide_eq_decide.mpr #[λh=>?_,λh=>Qa.mpr #[c - 48,Qf.mpr (),()]];let#[i,x,rfl]:=Qa.mp h;have:=Qf.mp x;omega
def fX(h:DF w rG=j3):QCs w.cps.toList:=by intro c hc;have:=Qr.mp h c hc;rw[YY,Qc]at this;exact#[pz this.1,pz this.2]
def A3:QA "0"=#[(List.toArray [48])]:=by decide +kernel
def dJ{a b:Str}(h:a.cps.toList=b.cps.toList):a=b:=by let#[a]:=a;let#[b]:=b;exact pu Str.mk (QDF.mp h)
def AH{w:Str}{d:D}{K:T->LT->Prop}{E:XE}(hl:w.9<=ke)(h:yH w=d):tI EC [.d (.str w)] K E=K (.d d) []:=by subst h;exact Pz #[λzz=>by let#[_,e,_,q]:=zz;cases e;exact q,λq=>#[w,rfl,hl,q]]
def vR{Ψ:PEv}(s:Ψ.sp "is_made_of"=pC)(p:Ψ.va "FIGURES"=jb (.str rG))(o:Ψ.va "MOST_FIGURES"=jb (.int 9))(ds Q E)(h:EC.run ds Q E) :
  Hu Ψ pH EC YL sJ ds Q:=by
 let#[w,rfl,hl,q]:=h;refine rA [bD (.str w)] ?_;delta pH;simp![↓uA (md:=[]) s rfl rfl,↓cE p,↓cE o,↓AG hl];refine#[hl,?_];unfold yH DP at q;by_cases m:1<=w.9;have u:decide ((1:Int)<=(w.9:Int))=true:=by simp;omega
 rw[dT m]at q;simp only[u,w6,Qo,if_false,if_true];by_cases l:w.9<=9;have b:decide ((w.9:Int)<=9)=true:=by simp;omega
 rw[dT l]at q;simp only[b,w6,Qo,if_false];cases k:DF w rG with
 |false=>rw[k]at q;exact q|true =>
  rw[k]at q;simp only[w6,Qo,if_false];refine#[hl,?_];have x:w.cps.toList.9=w.length:=Q6;cases hc:w.cps.toList with
  |nil=>rw[hc]at x;simp at x;omega|cons c i =>
   refine PF.mk (a:=c) (UA (j:=0) rfl) ?_;rw[hc]at q x;rw[A3];have Y:decide ((#[(List.toArray [c])]:Str)=#[(List.toArray [48])])=decide (c=48):=by by_cases z:c=48;subst z;simp;have:¬ (#[(List.toArray [c])]:Str)=#[(List.toArray [48])]:=λe=>z (by injection e with e;injection e with e;injection e);rw[dF this,dF z]
   rw[Y];have X:decide (w=#[(List.toArray [48])])=(decide (c=48)&&decide (w.9=1)):=by
    by_cases z:w=#[(List.toArray [48])];rw[dT z];rw[z]at hc;injection hc with hc1 hc2;subst hc1;rw[z];rfl;rw[dF z];symm;rw[Bool.and_eq_false_iff];by_cases y:c=48;refine .inr (dF λZ=>z ?_);subst y;apply dJ;rw[hc];have:i=[]:=by
     cases i with|nil=>rfl|cons _ _=>simp at x;omega
    rw[this];exact .inl (dF y)
   rw[X];have fin:(w.9<=640/\∃n,intText? w=jb n/\Q (.d (.int n)) [])↔Q (.d (.int (gC w))) []:=by have e:intText? w=jb (gC w):=PySem.intText_digits (fX k) (by rw[hc];simp) ();constructor;rintro⟨_,n,u,q⟩;rw[e]at u;cases u;exact q;intro q;exact#[(),_,e,q]
   by_cases z:c=48;subst z;by_cases y:w.9=1;rw[dT y]at q ⊢;simp only[decide_true,QCX,w6,Qo,if_false,if_true];refine fin.mpr ?_;simpa using q;rw[dF y]at q ⊢;simp only[decide_true,QAx,WW,if_true];simpa using q;rw[dF z];simp only[Qo,if_false];refine fin.mpr ?_;have:((jb c:Option Nat) != jb 48)=true:=by simp[z]
   have r:(if(j3&&(j3&&(j3&&(((jb c:Option Nat) != jb 48)||decide (w.9=1)))))=j3 then j0 (gC w) else PyData.none)=j0 (gC w):=by rw[this];rfl
   have g:Q (.d (if(j3&&(j3&&(j3&&(((jb c:Option Nat) != jb 48)||decide (w.9=1)))))=j3 then j0 (gC w) else PyData.none)) []:=q;rw[r]at g;exact g
 have b:decide ((w.9:Int)<=9)=false:=by simp;omega
 rw[dF l]at q;simp only[b,WW,if_true];exact q;have u:decide ((1:Int)<=(w.9:Int))=false:=by simp;omega
 rw[dF m]at q;simp only[u,WW,if_true];exact q
def wc:LN->LN->List (LN)
 |[],cur=>if cur.isEmpty then[] else[cur]|c::cs,cur=>if c=32 then(if cur.isEmpty then wc cs [] else cur::wc cs []) else wc cs (cur++[c])
def iQ:∀(w r x:LN),32∉w->wc (w++r) x=wc r (x++w)
 |[],r,x,_=>by simp|c::w,r,x,h=>by have hc:¬ c=32:=λe=>h (by simp[e]);rw[Wc,wc,n7 hc,iQ w r _ λz=>h (QI _ z)];simp
def rS(r h:LN):wc (32::r) h=(if h.isEmpty then[] else[h])++wc r []:=by rw[wc,n8 rfl];split<;>simp
def lK:∀(n:Nat) (r:LN),wc (QK n 32++r) []=wc r []
 |0,r=>rfl|n+1,r=>by rw[Qs,Wc,rS,lK n r];rfl
def VP:List (LN)->LN
 |[]=>[]|[x]=>x|x::y::r=>x++32::VP (y::r)
def eQ:∀(ps:List (LN)),(∀p∈ps,32∉p)->wc (VP ps) []=ps.filter λp=>!p.isEmpty
 |[],_=>rfl|[x],h=>by
  have:=iQ x [] [] (h x (by simp));rw[Qe]at this;rw[VP,this];cases x with|nil=>rfl|cons _ _=>rfl
 |x::y::r,h=>by
  rw[VP,iQ _ _ _ (h x (by simp)),rS,eQ (y::r) λp z=>h p (QI _ z)];cases x with|nil=>rfl|cons _ _=>rfl
def HI:∀(ps:LS),(QAv #[(List.toArray [32])] ps).cps.toList=VP (ps.map λp=>p.cps.toList)
 |[]=>rfl|[x]=>rfl|x::y::r=>by show((x.cps++(List.toArray [32]))++(QAv #[(List.toArray [32])] (y::r)).cps).toList=_;have h:=HI (y::r);rw[QR]at h;rw[QR,QR,VP,<- h];simp
def wordsOf(r:Str):LS:=(qO r #[(List.toArray [32])]).filter λw=>decide (w≠#[#[]])
def TH(r:Str):(wordsOf r).map (λw=>w.cps.toList)=wc r.cps.toList []:=by
 have h:=HI (qO r #[(List.toArray [32])]);rw[QCY]at h;rw[h,eQ _ λp y=>by let#[q,x,rfl]:=Qa.mp y;exact QCZ r 32 q x];unfold wordsOf;rw[List.filter_map];congr 1;apply List.filter_congr;intro w _;let#[#[l]]:=w;cases l with|nil=>rfl|cons a l=>simp[Function.comp]
def jQ{a:LS}:∀{h:LS},a.map (λw=>w.cps.toList)=h.map (λw=>w.cps.toList)->a=h:=by
 induction a with
 |nil =>
  intro h e;cases h with|nil=>rfl|cons _ _=>simp at e
 |cons x a z =>
  intro h e;cases h with|nil=>simp at e|cons y h=>simp only[QR,wj]at e;rw[dJ e.1,z e.2]
def dI{r:Str}{x:LS}(h:wc r.cps.toList []=x.map λw=>w.cps.toList):wordsOf r=x:=jQ ((TH r).trans h)
def yD(n:Int):Str:=QA (n6 n)
def jH(m:Nat):QCs (yD (m:Int)).cps.toList:=by intro c hc;unfold yD at hc;rw[WQ]at hc;let#[x,h,e]:=Qa.mp hc;rw[<- e];exact digit_range (Nat.isDigit_of_mem_toDigits (by decide) (by decide) h)
def xT(m:Nat):QCr (yD (m:Int)).cps.toList=m:=by unfold yD;rw[WQ];exact PySem.W.KIN.val_back m
def NN:∀(h:LN),(h.dropWhile (·==48)).9<=h.9
 |[]=>QX _|c::h=>by rw[QCE];split;exact Nat.le_succ_of_le (NN h);exact QX _
def GZ(m:Nat):((yD (m:Int)).cps.toList.head? != jb 48||decide ((yD (m:Int)).9=1))=true:=by
 have hd:=jH m;have hv:=xT m;have z:(yD (m:Int)).cps.toList=(QC6 10 m).map Char.toNat:=WQ m;have hl:(yD (m:Int)).cps.toList.9=(yD (m:Int)).length:=Q6;generalize (yD (m:Int)).cps.toList=cs at hd hv z hl;have y:=NumText.toDigits_all cs hd;rw[hv]at y;cases cs with
 |nil=>rfl|cons c r =>
  by_cases e:c=48;subst e;have h:(QC6 10 m).9=r.9+1:=by have:=pu We z;rw[QG]at this;rw[<- this];rfl
  rw[y,QCE]at h;have x:=NN r;simp only[beq_self_eq_true,if_true]at h;have:r.9=0:=by revert h;split;rename_i h0;intro h;simp at h;exact h.symm▸rfl;rename_i c2 r2 h0;intro h;rw[h0]at x;rw[QG]at h;omega
  rw[<- hl,QM,this];rfl;have:((jb c:Option Nat) != jb 48)=true:=by simp[e]
  show((jb c:Option Nat) != jb 48||_)=j3;rw[this];rfl
def vN{n:Int}(h:0<=n)(y:n<=999999999):1<=(yD n).9/\(yD n).9<=9:=by refine#[?_,toString_length_le h (by decide) (by rw[show(10:Int) ^ 9=1000000000 from rfl];omega)];let#[m,rfl]:=qS h;have x:(yD (m:Int)).cps.toList=(QC6 10 m).map Char.toNat:=WQ m;have hl:(yD (m:Int)).cps.toList.9=(yD (m:Int)).length:=Q6;rw[x,QG]at hl;rw[<- hl];exact Nat.length_toDigits_pos
def IV{n:Int}(h:0<=n)(k:n<=999999999):yH (yD n)=.int n:=by
 let#[y,x]:=vN h k;let#[m,rfl]:=qS h;have u:DF (yD (m:Int)) rG=true:=by unfold DF;rw[Qr];intro c hc;have:=jH m c hc;rw[YY,dT this.1,dT this.2];rfl
 have z:DP (yD (m:Int))=true:=by unfold DP;rw[dT y,dT x,u,GZ m];rfl
 unfold yH;rw[n8 z];unfold gC;rw[xT]
def gO:LS:=["row"]
def vL:LS:=["row"]
def fW:Need:=#[[],[],[],[]]
def SI:PT :=
  %[.ret (.comp [] ["word"] (.nm 0) .val %[.mt .split (.var 0) %[.str " "|1]|1] (.cmp .NotEq (.var 0) (.str "")) (.var 0))|2]
def sO:LS:=["words","form","quoted"]
def fL:LS:=["words"]
def sW:Need:=#[[],["MOST_QUOTED"],["len"],["FORMS"]]
def iG:PT :=
  %[.ret (.bin .Add (.bin .Add (.var 1) (.tup %[.str "by"|1])) (.prm .tmul %[.tup %[.str "name"|1],.var 2|1]))|2]
def JG:PT :=
  %[.ife (.chn .LtE .LtE (.int 1) (.var 2) (.glo "MOST_QUOTED")) iG .nil,.ret (.var 1)|2]
def YG:PT :=
  (.seq (.set 1 (.prm (.dget "FORMS") %[.idx (.var 0) (.int 0)|1]))
  (.seq (.ife (.cmp .NotEq (.idx (.var 0) (.int 0)) (.str "tell")) %[.ret (.var 1)|2] .nil)
  (.seq (.set 2 (.bin .Sub (.bin .Sub (.bi .len %[.var 0|1]) (.bi .len %[.var 1|1])) (.int 2)))
  JG)))
def DG:LS:=["bounds","word","number"]
def OF:LS:=["bounds","word"]
def CL:Need:=#[["number_in"],[],[],[]]
def GC:PT :=
  %[.set 2 (.call "number_in" %[.var 1|1]),.ife (.or (.cmp .Is (.var 2) .non) (.not (.chn .LtE .LtE (.idx (.var 0) (.int 0)) (.var 2) (.idx (.var 0) (.int 1))))) %[.ret .non|2] .nil,.ret (.var 2)|2]
def fK:LS:=["values","pair"]
def jI:LS:=["values"]
def oR:Need:=#[[],[],[],["UNLIKE"]]
def UE:PT :=
  %[.set 1 (.prm (.dget "UNLIKE") %[.idx (.var 0) (.int 0)|1]),.ret (.or (.cmp .Is (.var 1) .non) (.cmp .NotEq (.idx (.var 0) (.idx (.var 1) (.int 0))) (.idx (.var 0) (.idx (.var 1) (.int 1)))))|2]
def N2:QA " "=#[(List.toArray [32])]:=by decide +kernel
def A1:QA ""=#[#[]]:=by decide +kernel
def nF:PSp where
 run:=λh Q _=>∃r:Str,h=[.d (.str r)]/\r.9<=100000/\Q (.lst ((wordsOf r).map λw=>.d (.str w))) []
def CQ{r:Str}{K:T->LT->Prop}{E:XE}(hl:r.9<=100000):tI nF [.d (.str r)] K E=K (.lst (((wordsOf r).map Jz).map T.d)) []:=by rw[<- VT];exact Pz #[λzz=>by let#[_,e,_,q]:=zz;cases e;exact q,λq=>#[r,rfl,hl,q]]
def RS{Ψ:PEv}:yL Ψ SI nF gO vL:=by rintro _ Q _ ⟨r,rfl,hl,q⟩;refine rA [bD (.str r)] ?_;delta SI;simp![N2,A1];refine#[(),by decide,?_,?_];have:=QDn r #[(List.toArray [32])];omega;rw[Q8];refine vD (λw:Str=>T.d (.str w)) (λw=>T.d (.str w)) (λw=>decide (w≠#[#[]])) _ _ _ (λw _ R h=>?_) ?_ q;simp![↓xA];by_cases e:w=#[#[]];subst e;simpa using h;rw[dF e];simp only[WW,if_true];simpa[e]using h;have:=QDn r #[(List.toArray [32])];simp;omega
def PC(a b:Int)(w:Str):D:=match yH w with
 | .int n=>if(decide (a<=n)&&decide (n<=b))=j3 then .int n else .none|_=>.none
def xC:PSp where
 run:=λh Q _=>∃(a b:Int) (w:Str),h=[.d (.tuple [.int a,.int b]),.d (.str w)]/\w.9<=ke/\Q (.d (PC a b w)) []
def mJ{a b:Int}{w:Str}{K:T->LT->Prop}{E:XE}(hl:w.9<=ke):tI xC [.d (.tuple [.int a,.int b]),.d (.str w)] K E=K (.d (PC a b w)) []:=Pz #[λzz=>by let#[_,_,_,e,_,q]:=zz;cases e;exact q,λq=>#[a,b,w,rfl,hl,q]]
def JK{Ψ:PEv}(z:Ψ.sp "number_in"=EC):yL Ψ GC xC DG OF:=by
 rintro _ Q _ ⟨a,b,w,rfl,hl,q⟩;refine rA [bD (.tuple [.int a,.int b]),bD (.str w),js] ?_;have k:FB [j0 a,.int b] 0=jb (.int a):=rfl;have u:FB [j0 a,.int b] 1=jb (.int b):=rfl;unfold PC at q;cases h:DP w with
 |false =>
  have e:yH w=.none:=by unfold yH;rw[h];rfl
  rw[e]at q;delta GC;simp![↓uA (md:=[]) z rfl rfl,↓AH hl e];exact q
 |true =>
  have e:yH w=.int (gC w):=by unfold yH;rw[h];rfl
  rw[e]at q;have q:Q (.d (if(decide (a<=gC w)&&decide (gC w<=b))=j3 then .int (gC w) else .none)) []:=q;delta GC;simp![↓uA (md:=[]) z rfl rfl,↓AH hl e,↓zB k,↓zB u];cases y:decide (a<=gC w) with
  |false=>rw[y]at q;exact q|true =>
   rw[y]at q;cases x:decide (gC w<=b) with|false=>rw[x]at q;exact q|true=>rw[x]at q;exact q
def MI:List (Str×LS):=[("person",["name","rank","floor","needs"]),("matter",["name"]),("against",["name","name"]),("see",["time","name","name","word"]),("tell",["time","name","name","name","word"])]
def KR:List (Str×D):=MI.map λp=>(p.1,.tuple (p.2.map Jz))
def fE:List (Str×D):=[("against",.tuple [.int 1,.int 2]),("tell",.tuple [.int 2,.int 3])]
def GS:Option (LS)->D
 |none=>.none|some f=>.tuple (f.map Jz)
def XT{α h:Type}(f:α->h)(x:Str):∀(l:List (Str×α)),(l.map λp=>(p.1,f p.2)).lookup x=(l.lookup x).map f
 |[]=>rfl|p::r=>by
  let#[a,b]:=p;rw[QR,Ql,Ql];cases x==a with|true=>rfl|false=>exact XT f x r
def UN(x:Str):(KR.lookup x).getD .none=GS (MI.lookup x):=by unfold KR;rw[XT (λf:LS=>PyData.tuple (f.map Jz)) x MI];cases MI.lookup x<;>rfl
def kC:LS:=["time","name","name","name","word"]
def zh(k:Nat):LS:=QA "by"::QK k (QA "name")
def TC(h:Str)(n:Nat):Option (LS):=if decide (h="tell")=j3 then(if 8<=n/\n<=13 then jb (kC++zh (n - 7)) else jb kC) else MI.lookup h
def hZ:MI.lookup (QA "tell")=jb kC:=by decide +kernel
def RG:PSp where
 run:=λy Q _=>∃(h:Str) (x:LS),y=[.d (.list ((h::x).map Jz))]/\x.9<=1000/\Q (.d (GS (TC h (x.9+1)))) []
def D5(k:Nat):(QK k [Jz (QA "name")]).flatten=(QK k (QA "name")).map Jz:=by
 induction k with|zero=>rfl|succ k h=>rw[Qs,Qs,qV,h];rfl
def Km{Ψ:PEv}{Z:PEnds}{a:Option Sl}{k:Nat}(h:k+1<=6)(q:∀ρ,Z.rt (.d (.tuple ((kC++zh (k+1)).map Jz))) ρ):pF Ψ iG Z [a,bD (.tuple (kC.map Jz)),bD (.int ((k+1:Nat):Int))]:=by
 have y:(WG Jz kC).9=5:=by rfl
 have x:¬ WG Jz kC=[]:=by intro z;rw[z]at y;cases y
 delta iG;simp![↓xA];rw[W8,D5];have b:WG Jz kC++[Jz (QA "by")]++(QK (k+1) (QA "name")).map Jz=(kC++zh (k+1)).map Jz:=by unfold zh;rw[Q5,QR,Q9];rfl
 have u:(WG Jz (QK (k+1) (QA "name"))).9=k+1:=by rw[QG,qN]
 rw[b,QJ,y,u];exact#[(),x,(),(),(),(),(),λz=>x (W5.mp z).1,λz=>(by rw[z]at u;cases u),by show 5+1+(k+1)<=_;omega,q _]
def Vm{Ψ:PEv}(u:Ψ.va "MOST_QUOTED"=jb (.int 6)){Z:PEnds}{a:Option Sl}{n:Nat}(q:∀ρ,Z.rt (.d (GS (if 8<=n/\n<=13 then jb (kC++zh (n - 7)) else jb kC))) ρ):pF Ψ JG Z [a,bD (.tuple (kC.map Jz)),bD (.int ((n:Int) - 7))]:=by
 delta JG;simp![↓cE u];have y:¬ (8<=n/\n<=13)->∀ρ,Z.rt (T.d (PyData.tuple (WG Jz kC))) ρ:=λc=>by rw[n7 c]at q;exact q
 refine OD (λx=>OD (λh=>?_) λh=>y (λz=>h (dT ())) _) λx=>y (λz=>x (dT ())) _;have x:1<=(n:Int) - 7:=pz x;have h:(n:Int) - 7<=6:=pz h;obtain⟨k,hk⟩:∃k:Nat,n=k+8:=#[n - 8,()]
 subst hk;rw[n8 #[(),()]]at q;have e:((k+8:Nat):Int) - 7=((k+1:Nat):Int):=()
 rw[e];exact Km () q
def yT{Ψ:PEv}(y:Ψ.dc "FORMS"=jb KR)(u:Ψ.va "MOST_QUOTED"=jb (.int 6)):yL Ψ YG RG sO fL:=by
 rintro _ Q _ ⟨h,x,rfl,hl,q⟩;refine rA [bD (.list ((h::x).map Jz)),js,js] ?_;have z:FB (WG Jz (h::x)) 0=jb (.str h):=UA (j:=0) rfl;unfold TC at q;by_cases e:h="tell";rw[dT e]at q;have q:Q (.d (GS (if 8<=x.9+1/\x.9+1<=13 then jb (kC++zh (x.9+1 - 7)) else jb kC))) []:=q;have k:(KR.lookup h).getD .none=.tuple (kC.map Jz):=by rw[UN,e,hZ];rfl
 delta YG;simp![↓DV y k,↓zB z,dT e];have a:(((h::x).map Jz).9:Int) - ((kC.map Jz).9:Int) - 2=((x.9+1:Nat):Int) - 7:=by rw[QG,QM,show(kC.map Jz).9=5 by rfl];omega
 rw[a];exact Vm u λ_=>q;rw[dF e]at q;delta YG;simp![↓Hf y,↓zB z,UN,dF e];exact q
def KF:PSp where
 md:=[.bor]
 run:=λk Q _=>∃(h:Str) (vs:List D),k=[.lst ((.str h::vs).map T.d)]/\((fE.lookup h=js/\Q (.d (.bool j3)) [])∨∃i j a b,fE.lookup h=jb (.tuple [.int i,.int j])/\FB (.str h::vs) i=jb (.str a)/\FB (.str h::vs) j=jb (.str b)/\Q (.d (.bool (!decide (a=b)))) [])
 mono:=λh _ z=>by let#[p,w,e,q]:=z;exact#[p,w,e,q.imp (λq=>#[q.1,h _ _ q.2]) λ#[i,j,a,b,u,y,x,q]=>#[i,j,a,b,u,y,x,h _ _ q]]
def XO{Ψ:PEv}(z:Ψ.dc "UNLIKE"=jb fE):yL Ψ UE KF fK jI:=by
 rintro _ Q _ ⟨h,vs,rfl,q⟩;refine rA [jb (.bor (.lst ((.str h::vs).map T.d))),js] ?_;have y:FB (Jz h::vs) 0=jb (.str h):=UA (j:=0) rfl;generalize (Jz h::vs)=L at y q ⊢;rcases q with⟨e,q⟩| ⟨i,j,a,b,e,l,g,q⟩
 have x:(fE.lookup h).getD .none=.none:=by rw[e];rfl
 delta UE;simp![↓DV z x,↓zB y];exact q;have k:FB [j0 i,.int j] 0=jb (.int i):=rfl;have u:FB [j0 i,.int j] 1=jb (.int j):=rfl;have x:(fE.lookup h).getD .none=.tuple [.int i,.int j]:=by rw[e];rfl
 delta UE;simp![↓DV z x,↓zB y,↓zB k,↓zB u,↓zB l,↓zB g];exact q
end L2.L3.Lib
namespace L2.L3.K3
open PySem PySem.Spec PyProof.Rows L2 L2.L3 L2.L3.Lib
def top(i:Nat):Stmt:=QU.main.body.getD i (.Pass #[0,0,0,0])
def oU:XB fW SI gO vL (top 14)=true:=by kernel_rfl
def LO:XB nR eG cK IH (top 15)=true:=by kernel_rfl
def vX:XB PZ SK rQ MM (top 16)=true:=by kernel_rfl
def uX:XB SZ AK tQ OM (top 17)=true:=by kernel_rfl
def MR:XB gT pH YL sJ (top 18)=true:=by kernel_rfl
def DU:LS:=["row","place","words","values"]
def rK:LS:=["row","place"]
def F7:Need:=#[["words_in","values_by","form_for","are_unlike"],["BadRow"],["len","raise"],[]]
def kO:PT :=
  %[.set 2 (.call "words_in" %[.var 0|1]),.ife (.cmp .Eq (.bi .len %[.var 2|1]) (.int 0)) %[.ret .non|2] .nil,.own 3 (.call "values_by" %[.call "form_for" %[.var 2|1],.var 2|1]),.ife (.or (.cmp .Is (.var 3) .non) (.not (.call "are_unlike" %[.var 3|1]))) %[.rse "BadRow" (jb 1) (.var 1)|2] .nil,.ret (.var 3)|2]
def K2:XB F7 kO DU rK (top 25)=true:=by kernel_rfl
def JL:LS:=["form","words","values"]
def rJ:LS:=["form","words"]
def bT:Need:=#[["value_of"],[],["len","zip"],[]]
def iF:PT :=
  %[.ife (.or (.cmp .Is (.var 0) .non) (.cmp .NotEq (.bi .len %[.var 1|1]) (.bin .Add (.int 1) (.bi .len %[.var 0|1])))) %[.ret .non|2] .nil,.own 2 (.bin .Add (.lst %[.idx (.var 1) (.int 0)|1]) (.comp [] ["part","word"] (.tp [0,1]) .zip2 %[.var 0,.slc (.var 1) (.int 1) .nop|1] .nop (.call "value_of" %[.var 0,.var 1|1]))),.ret (.ife (.cmp .In .non (.var 2)) .non (.var 2))|2]
def LR:XB bT iF JL rJ (top 26)=true:=by kernel_rfl
def eU:XB sW YG sO fL (top 27)=true:=by kernel_rfl
def lO:LS:=["part","word"]
def xL:LS:=["part","word"]
def gW:Need:=#[["is_name","is_word","number_within"],["NAMED"],[],["RANGES"]]
def jK:PT :=
  %[.ret (.ife (.call "is_name" %[.var 1|1]) (.var 1) .non)|2]
def AJ:PT :=
  %[.ret (.call "number_within" %[.prm (.dix "RANGES") %[.var 0|1],.var 1|1])|2]
def EJ:PT :=
  %[.ret (.ife (.cmp .Eq (.var 1) (.str "by")) (.var 1) .non)|2]
def IJ:PT :=
  %[.ret (.ife (.call "is_word" %[.var 1|1]) (.var 1) .non)|2]
def AI:PT :=
  (.seq (.ife (.cmp .In (.var 0) (.glo "NAMED")) jK .nil)
  (.seq (.ife (.cmp .Eq (.var 0) (.str "word")) IJ .nil)
  (.seq (.ife (.cmp .Eq (.var 0) (.str "by")) EJ .nil)
  AJ)))
def pU:XB gW AI lO xL (top 28)=true:=by kernel_rfl
def NK:XB CL GC DG OF (top 29)=true:=by kernel_rfl
def MO:XB oR UE fK jI (top 30)=true:=by kernel_rfl
def uK:LS:=["text","world","rows","place","row","values"]
def UF:LS:=["text"]
def gR:Need:=#[["row_of","check_row","entry_of"],["Unfinished"],["enumerate","len","raise"],["SECTIONS"]]
def oH:PT :=
  %[.set 5 (.call "row_of" %[.var 4,.var 3|1]),.ife (.cmp .IsNot (.var 5) .non) %[.expr (.call "check_row" %[.var 1,.var 5,.var 3|1]),.pap 1 (.prm (.dix "SECTIONS") %[.idx (.var 5) (.int 0)|1]) (.call "entry_of" %[.var 5|1])|2] .nil|2]
def tG:PT :=
  %[.own 1 (.tup %[.lst .anil,.lst .anil,.lst .anil,.lst .anil|1]),.set 2 (.mt .split (.var 0) %[.str "\n"|1]),.for_ (.tp [3,4]) .enumA %[.var 2,.int 1|1] oH,.ife (.or (.cmp .Eq (.bi .len %[.idx (.var 1) (.int 0)|1]) (.int 0)) (.cmp .Eq (.bi .len %[.idx (.var 1) (.int 1)|1]) (.int 0))) %[.rse "Unfinished" js (.bi .len %[.var 2|1])|2] .nil,.ret (.var 1)|2]
def FO:XB gR tG uK UF (top 37)=true:=by kernel_rfl
def UL:List Str:=["world","values","place","section"]
def cG:List Str:=["world","values","place"]
def eT:Need:=#[["is_told","has_stranger"],["Misplaced","Twice","NoName","MOST","TooMany"],["any","len","raise"],["SECTIONS"]]
def iH:PT :=
  %[.set 3 (.prm (.dix "SECTIONS") %[.idx (.var 1) (.int 0)|1]),.ife (.bi .any %[.comp [] ["later"] (.nm 0) .val %[.slc (.var 0) (.bin .Add (.var 3) (.int 1)) .nop|1] .nop (.cmp .Gt (.bi .len %[.var 0|1]) (.int 0))|1]) %[.rse "Misplaced" (jb 2) (.var 2)|2] .nil,.ife (.call "is_told" %[.var 0,.var 1|1]) %[.rse "Twice" (jb 2) (.var 2)|2] .nil,.ife (.call "has_stranger" %[.var 0,.var 1|1]) %[.rse "NoName" (jb 2) (.var 2)|2] .nil,.ife (.cmp .GtE (.bi .len %[.idx (.var 0) (.var 3)|1]) (.idx (.glo "MOST") (.var 3))) %[.rse "TooMany" (jb 2) (.var 2)|2] .nil|2]
def SR:XB eT iH UL cG (top 38)=true:=by kernel_rfl
def sQ:List Str:=["world","values"]
def NM:List Str:=["world","values"]
def RZ:Need:=#[["names_of"],[],[],[]]
def YD:PT :=
  %[.ife (.cmp .Eq (.idx (.var 1) (.int 0)) (.str "person")) %[.ret (.cmp .In (.idx (.var 1) (.int 1)) (.call "names_of" %[.var 0|1]))|2] .nil,.ife (.cmp .Eq (.idx (.var 1) (.int 0)) (.str "matter")) %[.ret (.cmp .In (.idx (.var 1) (.int 1)) (.idx (.var 0) (.int 1)))|2] .nil,.ife (.cmp .Eq (.idx (.var 1) (.int 0)) (.str "against")) %[.ret (.or (.cmp .In (.tup %[.idx (.var 1) (.int 1),.idx (.var 1) (.int 2)|1]) (.idx (.var 0) (.int 2))) (.cmp .In (.tup %[.idx (.var 1) (.int 2),.idx (.var 1) (.int 1)|1]) (.idx (.var 0) (.int 2))))|2] .nil,.ret (.bl Kz)|2]
def xX:XB RZ YD sQ NM (top 39)=true:=by kernel_rfl
def VH:List Str:=["world","values","names","people","matters"]
def BG:List Str:=["world","values"]
def dN:Need:=#[["names_of","quote_in"],[],["any"],["MATTERS_AT","PEOPLE_AT"]]
def kF:PT :=
  %[.set 2 (.call "names_of" %[.var 0|1]),.set 3 (.bin .Add (.comp [] ["at"] (.nm 0) .val %[.prm (.dgetD "PEOPLE_AT") %[.idx (.var 1) (.int 0),.tup .anil|1]|1] .nop (.idx (.var 2) (.var 0))) (.call "quote_in" %[.var 1|1])),.set 4 (.comp [] ["at"] (.nm 0) .val %[.prm (.dgetD "MATTERS_AT") %[.idx (.var 1) (.int 0),.tup .anil|1]|1] .nop (.idx (.var 2) (.var 0))),.ret (.or (.bi .any %[.comp [] ["name"] (.nm 0) .val %[.var 3|1] .nop (.cmp .NotIn (.var 0) (.var 3))|1]) (.bi .any %[.comp [] ["name"] (.nm 0) .val %[.var 4|1] .nop (.cmp .NotIn (.var 0) (.idx (.var 1) (.int 1)))|1]))|2]
def NL:XB dN kF VH BG (top 40)=true:=by kernel_rfl
def nO:List Str:=["world"]
def bL:List Str:=["world"]
def mW:Need:=#[[],[],[],[]]
def II:PT :=
  %[.ret (.comp [] ["person"] (.nm 0) .val %[.idx (.var 0) (.int 0)|1] .nop (.idx (.var 0) (.int 0)))|2]
def sU:XB mW II nO bL (top 41)=true:=by kernel_rfl
def mO:List Str:=["values"]
def uL:List Str:=["values"]
def lW:Need:=#[[],["WORDING_ENDS"],[],[]]
def EI:PT :=
  %[.ret (.slc (.var 0) (.bin .Add (.glo "WORDING_ENDS") (.int 1)) .nop)|2]
def rU:XB lW EI mO uL (top 42)=true:=by kernel_rfl
def tO:List Str:=["values"]
def gL:List Str:=["values"]
def tW:Need:=#[["quote_in"],["WORDING_ENDS"],["tuple"],[]]
def GF:PT :=
  %[.ret (.bi .tuple %[.slc (.var 0) (.int 1) .nop|1])|2]
def GD:PT :=
  (.seq (.ife (.cmp .Eq (.idx (.var 0) (.int 0)) (.str "tell")) %[.ret (.bi .tuple %[.bin .Add (.slc (.var 0) .nop (.glo "WORDING_ENDS")) (.lst %[.bi .tuple %[.call "quote_in" %[.var 0|1]|1]|1])|1])|2] .nil)
  GF)
def YC:PT :=
  (.seq (.ife (.cmp .Eq (.idx (.var 0) (.int 0)) (.str "see")) %[.ret (.bi .tuple %[.var 0|1])|2] .nil)
  GD)
def MC:PT :=
  (.seq (.ife (.cmp .Eq (.idx (.var 0) (.int 0)) (.str "matter")) %[.ret (.idx (.var 0) (.int 1))|2] .nil)
  YC)
def iU:XB tW MC tO gL (top 43)=true:=by kernel_rfl
def GO:XB mR aG bK EH (top 45)=true:=by kernel_rfl
def HU:List Str:=["_law_script","_law_k","_law_cell","_law_factor"]
def dP:List Str:=["_law_script","_law_k"]
def M7:Need:=#[[],[],["len"],[]]
def sH:PT :=
  %[.set 3 (.bin .Add (.int 91343852333181432387730302044767688731) (.bin .Mult (.bin .Mult (.int 7919000003) (.var 1)) (.var 1))),.ret (.bin .Mod (.bin .Mult (.bin .Add (.bin .Add (.var 2) (.var 1)) (.int 1)) (.var 3)) (.int 170141183460469231731687303715884105727))|2]
def uO:PT :=
  (.seq (.set 2 (.int 0))
  (.seq (.ife (.cmp .Gt (.bi .len %[.var 0|1]) (.int 0)) %[.set 2 (.idx (.var 0) (.bin .Mod (.var 1) (.bi .len %[.var 0|1])))|2] .nil)
  sH))
def B2:XB M7 uO HU dP (top 46)=true:=by kernel_rfl
def FU:List Str:=["_law_script","_law_at"]
def bP:List Str:=["_law_script","_law_at"]
def G7:Need:=#[["_law_draw"],[],[],[]]
def vO:PT :=
  %[.six 1 (.int 0) (.bin .Add (.idx (.var 1) (.int 0)) (.int 1)),.ret (.call "_law_draw" %[.var 0,.idx (.var 1) (.int 0)|1])|2]
def V2:XB G7 vO FU bP (top 47)=true:=by kernel_rfl
def GU:List Str:=["_law_seed","_law_k","_law_letters","_law_size","_law_spot","_law_word","_law_two"]
def cP:List Str:=["_law_seed","_law_k"]
def L7:Need:=#[["_law_keywords"],[],["range"],[]]
def iL:PT :=
  %[.ret (.var 5)|2]
def xO:PT :=
  (.seq (.set 2 (.str "abcdefghijklmnopqrstuvwxyz"))
  (.seq (.set 3 (.bin .Add (.int 2) (.bin .Mod (.var 0) (.int 6))))
  (.seq (.set 4 (.bin .Mod (.bin .FloorDiv (.var 0) (.int 6)) (.bin .Sub (.var 3) (.int 1))))
  (.seq (.set 5 (.mt .join (.str "") %[.comp [] ["_law_j"] (.nm 0) .rng1 %[.var 3|1] .nop (.idx (.var 3) (.bin .Mod (.bin .Add (.bin .FloorDiv (.var 1) (.int 42)) (.bin .Mult (.bin .Mult (.var 0) (.var 0)) (.bin .Mod (.bin .FloorDiv (.var 1) (.int 1100)) (.int 5)))) (.int 26)))|1]))
  (.seq (.set 6 (.bin .Add (.idx (.var 2) (.bin .Mod (.bin .Add (.bin .FloorDiv (.var 0) (.int 7)) (.bin .FloorDiv (.var 1) (.int 26))) (.int 26))) (.idx (.var 2) (.bin .Mod (.bin .Add (.bin .FloorDiv (.var 0) (.int 3)) (.var 1)) (.int 26)))))
  (.seq (.set 5 (.bin .Add (.bin .Add (.slc (.var 5) .nop (.var 4)) (.var 6)) (.slc (.var 5) (.bin .Add (.var 4) (.int 2)) .nop)))
  (.seq (.ife (.cmp .In (.var 5) (.call "_law_keywords" .anil)) %[.set 5 (.bin .Add (.var 5) (.str "z"))|2] .nil)
  iL)))))))
def U2:XB L7 xO GU cP (top 48)=true:=by kernel_rfl
def VL:List Str:=["_law_script","_law_at","_law_matters","_law_pairs","_law_j","_law_k","_law_n","_law_pair"]
def eJ:List Str:=["_law_script","_law_at","_law_matters"]
def aT:Need:=#[["_law_next"],[],["range","len"],[]]
def FD:PT :=
  %[.set 6 (.call "_law_next" %[.var 0,.var 1|1]),.set 7 (.idx (.lst %[.tup %[.idx (.var 2) (.var 4),.idx (.var 2) (.var 5)|1],.tup %[.idx (.var 2) (.var 5),.idx (.var 2) (.var 4)|1]|1]) (.bin .Mod (.bin .FloorDiv (.var 6) (.int 3)) (.int 2))),.ife (.cmp .Gt (.bin .Mod (.var 6) (.int 3)) (.int 0)) %[.expr (.mt .insert (.var 3) %[.bin .Mod (.bin .FloorDiv (.var 6) (.int 9)) (.bin .Add (.bi .len %[.var 3|1]) (.int 1)),.var 7|1])|2] .nil|2]
def DD:PT :=
  %[.for_ (.nm 5) .rng1 %[.var 4|1] FD|2]
def aH:PT :=
  %[.own 3 (.lst .anil),.for_ (.nm 4) .rng1 %[.bi .len %[.var 2|1]|1] DD,.ret (.var 3)|2]
def PR:XB aT aH VL eJ (top 49)=true:=by kernel_rfl
def pQ:List Str:=["_law_script","_law_at","_law_people","_law_matters","_law_n","_law_time","_law_many","_law_p","_law_f","_law_word","_law_q","_law_quoted","_law_by"]
def LM:List Str:=["_law_script","_law_at","_law_people","_law_matters"]
def OZ:Need:=#[["_law_next","_law_keywords","_law_name"],[],["len","int","range","tuple"],[]]
def gQ:PT :=
  %[.set 4 (.call "_law_next" %[.var 0,.var 1|1]),.set 5 (.idx (.lst %[.bin .Mod (.bin .FloorDiv (.var 4) (.int 7)) (.int 5),.bin .Mod (.bin .FloorDiv (.var 4) (.int 7)) (.int 60),.bin .Mod (.bin .FloorDiv (.var 4) (.int 7)) (.bin .Pow (.int 10) (.int 9)),.idx (.lst %[.int 0,.int 999999999|1]) (.bin .Mod (.bin .FloorDiv (.var 4) (.int 7)) (.int 2))|1]) (.bin .Mod (.var 4) (.int 4))),.set 6 (.bi .len %[.var 2|1]),.set 7 (.bin .Mod (.bin .FloorDiv (.var 4) (.int 100)) (.var 6)),.set 8 (.idx (.var 3) (.bin .Mod (.bin .FloorDiv (.var 4) (.int 1000)) (.bi .len %[.var 3|1]))),.set 9 (.idx (.lst %[.call "_law_name" %[.bin .Mod (.bin .FloorDiv (.var 4) (.bin .Pow (.int 10) (.int 6))) (.bin .Pow (.int 10) (.int 12)),.int 3|1],.idx (.call "_law_keywords" .anil) (.bin .Mod (.bin .FloorDiv (.var 4) (.bin .Pow (.int 10) (.int 6))) (.int 19))|1]) (.bi .int %[.cmp .Eq (.bin .Mod (.bin .FloorDiv (.var 4) (.int 20)) (.int 6)) (.int 0)|1])),.ife (.or (.cmp .Eq (.var 6) (.int 1)) (.cmp .Eq (.bin .Mod (.bin .FloorDiv (.var 4) (.int 4)) (.int 3)) (.int 0))) %[.ret (.tup %[.str "see",.var 5,.idx (.idx (.var 2) (.var 7)) (.int 0),.var 8,.var 9|1])|2] .nil,.set 10 (.bin .Mod (.bin .Add (.bin .Add (.var 7) (.int 1)) (.bin .Mod (.bin .FloorDiv (.var 4) (.bin .Pow (.int 10) (.int 4))) (.bin .Sub (.var 6) (.int 1)))) (.var 6)),.set 11 (.idx (.lst %[.int 0,.int 0,.int 1,.int 2,.int 6,.int 3|1]) (.bin .Mod (.bin .FloorDiv (.var 4) (.int 12)) (.int 6))),.set 12 (.eff (.comp [] ["_law_j"] (.nm 0) .rng1 %[.var 11|1] .nop (.idx (.idx (.var 3) (.bin .Mod (.call "_law_next" %[.var 1,.var 2|1]) (.var 7))) (.int 0)))),.ret (.tup %[.str "tell",.var 5,.idx (.idx (.var 2) (.var 7)) (.int 0),.idx (.idx (.var 2) (.var 10)) (.int 0),.var 8,.var 9,.bi .tuple %[.var 12|1]|1])|2]
def kX:XB OZ gQ pQ LM (top 50)=true:=by kernel_rfl
def nQ:List Str:=["_law_script","_law_at","_law_seed","_law_n","_law_people","_law_j","_law_m","_law_matters","_law_against_here","_law_count","_law_events"]
def GM:List Str:=["_law_script"]
def MZ:Need:=#[["_law_draw","_law_next","_law_name","_law_against","_law_event"],[],["range"],[]]
def SD:PT :=
  %[.set 6 (.call "_law_next" %[.var 0,.var 1|1]),.expr (.mt .append (.var 4) %[.tup %[.call "_law_name" %[.var 2,.var 5|1],.bin .Mod (.var 6) (.int 100),.idx (.lst %[.int 0,.bin .Mod (.bin .FloorDiv (.var 6) (.int 100)) (.int 100),.int 99|1]) (.bin .Mod (.bin .FloorDiv (.var 6) (.bin .Pow (.int 10) (.int 4))) (.int 3)),.bin .Add (.int 1) (.bin .Mod (.bin .FloorDiv (.var 6) (.bin .Pow (.int 10) (.int 5))) (.int 4))|1]|1])|2]
def kS:PT :=
  %[.set 10 (.eff (.comp [] ["_law_k"] (.nm 0) .rng1 %[.var 9|1] .nop (.call "_law_event" %[.var 1,.var 2,.var 5,.var 8|1]))),.ret (.tup %[.var 4,.var 7,.var 8,.var 10|1])|2]
def fQ:PT :=
  (.seq (.own 1 (.lst %[.int 0|1]))
  (.seq (.set 2 (.bin .Mod (.call "_law_draw" %[.var 0,.int 0|1]) (.bin .Pow (.int 10) (.int 12))))
  (.seq (.set 3 (.call "_law_next" %[.var 0,.var 1|1]))
  (.seq (.own 4 (.lst .anil))
  (.seq (.for_ (.nm 5) .rng1 %[.bin .Add (.int 1) (.bin .Mod (.var 3) (.int 10))|1] SD)
  (.seq (.frz [4] (.set 7 (.comp [Kz,Kz,Kz,Kz,Kz,j3] ["_law_j"] (.nm 0) .rng1 %[.bin .Add (.int 1) (.bin .Mod (.bin .FloorDiv (.var 3) (.int 10)) (.int 6))|1] .nop (.call "_law_name" %[.var 3,.idx (.lst %[.var 0,.bin .Add (.int 50) (.var 0)|1]) (.bin .Mod (.bin .Add (.bin .FloorDiv (.var 4) (.int 60)) (.var 0)) (.int 2))|1]))))
  (.seq (.set 8 (.call "_law_against" %[.var 0,.var 1,.var 7|1]))
  (.seq (.set 9 (.bin .Mod (.bin .FloorDiv (.var 3) (.int 1000)) (.int 26)))
  (.seq (.ife (.cmp .Eq (.bin .Mod (.bin .FloorDiv (.var 3) (.int 100)) (.int 8)) (.int 1)) %[.set 9 (.int 80)|2] .nil)
  kS)))))))))
def yX:XB MZ fQ nQ GM (top 51)=true:=by kernel_rfl
def oQ:List Str:=["_law_world_here","_law_lines_here","_law_event_here","_law_words"]
def HM:List Str:=["_law_world_here"]
def NZ:Need:=#[[],[],["str","len","list"],[]]
def VE:PT :=
  %[.expr (.mt .append (.var 1) %[.var 3|1])|2]
def TD:PT :=
  (.seq (.set 3 (.comp [] ["_law_word"] (.nm 0) .val %[.eff (.slc (.var 2) .nop (.int 6))|1] .nop (.bi .str %[.var 0|1])))
  (.seq (.ife (.and (.cmp .Eq (.idx (.var 2) (.int 0)) (.str "tell")) (.cmp .Gt (.bi .len %[.idx (.var 2) (.int 6)|1]) (.int 0))) %[.set 3 (.bin .Add (.bin .Add (.var 3) (.lst %[.str "by"|1])) (.bi .list %[.idx (.var 2) (.int 6)|1]))|2] .nil)
  VE))
def RK:PT :=
  %[.own 1 (.comp [] ["_law_person"] (.nm 0) .val %[.idx (.var 0) (.int 0)|1] .nop (.bin .Add (.lst %[.str "person"|1]) (.comp [] ["_law_word"] (.nm 0) .val %[.var 0|1] .nop (.bi .str %[.var 0|1])))),.expr (.mt .extend (.var 1) %[.comp [] ["_law_matter"] (.nm 0) .val %[.idx (.var 0) (.int 1)|1] .nop (.lst %[.str "matter",.var 0|1])|1]),.expr (.mt .extend (.var 1) %[.comp [] ["_law_pair"] (.nm 0) .val %[.idx (.var 0) (.int 2)|1] .nop (.lst %[.str "against",.idx (.var 0) (.int 0),.idx (.var 0) (.int 1)|1])|1]),.for_ (.nm 2) .val %[.idx (.var 0) (.int 3)|1] TD,.ret (.var 1)|2]
def zX:XB NZ RK oQ HM (top 52)=true:=by kernel_rfl
def oO:List Str:=["_law_lines_here","_law_script","_law_rows","_law_places","_law_empty","_law_k","_law_words","_law_n"]
def cL:List Str:=["_law_lines_here","_law_script"]
def pW:Need:=#[["_law_draw"],[],["enumerate","len"],[]]
def JC:PT :=
  %[.expr (.mt .append (.var 2) %[.bin .Add (.bin .Mult (.str " ") (.bin .Mod (.bin .FloorDiv (.var 7) (.int 15)) (.int 2))) (.mt .join (.str " ") %[.var 6|1])|1]),.expr (.mt .append (.var 3) %[.bi .len %[.var 2|1]|1])|2]
def KE:PT :=
  (.seq (.set 7 (.call "_law_draw" %[.var 1,.bin .Add (.int 900) (.var 5)|1]))
  (.seq (.ife (.and (.cmp .Eq (.bin .Mod (.var 7) (.int 5)) (.int 0)) (.cmp .Lt (.var 4) (.int 40))) %[.expr (.mt .append (.var 2) %[.bin .Mult (.str " ") (.bin .Mod (.bin .FloorDiv (.var 7) (.int 5)) (.int 3))|1]),.set 4 (.bin .Add (.var 4) (.int 1))|2] .nil)
  JC))
def jJ:PT :=
  %[.own 2 (.lst .anil),.own 3 (.lst .anil),.set 4 (.int 0),.for_ (.tp [5,6]) .enum %[.var 0|1] KE,.frz [3] (.ret (.lst %[.bin .Add (.var 2) (.bin .Mult (.lst %[.str ""|1]) (.bin .Mod (.call "_law_draw" %[.var 1,.int 890|1]) (.int 3))),.var 3|1]))|2]
def tU:XB pW jJ oO cL (top 53)=true:=by kernel_rfl
def ZH:List Str:=["_law_caught_here","_law_which","_law_place","_law_kinds"]
def XG:List Str:=["_law_caught_here","_law_which","_law_place"]
def bN:Need:=#[[],["WorldError","Twice","Misplaced","BadRow","Unfinished","TooMany","NoName"],["isinstance","ValueError","range","bool","int"],[]]
def dD:PT :=
  %[.ife (.or (.cmp .Is (.var 0) .non) (.or (.not (.prm (.isT "ValueError" "ValueError") %[.var 0|1])) (.not (.prm .isC %[.var 0,.glo "WorldError"|1])))) %[.ret (.bl Kz)|2] .nil,.set 3 (.lst %[.prm .isC %[.var 0,.glo "BadRow"|1],.prm .isC %[.var 0,.glo "Misplaced"|1],.prm .isC %[.var 0,.glo "Twice"|1]|1]),.set 3 (.bin .Add (.var 3) (.lst %[.prm .isC %[.var 0,.glo "NoName"|1],.prm .isC %[.var 0,.glo "TooMany"|1],.prm .isC %[.var 0,.glo "Unfinished"|1]|1])),.ife (.cmp .NotEq (.var 3) (.comp [] ["_law_k"] (.nm 0) .rng1 %[.int 6|1] .nop (.cmp .Eq (.var 0) (.var 2)))) %[.ret (.bl Kz)|2] .nil,.ife (.or (.not (.isi (.prm .plc %[.var 0|1]) (.bty "int" "int"))) (.isi (.prm .plc %[.var 0|1]) (.bty "bool" "bool"))) %[.ret (.bl Kz)|2] .nil,.ret (.cmp .Eq (.prm .plc %[.var 0|1]) (.var 2))|2]
def LL:XB bN dD ZH XG (top 54)=true:=by kernel_rfl
def rO:List Str:=["_law_rows","_law_caught_here","e"]
def dL:List Str:=["_law_rows"]
def rW:Need:=#[["read_world"],["WorldError"],[],[]]
def yJ:PT :=
  %[.set 1 .non,.tryC js "read_world" %[.mt .join (.str "\n") %[.var 0|1]|1] "WorldError" 1 2,.ret (.var 1)|2]
def aU:XB rW yJ rO dL (top 55)=true:=by kernel_rfl
def KH:List Str:=["_law_lines_here","_law_script","_law_heads","_law_rows","_law_caught_here"]
def UG:List Str:=["_law_lines_here","_law_script"]
def cN:Need:=#[["_law_spread","_law_caught","_law_is_refused"],[],["max","len"],[]]
def zF:PT :=
  %[.set 2 (.comp [] ["_law_words"] (.nm 0) .val %[.var 0|1] .nop (.idx (.var 0) (.int 0))),.set 3 (.idx (.call "_law_spread" %[.var 0,.var 1|1]) (.int 0)),.set 4 (.call "_law_caught" %[.var 3|1]),.ife (.and (.cmp .In (.str "person") (.var 2)) (.cmp .In (.str "matter") (.var 2))) %[.ret (.cmp .Is (.var 4) .non)|2] .nil,.ret (.call "_law_is_refused" %[.var 4,.int 5,.bi .max %[.int 1,.bi .len %[.var 3|1]|1]|1])|2]
def ML:XB cN zF KH UG (top 56)=true:=by kernel_rfl
def YH:List Str:=["_law_seed","_law_sort","_law_many","_law_people","_law_matters","_law_lines_here","_law_j","_law_k"]
def VG:List Str:=["_law_seed","_law_sort","_law_many"]
def uN:Need:=#[["_law_name"],[],["int","range","str"],[]]
def JD:PT :=
  %[.expr (.mt .extend (.var 5) %[.comp [Kz,Kz,Kz,Kz,Kz,Kz,Kz,j3] ["_law_k"] (.nm 0) .rng1 %[.var 6|1] .nop (.lst %[.str "against",.call "_law_name" %[.var 1,.bin .Add (.int 20) (.var 7)|1],.call "_law_name" %[.var 1,.bin .Add (.int 20) (.var 0)|1]|1])|1])|2]
def iD:PT :=
  %[.expr (.mt .append (.var 5) %[.lst %[.str "against",.call "_law_name" %[.var 0,.bin .Add (.int 21) (.var 7)|1],.call "_law_name" %[.var 0,.int 25|1]|1]|1])|2]
def tD:PT :=
  %[.expr (.mt .append (.var 5) %[.lst %[.str "see",.bi .str %[.bin .Mod (.bin .Mult (.var 7) (.int 7)) (.int 80)|1],.call "_law_name" %[.var 0,.bin .Mod (.var 7) (.int 2)|1],.call "_law_name" %[.var 0,.int 20|1],.str "w"|1]|1])|2]
def cD:PT :=
  %[.frE 5 (.ret (.var 5))|2]
def yC:PT :=
  (.seq (.ife (.cmp .Eq (.var 1) (.str "see")) %[.for_ (.nm 7) .rng1 %[.var 2|1] tD|2] .nil)
  cD)
def yF:PT :=
  (.seq (.set 3 (.idx (.lst %[.int 2,.var 2|1]) (.bi .int %[.cmp .Eq (.var 1) (.str "person")|1])))
  (.seq (.set 4 (.prm .dgt %[.dsp ["person","matter","against","see"] %[.int 1,.var 2,.int 6,.int 1|1],.var 1|1]))
  (.seq (.own 5 (.comp [Kz,Kz,Kz,Kz,Kz,Kz,Kz,j3] ["_law_k"] (.nm 0) .rng1 %[.var 3|1] .nop (.lst %[.str "person",.call "_law_name" %[.var 1,.var 0|1],.bi .str %[.bin .Mult (.int 9) (.var 0)|1],.str "0",.bi .str %[.bin .Add (.int 1) (.bin .Mod (.var 0) (.int 4))|1]|1])))
  (.seq (.expr (.mt .extend (.var 5) %[.comp [Kz,Kz,Kz,Kz,Kz,Kz,Kz,j3] ["_law_k"] (.nm 0) .rng1 %[.var 4|1] .nop (.lst %[.str "matter",.call "_law_name" %[.var 1,.bin .Add (.int 20) (.var 0)|1]|1])|1]))
  (.seq (.ife (.cmp .Eq (.var 1) (.str "against")) %[.for_ (.nm 6) .rng1 %[.int 6|1] JD,.for_ (.nm 7) .rng1 %[.bin .Sub (.var 2) (.int 15)|1] iD|2] .nil)
  yC)))))
def HL:XB uN yF YH VG (top 57)=true:=by kernel_rfl
def ZL:List Str:=["_law_words","_law_sort","_law_way","_law_told","_law_stranger"]
def tJ:List Str:=["_law_words","_law_sort","_law_way","_law_told","_law_stranger"]
def mT:Need:=#[[],[],[],[]]
def rH:PT :=
  %[.ife (.cmp .Eq (.var 1) (.str "against")) %[.ret (.lst %[.idx (.lst %[.var 0,.lst %[.idx (.var 0) (.int 0),.idx (.var 0) (.int 2),.idx (.var 0) (.int 1)|1]|1]) (.bin .Mod (.var 2) (.int 2)),.int 2|1])|2] .nil,.ife (.and (.cmp .Eq (.var 2) (.int 1)) (.cmp .NotEq (.var 1) (.str "see"))) %[.ret (.lst %[.bin .Add (.lst %[.idx (.var 0) (.int 0),.var 3|1]) (.slc (.var 0) (.int 2) .nop),.int 2|1])|2] .nil,.ife (.cmp .Eq (.var 2) (.int 1)) %[.ret (.lst %[.bin .Add (.bin .Add (.slc (.var 0) .nop (.int 2)) (.lst %[.var 4|1])) (.slc (.var 0) (.int 3) .nop),.int 3|1])|2] .nil,.ife (.and (.cmp .Eq (.var 2) (.int 2)) (.cmp .Eq (.var 1) (.str "see"))) %[.ret (.lst %[.bin .Add (.bin .Add (.slc (.var 0) .nop (.int 3)) (.lst %[.var 4|1])) (.slc (.var 0) (.int 4) .nop),.int 3|1])|2] .nil,.ret (.lst %[.var 0,.int 4|1])|2]
def NR:XB mT rH ZL tJ (top 58)=true:=by kernel_rfl
def KL:List Str:=["_law_seed","_law_sort","_law_most","_law_n","_law_script","_law_lines_here","_law_at","_law_spot","_law_told","_law_due","_law_rows","_law_places"]
def aJ:List Str:=["_law_seed","_law_sort","_law_most","_law_n","_law_script"]
def rT:Need:=#[["_law_many_lines","_law_caught","_law_spread","_law_twisted","_law_name","_law_is_refused"],[],["range","len"],[]]
def tH:PT :=
  %[.own 5 (.call "_law_many_lines" %[.var 0,.var 1,.bin .Add (.var 2) (.bin .Mod (.var 3) (.int 3))|1]),.set 6 (.comp [] ["_law_k"] (.nm 0) .rng1 %[.bi .len %[.var 5|1]|1] (.cmp .Eq (.idx (.idx (.var 6) (.var 0)) (.int 0)) (.var 2)) (.var 0)),.ife (.cmp .Eq (.bin .Mod (.var 3) (.int 3)) (.int 0)) %[.frz [5] (.ret (.cmp .Is (.call "_law_caught" %[.idx (.call "_law_spread" %[.var 5,.var 4|1]) (.int 0)|1]) .non))|2] .nil,.set 7 (.idx (.var 6) (.var 2)),.set 8 (.idx (.idx (.var 5) (.idx (.var 6) (.bin .Mod (.bin .FloorDiv (.var 3) (.int 9)) (.var 2)))) (.int 1)),.setX 5 (.var 7) 9 (.call "_law_twisted" %[.idx (.var 5) (.var 7),.var 1,.bin .Mod (.bin .FloorDiv (.var 3) (.int 3)) (.int 3),.var 8,.call "_law_name" %[.var 0,.int 600|1]|1]),.frz [5] (.setL 10 11 (.call "_law_spread" %[.var 5,.var 4|1])),.ret (.call "_law_is_refused" %[.call "_law_caught" %[.var 10|1],.var 9,.idx (.var 11) (.var 7)|1])|2]
def OR:XB rT tH KL aJ (top 59)=true:=by kernel_rfl
def li:List Str:=["_law_script","_law_world_here","_law_lines_here","_law_k","_law_n","_law_at","_law_seed","_law_most","_law_sort"]
def E5:List Str:=["_law_script"]
def Sq:Need:=#[["_law_world","_law_lines","_law_draw","_law_ends_right","_law_counted"],[],["range","len","enumerate"],[]]
def zS:PT :=
  %[.set 4 (.call "_law_draw" %[.var 0,.bin .Add (.int 500) (.var 3)|1]),.set 5 (.idx (.lst %[.bin .Mod (.bin .FloorDiv (.var 4) (.int 2)) (.bin .Add (.bi .len %[.var 2|1]) (.int 1)),.bin .Mod (.bin .FloorDiv (.var 4) (.int 2)) (.bin .Add (.bi .len %[.idx (.var 1) (.int 0)|1]) (.int 2))|1]) (.bin .Mod (.var 4) (.int 2))),.ife (.not (.call "_law_ends_right" %[.slc (.var 2) .nop (.var 5),.var 0|1])) %[.ret (.bl Kz)|2] .nil|2]
def yS:PT :=
  %[.ife (.not (.call "_law_counted" %[.var 6,.var 8,.prm .dgt %[.var 7,.var 8|1],.call "_law_draw" %[.var 0,.bin .Add (.int 600) (.var 3)|1],.var 0|1])) %[.ret (.bl Kz)|2] .nil|2]
def O9:PT :=
  %[.set 1 (.call "_law_world" %[.var 0|1]),.set 2 (.call "_law_lines" %[.var 1|1]),.for_ (.nm 3) .rng1 %[.int 4|1] zS,.ife (.not (.call "_law_ends_right" %[.comp [] ["_law_words"] (.nm 0) .val %[.var 2|1] (.cmp .In (.idx (.var 0) (.int 0)) (.lst %[.str "matter",.str "against"|1])) (.var 0),.var 0|1])) %[.ret (.bl Kz)|2] .nil,.ife (.not (.call "_law_ends_right" %[.comp [] ["_law_words"] (.nm 0) .val %[.var 2|1] (.cmp .Eq (.idx (.var 0) (.int 0)) (.str "person")) (.var 0),.var 0|1])) %[.ret (.bl Kz)|2] .nil,.set 6 (.bin .Mod (.call "_law_draw" %[.var 0,.int 0|1]) (.bin .Pow (.int 10) (.int 12))),.set 7 (.dsp ["person","matter","against","see"] %[.int 10,.int 6,.int 15,.int 80|1]),.for_ (.tp [3,8]) .enum %[.lst %[.str "person",.str "matter",.str "against",.str "see"|1]|1] yS,.ret (.bl j3)|2]
def Rm:XB Sq O9 li E5 (top 60)=true:=by kernel_rfl
def gI:D->Str
 | .str z=>z|.int n=>yD n|_=>#[#[]]
def VC(w:Str):Prop:=w.cps.toList≠[]/\w.9<=9/\∀c∈w.cps.toList,33<=c/\c<=126
def VC.free(h:VC w):32∉w.cps.toList:=λz=>by have:=h.2.2 32 z;omega
def BD:aE.cps.toList=(QH 26).map (·+97):=by decide +kernel
def dE(h:rB w=j3):VC w:=by unfold rB at h;rw[Qc,Qc,decide_eq_true_eq,decide_eq_true_eq]at h;let#[k,u,y]:=h;refine#[λz=>?_,(),λc hc=>?_];have:w.cps.toList.9=w.length:=Q6;rw[z]at this;simp at this;omega;have:=Qr.mp y c hc;rw[decide_eq_true_eq,BD]at this;let#[i,x,rfl]:=Qa.mp this;have:=Qf.mp x;omega
def oP(h:KA w=j3):rB w=true:=by unfold KA at h;rw[Qc]at h;exact h.1
def xl{n:Int}(h:0<=n)(y:n<=999999999):VC (yD n):=by let#[u,x]:=vN h y;refine#[λz=>?_,x,λc hc=>?_];have:(yD n).cps.toList.9=(yD n).length:=Q6;rw[z]at this;simp at this;omega;let#[m,rfl]:=qS h;have:=jH m c hc;omega
def vI:LS:=["name","person","matter"]
def VD:List (Str×D):=[("rank",.tuple [.int 0,.int 99]),("floor",.tuple [.int 0,.int 99]),("needs",.tuple [.int 1,.int 4]),("time",.tuple [.int 0,.int 999999999]),("number",.tuple [.int 0,.int 999999999])]
def PL(p:Str)(d:D):Prop:=(p="name"/\∃w,d=.str w/\KA w=j3)∨(p="word"/\∃w,d=.str w/\rB w=j3)∨(p="by"/\d=.str "by") ∨
 ((p∉vI/\p≠"word"/\p≠"by")/\∃a b n:Int,VD.lookup p=jb (.tuple [.int a,.int b])/\d=.int n/\a<=n/\n<=b/\0<=a/\b<=999999999)
inductive FitsL:LS->List D->Prop where
 |nil:FitsL [] []
 |cons {p:Str}{d:D}{ps:LS}{ds:List D}:PL p d->FitsL ps ds->FitsL (p::ps) (d::ds)
def PL.txts(h:PL p d):VC (gI d)/\((∃z,d=.str z)∨∃n:Int,d=.int n/\0<=n/\n<=999999999):=by
 rcases h with⟨_,w,rfl,x⟩| ⟨_,w,rfl,x⟩| ⟨_,rfl⟩| ⟨_,a,b,n,_,rfl,e,k,u,y⟩
 exact#[dE (oP x),.inl #[w,rfl]];exact#[dE x,.inl #[w,rfl]];exact#[dE (by decide +kernel),.inl #[_,rfl]];exact#[xl () (),.inr #[n,rfl,(),()]]
def FitsL.len(h:FitsL f vs):f.9=vs.length:=by
 induction h with|nil=>rfl|cons _ _ x=>rw[QM,QM,x]
def FitsL.all(h:FitsL f vs):∀d∈vs,VC (gI d)/\((∃z,d=.str z)∨∃n:Int,d=.int n/\0<=n/\n<=999999999):=by
 induction h with|nil=>intro d hd;cases hd|cons a _ x=>intro d hd;rcases QO.mp hd with rfl|hd;exact a.txts;exact x d hd
def cB(p w:Str):D:=if decide (p∈vI)=j3 then(if KA w=j3 then .str w else .none) else if decide (p=QA "word")=j3 then(if rB w=j3 then .str w else .none) else
 if decide (p=QA "by")=j3 then(if decide (w=QA "by")=j3 then .str w else .none) else match VD.lookup p with
 |some (.tuple [.int a,.int b])=>PC a b w|_=>.none
def Ua(p:Str):Prop:=p∈vI∨p="word"∨p="by"∨∃a b:Int,VD.lookup p=jb (.tuple [.int a,.int b])
def OG:PSp where
 run:=λh Q _=>∃(p w:Str),h=[.d (.str p),.d (.str w)]/\Ua p/\w.9<=ke/\Q (.d (cB p w)) []
def bW:(vI.map Jz).all SA=true:=by rfl
def L8(p:Str):((vI.map Jz).any λy=>Q2 y (.str p))=decide (p∈vI):=by
 rw[QC7];have:∀l:LS,(l.any ((λy=>Q2 y (.str p))∘Jz))=decide (p∈l):=by
  intro l;induction l with|nil=>rfl|cons x l h=>rw[qj,h];show(decide (x=p)||decide (p∈l))=_;by_cases e:x=p;subst e;simp;have u:¬ p=x:=λz=>e z.symm;simp[e,u]
 exact this vI
def SS{Ψ:PEv}(j:Ψ.sp "is_name"=NE)(i:Ψ.sp "is_word"=nD)(g:Ψ.sp "number_within"=xC)(u:Ψ.va "NAMED"=jb (.tuple (vI.map Jz)))(y:Ψ.dc "RANGES"=jb VD):yL Ψ AI OG lO xL:=by
 rintro _ Q _ ⟨p,w,rfl,k,hl,q⟩;refine rA [bD (.str p),bD (.str w)] ?_;unfold cB at q;delta AI;simp![↓cE u,bW,L8];refine#[.inl rfl,OD (λc=>?_) λc=>OD (λh=>?_) λh=>OD (λx=>?_) λx=>?_];rw[n8 c]at q;delta jK;simp![↓uA (md:=[]) j rfl rfl,↓XS hl];refine OD (λd=>?_) λd=>?_;rw[n8 d]at q;exact q;rw[n7 d]at q;exact q;rw[n7 c,n8 h]at q;delta IJ;simp![↓uA (md:=[]) i rfl rfl,↓kL hl];refine OD (λd=>?_) λd=>?_;rw[n8 d]at q;exact q;rw[n7 d]at q;exact q;rw[n7 c,n7 h,n8 x]at q;delta EJ;simp![↓xA];refine OD (λd=>?_) λd=>?_;rw[n8 d]at q;exact q;rw[n7 d]at q;exact q;rw[n7 c,n7 h,n7 x]at q;rcases k with z|z|z|⟨a,b,e⟩
 exact n9 (dT z) c;exact n9 (dT z) h;exact n9 (dT z) x;rw[e]at q;delta AJ;simp![↓uA (md:=[]) g rfl rfl,↓Ck y e,↓mJ hl];exact q
def KC(f h:LS):List D:=(f.zip h).map λp=>cB p.1 p.2
def cM(o:Option (LS))(h:LS):Option (List D):=match o with
 |none=>js|some f=>if h.9=f.9 then(if(KC f h).any OB=j3 then js else jb (KC f h)) else js
def Uc(h:Str):Option (List D)->T
 |none=>.d .none|some vs=>.lst ((Jz h::vs).map T.d)
def kG:PSp where
 run:=λy Q _=>∃(h:Str) (o:Option (LS)) (x:LS),y=[.d (GS o),.d (.list ((h::x).map Jz))]/\x.9<=1000/\(∀w∈x,w.9<=ke)/\(∀f,o=jb f->f.9<=1000/\∀p∈f,Ua p)/\Q (Uc h (cM o x)) []
def ce(h:SA y=j3):Q2 y .none=OB y:=by cases y<;>first|rfl|cases h
def V7(a b:Int)(w:Str):SA (PC a b w)=true:=by
 unfold PC yH;cases DP w with|false=>rfl|true=>show SA (if(decide (a<=gC w)&&decide (gC w<=b))=j3 then .int (gC w) else .none)=j3;split<;>rfl
def Z4(p w:Str):SA (cB p w)=true:=by
 have f:∀{c:Prop} [Decidable c] {a b:D},SA a=j3->SA b=j3->SA (if c then a else b)=true:=λy x=>by rw[apply_ite SA,y,x,ite_self]
 refine f (f rfl rfl) (f (f rfl rfl) (f (f rfl rfl) ?_));cases VD.lookup p with
 |none=>rfl|some d=>cases d with
  |tuple l=>rcases l with _|⟨a,_|⟨b,_|_⟩⟩<;>first|rfl | (cases a<;>first|rfl | (cases b<;>first|rfl|exact V7 _ _ _))
  |_=>rfl
def T9(f h:LS):(KC f h).all SA=true:=by unfold KC;rw[QC5];exact Qr.mpr λp _=>Z4 p.1 p.2
def Ge{l:List D}(h:l.all SA=j3):(l.any λy=>Q2 y .none)=l.any OB:=by
 induction l with|nil=>rfl|cons x l z=>rw[qB,Qc]at h;rw[qj,qj,z h.2,ce h.1]
def zR{Ψ:PEv}(s:Ψ.sp "value_of"=OG):yL Ψ iF kG JL rJ:=by
 rintro _ Q _ ⟨h,o,x,rfl,B,l,n,q⟩;refine rA [bD (GS o),bD (.list ((h::x).map Jz)),js] ?_;cases o with
 |none=>delta iF;simp![GS];exact q|some f =>
  let#[K,m]:=n f rfl;have W:FB (WG Jz (h::x)) 0=jb (.str h):=UA (j:=0) rfl;have b:((h::x).map Jz).9=x.9+1:=by simp
  have g:(WG Jz f).9=f.length:=by simp
  have Z:ZE ((h::x).map Jz) (jb 1) js=x.map Jz:=by unfold ZE;simp[HT.sIx];exact qz (by simp)
  have X:WG (λp=>T.d (PyData.tuple [p.fst,p.snd])) ((WG Jz f).zip (x.map Jz))=(f.zip x).map λp:Str×Str=>T.d (PyData.tuple [.str p.1,.str p.2]):=by rw[List.zip_map,Q8];rfl
  have q:Q (Uc h (if x.9=f.9 then(if(KC f x).any OB=j3 then js else jb (KC f x)) else js)) []:=q;delta iF;simp![GS,↓zB W,↓Vv Z,b,g,X];refine OD (λc=>?_) λc=>?_;rw[n7 (λz=>by rw[dT ()]at c;cases c)]at q;exact q;have e:x.9=f.length:=by by_cases z:((x.9+1:Nat):Int)=1+(f.9:Int);omega;rw[dF z]at c;exact n9 rfl c
  rw[n8 e]at q;refine#[(),UB (λp:Str×Str=>T.d (PyData.tuple [.str p.1,.str p.2])) (λp=>T.d (cB p.1 p.2)) _ _ _ (λp y R r=>?_) ?_ ?_];simp![↓uA (md:=[]) s rfl rfl];have k:=QAc y;refine#[_,_,rfl,(m p.1 k.1),(l p.2 k.2),?_];simp![↓xA];exact r;simp;omega;rw[Qu,VT (λp:Str×Str=>cB p.1 p.2)];have u:=T9 f x;have a:=Ge u;have i:(KC f x).9<=1000:=by unfold KC;rw[QG,QBm];omega
  have Y:WG (λp:Str×Str=>cB p.1 p.2) (f.zip x)=KC f x:=rfl;rw[Y];generalize KC f x=A at u a i q;simp![↓xA];refine#[by first|omega | (simp;omega),.inl #[rfl,?_],?_];rw[qB,u];rfl;rw[qj,a];have:(Q2 (.str h) .none||A.any OB)=A.any OB:=rfl;rw[this];refine OD (λc=>?_) λc=>?_;rw[n8 c]at q;exact q;rw[n7 c]at q;exact q
def PK{p:PSp}{ps:LS}{y:LT}(ρ:yA)(hl:y.9=ps.9)(hc:jC 0 p.md ps.9=[])(z:AA N p.md y=ρ)(h:mB Ψ E b (eZ Q) ρ):y.9=ps.9/\∃E':XE,(∀x,E' x->E x)/\mB Ψ E' b (aC p ps.9 Q) (AA N p.md y):=by
 have e:aC p ps.9 Q=eZ Q:=by unfold aC;rw[hc];rfl
 rw[e,z];exact#[hl,E,λ_ h=>h,h]
def vz(h:Str)(vs:List D):Prop:=fE.lookup h=js∨∃i j a b,fE.lookup h=jb (.tuple [.int i,.int j])/\FB (.str h::vs) i=jb (.str a)/\FB (.str h::vs) j=jb (.str b)/\a≠b
structure Good(h:Str)(vs:List D):Prop where
 hd:VC h
 fm:∃f,TC h (vs.9+1)=jb f/\FitsL f vs
 un:vz h vs
def VX(vs:List D)(k:Nat):Str:=match vs[k]? with
 |some (.str a)=>a|_=>#[#[]]
def gM(h:Str)(vs:List D):Bool:=if decide (h=QA "against")=j3 then !decide (VX vs 0=VX vs 1) else if decide (h=QA "tell")=j3 then !decide (VX vs 1=VX vs 2) else j3
def aV(h:Str)(x:LS):Option (List D):=match cM (TC h (x.9+1)) x with
 |none=>js|some vs=>if gM h vs=j3 then jb vs else js
def Kr{α:Type}{x:Str}{l:List (Str×α)}{v:α}(h:l.lookup x=jb v):∃p∈l,p.1=x/\p.2=v:=by
 induction l with
 |nil=>cases h|cons p l y =>
  let#[a,b]:=p;rw[Ql]at h;cases e:x==a with|true=>rw[e]at h;exact#[(a,b),QL,(Qn e).symm,QW h]|false=>rw[e]at h;let#[p,u,z]:=y h;exact#[p,QI _ u,z]
def fP:Ua (QA "name"):=.inl (by decide +kernel)
def tK:∀p∈[QA "name","rank","floor","needs","time","word","by"],Ua p:=by intro p h;simp only[QO,qT,or_false]at h;rcases h with rfl|rfl|rfl|rfl|rfl|rfl|rfl;exact fP;exact .inr (.inr (.inr #[0,99,by kernel_rfl]));exact .inr (.inr (.inr #[0,99,by kernel_rfl]));exact .inr (.inr (.inr #[1,4,by kernel_rfl]));exact .inr (.inr (.inr #[0,999999999,by kernel_rfl]));exact .inr (.inl rfl);exact .inr (.inr (.inl rfl))
def ET:∀q∈MI,q.2.9<=5/\∀p∈q.2,p∈[QA "name","rank","floor","needs","time","word","by"]:=by decide +kernel
def zG:kC.length=5/\∀p∈kC,p∈[QA "name","rank","floor","needs","time","word","by"]:=by decide +kernel
def DW(e:TC h n=jb f):f.9<=1000/\∀p∈f,Ua p:=by
 unfold TC at e;split at e;split at e
 ·rename_i c
  cases e;refine#[?_,λp x=>?_];unfold zh;rw[QJ,zG.1,QM,qN];omega;rcases Qp.mp x with x|x
  ·exact tK p (zG.2 p x)
  rcases QO.mp x with rfl|x
  ·exact .inr (.inr (.inl rfl))
  rw[Wm x];exact fP
 cases e;exact#[by rw[zG.1];decide,λp x=>tK p (zG.2 p x)];let#[q,y,_,rfl]:=Kr e;let#[u,z]:=ET q y;exact#[(),λp x=>tK p (z p x)]
def xJ(h:OB (cB (QA "name") w)=Kz):cB (QA "name") w=.str w:=by
 unfold cB at h ⊢;rw[n8 (show decide (QA "name"∈vI)=j3 by decide +kernel)]at h ⊢;cases c:KA w with|true=>rfl|false=>rw[c]at h;cases h
def X4{y:LS}(e:cM (TC h (y.9+1)) y=jb vs):(fE.lookup h=js/\gM h vs=j3)∨∃i j a b,fE.lookup h=jb (.tuple [.int i,.int j])/\FB (.str h::vs) i=jb (.str a)/\FB (.str h::vs) j=jb (.str b)/\(!decide (a=b))=gM h vs:=by
 cases z:TC h (y.9+1) with
 |none=>rw[z]at e;cases e|some f =>
  rw[z]at e;have e:(if y.9=f.9 then(if(KC f y).any OB=j3 then js else jb (KC f y)) else js)=jb vs:=e;split at e;rename_i el;split at e;cases e;rename_i x;cases e;rw[Bool.not_eq_true]at x;by_cases n:h=QA "against";subst n;have:f=[QA "name","name"]:=by
   have:TC (QA "against") (y.9+1)=jb [QA "name","name"]:=by unfold TC;rw[n7 (by decide +kernel)];decide +kernel
   rw[this]at z;exact(QW z).symm
  subst this
  match y,el with
  |[w1,w2],_ =>
   have x:(OB (cB (QA "name") w1)||(OB (cB (QA "name") w2)||false))=false:=x;rw[wU,wU]at x;have l:=xJ x.1;have k:=xJ x.2.1;have u:KC [QA "name","name"] [w1,w2]=[.str w1,.str w2]:=by show[cB (QA "name") w1,cB (QA "name") w2]=_;rw[l,k]
   rw[u];refine .inr #[1,2,w1,w2,by kernel_rfl,rfl,rfl,?_];unfold gM;rw[n8 (by decide +kernel)];rfl
  by_cases m:h=QA "tell"
  ·subst m
   obtain⟨g,rfl⟩:∃g,f=QA "time"::QA "name"::QA "name"::g:=by unfold TC at z;rw[n8 (by decide +kernel)]at z;split at z;cases z;exact#[_,rfl];cases z;exact#[_,rfl]
   match y,el with
   |w0::w1::w2::ws',_ =>
    have x:(OB (cB (QA "time") w0)||(OB (cB (QA "name") w1)||(OB (cB (QA "name") w2)||(KC g ws').any OB)))=false:=x;rw[wU,wU,wU]at x;have l:=xJ x.2.1;have k:=xJ x.2.2.1;have u:KC (QA "time"::QA "name"::QA "name"::g) (w0::w1::w2::ws')=cB (QA "time") w0::.str w1::.str w2::KC g ws':=by show cB (QA "time") w0::cB (QA "name") w1::cB (QA "name") w2::KC g ws'=_;rw[l,k]
    rw[u];refine .inr #[2,3,w1,w2,by kernel_rfl,UA (j:=2) rfl,UA (j:=3) rfl,?_];unfold gM;rw[n7 (by decide +kernel),n8 (by decide +kernel)];rfl
  refine .inl #[?_,?_]
  ·show wf h [(QA "against",_),(QA "tell",_)]=js
   rw[Ql,Ql,show(h==QA "against")=Kz from beq_eq_false_iff_ne.mpr n,show(h==QA "tell")=Kz from beq_eq_false_iff_ne.mpr m];rfl
  unfold gM;rw[dF n,dF m];rfl;cases e
def NC:PSp where
 run:=λi Q E=>∃(r:Str) (x:Int),i=[.d (.str r),.d (.int x)]/\(r.9<=900/\0<=x/\x<=10000/\∀w∈Lib.wordsOf r,w.9<=100)/\((Lib.wordsOf r=[]/\Q (.d .none) [])∨∃h y,Lib.wordsOf r=h::y/\((∃vs,aV h y=jb vs/\Q (.lst (WG T.d (Jz h::vs))) [])∨aV h y=js/\E ("BadRow",x)))
 mono:=λk u #[p,w,e,l,q]=>#[p,w,e,l,q.imp (λq=>#[q.1,k _ _ q.2]) λ#[a,b,g,q]=>#[a,b,g,q.imp (λ#[vs,z,q]=>#[vs,z,k _ _ q]) λ#[z,q]=>#[z,u _ q]]]
def kZ(r:Str):(Lib.wordsOf r).9<=r.9+2:=qG (QBn _ _) (QDn r #[(List.toArray [32])])
def CZ{Ψ:PEv}(O:Ψ.sp "words_in"=nF)(N:Ψ.sp "values_by"=kG)(M:Ψ.sp "form_for"=RG)(L:Ψ.sp "are_unlike"=KF)(v:Ψ.va "BadRow"=jb (IF "BadRow"))(ds Q E)(h:NC.run ds Q E):ds.9=rK.length/\∃E':XE,(∀x,E' x->E x)/\mB Ψ E' kO (aC NC rK.length Q) (AA DU NC.md ds):=by
 let#[r,u,rfl,#[hl,I,P,s],q]:=h;refine PK [bD (.str r),bD (.int u),js,js] rfl rfl rfl ?_;have g:=kZ r;have Y:∀w∈Lib.wordsOf r,w.9<=sizeLine:=λw h=>by have:=s w h;omega
 have er:∀(W Z:Option Sl),E ("BadRow",u)->Zd (jb 1) [bD (.str r),bD (.int u),W,Z]/\∃y,Ψ.va "BadRow"=jb (IF y)/\∃p,T.d (j0 u)=.d (.int p)/\E (y,p):=λW Z z=>by refine#[#[u,rfl,?_],"BadRow",v,u,rfl,z];let#[m,rfl]:=qS I;show Nat.log2 m<1920;by_cases X:m=0;subst X;decide;exact Qm ((QAe X).mpr (show m<2 ^ 14 by omega)) (by decide)
 delta kO;simp![↓uA (md:=[]) O rfl rfl,↓CQ (show r.9<=100000 by omega)];rcases q with⟨e,q⟩| ⟨h,l,e,q⟩
 rw[e];exact q;rw[e]at g Y ⊢;refine OD (λc=>?_) λ_=>?_;simp at c;omega;have K:l.9<=1000:=by rw[QM]at g;omega
 simp![↓uA (md:=[]) N rfl rfl,↓uA (md:=[]) M rfl rfl];refine#[_,_,rfl,K,?_];simp![↓xA];refine#[_,_,_,rfl,K,(λw s=>Y w (QI _ s)),(λf J=>DW J),?_];unfold aV at q;cases hv:cM (TC h (l.9+1)) l with
 |none=>rw[hv]at q;have q:E ("BadRow",u):=q.elim (λzz=>by let#[_,z,_]:=zz;cases z) λz=>z.2;simp![Uc];exact er _ _ q|some vs =>
  rw[hv]at q;have q:(∃k,(if gM h vs=j3 then jb vs else js)=jb k/\Q (.lst (WG T.d (Jz h::k))) [])∨(if gM h vs=j3 then jb vs else js)=js/\E ("BadRow",u):=q;simp![Uc,↓uA (md:=[.bor]) L rfl rfl];refine#[_,_,rfl,?_];have fin:∀b,b=gM h vs->(b=j3->Q (.lst (WG T.d (Jz h::vs))) [])/\(b=Kz->E ("BadRow",u)):=by
   rintro _ rfl;refine#[λz=>?_,λz=>?_];rw[n8 z]at q;exact q.elim (λzz=>by let#[_,e,q]:=zz;cases e;exact q) λe=>by cases e.1
   rw[z]at q;exact q.elim (λzz=>by let#[_,e,_]:=zz;cases e) λe=>e.2
  rcases X4 hv with⟨o,n⟩| ⟨i,j,a,b,o,n,G,F⟩
  refine .inl #[o,?_];simp![↓xA];exact(fin j3 n.symm).1 rfl;refine .inr #[i,j,a,b,o,n,G,?_];let#[C,B]:=fin _ F;simp![↓xA];cases A:decide (a=b) with|true=>rw[A]at B;simp![↓xA];exact er _ _ (B rfl)|false=>rw[A]at C;simp![↓xA];exact C rfl
def EB(h:KA x=j3):PL "name" (.str x):=.inl #[rfl,x,rfl,h]
def MP(h:rB x=j3):PL "word" (.str x):=.inr (.inl #[rfl,x,rfl,h])
def ye:PL "by" (.str "by"):=.inr (.inr (.inl #[rfl,rfl]))
def RJ{a b n:Int}(u:p∉vI/\p≠"word"/\p≠"by")(z:VD.lookup p=jb (.tuple [.int a,.int b]))(y:a<=n)(x:n<=b)(k:0<=a)(h:b<=999999999):PL p (.int n):=.inr (.inr (.inr #[u,a,b,n,z,rfl,y,x,k,h]))
def U1{n:Int}(x:0<=n)(h:n<=99):PL "rank" (.int n):=RJ (by decide +kernel) (show VD.lookup (QA "rank")=jb (.tuple [.int 0,.int 99]) by kernel_rfl) x h (by decide) (by decide)
def NW{n:Int}(x:0<=n)(h:n<=99):PL "floor" (.int n):=RJ (by decide +kernel) (show VD.lookup (QA "floor")=jb (.tuple [.int 0,.int 99]) by kernel_rfl) x h (by decide) (by decide)
def MW{n:Int}(x:1<=n)(h:n<=4):PL "needs" (.int n):=RJ (by decide +kernel) (show VD.lookup (QA "needs")=jb (.tuple [.int 1,.int 4]) by kernel_rfl) x h (by decide) (by decide)
def NP{n:Int}(x:0<=n)(h:n<=999999999):PL "time" (.int n):=RJ (by decide +kernel) (show VD.lookup (QA "time")=jb (.tuple [.int 0,.int 999999999]) by kernel_rfl) x h (by decide) (by decide)
section
variable{α:Type}(a b c d e f g:α)(l:List α)
def zJ:FB (a::l) 0=jb a:=UA (j:=0) rfl
def T2:FB (a::b::l) 1=jb b:=UA (j:=1) rfl
def Vo:FB (a::b::c::l) 2=jb c:=UA (j:=2) rfl
def Cw:FB (a::b::c::d::l) 3=jb d:=UA (j:=3) rfl
def kz:FB (a::b::c::d::e::l) 4=jb e:=UA (j:=4) rfl
def ax:FB (a::b::c::d::e::f::g::l) 6=jb g:=UA (j:=6) rfl
def SN(xs:List α){k:Int}(h:0<=k):ZE xs (jb k) js=xs.drop k.toNat:=by unfold ZE HT.sIx;simp only;rw[n7 ()];rcases Nat.le_total k.toNat xs.9 with q|q;rw[QBo (),qz (by simp)];rw[QDO (),QBV,QBb q];simp
def SW(xs:List α){k:Int}(h:0<=k):ZE xs js (jb k)=xs.take k.toNat:=by unfold ZE HT.sIx;simp only;rw[n7 ()];rcases Nat.le_total k.toNat xs.9 with q|q;rw[QBo ()];simp;rw[QDO (),qz (by simp),qz q];simp
end
def xD{α:Type}{body:T->(Option T->Prop)->Prop}(h:α->D)(f:α->T)(l:List α)(Q:LT->Prop)(y:∀x∈l,∀R:Option T->Prop,R (jb (f x))->body (.d (h x)) R)(hl:l.9<=ke)(q:Q (l.map f)):gD body ((l.map h).map T.d) [] Q:=by
 have e:(l.map h).map T.d=l.map λx=>T.d (h x):=by simp
 rw[e];exact UB (λx=>T.d (h x)) f l [] Q y (by simpa using hl) q
def Yl{α:Type}(h:α->D)(l:List α):l.map (λx=>T.d (h x))=(l.map h).map T.d:=by simp
inductive Ev where
 |see (t:Int) (p m w:Str)
 |tell (t:Int) (p q m w:Str) (b:LS)
noncomputable abbrev P4:=Str×Int×Int×Int
set_option genInjectivity true in
inductive Rw where
 |per (p:P4)|mat (m:Str)|aga (a b:Str)|ev (e:Ev)
def pD(p:P4):D:=.tuple [.str p.1,.int p.2.1,.int p.2.2.1,.int p.2.2.2]
def aD(p:Str×Str):D:=.tuple [.str p.1,.str p.2]
def eD:Ev->D
 | .see t p m w=>.tuple [.str "see",.int t,.str p,.str m,.str w]|.tell t p q m w b=>.tuple [.str "tell",.int t,.str p,.str q,.str m,.str w,.tuple (b.map Jz)]
def Rw.hd:Rw->Str
 | .per _=>"person"|.mat _=>"matter"|.aga _ _=>"against"|.ev (.see _ _ _ _)=>"see"|.ev (.tell _ _ _ _ _ _)=>"tell"
def zn:LS->List D
 |[]=>[]|b=>.str "by"::b.map Jz
def Rw.vs:Rw->List D
 | .per p=>[.str p.1,.int p.2.1,.int p.2.2.1,.int p.2.2.2]|.mat m=>[.str m]|.aga a b=>[.str a,.str b]|.ev (.see t p m w)=>[.int t,.str p,.str m,.str w]|.ev (.tell t p q m w b)=>[.int t,.str p,.str q,.str m,.str w]++zn b
def Rw.ent:Rw->D
 | .per p=>pD p|.mat m=>.str m|.aga a b=>aD (a,b)|.ev e=>eD e
def OA(l:List Rw):List P4:=l.filterMap fun | .per p=>jb p|_=>js
def GA(l:List Rw):LS:=l.filterMap fun | .mat p=>jb p|_=>js
def HA(l:List Rw):P3:=l.filterMap fun | .aga a b=>jb (a,b)|_=>js
def EF(l:List Rw):List Ev:=l.filterMap fun | .ev p=>jb p|_=>js
def cF(l:List Rw):LS:=(OA l).map qk
def W4(l:List Rw):D:=.tuple [.list ((OA l).map pD),.list ((GA l).map Jz),.list ((HA l).map aD),.list ((EF l).map eD)]
def T4(l:List Rw):T:=.tup [.lst (((OA l).map pD).map T.d),.lst (((GA l).map Jz).map T.d),.lst (((HA l).map aD).map T.d),.lst (((EF l).map eD).map T.d)]
def Nt(l:List Rw):(T4 l).er=W4 l:=by simp only[T4,W4,T.er,ersT,EA]
structure RowOk(l:List Rw)(r:Rw):Prop where
 good:Good r.hd r.vs
 few:r.vs.9<=12
 sec:match r with
  | .per p=>GA l=[]/\HA l=[]/\EF l=[]/\p.1∉cF l/\(OA l).9<10|.mat m=>HA l=[]/\EF l=[]/\m∉GA l/\(GA l).9<6|.aga a b=>EF l=[]/\(a,b)∉HA l/\(b,a)∉HA l/\a∈GA l/\b∈GA l/\(HA l).9<15|.ev (.see _ p m _)=>p∈cF l/\m∈GA l/\(EF l).9<80|.ev (.tell _ p q m _ b)=>p∈cF l/\q∈cF l/\m∈GA l/\(∀x∈b,x∈cF l)/\(EF l).9<80
def gF(l:List Rw):Prop:=∀a r b,l=a++r::b->RowOk a r
def JF(l:LS)(x:Str):((l.map Jz).any λy=>Q2 y (.str x))=decide (x∈l):=by
 induction l with
 |nil=>rfl|cons y l z =>
  rw[QR,qj,z];have:Q2 (.str y) (.str x)=decide (y=x):=by unfold Q2;exact wb.mpr (by simp)
  rw[this];by_cases h:y=x;simp[h];have u:¬ x=y:=λe=>h e.symm;simp[h,u]
def xb(x y:Str):(x==y)=decide (x=y):=wb.mpr (by simp)
def S9(l:P3)(a b:Str):((l.map aD).any λy=>Q2 y (.tuple [.str a,.str b]))=decide ((a,b)∈l):=by
 induction l with
 |nil=>rfl|cons y l k =>
  rw[QR,qj,k];have:Q2 (aD y) (.tuple [.str a,.str b])=decide (y=(a,b)):=by let#[u,z]:=y;simp only[aD,Q2,PyData.eqvAll,QAS,xb];by_cases g:u=a<;>by_cases x:z=b<;>simp[g,x]
  rw[this];by_cases h:y=(a,b);simp[h];have x:¬ (a,b)=y:=λe=>h e.symm;simp[h,x]
def AC(l:LS):(l.map Jz).all SA=true:=by rw[QC5];exact Qr.mpr λ_ _=>rfl
def J7(h:VC x):PyData.strOk x=true:=by unfold PyData.strOk;rw[<- Array.all_toList];exact Qr.mpr λc hc=>by have:=h.2.2 c hc;simp;omega
def kR(x:VC a)(h:VC b):GG (.tuple [.str a,.str b]):=by refine#[?_,by show WN _<=64;simp only[WN,wK];decide];simp only[QAB,wC,J7 x,J7 h,QAS]
def ES{l:P3}(h:∀p∈l,VC p.1/\VC p.2):GG (.list (l.map aD)):=by
 have:wC (l.map aD)=j3/\wK (l.map aD)<=1:=by
  induction l with
  |nil=>exact#[rfl,by simp[wK]]|cons p l y =>
   let#[z,g]:=y λq u=>h q (QI _ u);let#[a,k]:=h p QL;let#[x,b]:=kR a k;rw[QR];refine#[?_,?_];simp only[wC,z,QAS];exact x;have e:WN (aD p)=1:=by simp only[aD,WN,wK];decide
   simp only[wK,e];omega
 refine#[?_,?_];simp only[QAB];exact this.1;simp only[WN];omega
def uC:List (Str×D):=[("person",.int 0),("matter",.int 1),("against",.int 2),("see",.int 3),("tell",.int 3)]
def zg:D:=.tuple [.int 10,.int 6,.int 15,.int 80]
def jB:List (Str×D):=[("see",.tuple [.int 2]),("tell",.tuple [.int 2,.int 3])]
def FA:List (Str×D):=[("against",.tuple [.int 1,.int 2]),("see",.tuple [.int 3]),("tell",.tuple [.int 4])]
def YX(s:Str)(l:LS):wm s l=QAv s l:=StrLaws.glued_eq_join s l
def GT(s:Str)(l:LS):(wm s l).9=(l.map (·.length)).sum+(l.9 - 1) * s.length:=size_glued s l
def aN(c:Nat):List (LN)->LN
 |[]=>[]|[x]=>x|x::y::r=>x++c::aN c (y::r)
def tF(c:Nat):∀(ps:LS),(QAv #[(List.toArray [c])] ps).cps.toList=aN c (ps.map λp=>p.cps.toList)
 |[]=>rfl|[x]=>rfl|x::y::r=>by show((x.cps++(List.toArray [c]))++(QAv #[(List.toArray [c])] (y::r)).cps).toList=_;have h:=tF c (y::r);rw[QR]at h;rw[QR,QR,aN,<- h];simp
def ij(c:Nat):LN->LN->List (LN)
 |[],cur=>[cur]|x::xs,cur=>if x=c then cur::ij c xs [] else ij c xs (cur++[x])
def iM(c:Nat):∀(w r y:LN),c∉w->ij c (w++r) y=ij c r (y++w)
 |[],r,y,_=>by simp|x::w,r,y,h=>by have u:¬ x=c:=λe=>h (by simp[e]);rw[Wc,ij,n7 u,iM c w r _ λz=>h (QI _ z)];simp
def eM(c:Nat):∀(ps:List (LN)),ps≠[]->(∀p∈ps,c∉p)->ij c (aN c ps) []=ps
 |[],h,_=>n9 rfl h|[x],_,h=>by have:=iM c x [] [] (h x (by simp));rw[Qe]at this;rw[aN,this];rfl|x::y::r,_,h=>by rw[aN,iM c _ _ _ (h x (by simp)),ij,n8 rfl,eM c (y::r) (by simp) λp z=>h p (QI _ z)];rfl
def oV(b:ps≠[])(h:∀p∈ps,c∉p.cps.toList):qO (wm #[(List.toArray [c])] ps) #[(List.toArray [c])]=ps:=by
 have k:=tF c (qO (wm #[(List.toArray [c])] ps) #[(List.toArray [c])]);rw[QCY]at k;have u:=tF c ps;rw[<- YX]at u;have a:qO (wm #[(List.toArray [c])] ps) #[(List.toArray [c])]≠[]:=λz=>by have:=split_pos (wm #[(List.toArray [c])] ps) #[(List.toArray [c])];rw[z]at this;simp at this
 have g:=eM c ((qO (wm #[(List.toArray [c])] ps) #[(List.toArray [c])]).map λp=>p.cps.toList) (by simpa using a) λp y=>by let#[q,x,rfl]:=Qa.mp y;exact QCZ _ c q x
 have e:=eM c (ps.map λp=>p.cps.toList) (by simpa using b) λp y=>by let#[q,x,rfl]:=Qa.mp y;exact h q x
 exact jQ (by rw[<- g,<- e,<- k,<- u])
def yV(h:∀w∈x,VC w):Lib.wordsOf (wm " " x)=x:=by
 apply dI;have u:QA " "=#[(List.toArray [32])]:=by decide +kernel
 rw[YX,u,HI,eQ];apply QCF.mpr;intro p z;let#[w,y,rfl]:=Qa.mp z;have:=(h w y).1;cases e:w.cps.toList with|nil=>exact n9 e this|cons _ _=>rfl
 intro p z;let#[w,y,rfl]:=Qa.mp z;exact(h w y).free
def MD:PSp where
 run:=λh Q _=>∃l,h=[.d (W4 l)]/\(OA l).9<=400/\Q (.lst (((cF l).map Jz).map T.d)) []
def IS{Ψ:PEv}:yL Ψ II MD nO bL:=by
 rintro _ Q _ ⟨l,rfl,hl,q⟩;refine rA [bD (W4 l)] ?_;delta W4;delta II;simp![↓zJ];refine xD pD (λp:P4=>T.d (.str p.1)) (OA l) _ (λp _ R h=>?_) () ?_;delta pD;simp![↓zJ];exact h;have e:((cF l).map Jz).map T.d=(OA l).map λp=>T.d (.str p.1):=by simp[cF]
 rw[e]at q;exact q
def LD:PSp where
 run:=λx Q _=>∃h:List D,x=[.d (.list h)]/\Q (.lst ((h.drop 7).map T.d)) []
def gS{Ψ:PEv}{E:XE}{ρ:yA}{K:TK}{a b c:PX}{i:hT}:bB Ψ (.slc a (.bin i b c) .nop) E ρ K=bB Ψ a E ρ λx n g=>sq (α:=Option Int) (cA x n) g (λρ R=>bB Ψ (.bin i b c) E ρ λl _ h=>vE l.er λo=>R o h) λl h=>OH x n l js λz k=>K z k h:=by
 show(pe Ψ a E).e ρ (λx n g=>sq (α:=Option Int) (cA x n) g (λρ R=>(pe Ψ (.bin i b c) E).e ρ λl _ h=>vE l.er λo=>R o h) λl h=>sq (α:=Option Int) (cA x n) h (λρ (R:Option Int->yA->Prop)=>R js ρ) λu y=>OE (cA x n).vw l u λz k=>K z k y)=_;have:∀(x:T) (n:Bool) (h:yA) (l:Option Int),(sq (α:=Option Int) (cA x n) h (λρ (R:Option Int->yA->Prop)=>R js ρ) λu y=>OE (cA x n).vw l u λz k=>K z k y)=OE (cA x n).vw l js λz k=>K z k h:=by intro x n h l;unfold sq;split<;>rfl
 simp only[this];rfl
def yf{Ψ:PEv}{E:XE}{ρ:yA}{K:TK}{a:PX}{x:Str}{i:Int}(h:Ψ.va x=jb (.int i)):bB Ψ (.slc a .nop (.glo x)) E ρ K=bB Ψ a E ρ λy n b=>OH y n js (jb i) λz k=>K z k b:=by
 show(pe Ψ a E).e ρ (λy n b=>sq (α:=Option Int) (cA y n) b (λρ (R:Option Int->yA->Prop)=>R js ρ) λl j=>sq (α:=Option Int) (cA y n) j (λρ R=>(match Ψ.va x with|some d=>vE (T.d d).er λo=>R o ρ|none=>False)) λu g=>OE (cA y n).vw l u λz k=>K z k g)=_;rw[h];have:∀(y:T) (n:Bool) (b:yA),(sq (α:=Option Int) (cA y n) b (λρ (R:Option Int->yA->Prop)=>R js ρ) λl j=>sq (α:=Option Int) (cA y n) j (λρ R=>vE (T.d (j0 i)).er λo=>R o ρ) λu g=>OE (cA y n).vw l u λz k=>K z k g)=OE (cA y n).vw js (jb i) λz k=>K z k b:=by intro y n b;unfold sq;split<;>rfl
 simp only[this];rfl
def rj{α:Type}{x:D}{n:Bool}{ρ:yA}{b:yA->(α->yA->Prop)->Prop}{K:α->yA->Prop}:sq (cA (.d x) n) ρ b K=b ρ K:=by rw[zA];rfl
def S5{i:Int}:vE (T.d (.int i)).er P=P (jb i):=rfl
def AS{Ψ:PEv}(x:Ψ.va "WORDING_ENDS"=jb (.int 6)):yL Ψ EI LD mO uL:=by rintro _ Q _ ⟨h,rfl,q⟩;refine rA [bD (.list h)] ?_;delta EI;simp![↓gS,↓rj,↓cE x,↓S5];rw[SN _ (by decide)];exact q
def KU(b:LS):(zn b).drop 1=b.map Jz:=by
 cases b with|nil=>rfl|cons x b=>rfl
def SE(r:Rw):D:=.list (.str r.hd::r.vs)
def oF:PSp where
 run:=λh Q _=>∃r:Rw,h=[.d (SE r)]/\r.vs.9<=12/\Q (.d r.ent) []
def tY:decide (QA "matter"=QA "person")=Kz/\decide (QA "against"=QA "person")=Kz/\decide (QA "see"=QA "person")=Kz/\decide (QA "tell"=QA "person")=Kz /\
  decide (QA "against"=QA "matter")=Kz/\decide (QA "see"=QA "matter")=Kz/\decide (QA "tell"=QA "matter")=Kz/\decide (QA "see"=QA "against")=Kz/\decide (QA "tell"=QA "against")=false:=by decide +kernel
def Pr:decide (QA "person"=QA "matter")=Kz/\decide (QA "person"=QA "see")=Kz/\decide (QA "person"=QA "tell")=Kz/\decide (QA "against"=QA "see")=Kz/\decide (QA "against"=QA "tell")=Kz/\decide (QA "tell"=QA "see")=false:=by decide +kernel
def zT{Ψ:PEv}(o:Ψ.sp "quote_in"=LD)(x:Ψ.va "WORDING_ENDS"=jb (.int 6)):yL Ψ MC oF tO gL:=by
 rintro _ Q _ ⟨r,rfl,hl,q⟩;refine rA [bD (SE r)] ?_;let#[A,K,W,Z,n,l,j,Y,X]:=tY;let#[i,g,k,u,z,y]:=Pr;cases r with
 |per p=>delta SE Rw.hd Rw.vs;delta MC YC GD GF;simp![↓zJ,i,g,k,SN _ (show(0:Int)<=1 by decide)];exact q|mat m=>delta SE Rw.hd Rw.vs;delta MC;simp![↓zJ,↓T2];exact q|aga a b=>delta SE Rw.hd Rw.vs;delta MC YC GD GF;simp![↓zJ,n,u,z,SN _ (show(0:Int)<=1 by decide)];exact q|ev e =>
  cases e with|see t p m w=>delta SE Rw.hd Rw.vs;delta MC YC;simp![↓zJ,l];exact q|tell t p h m w b=>delta SE Rw.hd Rw.vs;delta MC YC GD;simp![↓zJ,j,y,↓yf x,SW _ (show(0:Int)<=6 by decide),↓uA (md:=[]) o rfl rfl];refine#[_,rfl,?_];have e:QDq 7 (Jz "tell"::.int t::.str p::.str h::.str m::.str w::zn b)=b.map Jz:=KU b;have s:List.take (wk 6) (Jz "tell"::.int t::.str p::.str h::.str m::.str w::zn b)=[Jz "tell",.int t,.str p,.str h,.str m,.str w]:=rfl;rw[e];simp![↓xA];rw[s];exact#[(),by show 6+1<=_;omega,q]
structure Sml(l:List Rw):Prop where
 p:(OA l).9<=400
 ok:∀p∈HA l,VC p.1/\VC p.2
def pM(l:List Rw):Rw->Bool
 | .per p=>decide (p.1∈cF l)|.mat m=>decide (m∈GA l)|.aga a b=>decide ((a,b)∈HA l)||decide ((b,a)∈HA l)
 | .ev _=>Kz
def z6:Rw->LS
 | .ev (.see _ p _ _)=>[p]|.ev (.tell _ p q _ _ b)=>p::q::b|_=>[]
def IZ:Rw->LS
 | .aga a b=>[a,b]|.ev (.see _ _ m _)=>[m]|.ev (.tell _ _ _ m _ _)=>[m]|_=>[]
def strB(l:List Rw)(r:Rw):Bool:=(z6 r).any (λx=>decide (x∉cF l))||(IZ r).any λx=>decide (x∉GA l)
structure RowF(r:Rw):Prop where
 good:Good r.hd r.vs
 few:r.vs.9<=12
def nI:PSp where
 run:=λh Q _=>∃l r,h=[.d (W4 l),.d (SE r)]/\Sml l/\RowF r/\Q (.d (.bool (pM l r))) []
def PV{Ψ:PEv}(Y:Ψ.sp "names_of"=MD):yL Ψ YD nI sQ NM:=by
 rintro _ Q _ ⟨l,r,rfl,hl,o,q⟩;refine rA [bD (W4 l),bD (SE r)] ?_;let#[X,s,n,j,i,g,k,u,z]:=tY;have y:=o.good;cases r with
 |per p=>delta SE Rw.hd Rw.vs;delta YD;simp![↓zJ,↓T2,↓uA (md:=[]) Y rfl rfl];refine#[_,rfl,hl.p,?_];simp![↓xA];refine#[.inl #[rfl,AC _],?_];rw[JF];exact q|mat m=>delta W4 SE Rw.hd Rw.vs;delta YD;simp![↓zJ,↓T2,X];refine#[.inl #[rfl,AC _],?_];rw[JF];exact q|aga a b =>
  have h:VC a/\VC b:=by let#[f,_,x]:=y.fm;exact#[(x.all (.str a) (by simp[Rw.vs])).1,(x.all (.str b) (by simp[Rw.vs])).1]
  have q:Q (.d (.bool (decide ((a,b)∈HA l)||decide ((b,a)∈HA l)))) []:=q;delta W4 SE Rw.hd Rw.vs;delta YD;simp![↓zJ,↓T2,↓Vo,s,i,S9];refine#[(),.inr #[kR h.1 h.2,ES hl.ok],?_];cases c:decide ((a,b)∈HA l) with|true=>rw[c]at q;exact q|false=>rw[c]at q;exact#[(),.inr #[kR h.2 h.1,ES hl.ok],q]
 |ev e =>
  cases e with|see t p m w=>delta W4 SE Rw.hd Rw.vs;delta YD;simp![↓zJ,n,g,u];exact q|tell t p Z m w b=>delta W4 SE Rw.hd Rw.vs;delta YD;simp![↓zJ,j,k,z];exact q
def Xl:jB.lookup (QA "person")=js/\jB.lookup (QA "matter")=js/\jB.lookup (QA "against")=js/\jB.lookup (QA "see")=jb (.tuple [.int 2])/\jB.lookup (QA "tell")=jb (.tuple [.int 2,.int 3]) :=
 #[by kernel_rfl,by kernel_rfl,by kernel_rfl,by kernel_rfl,by kernel_rfl]
def Ul:FA.lookup (QA "person")=js/\FA.lookup (QA "matter")=js/\FA.lookup (QA "against")=jb (.tuple [.int 1,.int 2])/\FA.lookup (QA "see")=jb (.tuple [.int 3])/\FA.lookup (QA "tell")=jb (.tuple [.int 4]) :=
 #[by kernel_rfl,by kernel_rfl,by kernel_rfl,by kernel_rfl,by kernel_rfl]
def U7{body:T->(Option T->Prop)->Prop}(xs l:LS)(Q:LT->Prop)(h:∀x∈xs,∀R:Option T->Prop,R (jb (.d (.bool (decide (x∉l)))))->body (.d (.str x)) R)(hl:xs.9<=ke)(q:Q (((xs.map λx=>decide (x∉l)).map PyData.bool).map T.d)):gD body ((xs.map Jz).map T.d) [] Q :=
 xD Jz (λx=>T.d (.bool (decide (x∉l)))) xs Q h hl (by
  have e:((xs.map λx=>decide (x∉l)).map PyData.bool).map T.d=xs.map λx=>T.d (.bool (decide (x∉l))):=by simp[qX]
  rw[e]at q;exact q)
def P0(l:List Rw)(v:D)(y x h:Option Sl):yA:=[bD (W4 l),bD v,y,x,h]
noncomputable abbrev sL(xs:LS):Option Sl:=bD (.list (xs.map Jz))
section
variable{Ψ:PEv}{Z:PEnds}{l:List Rw}{v:D}{u z h:Option Sl}{q:PT}
def xw{xs ys:LS}(i:xs.9<=400)(g:ys.9<=400){Q:T->LT->Prop}(k:Q (.d (.bool (xs.any (λx=>decide (x∉cF l))||ys.any λy=>decide (y∉GA l)))) []) :
  pF Ψ %[.ret (.or (.bi .any %[.comp [] ["name"] (.nm 0) .val %[.var 3|1] .nop (.cmp .NotIn (.var 0) (.var 3))|1]) (.bi .any %[.comp [] ["name"] (.nm 0) .val %[.var 4|1] .nop (.cmp .NotIn (.var 0) (.idx (.var 1) (.int 1)))|1]))|2] (eZ Q) (P0 l v (sL (cF l)) (sL xs) (sL ys)):=by
 have e:∀(xs l:LS),(xs.map λx=>decide (x∉l)).any id=xs.any λx=>decide (x∉l):=λxs l=>by rw[QC7];rfl
 delta P0 sL W4;simp![↓xA];refine U7 xs (cF l) _ (λx a R b=>?_) () ?_;simp![↓xA];refine#[.inl #[rfl,AC _],?_];rw[JF,<- decide_not];exact b;simp![↓xA];refine#[_,rfl,?_];rw[e];cases c:xs.any λx=>decide (x∉cF l) with|true=>rw[c]at k;exact k|false=>rw[c]at k;simp![↓xA];refine U7 ys (GA l) _ (λx a R b=>?_) () ?_;simp![↓T2];refine#[.inl #[rfl,AC _],?_];rw[JF,<- decide_not];exact b;simp![↓xA];refine#[_,rfl,?_];rw[e];exact k
end
def cr:RF []=.d (.tuple []):=rfl
section
variable{Ψ:PEv}{Z:PEnds}{l:List Rw}{v:D}{z y x:Option Sl}{q:PT}{h:Str}{vs:List D}
def cw(u:Ψ.sp "names_of"=MD)(hl:(OA l).9<=400)(k:pF Ψ q Z (P0 l v (sL (cF l)) y x)):pF Ψ (.seq (.set 2 (.call "names_of" %[.var 0|1])) q) Z (P0 l v z y x):=by delta P0;simp![↓uA (md:=[]) u rfl rfl];refine#[_,rfl,hl,?_];simp![↓xA];exact k
def bw(m:Ψ.sp "quote_in"=LD)(u:Ψ.dc "PEOPLE_AT"=jb jB)(ps:List (Int×Str))(bs:LS)(b:(jB.lookup h).getD (.tuple [])=.tuple (ps.map λp=>.int p.1))(i:∀p∈ps,FB (.str h::vs) p.1=jb (.str p.2))(g:vs.drop 6=bs.map Jz)(hl:ps.9<=20)(o:bs.9<=20)
  (k:pF Ψ q Z (P0 l (.list (.str h::vs)) z (sL (ps.map (·.2)++bs)) x)):pF Ψ (.seq (.set 3 (.bin .Add (.comp [] ["at"] (.nm 0) .val %[.prm (.dgetD "PEOPLE_AT") %[.idx (.var 1) (.int 0),.tup .anil|1]|1] .nop (.idx (.var 2) (.var 0))) (.call "quote_in" %[.var 1|1]))) q) Z (P0 l (.list (.str h::vs)) z y x):=by
 delta P0;simp![↓zJ,↓cr,↓P6 u b];refine#[(),?_];refine xD (λp:Int×Str=>j0 p.1) (λp=>T.d (.str p.2)) ps _ (λp a R j=>?_) () ?_;simp![i p a];exact j;have e:ps.map (λp=>T.d (Jz p.2))=((ps.map (·.2)).map Jz).map T.d:=by simp
 rw[e];simp![↓uA (md:=[]) m rfl rfl];refine#[_,rfl,?_];have n:(Jz h::vs).drop 7=bs.map Jz:=g;rw[n];simp![<- Q5,QJ,QG];exact#[(),k]
def uw(u:Ψ.dc "MATTERS_AT"=jb FA)(ps:List (Int×Str))(b:(FA.lookup h).getD (.tuple [])=.tuple (ps.map λp=>.int p.1))(g:∀p∈ps,FB (.str h::vs) p.1=jb (.str p.2))(hl:ps.9<=20)
  (k:pF Ψ q Z (P0 l (.list (.str h::vs)) z y (sL (ps.map (·.2))))):pF Ψ (.seq (.set 4 (.comp [] ["at"] (.nm 0) .val %[.prm (.dgetD "MATTERS_AT") %[.idx (.var 1) (.int 0),.tup .anil|1]|1] .nop (.idx (.var 2) (.var 0)))) q) Z (P0 l (.list (.str h::vs)) z y x):=by
 delta P0;simp![↓zJ,↓cr,↓P6 u b];refine#[(),?_];refine xD (λp:Int×Str=>j0 p.1) (λp=>T.d (.str p.2)) ps _ (λp a R i=>?_) () ?_;simp![g p a];exact i;have e:ps.map (λp=>T.d (Jz p.2))=((ps.map (·.2)).map Jz).map T.d:=by simp
 rw[e];simp![↓xA];exact k
end
def ED:PSp where
 run:=λh Q _=>∃l r,h=[.d (W4 l),.d (SE r)]/\Sml l/\RowF r/\Q (.d (.bool (strB l r))) []
def BL{Ψ:PEv}(M:Ψ.sp "names_of"=MD)(L:Ψ.sp "quote_in"=LD)(i:Ψ.dc "PEOPLE_AT"=jb jB)(g:Ψ.dc "MATTERS_AT"=jb FA):yL Ψ kF ED VH BG:=by
 rintro _ Q _ ⟨l,r,rfl,hl,o,q⟩;refine rA (P0 l (SE r) js js js) ?_;let#[Z,Y,X,s,n]:=Xl;let#[C,B,A,K,W]:=Ul;have k:=o.few;have u:∀(h y:List (Int×Str)) (bs:LS),(jB.lookup r.hd).getD (.tuple [])=.tuple (h.map λp=>.int p.1)->(FA.lookup r.hd).getD (.tuple [])=.tuple (y.map λp=>.int p.1)->(∀p∈h,FB (.str r.hd::r.vs) p.1=jb (.str p.2))->(∀p∈y,FB (.str r.hd::r.vs) p.1=jb (.str p.2))->r.vs.drop 6=bs.map Jz->h.9<=20->y.9<=20->bs.9<=20 ->
   z6 r=h.map (·.2)++bs->IZ r=y.map (·.2)->pF Ψ kF (eZ Q) (P0 l (SE r) js js js):=λh y bs P O S R N G F E J I =>
  cw M hl.p (bw L i h bs P S N G E (uw g y O R F (xw (by simp;omega) (by simp;omega) (by rw[<- J,<- I];exact q))))
 cases r with
 |per p=>exact u [] [] [] (by show(jB.lookup (QA "person")).getD _=_;rw[Z];rfl) (by show(FA.lookup (QA "person")).getD _=_;rw[C];rfl) (λ_ z=>by cases z) (λ_ z=>by cases z) rfl (by simp) (by simp) (by simp) rfl rfl|mat m=>exact u [] [] [] (by show(jB.lookup (QA "matter")).getD _=_;rw[Y];rfl) (by show(FA.lookup (QA "matter")).getD _=_;rw[B];rfl) (λ_ z=>by cases z) (λ_ z=>by cases z) rfl (by simp) (by simp) (by simp) rfl rfl|aga a b=>exact u [] [(1,a),(2,b)] [] (by show(jB.lookup (QA "against")).getD _=_;rw[X];rfl) (by show(FA.lookup (QA "against")).getD _=_;rw[A];rfl) (λ_ z=>by cases z) (Q7.mpr #[T2 ..,Q7.mpr #[Vo ..,λ_ z=>by cases z]]) rfl (by simp) (by simp) (by simp) rfl rfl|ev e =>
  cases e with
  |see t p m w=>exact u [(2,p)] [(3,m)] [] (by show(jB.lookup (QA "see")).getD _=_;rw[s];rfl) (by show(FA.lookup (QA "see")).getD _=_;rw[K];rfl) (Q7.mpr #[Vo ..,λ_ z=>by cases z]) (Q7.mpr #[Cw ..,λ_ z=>by cases z]) rfl (by simp) (by simp) (by simp) rfl rfl|tell t p j m w b =>
   have H:b.9<=12:=by
    simp only[Rw.vs,QJ]at k;cases b with|nil=>simp|cons x b=>simp only[zn,QM,QG]at k ⊢;omega
   exact u [(2,p),(3,j)] [(4,m)] b (by show(jB.lookup (QA "tell")).getD _=_;rw[n];rfl) (by show(FA.lookup (QA "tell")).getD _=_;rw[W];rfl) (Q7.mpr #[Vo ..,Q7.mpr #[Cw ..,λ_ z=>by cases z]]) (Q7.mpr #[kz ..,λ_ z=>by cases z]) (KU b) (by simp) (by simp) () rfl rfl
def Hw{Ψ:PEv}{E:XE}{ρ:yA}{L:Bool->yA->Prop}{f:Bi}{x:PX}:OQ Ψ (.bi f x) E ρ L=bB Ψ (.bi f x) E ρ λt _ h=>Aa t λb=>L b h:=rfl
def Vl:uC.lookup (QA "person")=jb (.int 0)/\uC.lookup (QA "matter")=jb (.int 1)/\uC.lookup (QA "against")=jb (.int 2)/\uC.lookup (QA "see")=jb (.int 3)/\uC.lookup (QA "tell")=jb (.int 3) :=
 #[by kernel_rfl,by kernel_rfl,by kernel_rfl,by kernel_rfl,by kernel_rfl]
def Rw.sec:Rw->Nat
 | .per _=>0|.mat _=>1|.aga _ _=>2|.ev _=>3
def v8(r:Rw):uC.lookup r.hd=jb (.int r.sec):=by
 let#[u,z,y,x,h]:=Vl;cases r with
 |per p=>exact u|mat m=>exact z|aga a b=>exact y|ev e =>
  cases e with|see t p m w=>exact x|tell t p q m w b=>exact h
def ND(l:List Rw):List (List D):=[(OA l).map pD,(GA l).map Jz,(HA l).map aD,(EF l).map eD]
def Pe(l:List Rw):W4 l=.tuple ((ND l).map PyData.list):=rfl
def oZ(o:RowOk l r):∀x∈(ND l).drop (r.sec+1),x=[]:=by
 have y:=o.sec;cases r with|per p=>intro x h;have:x∈[(GA l).map Jz,(HA l).map aD,(EF l).map eD]:=h;rw[y.1,y.2.1,y.2.2.1]at this;simpa using this|mat m=>intro x h;have:x∈[(HA l).map aD,(EF l).map eD]:=h;rw[y.1,y.2.1]at this;simpa using this|aga a b=>intro x h;have:x∈[(EF l).map eD]:=h;rw[y.1]at this;simpa using this|ev e=>intro x h;cases h
def CG:LN:=[10,6,15,80]
def LX(o:RowOk l r):∃x n,(ND l)[r.sec]?=jb x/\CG[r.sec]?=jb n/\x.9<n:=by
 have h:=o.sec;cases r with
 |per p=>exact#[_,_,rfl,rfl,by rw[QG];exact h.2.2.2.2]|mat m=>exact#[_,_,rfl,rfl,by rw[QG];exact h.2.2.2]|aga a b=>exact#[_,_,rfl,rfl,by rw[QG];exact h.2.2.2.2.2]|ev e =>
  cases e with|see t p m w=>exact#[_,_,rfl,rfl,by rw[QG];exact h.2.2]|tell t p q m w b=>exact#[_,_,rfl,rfl,by rw[QG];exact h.2.2.2.2]
def Fj(r:Rw):r.sec<4:=by cases r<;>simp[Rw.sec]
def TF(l:List Rw)(r:Rw):Bool:=((ND l).drop (r.sec+1)).any λy=>decide ((0:Int)<(y.9:Int))
def uI(l:List Rw)(r:Rw):Bool:=decide (((CG[r.sec]?.getD 0:Nat):Int)<=(((ND l)[r.sec]?.getD []).9:Int))
def chk(l:List Rw)(r:Rw):Option Str:=if TF l r=j3 then jb "Misplaced" else if pM l r=j3 then jb "Twice" else if strB l r=j3 then jb "NoName" else if uI l r=j3 then jb "TooMany" else js
def RowOk.f(o:RowOk l r):RowF r:=#[o.good,o.few]
def Pm(o:RowOk l r):chk l r=none:=by
 have K:TF l r=false:=QA4.mpr λx u=>by rw[oZ o x u];decide
 have Y:uI l r=false:=by let#[x,n,u,X,s]:=LX o;unfold uI;rw[u,X];exact dF (by simp;omega)
 have y:=o.sec;have W:pM l r=false:=by
  cases r with
  |per p=>exact dF y.2.2.2.1|mat m=>exact dF y.2.2.1|aga a b=>show(decide ((a,b)∈HA l)||decide ((b,a)∈HA l))=Kz;rw[dF y.2.1,dF y.2.2.1];rfl
  |ev e=>rfl
 have g:∀(k l:LS),(∀x∈k,x∈l)->k.any (λx=>decide (x∉l))=false:=λk l h=>QA4.mpr λx u=>by simpa using h x u
 have Z:strB l r=false:=by
  have j:(z6 r).any (λx=>decide (x∉cF l))=false:=g _ _ (by
   cases r with
   |ev e=>cases e with|see t p m w=>simp only[z6,Q7];exact#[y.1,λ_ z=>by cases z]|tell t p q m w b=>simp only[z6,Q7];exact#[y.1,y.2.1,y.2.2.2.1]
   |_=>exact λ_ z=>by cases z)
  have i:(IZ r).any (λx=>decide (x∉GA l))=false:=g _ _ (by
   cases r with
   |ev e=>cases e with|see t p m w=>simp only[IZ,Q7];exact#[y.2.1,λ_ z=>by cases z]|tell t p q m w b=>simp only[IZ,Q7];exact#[y.2.2.1,λ_ z=>by cases z]
   |aga a b=>simp only[IZ,Q7];exact#[y.2.2.2.1,y.2.2.2.2.1,λ_ z=>by cases z]|_=>exact λ_ z=>by cases z)
  unfold strB;rw[j,i];rfl
 unfold chk;simp only[K,W,Z,Y,Qo,if_false]
def GB:PSp where
 run:=λy Q E=>∃l r x,y=[.d (W4 l),.d (SE r),.d (.int x)]/\(Sml l/\0<=x/\x<=10000)/\RowF r/\(match chk l r with|none=>Q (.d .none) []|some c=>E (c,x))
 mono:=λh g #[l,r,x,e,c,o,q]=>#[l,r,x,e,c,o,by revert q;cases chk l r with|none=>exact h _ _|some c=>exact g _]
def DQ{Ψ:PEv}{pl:Int}{E:XE}(h:ρ[j]?=jb (bD (.int pl)))(k:0<=pl)(a:pl<=10000)(v:Ψ.va x=jb (IF x))(z:E (x,pl)):Zd (jb j) ρ/\∃y,Ψ.va x=jb (IF y)/\∃p,T.d (j0 pl)=.d (.int p)/\E (y,p):=by refine#[#[pl,h,?_],x,v,pl,rfl,z];let#[m,rfl]:=qS k;show Nat.log2 m<1920;by_cases u:m=0;subst u;decide;exact Qm ((QAe u).mpr (show m<2 ^ 14 by omega)) (by decide)
def xR{Ψ:PEv}(B:Ψ.sp "is_told"=nI)(A:Ψ.sp "has_stranger"=ED)(Y:Ψ.dc "SECTIONS"=jb uC)(g:Ψ.va "MOST"=jb zg)(X:Ψ.va "Misplaced"=jb (IF "Misplaced"))(s:Ψ.va "Twice"=jb (IF "Twice"))(p:Ψ.va "NoName"=jb (IF "NoName"))(m:Ψ.va "TooMany"=jb (IF "TooMany"))(ds Q E)(h:GB.run ds Q E):ds.9=cG.length/\∃E':XE,(∀x,E' x->E x)/\mB Ψ E' iH (aC GB cG.length Q) (AA UL GB.md ds):=by
 let#[l,r,Z,rfl,#[hl,a,u],o,q]:=h;refine PK [bD (W4 l),bD (SE r),bD (.int Z),js] rfl rfl rfl ?_;have ls:=Fj r;have b:¬ (HT.sIx ((ND l).map PyData.list).9 0 (jb ((r.sec:Int)+1))=0/\HT.sIx ((ND l).map PyData.list).9 ((ND l).map PyData.list).9 js=((ND l).map PyData.list).9):=by intro #[z,_];unfold HT.sIx at z;simp only[QG,ND,QM,wF]at z;rw[n7 ()]at z;omega
 have W:SE r=.list (.str r.hd::r.vs):=rfl;unfold chk at q;rw[Pe];delta iH;rw[W];simp![↓Hw,↓zJ,↓gS,↓rj,↓S5,↓Ck Y (v8 r),↓Kv b];have G:ZE ((ND l).map PyData.list) (jb ((r.sec:Int)+1)) js=((ND l).drop (r.sec+1)).map PyData.list:=by rw[SN _ (),show((r.sec:Int)+1).toNat=r.sec+1 by omega,List.map_drop]
 rw[G];refine xD PyData.list (λy=>T.d (.bool (decide ((0:Int)<(y.9:Int))))) _ _ (λy L R K=>?_) (by simp only[wQ,ND,QM,wF];omega) ?_;simp![↓xA];exact K;have e:((ND l).drop (r.sec+1)).map (λy=>T.d (PyData.bool (decide ((0:Int)<(y.9:Int)))))=((((ND l).drop (r.sec+1)).map λy=>decide ((0:Int)<(y.9:Int))).map PyData.bool).map T.d:=by rw[Q8,Q8];rfl
 rw[e];simp![↓xA];refine#[_,rfl,?_];have F:((((ND l).drop (r.sec+1)).map λy=>decide ((0:Int)<(y.9:Int))).any id)=TF l r:=by rw[QC7];rfl
 rw[F];cases c:TF l r with
 |true=>rw[c]at q;simp![↓xA];exact DQ rfl a u X q|false =>
 rw[c]at q;simp![↓uA (md:=[]) B rfl rfl];refine#[_,_,rfl,hl,o,?_];cases c:pM l r with
 |true=>rw[c]at q;simp![↓xA];exact DQ rfl a u s q|false =>
 rw[c]at q;simp![↓uA (md:=[]) A rfl rfl];refine#[_,_,rfl,hl,o,?_];cases c:strB l r with
 |true=>rw[c]at q;simp![↓xA];exact DQ rfl a u p q|false =>
 rw[c]at q;have C:∀r:Rw,∃x n,(ND l)[r.sec]?=jb x/\CG[r.sec]?=jb n:=λr=>by cases r<;>exact#[_,_,rfl,rfl]
 let#[x,n,i,j]:=C r;have J:FB ((ND l).map PyData.list) (r.sec:Int)=jb (.list x):=by refine UA ?_;rw[Qd,i];rfl
 have I:FB [j0 10,.int 6,.int 15,.int 80] (r.sec:Int)=jb (.int (n:Int)):=by refine UA ?_;have:[j0 10,.int 6,.int 15,.int 80]=CG.map λ(k:Nat)=>j0 (k:Int):=rfl;rw[this,Qd,j];rfl
 have e:uI l r=decide ((n:Int)<=(x.9:Int)):=by unfold uI;rw[i,j];rfl
 delta zg at g;simp![↓cE g,J,I,<- e];cases c:uI l r with|true=>rw[c]at q;simp![↓xA];exact DQ rfl a u m q|false=>rw[c]at q;simp![↓xA];exact q
def K4(h:PL p d):cB p (gI d)=d/\OB d=false:=by
 rcases h with⟨rfl,w,rfl,x⟩| ⟨rfl,w,rfl,x⟩| ⟨rfl,rfl⟩| ⟨⟨u,z,y⟩,a,b,n,e,rfl,g,k,j,i⟩
 refine#[?_,rfl];show cB (QA "name") w=.str w;unfold cB;rw[n8 (by decide +kernel),n8 x];refine#[?_,rfl];show cB (QA "word") w=.str w;unfold cB;rw[n7 (by decide +kernel),n8 (by decide +kernel),n8 x];refine#[?_,rfl];show cB (QA "by") (QA "by")=.str (QA "by");unfold cB;rw[n7 (by decide +kernel),n7 (by decide +kernel),n8 (by decide +kernel),n8 (by decide +kernel)];refine#[?_,rfl];show cB p (yD n)=.int n;unfold cB;rw[n7 (by simpa using u),n7 (by simpa using z),n7 (by simpa using y),e];show PC a b (yD n)=.int n;unfold PC;rw[IV () ()];simp only[dT g,dT k,QCX,if_true]
def A9(h:FitsL f vs):KC f (vs.map gI)=vs/\vs.any OB=false:=by
 induction h with|nil=>exact#[rfl,rfl]|@cons p d y z a _ x=>let#[k,u]:=K4 a;refine#[?_,?_];show cB p (gI d)::KC y (z.map gI)=_;rw[k,x.1];rw[qj,u,x.2];rfl
def K1(g:Good h vs):aV h (vs.map gI)=jb vs:=by
 let#[f,e,l]:=g.fm;let#[X,s]:=A9 l;have e:TC h ((vs.map gI).9+1)=jb f:=by rw[QG];exact e
 have hv:cM (TC h ((vs.map gI).9+1)) (vs.map gI)=jb vs:=by rw[e];show(if(vs.map gI).9=f.9 then(if(KC f (vs.map gI)).any OB=j3 then js else jb (KC f (vs.map gI))) else js)=_;rw[n8 (by rw[QG,l.len]),X,s];rfl
 have r:gM h vs=true:=by
  rcases X4 hv with⟨_,u⟩| ⟨i,j,a,b,x,k,y,q⟩
  exact u;rcases g.un with z|⟨Z,Y,K,W,p,o,n,m⟩
  ·rw[z]at x
   cases x
  rw[p]at x;cases x;rw[o]at k;rw[n]at y;cases k;cases y;rw[<- q,dF m];rfl
 unfold aV;rw[hv];show(if gM h vs=j3 then jb vs else js)=_;rw[n8 r]
section
variable{r h:Str}{pl:Int}{K:T->LT->Prop}{E:XE}
def lJ(x:Lib.wordsOf r=[])(hl:r.9<=900)(u:0<=pl)(y:pl<=10000)(q:K (.d .none) []):tI NC [.d (.str r),.d (.int pl)] K E:=#[r,pl,rfl,#[hl,u,y,by rw[x];exact λ_ z=>by cases z],.inl #[x,q]]
def bG{vs:List D}(y:Lib.wordsOf r=h::vs.map gI)(g:Good h vs)(hl:r.9<=900)(u:0<=pl)(z:pl<=10000)(q:K (.lst (WG T.d (Jz h::vs))) []):tI NC [.d (.str r),.d (.int pl)] K E:=by refine#[r,pl,rfl,#[hl,u,z,?_],.inr #[h,_,y,.inl #[vs,K1 g,q]]];rw[y];intro w x;rcases QO.mp x with rfl|x;have:=g.hd.2.1;omega;let#[d,hd,rfl]:=Qa.mp x;let#[f,_,k]:=g.fm;have:=(k.all d hd).1.2.1;omega
def VS(y:Lib.wordsOf r=h::x)(k:∀w∈h::x,w.9<=100)(n:aV h x=js)(hl:r.9<=900)(u:0<=pl)(z:pl<=10000)(q:E ("BadRow",pl)):tI NC [.d (.str r),.d (.int pl)] K E:=#[r,pl,rfl,#[hl,u,z,by rw[y];exact k],.inr #[h,x,y,.inr #[n,q]]]
end
inductive Reads:LS->List Rw->Prop where
 |nil:Reads [] []
 |blank {r:Str}{rs:LS}{ws:List Rw}:Lib.wordsOf r=[]->r.9<=900->Reads rs ws->Reads (r::rs) ws
 |row {r:Str}{rs:LS}{x:Rw}{ws:List Rw}:Lib.wordsOf r=x.hd::x.vs.map gI->r.9<=900->Reads rs ws->Reads (r::rs) (x::ws)
def Reads.inv(h:Reads (r::u) z):r.9<=900/\((Lib.wordsOf r=[]/\Reads u z)∨∃x y,z=x::y/\Lib.wordsOf r=x.hd::x.vs.map gI/\Reads u y):=by
 cases h with|blank a b c=>exact#[b,.inl #[a,c]]|row a b c=>exact#[b,.inr #[_,_,rfl,a,c]]
inductive BadAt(l:List Rw)(r:Str):Str->Prop where
 |form {h:Str}{ws:LS}:Lib.wordsOf r=h::ws->(∀w∈h::ws,w.9<=100)->aV h ws=js->BadAt l r "BadRow"
 |ref {x:Rw}{c:Str}:Lib.wordsOf r=x.hd::x.vs.map gI->RowF x->chk l x=jb c->BadAt l r c
inductive Ends(rows:LS)(rws:List Rw):Option (Str×Int)->Prop where
 |fine:Reads rows rws->OA rws≠[]->GA rws≠[]->Ends rows rws js
 |part:Reads rows rws->OA rws=[]∨GA rws=[]->Ends rows rws (jb ("Unfinished",(rows.9:Int)))
 |bad {pre post:LS}{bad c:Str}:rows=pre++bad::post->Reads pre rws->bad.9<=900->BadAt rws bad c->Ends rows rws (jb (c,(pre.9:Int)+1))
def nC:PSp where
 run:=λu Q E=>∃(y:Str) (z:List Rw) (o:Option (Str×Int)),u=[.d (.str y)]/\(y.9<=1000000/\(qO y "\n").9<=9000)/\gF z/\Ends (qO y "\n") z o/\(match o with|none=>Q (T4 z) []|some x=>E x)
 mono:=λh g #[l,r,o,e,a,b,c,q]=>#[l,r,o,e,a,b,c,by cases o with|none=>exact h _ _ q|some x=>exact g _ q]
structure Sm(l:List Rw):Prop where
 p:(OA l).9<=10
 ok:∀p∈HA l,VC p.1/\VC p.2
 m:(GA l).9<=6
 a:(HA l).9<=15
 e:(EF l).9<=80
def Sm.add(h:Sm l)(o:RowOk l r):Sm (l++[r]):=by
 have x:=o.sec;have n:=o.good;let#[i,z,g,k,u]:=h;cases r with
 |per p=>have:=x.2.2.2.2;exact#[by simp only[OA,qg,QJ]at this ⊢;simp;omega,by simpa[HA]using z,by simpa[GA]using g,by simpa[HA]using k,by simpa[EF]using u]|mat m=>have x:=x.2.2.2;exact#[by simpa[OA]using i,by simpa[HA]using z,by simp only[GA,qg,QJ]at x ⊢;simp;omega,by simpa[HA]using k,by simpa[EF]using u]|aga a b =>
  have x:=x.2.2.2.2.2;refine#[by simpa[OA]using i,λp y=>?_,by simpa[GA]using g,by simp only[HA,qg,QJ]at x ⊢;simp;omega,by simpa[EF]using u];have y:p∈HA l∨p=(a,b):=by simpa[HA]using y
  rcases y with y|rfl;exact z p y;let#[f,_,j]:=n.fm;exact#[(j.all (.str a) (by simp[Rw.vs])).1,(j.all (.str b) (by simp[Rw.vs])).1]
 |ev e =>
  have x:(EF l).9<80:=by
   cases e with|see t p m w=>exact x.2.2|tell t p q m w b=>exact x.2.2.2.2
  exact#[by simpa[OA]using i,by simpa[HA]using z,by simpa[GA]using g,by simpa[HA]using k,by simp only[EF,qg,QJ]at x ⊢;simp;omega]
def lT(x:List D):T:=.lst (x.map T.d)
def Sn(l:List Rw)(r:Rw)(h:(ND l)[r.sec]?=jb x):T4 (l++[r])=.tup (((ND l).map lT).set r.sec (.lst (x.map T.d++[.d r.ent]))):=by cases r<;>cases h<;>simp[T4,ND,lT,Rw.sec,OA,GA,HA,EF,Rw.ent]
def Jq{r:Rw}{Q:LT->Nat->LT->Prop}(h:(ND l)[r.sec]?=jb x)(q:Q ((ND l).map lT) r.sec (x.map T.d)):Bk (T4 l) (.int (r.sec:Int)) Q :=
 #[(ND l).map lT,_,r.sec,_,rfl,rfl,by cases r<;>rfl,by rw[Qd,h];rfl,q]
def cz:UX (T4 l) Kz Ψ b E md ρ M=iO Ψ b E md (lockA ρ) λxs _=>M xs ρ:=rfl
def Up:PT:=.seq (.ife (.cmp .IsNot (.var 5) .non) %[.expr (.call "check_row" %[.var 1,.var 5,.var 3|1]),.pap 1 (.prm (.dix "SECTIONS") %[.idx (.var 5) (.int 0)|1]) (.call "entry_of" %[.var 5|1])|2] .nil) .nil
def af(h:Str)(x:D)(l:List Rw)(u z y:Option Sl):yA:=[bD (.str h),oW (T4 l),bD x,u,z,y]
section
variable{Ψ:PEv}{Z:PEnds}{E:XE}{h r:Str}{z:D}{l:List Rw}{x:Rw}{pl:Int}
def RX{u y:Option Sl}(k:Z.nx (af h z l u y (bD .none))):mB Ψ E Up Z (af h z l u y (bD .none)):=by delta af at k ⊢;simp![Up];exact k
def JV(K:Ψ.sp "check_row"=fZ GB [.bor])(W:Ψ.sp "entry_of"=oF)(g:Ψ.dc "SECTIONS"=jb uC){u:Option Sl}(fx:RowF x)(a:Sm l)(j:0<=pl)(i:pl<=10000)(k:(RowOk l x/\∀s u q,Z.nx (af h z (l++[x]) s u q))∨∃c,chk l x=jb c/\E (c,pl)) :
  mB Ψ E Up Z (af h z l (bD (.int pl)) u (bD (SE x))):=by
 have e:SE x=.list (.str x.hd::x.vs):=rfl;rw[e];delta af at k ⊢;simp![Up,↓zJ,↓uA (md:=[.bor]) K rfl rfl,↓cz,↓Ck g (v8 x)];refine#[l,x,pl,by rw[<- e,<- Nt];rfl,#[#[by have:=a.p;omega,a.ok],j,i],fx,?_];rcases k with⟨o,k⟩| ⟨c,A,k⟩
 rw[Pm o];refine#[rfl,?_];let#[y,n,b,Y,X]:=LX o;have B:n<=80:=by
  have:∀m∈CG,m<=80:=by decide
  exact this n (qa Y)
 refine#[rfl,Jq b ?_];simp![↓uA (md:=[]) W rfl rfl];refine#[_,rfl,fx.few,?_];simp![↓xA];have k:=k (bD (.int pl)) u (bD (SE x));rw[Sn l x b]at k;refine#[by rw[QG];omega,k];rw[A];exact k
end
def uz{Ψ:PEv}{E:XE}{ρ:yA}{K:TK}{b:PX}{h:LT}:ub (.tup h) Kz Ψ b E ρ K=bB Ψ b E (lockA ρ) λy m _=>K y m ρ:=rfl
def Cy{i:Int}:eE (.tup h) Kz (.d (.int i)) m R=PF (FB h i) R:=by unfold eE;rw[zA];exact N8 _ _
def uW:(QA "\n").9=1:=by decide +kernel
def ZO{Ψ:PEv}(h1:Ψ.sp "row_of"=NC)(h2:Ψ.sp "check_row"=fZ GB [.bor])(H:Ψ.sp "entry_of"=oF)(R:Ψ.dc "SECTIONS"=jb uC)(v5:Ψ.va "Unfinished"=jb (IF "Unfinished"))(ds Q E)(h:nC.run ds Q E):ds.9=UF.length/\∃E':XE,(∀x,E' x->E x)/\mB Ψ E' tG (aC nC UF.length Q) (AA uK nC.md ds):=by
 let#[j,u,o,rfl,#[hl,S],K,en,q]:=h;have q:(Reads (qO j (QA "\n")) u/\((OA u≠[]/\GA u≠[]/\Q (T4 u) [])∨(OA u=[]∨GA u=[])/\E ("Unfinished",((qO j (QA "\n")).9:Int)))) ∨
   ∃g bad n c,qO j (QA "\n")=g++bad::n/\Reads g u/\bad.9<=900/\BadAt u bad c/\E (c,((0+g.9:Nat):Int)+1):=by
  cases en with|fine a b c=>exact .inl #[a,.inl #[b,c,q]]|part a b=>exact .inl #[a,.inr #[b,q]]|bad a b c d=>exact .inr #[_,_,_,_,a,b,c,d,by rw[QAC];exact q]
 refine PK [bD (.str j),js,js,js,js,js] rfl rfl rfl ?_;have hs:=QDn j (QA "\n");have t0:RF [T.lst [],T.lst [],T.lst [],T.lst []]=T4 []:=rfl;have b1:oH=.seq (.set 5 (.call "row_of" %[.var 4,.var 3|1])) Up:=rfl;delta tG;simp![uW,t0,↓bz];refine#[(),(),(),(),(),(),by decide,(),?_];refine FC (λ(p:D×Nat)=>T.d (.tuple [.int ((wk 1+p.2:Nat):Int),p.1])) (λxs O=>∃(y m:List Rw) (s:LS) (k:Nat) (C B G:Option Sl),u=y++m/\xs=(s.map Jz).zipIdx k/\k+s.9<=9000/\Sm y /\
  ((Reads s m/\((OA u≠[]/\GA u≠[]/\Q (T4 u) [])∨(OA u=[]∨GA u=[])/\E ("Unfinished",((qO j (QA "\n")).9:Int))))∨∃g bad n c,s=g++bad::n/\Reads g m/\bad.9<=900/\BadAt u bad c/\E (c,((k+g.9:Nat):Int)+1)) /\
  O=af j (.list ((qO j (QA "\n")).map Jz)) y C B G) ?_ ?_ _ _ #[[],u,qO j (QA "\n"),0,js,js,js,rfl,rfl,by rw[QAC];exact S,#[by simp[OA],by simp[HA],by simp[GA],by simp[HA],by simp[EF]],q,rfl]
 ·rintro O ⟨y,m,s,k,C,B,G,e,J,_,A,rd,rfl⟩
  have:s=[]:=by
   cases s with|nil=>rfl|cons _ _=>simp at J
  subst this;rcases rd with⟨rd,q⟩| ⟨g,bad,n,c,z,_⟩
  rotate_left
  cases g<;>cases z;have:m=[]:=by cases rd;rfl
  subst this;rw[Qe]at e;subst e;change mB _ _ _ _ [bD (.str j),oW (T4 u),bD _,fC C,fC B,G];generalize fC C=C;generalize fC B=B;have ez:∀{α:Type}(l:List α),decide ((l.9:Int)=0)=decide (l=[]):=λl=>by cases l<;>simp<;>omega
  delta T4 at q ⊢;simp![↓zJ,↓T2,↓uz,↓Cy,QG,ez];rcases q with⟨I,hm,q⟩| ⟨hh,q⟩
  rw[dF I,dF hm];simp![↓xA];exact q;by_cases I:OA u=[]
  ·rw[dT I]
   simp![QG];exact#[trivial,_,v5,_,rfl,q]
  rw[dF I,dT (hh.resolve_left I)];simp![QG];exact#[trivial,_,v5,_,rfl,q]
 ·rintro⟨x,i⟩ xs O N L ⟨y,m,s,k,C,B,G,e,J,hk,A,rd,rfl⟩
  cases s with
  |nil=>simp at J|cons r s =>
   rw[QR,QAJ,wj,QCa]at J;let#[#[rfl,rfl],rfl]:=J;rw[QM]at hk;have Z:(0:Int)<=((wk 1+i:Nat):Int):=()
   have Y:((wk 1+i:Nat):Int)<=10000:=by show((1+i:Nat):Int)<=10000;omega
   have W:i+1+s.9<=9000:=()
   rw[b1];delta af;simp![↓uA (md:=[]) h1 rfl rfl];rcases rd with⟨rd,q⟩| ⟨g,bad,n,c,z,rd,M,ba,q⟩
   ·let#[hl,rd]:=rd.inv
    rcases rd with⟨P,rd⟩| ⟨x,X,rfl,F,rd⟩
    ·refine lJ P hl Z Y #[rfl,?_]
     rw[Te];exact RX (L _ #[y,m,s,_,_,_,_,e,rfl,W,A,.inl #[rd,q],rfl])
    ·have o:RowOk y x:=K y x X e
     refine bG F o.good hl Z Y #[rfl,?_];rw[jo];exact JV h2 H R o.f A Z Y (.inl #[o,λC B G=>L _ #[y++[x],X,s,_,_,_,_,by rw[e];simp,rfl,W,A.add o,.inl #[rd,q],rfl]])
   ·cases g with
    |nil =>
     cases z;have:m=[]:=by cases rd;rfl
     subst this;rw[Qe]at e;subst e;have ep:((i+([]:LS).9:Nat):Int)+1=((wk 1+i:Nat):Int):=by show((i+0:Nat):Int)+1=((1+i:Nat):Int);omega
     rw[ep]at q;cases ba with|form F w2 w3=>exact VS F w2 w3 M Z Y q|ref F fx ec=>refine bG F fx.good M Z Y #[rfl,?_];rw[jo];exact JV h2 H R fx A Z Y (.inr #[_,ec,q])
    |cons p g =>
     cases z;let#[hl,rd]:=rd.inv;have q:E (c,((i+1+g.9:Nat):Int)+1):=by rw[QM,show i+(g.9+1)=i+1+g.9 by omega]at q;exact q
     rcases rd with⟨P,rd⟩| ⟨x,X,rfl,F,rd⟩
     ·refine lJ P hl Z Y #[rfl,?_]
      rw[Te];exact RX (L _ #[y,m,_,_,_,_,_,e,rfl,W,A,.inr #[g,bad,n,c,rfl,rd,M,ba,q],rfl])
     ·have o:RowOk y x:=K y x X e
      refine bG F o.good hl Z Y #[rfl,?_];rw[jo];exact JV h2 H R o.f A Z Y (.inl #[o,λC B G=>L _ #[y++[x],X,_,_,_,_,_,by rw[e];simp,rfl,W,A.add o,.inr #[g,bad,n,c,rfl,rd,M,ba,q],rfl]])
def G3(l:List Rw):List Rw:=(OA l).map .per++((GA l).map .mat++((HA l).map (λp=>.aga p.1 p.2)++(EF l).map .ev))
def Hh(d:D):Prop:=(∃z:Str,d=.str z/\z.9<=100)∨∃n:Int,d=.int n/\0<=n/\n<=999999999
def Hh.len(h:Hh d):(gI d).9<=100:=by
 rcases h with⟨z,rfl,h⟩| ⟨n,rfl,y,x⟩
 exact h;have:=(vN y x).2;show(yD n).9<=100;omega
def sM{α:Type}(f:α->Nat)(k:Nat):∀(l:List α),(∀x∈l,f x<=k)->(l.map f).sum<=l.9 * k
 |[],_=>by simp|x::l,h=>by have a:=h x QL;have u:=sM f k l λy z=>h y (QI _ z);simp only[QR,List.sum_cons,QM,Nat.add_mul,Nat.one_mul];omega
def RI:(QA " ").9=1:=by decide +kernel
def E4{d:D}{n:Bool}(h:Hh d){Q:T->Bool->Prop}(q:Q (.d (.str (gI d))) Kz):kJ .str [(.d d,n)] Q:=by
 rcases h with⟨z,rfl,h⟩| ⟨m,rfl,y,x⟩
 simp! -implicitDefEqProofs[↓xA];exact q;simp! -implicitDefEqProofs[↓xA];refine#[?_,q];by_cases e:m.natAbs=0;rw[e];decide;rw[QAe e];exact QAt (show m.natAbs<=2 ^ 30 by omega) (QBs (by decide) (by decide))
def R8(x:Rw):Hh (.str x.hd):=by
 refine .inl #[_,rfl,?_];have h:∀s∈(["person","matter","against","see","tell"]:LS),s.9<=100:=by decide +kernel
 cases x with|ev e=>cases e<;>exact h _ (by simp[Rw.hd])|_=>exact h _ (by simp[Rw.hd])
def Zv:D->T
 | .list l=>.lst (l.map T.d)|x=>.d x
def Bj(x:D):zE (.d x)=jb (Zv x):=by
 cases x with|list l=>simp only[zE,T.vw,nA,qK,Zv]|_=>rfl
def Lw:DB (.shal::md) ((.d x,n)::xs) C=DB md xs λh=>C (Zv x::h):=Dx (by rw[zA];exact Bj x)
def Ad(t:T):LT->LT
 |u::us=>u::t::us|[]=>[t]
def KG{Ψ:PEv}{E:XE}{ρ:yA}{K:TK}{a l:PX}{f:Str}{p:PSp}{md:List Md}{j:Nat}(h:Ψ.sp f=p)(B:p.md=.shal::.chg::md)(A:(md.all λm=>!m.isMut)=j3):bB Ψ (.call f (.acons a (.acons (.var j) l))) E ρ K=pE ρ[j]? λt=>bB Ψ a E (ρ.set j js) λx n y=>UX x n Ψ l E md y λxs b=>DB (.shal::md) ((x,n)::xs) λg=>tI p (Ad t g) (λr os=>∃t',os=[t']/\K r j3 (b.set j (jb (.own t')))) E:=by
 have W:=BS;show(∃os,fB (dA (Ψ.sp f).md (.acons a (.acons (.var j) l))) ρ=jb os/\(dA (Ψ.sp f).md (.acons a (.acons (.var j) l))).Nodup/\(pe Ψ (.acons a (.acons (.var j) l)) E).a (Ψ.sp f).md (clear (dA (Ψ.sp f).md (.acons a (.acons (.var j) l))) ρ) λxs y=>∃g,BA (Ψ.sp f).md xs os=jb g/\(Ψ.sp f).run g (λr i=>∃b,IC (dA (Ψ.sp f).md (.acons a (.acons (.var j) l))) i y=jb b/\K r j3 b) E)=_;rw[h,B];have C:dA (.shal::.chg::md) (.acons a (.acons (.var j) l))=[j]:=by show j::dA md l=[j];rw[W md l A]
 rw[C];have s:∀(r:T) (os:LT) (y:yA),(∃b,IC [j] os y=jb b/\K r j3 b)=(∃t',os=[t']/\K r j3 (y.set j (jb (.own t')))):=by
  intro r os y
  match os with
  |[]=>exact Pz #[λzz=>(by let#[_,e,k]:=zz;cases e),λzz=>(by let#[_,e,k]:=zz;cases e)]|[t]=>exact Pz #[λzz=>by let#[_,e,k]:=zz;cases e;exact#[t,rfl,k],λzz=>by let#[_,e,k]:=zz;cases e;exact#[_,rfl,k]]|_::_::_=>exact Pz #[λzz=>(by let#[_,e,k]:=zz;cases e),λzz=>(by let#[_,e,k]:=zz;cases e)]
 have X:=λ(y:yA)=>funext λr=>funext λos=>s r os y;simp only[X];have Y:∀(t x:T) (n:Bool) (xs:List (T×Bool)) (G:LT->Prop),(∃g,BA (.shal::.chg::md) ((x,n)::(.d .none,j3)::xs) [t]=jb g/\G g)=DB (.shal::md) ((x,n)::xs) λg=>G (Ad t g):=by
  intro t x n xs G;show(∃g,(match zE (cA x n) with|some u=>((BA md xs []).map (t::·)).map (u::·)|none=>js)=jb g/\G g)=PF (match zE (cA x n) with|some u=>(BA md xs []).map (u::·)|none=>js) λg=>G (Ad t g);cases zE (cA x n) with
  |none=>exact Pz #[λzz=>(by let#[_,e,_]:=zz;cases e),λzz=>(by let#[_,e,_]:=zz;cases e)]|some u =>
   cases BA md xs []with|none=>exact Pz #[λzz=>(by let#[_,e,_]:=zz;cases e),λzz=>(by let#[_,e,_]:=zz;cases e)]|some g=>exact Pz #[λzz=>by let#[_,e,k]:=zz;cases e;exact#[_,rfl,k],λzz=>by let#[_,e,k]:=zz;cases e;exact#[_,rfl,k]]
 have Z:∀t,ρ[j]?=jb (jb (.own t))->fB [j] ρ=jb [t]:=λt e=>by unfold fB;rw[e];rfl
 have q:∀(x:T) (n:Bool) (y:yA) (M:List (T×Bool)->yA->Prop),UX x n Ψ (.acons (.var j) l) E (.chg::md) y M=UX x n Ψ l E md y λxs b=>M ((.d .none,j3)::xs) b:=by intro x n y M;have o:∀(y:yA) (M:List (T×Bool)->yA->Prop),((pe Ψ (.acons (.var j) l) E).a (.chg::md) y M)=(pe Ψ l E).a md y λxs b=>M ((.d .none,j3)::xs) b:=λy M=>Pz #[λh=>h.2,λh=>#[rfl,h]];unfold UX sq;simp only[o]
 have o:∀(os:LT),((pe Ψ (.acons a (.acons (.var j) l)) E).a (.shal::.chg::md) (clear [j] ρ) λxs y=>∃g,BA (.shal::.chg::md) xs os=jb g/\p.run g (λr i=>∃t',i=[t']/\K r j3 (y.set j (jb (.own t')))) E)=(bB Ψ a E (ρ.set j js) λx n y=>UX x n Ψ l E md y λxs b=>∃g,BA (.shal::.chg::md) ((x,n)::(.d .none,j3)::xs) os=jb g/\p.run g (λr i=>∃t',i=[t']/\K r j3 (b.set j (jb (.own t')))) E):=λos=>by show(bB Ψ a E (ρ.set j js) λx n y=>UX x n Ψ (.acons (.var j) l) E (.chg::md) y λxs b=>∃g,BA (.shal::.chg::md) ((x,n)::xs) os=jb g/\p.run g (λr i=>∃t',i=[t']/\K r j3 (b.set j (jb (.own t')))) E)=_;simp only[q]
 simp only[o]
 match e:ρ[j]? with
 |some (jb (.own t))=>show _=(bB Ψ a E (ρ.set j js) λx n y=>UX x n Ψ l E md y λxs b=>DB (.shal::md) ((x,n)::xs) λg=>tI p (Ad t g) (λr os=>∃t',os=[t']/\K r j3 (b.set j (jb (.own t')))) E);rw[Z t e];have:=λx n xs (y:yA)=>Y t x n xs λg=>p.run g (λr i=>∃t',i=[t']/\K r j3 (y.set j (jb (.own t')))) E;refine Pz #[λ#[_,e,_,k]=>?_,λk=>#[_,rfl,by simp,?_]];cases e;simp only[this]at k;exact k;simp only[this];exact k|some (jb (.bor t))=>exact Pz #[λzz=>(by let#[_,z,_]:=zz;unfold fB at z;rw[e]at z;cases z),λk=>k.elim]|some js=>exact Pz #[λzz=>(by let#[_,z,_]:=zz;unfold fB at z;rw[e]at z;cases z),λk=>k.elim]|none=>exact Pz #[λzz=>(by let#[_,z,_]:=zz;unfold fB at z;rw[e]at z;cases z),λk=>k.elim]
def NY(ns:LJ)(k:Int):Int:=if 0<(ns.9:Int) then ns.getD (k % (ns.9:Int)).toNat 0 else 0
def pA(ns:LJ)(k:Int):Int:=(NY ns k+k+1) * (91343852333181432387730302044767688731+7919000003 * k * k) % 170141183460469231731687303715884105727
def GR(ns:LJ)(k:Int):0<=pA ns k:=Qv _ (by decide)
def tB(ns:LJ):Prop:=ns.9<=63/\∀n∈ns,qf n<=1048576
def jX(h:tB ns)(k:Int):qf (NY ns k)<=1048576:=by
 unfold NY;split;rw[Q0];cases e:ns[(k % (ns.9:Int)).toNat]? with|none=>decide|some v=>exact h.2 v (qa e)
 decide
noncomputable abbrev lB(ns:LJ):T:=.lst ((ns.map j0).map T.d)
def mE:PSp where
 md:=[.shal]
 run:=λx Q _=>∃(h:LJ) (k:Int),x=[lB h,.d (.int k)]/\tB h/\(0<=k/\k<=1000000)/\Q (.d (.int (pA h k))) []
def BY{Ψ:PEv}{ns:LJ}{k c:Int}(hc:qf c<=1048576)(h:0<=k)(x:k<=1000000){Q:T->LT->Prop}(y:Option Sl)(q:Q (.d (.int ((c+k+1) * (91343852333181432387730302044767688731+7919000003 * k * k) % 170141183460469231731687303715884105727))) []) :
  pF Ψ sH (eZ Q) [jb (.bor (lB ns)),bD (.int k),bD (.int c),y]:=by
 delta sH;simp![↓xA];have z:qf (c+k+1)<=1048578:=by have:=mz (mz hc (show qf k<=64 from QCM () ())) (show qf 1<=64 by decide);omega
 refine#[TU.ok (.inr #[(),()]),TU.ok (.inr #[(),()]),IntMulOk.of_le (n:=256) z ?_ (by decide),q];have a:0<=k * k:=Int.mul_nonneg h h;have u:k * k<=1000000 * 1000000:=Int.mul_le_mul x x h (by decide);rw[intBits_le_iff,Int.mul_assoc];have:(2:Nat) ^ 256=115792089237316195423570985008687907853269984665640564039457584007913129639936:=by decide
 rw[this];omega
def Ic:yL Ψ uO mE HU dP:=by
 rintro _ Q _ ⟨ns,k,rfl,y,⟨x,h⟩,q⟩;refine rA [jb (.bor (lB ns)),bD (.int k),js,js] ?_;have hc:=jX y k;delta uO;simp![QG];unfold pA at q;unfold NY at q hc;refine OD (λc=>?_) λc=>?_;have c:0<(ns.9:Int):=by simpa using c
 rw[n8 c]at q hc;let#[v,u,z]:=MH (xs:=ns) (i:=k % (ns.9:Int)) (Qv _ ()) (Qi _ c);rw[Q0,z]at q hc;refine#[c,PF.mk (a:=.int v) (by rw[ZG,u];rfl) ?_];refine BY (ns:=ns) (c:=v) hc x h _ q;have c:¬ 0<(ns.9:Int):=by simpa using c
 rw[n7 c]at q hc;refine BY (ns:=ns) (c:=0) hc x h _ q
noncomputable abbrev O2(a:Int):T:=.lst ([j0 a].map T.d)
def Xp:uo (.lst ([d].map T.d)) (.int 0) e Q=Q (.lst ([e].map T.d)) :=
 Pz #[λzz=>by let#[_,_,n,y,x,h,q]:=zz;cases y;cases x;cases h;exact q,λq=>#[_,_,0,rfl,rfl,rfl,q]]
def eC(Q:T->LT->Prop):PEnds:={ nx:=λh=>S6 (fB [1] h) (Q (.d .none)),rt:=λt h=>S6 (fB [1] h) (Q t) }
def OK{p:PSp}{ps:LS}{x:LT}(ρ:yA)(h:pF Ψ b (eC Q) ρ)(hl:autoParam (x.9=ps.length) zzr._auto_1)(hc:autoParam (jC 0 p.md ps.9=[1]) zzr._auto_1)(y:autoParam (AA N p.md x=ρ) zzr._auto_1):x.9=ps.9/\pF Ψ b (aC p ps.9 Q) (AA N p.md x):=by
 have e:aC p ps.9 Q=eC Q:=by unfold aC;rw[hc];rfl
 rw[e,y];exact#[hl,h]
def UY:(eC Q).rt t (o::jb (.own u)::σ)=Q t [u]:=rfl
def XC:PSp where
 md:=[.shal,.chg]
 run:=λx Q _=>∃(h:LJ) (a:Int),x=[lB h,O2 a]/\tB h/\(0<=a/\a<1000000)/\Q (.d (.int (pA h (a+1)))) [O2 (a+1)]
def Sc{Ψ:PEv}(z:Ψ.sp "_law_draw"=mE):yL Ψ vO XC FU bP:=by rintro _ Q _ ⟨h,a,rfl,x,⟨u,y⟩,q⟩;refine OK [jb (.bor (lB h)),jb (.own (O2 a))] ?_;delta vO;simp![↓uA (md:=[.shal]) z rfl rfl,↓zJ,↓Xp,↓UY];refine#[_,_,rfl,x,#[(),()],?_];simp![↓UY];exact q
def DI(n:Int):Nat:=97+(n % 26).toNat
def sV(c:Nat):Str:=#[(List.toArray [c])]
def pN(n:Int):FB aE.cps.toList (n % 26)=jb (DI n):=by
 have hl:aE.cps.toList.9=26:=by rw[BD];simp
 let#[v,x,h]:=MH (xs:=aE.cps.toList) (i:=n % 26) () (by rw[hl];omega);rw[x];rw[BD,Qd,wg ()]at h;have h:(n % 26).toNat+97=v:=by simpa using h
 unfold DI;rw[<- h,Nat.add_comm]
def x5{x:Str}{j:Int}(y:0<=j)(h:j<=x.9):QAF x js (jb j)=#[(x.cps.toList.take j.toNat).toArray]:=by show QCt x js (jb j)=_;rw[StrLaws.sliceText_to #[y,by rw[Q6];exact h],List.drop_zero,Int.sub_zero]
def rV{x:Str}{j:Int}(y:0<=j)(h:j<=x.9):QAF x (jb j) js=#[(x.cps.toList.drop j.toNat).toArray]:=by show QCt x (jb j) js=_;rw[StrLaws.sliceText_from #[y,by rw[Q6];exact h],qz (by simp;omega)]
def J8(l:LN):wm (QA "") (l.map sV)=#[l.toArray]:=by
 have h:∀l:LN,(QAv (QA "") (l.map sV)).cps.toList=l:=by
  intro l;induction l with
  |nil=>rfl|cons x l z =>
   cases l with
   |nil=>rfl|cons y r =>
    have e:QAv (QA "") ((x::y::r).map sV)=sV x++QA ""++QAv (QA "") ((y::r).map sV):=rfl;have u:(QA "").cps=#[]:=by decide +kernel
    rw[e];show((sV x).cps++(QA "").cps++(QAv (QA "") ((y::r).map sV)).cps).toList=_;rw[w9,z,u];simp[sV]
 rw[YX];exact dJ (by rw[h l])
def mS(h:Int):LN:=(QH (2+h % 6).toNat).map λ(j:Nat)=>DI (h / 42+(j:Int) * (j:Int) * (h / 1100 % 5))
def YS(h:Int):Int:=h / 6 % (2+h % 6 - 1)
def C7(h k:Int):LN:=(mS h).take (YS h).toNat++[DI (h / 7+k / 26),DI (h / 3+k)]++(mS h).drop ((YS h).toNat+2)
def xW(h k:Int):Str:=#[(C7 h k).toArray]
def dC(h k:Int):Str:=if xW h k∈keys then xW h k++"z" else xW h k
def UC:PSp where
 run:=λh Q _=>∃(s k:Int),h=[.d (.int s),.d (.int k)]/\(0<=s/\s<2 ^ 60)/\(0<=k/\k<676)/\Q (.d (.str (dC s k))) []
def Cd:QA "abcdefghijklmnopqrstuvwxyz"=aE:=by decide +kernel
def ZW(n:Int):97<=DI n/\DI n<=122:=by unfold DI;omega
def nX{w:Str}(y:1<=w.9)(x:w.9<=8)(h:∀c∈w.cps.toList,97<=c/\c<=122):rB w=true:=by unfold rB;rw[dT y,dT x];show DF w aE=j3;unfold DF;rw[Qr];intro c hc;have:=h c hc;rw[decide_eq_true_eq,BD];exact Qa.mpr #[c - 97,Qf.mpr (),()]
def sj{s:Int}(h:0<=s):0<=YS s/\YS s+2<=2+s % 6:=by unfold YS;have y:0<=s / 6 % (2+s % 6 - 1):=Qv _ ();have x:s / 6 % (2+s % 6 - 1)<2+s % 6 - 1:=Qi _ ();omega
def zd{s k:Int}(y:0<=s):(C7 s k).9=(2+s % 6).toNat:=by
 have z:(mS s).9=(2+s % 6).toNat:=by simp[mS]
 let#[x,h]:=sj y;unfold C7;rw[QJ,QJ,Wd,wQ,z];let#[a,u]:=qS x;let#[b,e]:=qS (Int.le_trans x (Int.le_trans (Int.le_add_of_nonneg_right (by decide)) h));rw[u,e]at h ⊢;have p:a+2<=b:=Int.ofNat_le.mp h;show min a b+2+(b - (a+2))=b;rw[QBo (qG (qh a 2) p)];exact Nat.add_sub_cancel' p
def fR{s k:Int}(h:0<=s):(xW s k).9=(2+s % 6).toNat:=by show(C7 s k).toArray.size=_;rw[QN,zd h]
def Pf(s k:Int):∀c∈C7 s k,97<=c/\c<=122:=by
 intro c hc;have h:∀c∈mS s,97<=c/\c<=122:=λc hc=>by let#[j,_,rfl]:=Qa.mp hc;exact ZW _
 unfold C7 at hc;rcases Qp.mp hc with hc|hc;rcases Qp.mp hc with hc|hc
 ·exact h c (QBt hc)
 rcases QO.mp hc with rfl|hc
 ·exact ZW _
 rw[qD.mp hc];exact ZW _;exact h c (QAQ hc)
def Pl:∀x∈keys,¬ (x++QA "z")∈keys:=by decide +kernel
def bY(h:rB w=j3)(n:¬ w∈keys):KA w=true:=by unfold KA;rw[h,JF,dF n];rfl
def EE{s k:Int}(x:0<=s):KA (dC s k)=true:=by
 have hl:=fR (k:=k) x;have h:(QA "z").9=1:=by decide +kernel
 unfold dC;split;rename_i hk;refine bY (nX (by rw[qY,hl];omega) (by rw[qY,hl,h];omega) λc hc=>?_) (Pl _ hk);have hc:c∈((xW s k).cps++(QA "z").cps).toList:=hc;rw[w9]at hc;rcases Qp.mp hc with hc|hc;exact Pf s k c (by simpa[xW]using hc);have:(QA "z").cps.toList=[122]:=by decide +kernel
 rw[this]at hc;rw[qD.mp hc];omega;rename_i hk;exact bY (nX (by rw[hl];omega) (by rw[hl];omega) λc hc=>Pf s k c (by simpa[xW]using hc)) hk
def Lq{s k j:Int}(z:0<=k)(y:k<676)(a:0<=j)(u:j<676)(x:(s / 7+k / 26) % 26=(s / 7+j / 26) % 26)(h:(s / 3+k) % 26=(s / 3+j) % 26):k=j:=()
def xY{s k j:Int}(l:0<=s)(a:0<=k)(u:k<676)(e:0<=j)(b:j<676)(h:xW s k=xW s j):k=j:=by
 have h:C7 s k=C7 s j:=by have:=pu (λz:Str=>z.cps.toList) h;simpa[xW]using this
 unfold C7 at h;rw[Q9,Q9]at h;have h:=List.append_cancel_left h;have h:=QBH h;simp only[wj,and_true]at h;let#[i,g]:=h;unfold DI at i g;have y:(s / 7+k / 26) % 26=(s / 7+j / 26) % 26:=()
 have x:(s / 3+k) % 26=(s / 3+j) % 26:=()
 exact Lq a u e b y x
def zD{s k j:Int}(x:0<=s)(u:0<=k)(y:k<676)(b:0<=j)(a:j<676)(h:dC s k=dC s j):k=j:=by
 have hk:=fR (k:=k) x;have g:=fR (k:=j) x;have e:(QA "z").9=1:=by decide +kernel
 unfold dC at h;split at h<;>split at h;refine xY x u y b a (dJ ?_);have:=pu (λz:Str=>z.cps.toList) h;have this:((xW s k).cps++(QA "z").cps).toList=((xW s j).cps++(QA "z").cps).toList:=this;rw[w9,w9]at this;exact QBH this;have:=pu QCg h;rw[qY]at this;omega;have:=pu QCg h;rw[qY]at this;omega;exact xY x u y b a h
def Ie{Ψ:PEv}{E:XE}{ρ:yA}{K:TK}{a:PX}{i:Nat}:bB Ψ (.slc a .nop (.var i)) E ρ K=bB Ψ a E ρ λx n y=>sq (α:=Option Int) (cA x n) y (λρ R=>bB Ψ (.var i) E ρ λl _ h=>vE l.er λo=>R o h) λu h=>OH x n js u λz k=>K z k h:=by
 show(pe Ψ a E).e ρ (λx n y=>sq (α:=Option Int) (cA x n) y (λρ (R:Option Int->yA->Prop)=>R js ρ) λl h=>sq (α:=Option Int) (cA x n) h (λρ R=>(pe Ψ (.var i) E).e ρ λl _ h=>vE l.er λo=>R o h) λu b=>OE (cA x n).vw l u λz k=>K z k b)=_;have:∀(x:T) (n:Bool) (y:yA) (C:Option Int->yA->Prop),(sq (α:=Option Int) (cA x n) y (λρ (R:Option Int->yA->Prop)=>R js ρ) C)=C js y:=by intro x n y C;unfold sq;split<;>rfl
 simp only[this];rfl
def PB{s k:Int}{K:T->LT->Prop}(x:0<=s)(h:s<2 ^ 60)(z:0<=k)(y:k<676)(q:K (.d (.str (dC s k))) []):tI UC [.d (.int s),.d (.int k)] K E:=#[s,k,rfl,#[x,h],#[z,y],q]
def Tc{Ψ:PEv}(X:Ψ.sp "_law_keywords"=OC):yL Ψ xO UC GU cP:=by
 rintro _ Q _ ⟨s,k,rfl,⟨B,A⟩,⟨G,F⟩,q⟩;refine rA [bD (.int s),bD (.int k),js,js,js,js,js] ?_;have b:ke=16777216:=wP;have u:aE.length=26:=by decide +kernel
 delta xO;simp![Cd,u];refine#[(),(),(),?_];refine UB (λ(j:Nat)=>T.d (.int (j:Int))) (λ(j:Nat)=>T.d (.str (sV (DI (s / 42+(j:Int) * (j:Int) * (s / 1100 % 5)))))) (QH (2+s % 6).toNat) [] _ (λj e R r=>?_) (by simp;omega) ?_;have e:=Qf.mp e;simp![u];have a:(j:Int)<=8:=()
 have I:(j:Int) * (j:Int)<=8 * 8:=Int.mul_le_mul a a () (by decide);exact#[TU.ok (.inr #[(),()]),TU.ok (.inr #[(),()]),(),PF.mk (pN _) r];have Z:(QH (2+s % 6).toNat).map (λ(j:Nat)=>T.d (Jz (sV (DI (s / 42+(j:Int) * (j:Int) * (s / 1100 % 5))))))=(((mS s).map sV).map Jz).map T.d:=by simp[mS]
 rw[Qu,Z];have p:(mS s).9=(2+s % 6).toNat:=by simp[mS]
 have y:(#[(mS s).toArray]:Str).9=(2+s % 6).toNat:=by show(mS s).toArray.size=_;rw[QN,p]
 have o:(QA "").9=0:=by decide +kernel
 have J:=ZP;simp![J8,o,u,pN,↓Ie,↓gS,↓rj,↓S5,↓uA (md:=[]) X rfl rfl,↓nJ];have l:0<=s / 6 % (2+s % 6 - 1):=Qv _ ();have C:s / 6 % (2+s % 6 - 1)<2+s % 6 - 1:=Qi _ ();have K:=x5 (x:=#[(mS s).toArray]) l (by rw[y];omega);have W:=rV (x:=#[(mS s).toArray]) (j:=s / 6 % (2+s % 6 - 1)+2) () (by rw[y];omega);have g:QAF #[(mS s).toArray] js (jb (s / 6 % (2+s % 6 - 1)))++((#[(List.toArray [DI (s / 7+k / 26)])]:Str)++(#[(List.toArray [DI (s / 3+k)])]:Str))++QAF #[(mS s).toArray] (jb (s / 6 % (2+s % 6 - 1)+2)) js=xW s k:=by
  rw[K,W];apply dJ;show(((List.take _ _).toArray++((List.toArray [DI (s / 7+k / 26)])++(List.toArray [DI (s / 3+k)])))++(QDq _ _).toArray).toList=(C7 s k).toArray.toList;have Y:(s / 6 % (2+s % 6 - 1)+2).toNat=(YS s).toNat+2:=by unfold YS;omega
  rw[Y];simp[C7,YS]
 have n:=QC4 #[(mS s).toArray] js (jb (s / 6 % (2+s % 6 - 1)));have m:=QC4 #[(mS s).toArray] (jb (s / 6 % (2+s % 6 - 1)+2)) js;rw[y]at n m;have h:∀c:Nat,(#[(List.toArray [c])]:Str).9=1:=λ_=>rfl;have i:(QA "z").9=1:=by decide +kernel
 have E:(xW s k).9<=30:=by rw[<- g,qY,qY,qY,h,h];omega
 refine#[?_,(),(),by rw[h,h];omega,by rw[y];omega,by rw[qY,h,h];omega,by rw[y];omega,by rw[qY,qY,h,h];omega,?_];have:=sM (λz:Str=>z.9) 1 ((mS s).map sV) (λz b=>by let#[c,_,rfl]:=Qa.mp b;exact QX 1);rw[QG]at this ⊢;omega;rw[g,JF];refine#[.inl #[rfl,AC _],?_];unfold dC at q;delta iL;simp![↓xA];by_cases hk:xW s k∈keys;rw[n8 hk]at q;rw[dT hk,n8 rfl];exact#[by rw[i];omega,q];rw[n7 hk]at q;rw[dF hk,n7 (by simp)];exact q
def O0{α h:Type}(f:α->h)(l:List α)(k:Nat)(y:α):bE (l.map f) k (f y)=(bE l k y).map f:=by unfold bE;rw[Q5,QR,QBS,List.map_drop]
def FP{α:Type}(l:List α)(k:Nat)(y:α):(bE l k y).9=l.9+1:=by unfold bE;rw[QJ,QM,<- Nat.add_assoc,<- QJ,wq]
def N0{α:Type}{l:List α}{x y:α}:x∈bE l k y↔x=y∨x∈l:=by
 unfold bE;rw[Qp,QO];constructor;rintro(h|rfl|h)
 ·exact .inr (QBt h)
 exact .inl rfl;exact .inr (QAQ h);rintro(rfl|h)
 ·exact .inr (.inl rfl)
 rw[<- wq k l]at h;rcases Qp.mp h with h|h;exact .inl h;exact .inr (.inr h)
noncomputable abbrev PA:=P3×Int
def uF(ms:LS)(i:Nat):Str:=ms.getD i (sV 0)
def bh(ns:LJ)(ms:LS)(j k:Nat)(n:Int):Str×Str:=if n / 3 % 2=0 then(uF ms j,uF ms k) else(uF ms k,uF ms j)
def cS(ns:LJ)(ms:LS)(j:Nat)(st:PA)(k:Nat):PA :=
 (if 0<pA ns (st.2+1) % 3 then bE st.1 (pA ns (st.2+1) / 9 % ((st.1.9:Int)+1)).toNat (bh ns ms j k (pA ns (st.2+1))) else st.1,st.2+1)
def BU(ns:LJ)(ms:LS)(st:PA)(j:Nat):PA:=(QH j).foldl (cS ns ms j) st
def Y3(ns:LJ)(ms:LS)(a:Int):PA:=(QH ms.9).foldl (BU ns ms) ([],a)
noncomputable abbrev Gv(l:P3):T:=.lst ((l.map aD).map T.d)
noncomputable abbrev Nv(ms:LS):T:=.lst ((ms.map Jz).map T.d)
def xG:PSp where
 md:=[.shal,.chg,.shal]
 run:=λy Q _=>∃(h:LJ) (a:Int) (x:LS),y=[lB h,O2 a,Nv x]/\tB h/\(0<=a/\a<=100)/\x.9<=6/\Q (Gv (Y3 h x a).1) [O2 (Y3 h x a).2]
def YW{ms:LS}(h:i<ms.9):FB (ms.map Jz) (i:Int)=jb (.str (uF ms i)):=by
 have e:(ms.map Jz)[i]?=jb (.str (uF ms i)):=by rw[Qd,qC h];unfold uF;rw[Q0,qC h];rfl
 exact UA e
def bO(ns:LJ)(ms:LS)(st:PA)(z y x h:Option Sl):yA:=[jb (.bor (lB ns)),jb (.own (O2 st.2)),jb (.bor (Nv ms)),jb (.own (Gv st.1)),z,y,x,h]
def J3{Ψ:PEv}(i:Ψ.sp "_law_next"=XC){Z:PEnds}{ns:LJ}{ms:LS}{st:PA}{j k:Nat}(g:tB ns)(m:0<=st.2)(o:st.2<=1000)(hl:st.1.9<=st.2.toNat)(b:j<ms.9)(hk:k<ms.9)(x h:Option Sl)
  (q:∀x h,Z.nx (bO ns ms (cS ns ms j st k) (bD (.int (j:Int))) (bD (.int (k:Int))) x h)) :
  pF Ψ FD Z (bO ns ms st (bD (.int (j:Int))) (bD (.int (k:Int))) x h):=by
 have u:=YW b;have z:=YW hk;delta bO;delta FD;simp![↓KG (md:=[]) i rfl rfl,u,z];refine#[_,_,rfl,g,#[m,()],#[_,rfl,?_]];have l:FB [PyData.tuple [.str (uF ms j),.str (uF ms k)],.tuple [.str (uF ms k),.str (uF ms j)]] (pA ns (st.2+1) / 3 % 2)=jb (aD (bh ns ms j k (pA ns (st.2+1)))):=by unfold bh;rcases(show pA ns (st.2+1) / 3 % 2=0∨pA ns (st.2+1) / 3 % 2=1 by omega) with e|e;rw[e,n8 rfl];rfl;rw[e,n7 (by decide)];rfl
 simp! -implicitDefEqProofs[u,z,l];refine#[(),(),(),?_];have q:=q (bD (.int (pA ns (st.2+1)))) (bD (aD (bh ns ms j k (pA ns (st.2+1)))));simp only[QG];refine OD (λc=>?_) λc=>?_;have c:0<pA ns (st.2+1) % 3:=by simpa using c
 have y:cS ns ms j st k=(bE st.1 (pA ns (st.2+1) / 9 % ((st.1.9:Int)+1)).toNat (bh ns ms j k (pA ns (st.2+1))),st.2+1):=by unfold cS;rw[n8 c]
 have a:=Qv (pA ns (st.2+1) / 9) (show((st.1.9:Int)+1)≠0 by omega);have n:=Qi (pA ns (st.2+1) / 9) (show 0<((st.1.9:Int)+1) by omega);refine#[(),a,(),(),?_];rw[y]at q;delta bO Gv at q;simp only[<- O0]at q;exact q;have c:¬ 0<pA ns (st.2+1) % 3:=by simpa using c
 have y:cS ns ms j st k=(st.1,st.2+1):=by unfold cS;rw[n7 c]
 rw[y]at q;exact q
def RY(ns:LJ)(ms:LS)(j:Nat)(st:PA)(k:Nat):(cS ns ms j st k).2=st.2+1:=rfl
def Le{st:PA}(x:0<=st.2)(h:st.1.9<=st.2.toNat):(cS ns ms j st k).1.length<=(cS ns ms j st k).2.toNat:=by rw[RY];unfold cS;split;rw[FP];omega;show st.1.9<=_;omega
def y3{Ψ:PEv}(X:Ψ.sp "_law_next"=XC){Z:PEnds}{ns:LJ}{ms:LS}{st:PA}{j:Nat}(r:tB ns)(Y:0<=st.2)(K:st.2+(j:Int)<=1000)(hl:st.1.9<=st.2.toNat)(p:j<ms.9)(W:ms.9<=6)(z y x:Option Sl)
  (q:∀o z y x,(BU ns ms st j).1.length<=(BU ns ms st j).2.toNat->(BU ns ms st j).2=st.2+(j:Int)->Z.nx (bO ns ms (BU ns ms st j) o z y x)) :
  pF Ψ DD Z (bO ns ms st (bD (.int (j:Int))) z y x):=by
 delta bO;delta DD;simp![↓xA];refine#[(),(),?_];refine FC (λ(i:Nat)=>T.d (.int (i:Int))) (λl a=>∃(h:PA) (z y x:Option Sl),l.foldl (cS ns ms j) h=BU ns ms st j/\0<=h.2/\h.2+(l.9:Int)=st.2+(j:Int)/\h.1.9<=h.2.toNat/\(∀i∈l,i<j)/\a=bO ns ms h (bD (.int (j:Int))) z y x) ?_ ?_ _ _ #[st,z,y,x,rfl,Y,by simp,hl,λi b=>Qf.mp b,rfl];rintro a ⟨h,z,y,x,e,m,g,u,_,rfl⟩;have e:h=BU ns ms st j:=e;subst e;exact q _ _ _ _ u (by simpa using g);rintro k l a N s ⟨h,z,y,x,e,m,g,u,n,rfl⟩;have hk:=n k QL;simp only[QM]at g;show pF Ψ FD _ (bO ns ms h (bD (.int (j:Int))) (bD (.int (k:Int))) y x);refine J3 X r m () u p () _ _ λy x=>?_;exact s _ #[_,_,_,_,e,by rw[RY];omega,by rw[RY];omega,Le m u,λi b=>n i (QI _ b),rfl]
def TV{Ψ:PEv}(W:Ψ.sp "_law_next"=XC):yL Ψ aH xG VL eJ:=by rintro _ Q _ ⟨y,a,x,rfl,Y,⟨A,C⟩,s,q⟩;refine OK [jb (.bor (lB y)),oW (O2 a),jb (.bor (Nv x)),js,js,js,js,js] ?_;delta aH;simp![QG];refine#[(),(),(),?_];refine FC (λ(i:Nat)=>T.d (.int (i:Int))) (λl g=>∃(h:PA) (b k u z:Option Sl),l.foldl (BU y x) h=Y3 y x a/\0<=h.2/\h.2+((l.9 * 6:Nat):Int)<=140/\h.1.9<=h.2.toNat/\(∀i∈l,i<x.9)/\g=bO y x h b k u z) ?_ ?_ _ _ #[([],a),js,js,js,js,rfl,A,by simp;omega,by simp,λi m=>Qf.mp m,rfl];rintro g ⟨h,b,k,u,z,e,r,p,o,_,rfl⟩;have e:h=Y3 y x a:=e;subst e;exact q;rintro j l g N Z ⟨h,b,k,u,z,e,r,p,o,n,rfl⟩;have X:=n j QL;simp only[QM]at p;show pF Ψ DD _ (bO y x h (bD (.int (j:Int))) k u z);refine y3 W Y r () o X s _ _ _ λb k u z K B=>?_;exact Z _ #[_,_,_,_,_,e,(),(),K,λi m=>n i (QI _ m),rfl]
def MK{α:Type}{e:yA->TK->Prop}{Q:List D->yA->Prop}(g:α->T)(W:List α->List D->yA->Prop)(a:∀h ρ,W [] h ρ->h.9<=ke/\Q h ρ)(k:∀x xs h ρ (N:D->yA->Prop),W (x::xs) h ρ->(∀d z,W xs (h++[d]) z->N d z)->e (jb (.bor (g x))::ρ) λy n u=>LG y n=j3/\h.9<ke/\N y.er (u.drop 1)):∀(xs:List α) (h:List D) (ρ:yA),W xs h ρ->TJ (.nm 0) 1 e (xs.map g) h ρ Q
 |[],h,ρ,w=>a h ρ w|x::xs,h,ρ,w=>k x xs h ρ (λd z=>TJ (.nm 0) 1 e (xs.map g) (h++[d]) z Q) w λd z b=>MK g W a k xs (h++[d]) z b
def zI(n:Int):Int:=if n / 7 % 2=0 then 0 else 999999999
def bf(n:Int):Int:=if n % 4=0 then n / 7 % 5 else if n % 4=1 then n / 7 % 60 else if n % 4=2 then n / 7 % 10 ^ 9 else zI n
def Bo(n:Int):FB [j0 0,.int 999999999] (n / 7 % 2)=jb (.int (zI n)):=by unfold zI;rcases(show n / 7 % 2=0∨n / 7 % 2=1 by omega) with e|e;rw[e,n8 rfl];rfl;rw[e,n7 (by decide)];rfl
def gj(n:Int):FB [j0 (n / 7 % 5),.int (n / 7 % 60),.int (n / 7 % 10 ^ wk 9),.int (zI n)] (n % 4)=jb (.int (bf n)):=by unfold bf;rcases(show n % 4=0∨n % 4=1∨n % 4=2∨n % 4=3 by omega) with e|e|e|e;rw[e,n8 rfl];rfl;rw[e,n7 (by decide),n8 rfl];rfl;rw[e,n7 (by decide),n7 (by decide),n8 rfl];rfl;rw[e,n7 (by decide),n7 (by decide),n7 (by decide)];rfl
def Ao{n:Int}(h:0<=n):0<=bf n/\bf n<=999999999:=by
 unfold bf zI;have e:(10:Int) ^ 9=1000000000:=by decide
 rw[e]
 repeat' split
 all_goals omega
def Br(i:Int):Str:=keys.getD i.toNat (sV 0)
def yj(n:Int):Str:=if n / 20 % 6=0 then Br (n / 10 ^ 6 % 19) else dC (n / 10 ^ 6 % 10 ^ 12) 3
def IX(ps:List P4)(i:Int):P4:=ps.getD i.toNat (sV 0,0,0,0)
def RQ{ps:List P4}{i:Int}(x:0<=i)(h:i<(ps.9:Int)):FB (ps.map pD) i=jb (pD (IX ps i)):=by let#[v,z,y]:=MH (xs:=ps) x h;rw[ZG,z];unfold IX;rw[Q0,y];rfl
def Kc{ps:List P4}{i:Int}(y:0<=i)(x:i<(ps.9:Int)):IX ps i∈ps:=by let#[v,z,h]:=MH (xs:=ps) y x;unfold IX;rw[Q0,h];exact qa h
def Xd{ms:LS}{i:Int}(x:0<=i)(h:i<(ms.9:Int)):FB (ms.map Jz) i=jb (.str (uF ms i.toNat)):=by
 have:=YW (ms:=ms) (i:=i.toNat) ()
 rwa [show((i.toNat:Nat):Int)=i by omega]at this
def i8{i:Int}(x:0<=i)(h:i<19):FB (keys.map Jz) i=jb (.str (Br i)):=by let#[v,z,y]:=MH (xs:=keys) (i:=i) x (by show i<19;exact h);rw[ZG,z];unfold Br;rw[Q0,y];rfl
def Lb(n:Int):Nat:=[0,0,1,2,6,3].getD (n / 12 % 6).toNat 0
def Sj(n:Int):FB [j0 0,.int 0,.int 1,.int 2,.int 6,.int 3] (n / 12 % 6)=jb (.int (Lb n:Int)):=by unfold Lb;rcases(show n / 12 % 6=0∨n / 12 % 6=1∨n / 12 % 6=2∨n / 12 % 6=3∨n / 12 % 6=4∨n / 12 % 6=5 by omega) with e|e|e|e|e|e<;>rw[e]<;>rfl
def XV(n:Int):Lb n<=6:=by unfold Lb;rcases(show n / 12 % 6=0∨n / 12 % 6=1∨n / 12 % 6=2∨n / 12 % 6=3∨n / 12 % 6=4∨n / 12 % 6=5 by omega) with e|e|e|e|e|e<;>rw[e]<;>decide
def qI(n m:Int):Int:=(n / 100 % m+1+n / 10 ^ 4 % (m - 1)) % m
def yn(ns:LJ)(a:Int)(ps:List P4)(k:Nat):LS:=(QH k).map λ(i:Nat)=>(IX ps (pA ns (a+(i:Int)+1) % (ps.9:Int))).1
def N1(ns:LJ)(a:Int)(ps:List P4)(ms:LS):Ev×Int :=
 if ps.9=1∨pA ns (a+1) / 4 % 3=0 then(.see (bf (pA ns (a+1))) (IX ps (pA ns (a+1) / 100 % (ps.9:Int))).1 (uF ms (pA ns (a+1) / 1000 % (ms.9:Int)).toNat) (yj (pA ns (a+1))),a+1)
 else(.tell (bf (pA ns (a+1))) (IX ps (pA ns (a+1) / 100 % (ps.9:Int))).1 (IX ps (qI (pA ns (a+1)) (ps.9:Int))).1 (uF ms (pA ns (a+1) / 1000 % (ms.9:Int)).toNat) (yj (pA ns (a+1))) (yn ns (a+1) ps (Lb (pA ns (a+1)))),a+1+(Lb (pA ns (a+1)):Int))
noncomputable abbrev y6(ps:List P4):D:=.list (ps.map pD)
noncomputable abbrev E7(ms:LS):D:=.list (ms.map Jz)
def fJ:PSp where
 md:=[.shal,.chg]
 run:=λz Q _=>∃(y:LJ) (a:Int) (h:List P4) (x:LS),z=[lB y,O2 a,.d (y6 h),.d (E7 x)]/\tB y/\(0<=a/\a<=10000)/\0<h.9/\h.9<=10/\0<x.9/\x.9<=6/\Q (.d (eD (N1 y a h x).1)) [O2 (N1 y a h x).2]
def sD(ns:LJ)(a:Int)(ps:List P4)(ms:LS)(g e b k u z y x h:Option Sl):yA:=[jb (.bor (lB ns)),oW (O2 a),bD (y6 ps),bD (E7 ms),g,e,b,k,u,z,y,x,h]
noncomputable abbrev sI(n:Int):Option Sl:=bD (.int n)
noncomputable abbrev sS(z:Str):Option Sl:=bD (.str z)
section
variable{Ψ:PEv}{Z:PEnds}{r:PT}{ns:LJ}{a n:Int}{ps:List P4}{ms:LS}{d b w v u z y x h:Option Sl}
def Uw(g:Ψ.sp "_law_next"=XC)(e:tB ns)(i:0<=a)(j:a<=20000)(k:pF Ψ r Z (sD ns (a+1) ps ms (sI (pA ns (a+1))) b w v u z y x h)):pF Ψ (.seq (.set 4 (.call "_law_next" %[.var 0,.var 1|1])) r) Z (sD ns a ps ms d b w v u z y x h):=by delta sD;simp![↓KG (md:=[]) g rfl rfl];refine#[_,_,rfl,e,#[i,()],#[_,rfl,?_]];simp![↓xA];exact k
def Xw(k:pF Ψ r Z (sD ns a ps ms (sI n) (sI (bf n)) w v u z y x h)):pF Ψ (.seq (.set 5 (.idx (.lst %[.bin .Mod (.bin .FloorDiv (.var 4) (.int 7)) (.int 5),.bin .Mod (.bin .FloorDiv (.var 4) (.int 7)) (.int 60),.bin .Mod (.bin .FloorDiv (.var 4) (.int 7)) (.bin .Pow (.int 10) (.int 9)),.idx (.lst %[.int 0,.int 999999999|1]) (.bin .Mod (.bin .FloorDiv (.var 4) (.int 7)) (.int 2))|1]) (.bin .Mod (.var 4) (.int 4)))) r) Z (sD ns a ps ms (sI n) b w v u z y x h):=by delta sD;simp![Bo,gj];exact#[#[by decide,by decide,by decide],by decide,(),(),k]
def Kw(g:0<ps.9)(j:0<ms.9)(k:pF Ψ r Z (sD ns a ps ms (sI n) b (sI (ps.9:Int)) (sI (n / 100 % (ps.9:Int))) (sS (uF ms (n / 1000 % (ms.9:Int)).toNat)) z y x h)):pF Ψ (.seq (.set 6 (.bi .len %[.var 2|1]))
  (.seq (.set 7 (.bin .Mod (.bin .FloorDiv (.var 4) (.int 100)) (.var 6)))
  (.seq (.set 8 (.idx (.var 3) (.bin .Mod (.bin .FloorDiv (.var 4) (.int 1000)) (.bi .len %[.var 3|1])))) r))) Z (sD ns a ps ms (sI n) b w v u z y x h):=by
 have e:=Xd (ms:=ms) (i:=n / 1000 % (ms.9:Int)) (Qv _ ()) (Qi _ ());delta sD;simp![QG,e];exact#[(),(),k]
def Zw(g:Ψ.sp "_law_name"=UC)(e:Ψ.sp "_law_keywords"=OC)(k:pF Ψ r Z (sD ns a ps ms (sI n) b w v u (sS (yj n)) y x h)):pF Ψ (.seq (.set 9 (.idx (.lst %[.call "_law_name" %[.bin .Mod (.bin .FloorDiv (.var 4) (.bin .Pow (.int 10) (.int 6))) (.bin .Pow (.int 10) (.int 12)),.int 3|1],.idx (.call "_law_keywords" .anil) (.bin .Mod (.bin .FloorDiv (.var 4) (.bin .Pow (.int 10) (.int 6))) (.int 19))|1]) (.bi .int %[.cmp .Eq (.bin .Mod (.bin .FloorDiv (.var 4) (.int 20)) (.int 6)) (.int 0)|1]))) r) Z (sD ns a ps ms (sI n) b w v u z y x h):=by
 delta sD;simp![↓uA (md:=[]) g rfl rfl];refine#[#[by decide,by decide,by decide],by decide,by decide,#[by decide,by decide,by decide],by decide,?_];have m:(10:Int) ^ wk 12=1000000000000:=by decide
 refine PB (Qv _ (by decide)) (by rw[m];omega) (by decide) (by decide) ?_;have l:=i8 (i:=n / 10 ^ wk 6 % 19) () ();have j:FB [Jz (dC (n / 10 ^ wk 6 % 10 ^ wk 12) 3),.str (Br (n / 10 ^ wk 6 % 19))] (if decide (n / 20 % 6=0)=j3 then 1 else 0)=jb (.str (yj n)):=by unfold yj;by_cases c:n / 20 % 6=0;rw[n8 c,n8 (dT c)];rfl;rw[n7 c,n7 (by simpa using c)];rfl
 simp![↓uA (md:=[]) e rfl rfl,↓nJ,l,j];exact#[#[by decide,by decide,by decide],by decide,by decide,(),k]
end
def iI(h:(QH n).drop j=x::xs):x=j/\j<n/\xs=(QH n).drop (j+1):=by
 have hl:((QH n).drop j).9=xs.9+1:=by rw[h];rfl
 rw[wQ,qA]at hl;have y:j<n:=()
 have e:=List.drop_eq_getElem_cons (l:=QH n) (i:=j) (by simpa using y);rw[e]at h;let#[z,u]:=QAW h;rw[List.getElem_range]at z;exact#[z.symm,y,u.symm]
def pK(h:[]=(QH n).drop j)(x:j<=n):j=n:=by have:=pu We h;rw[wF,wQ,qA]at this;omega
section
variable{Ψ:PEv}{r:PT}{ns:LJ}{a n t:Int}{ps:List P4}{ms:LS}{f w:Str}{y z h:Option Sl}{Q:T->LT->Prop}
def Ii{n:Bool}:eE (.d (pD p)) n (.d (.int 0)) m R=R (.d (.str p.1)):=by delta pD;rw[Ei,zJ,AE]
def Pv{a:D}:RF [.d a,.d b,.d c,.d d,.d e]=.d (.tuple [a,b,c,d,e]):=rfl
def Ov{a f:D}:RF [.d a,.d b,.d c,.d d,.d e,.d f,.d g]=.d (.tuple [a,b,c,d,e,f,g]):=rfl
def Yw(b:0<ps.9)(x:ps.9=1∨n / 4 % 3=0->Q (.d (eD (.see t (IX ps (n / 100 % (ps.9:Int))).1 f w))) [O2 a])
  (k:¬ (ps.9=1∨n / 4 % 3=0)->pF Ψ r (eC Q) (sD ns a ps ms (sI n) (sI t) (sI (ps.9:Int)) (sI (n / 100 % (ps.9:Int))) (sS f) (sS w) y z h)) :
  pF Ψ (.seq (.ife (.or (.cmp .Eq (.var 6) (.int 1)) (.cmp .Eq (.bin .Mod (.bin .FloorDiv (.var 4) (.int 4)) (.int 3)) (.int 0))) %[.ret (.tup %[.str "see",.var 5,.idx (.idx (.var 2) (.var 7)) (.int 0),.var 8,.var 9|1])|2] .nil) r) (eC Q) (sD ns a ps ms (sI n) (sI t) (sI (ps.9:Int)) (sI (n / 100 % (ps.9:Int))) (sS f) (sS w) y z h):=by
 have u:=RQ (ps:=ps) (i:=n / 100 % (ps.9:Int)) (Qv _ ()) (Qi _ ());delta sD at k ⊢;simp![u,↓Ii,Pv,↓UY];refine OD (λc=>#[(),x (.inl (by have:=pz c;omega))]) λc=>OD (λd=>#[(),x (.inr (by simpa using d))]) λd=>k λe=>?_;rcases e with e|e;exact c (dT ());exact d (dT e)
def Jw(e:2<=ps.9){b u x:Option Sl}{Z:PEnds}(k:pF Ψ r Z (sD ns a ps ms (sI n) b (sI (ps.9:Int)) (sI (n / 100 % (ps.9:Int))) u x (sI (qI n (ps.9:Int))) (sI (Lb n:Int)) h)) :
  pF Ψ (.seq (.set 10 (.bin .Mod (.bin .Add (.bin .Add (.var 7) (.int 1)) (.bin .Mod (.bin .FloorDiv (.var 4) (.bin .Pow (.int 10) (.int 4))) (.bin .Sub (.var 6) (.int 1)))) (.var 6))) (.seq (.set 11 (.idx (.lst %[.int 0,.int 0,.int 1,.int 2,.int 6,.int 3|1]) (.bin .Mod (.bin .FloorDiv (.var 4) (.int 12)) (.int 6)))) r)) Z (sD ns a ps ms (sI n) b (sI (ps.9:Int)) (sI (n / 100 % (ps.9:Int))) u x y z h):=by
 delta sD;simp![Sj];exact#[#[by decide,by decide,by decide],by decide,by decide,(),(),(),k]
def iw(Y:Ψ.sp "_law_next"=XC)(s:tB ns)(C:0<=a)(B:a<=20000)(K:0<ps.9){c:Nat}(hc:c<=6){m l j g b:Option Sl}{Z:PEnds}
  (k:pF Ψ r Z (sD ns (a+(c:Int)) ps ms m l (sI (ps.9:Int)) j g b y (sI (c:Int)) (bD (.list ((yn ns a ps c).map Jz))))) :
  pF Ψ (.seq (.set 12 (.eff (.comp [] ["_law_j"] (.nm 0) .rng1 %[.var 11|1] .nop (.idx (.idx (.var 3) (.bin .Mod (.call "_law_next" %[.var 1,.var 2|1]) (.var 7))) (.int 0))))) r) Z (sD ns a ps ms m l (sI (ps.9:Int)) j g b y (sI (c:Int)) h):=by
 delta sD;simp![Ci];refine#[rfl,rfl,rfl,(),(),?_];rw[show((c:Int)).toNat=c by omega];refine MK (λ(i:Nat)=>T.d (.int (i:Int))) (λp u o=>∃i:Nat,i<=c/\p=(QH c).drop i/\u=(yn ns a ps i).map Jz/\o=sD ns (a+(i:Int)) ps ms m l (sI (ps.9:Int)) j g b y (sI (c:Int)) h) ?_ ?_ _ _ _ #[0,(),rfl,rfl,by rw[show a+((0:Nat):Int)=a by omega];rfl];rintro u o ⟨i,q,e,rfl,rfl⟩;have:=pK e q;subst this;refine#[?_,k];unfold yn;rw[QG,QG,qA];omega;rintro x p u o N ⟨i,q,e,rfl,rfl⟩ X;let#[rfl,A,rfl]:=iI e.symm;have W:=RQ (ps:=ps) (i:=pA ns (a+(x:Int)+1) % (ps.9:Int)) (Qv _ ()) (Qi _ ());show bB Ψ _ (λ_=>False) (bD (.int (x:Int))::sD ns (a+(x:Int)) ps ms m l (sI (ps.9:Int)) j g b y (sI (c:Int)) h) _;delta sD;simp![↓KG (md:=[]) Y rfl rfl];refine#[_,_,rfl,s,#[(),()],#[_,rfl,?_]];simp![W,↓Ii];refine#[(),?_,X _ _ #[x+1,(),rfl,?_,?_]];unfold yn;rw[QG,QG,qA];omega;unfold yn;rw[QAi,Q5,Q5];rfl;rw[show a+((x+1:Nat):Int)=a+(x:Int)+1 by omega];rfl
def Ir(q:0<ps.9){b:LS}{i j:Int}(m:0<=i)(l:i<(ps.9:Int))(g:0<=j)(e:j<(ps.9:Int)){u x z:Option Sl}(k:Q (.d (eD (.tell t (IX ps i).1 (IX ps j).1 f w b))) [O2 a]) :
  pF Ψ %[.ret (.tup %[.str "tell",.var 5,.idx (.idx (.var 2) (.var 7)) (.int 0),.idx (.idx (.var 2) (.var 10)) (.int 0),.var 8,.var 9,.bi .tuple %[.var 12|1]|1])|2] (eC Q) (sD ns a ps ms u (sI t) x (sI i) (sS f) (sS w) (sI j) z (bD (.list (b.map Jz)))):=by
 have p:=RQ m l;have o:=RQ g e;delta sD;simp! -implicitDefEqProofs[p,o,↓Ii,Ov,↓UY];exact#[(),k]
end
def Z7{Ψ:PEv}(z:Ψ.sp "_law_next"=XC)(j:Ψ.sp "_law_keywords"=OC)(i:Ψ.sp "_law_name"=UC):yL Ψ gQ fJ pQ LM:=by
 rintro _ Q _ ⟨k,a,x,b,rfl,y,⟨l,o⟩,h,m,g,n,q⟩;refine OK (sD k a x b js js js js js js js js js) ?_;unfold N1 at q;refine Uw z y l () (Xw (Kw h g (Zw i j (Yw h (λc=>?_) λc=>?_))));rw[n8 c]at q;exact q;rw[n7 c]at q;have u:2<=x.length:=by by_cases e:x.9=1;exact n9 (.inl e) c;omega
 refine Jw u (iw z y () () h (XV _) (Ir h (Qv _ ()) (Qi _ ()) (Qv _ ()) (Qi _ ()) q))
def mo(m:Int):Int:=if m / 10 ^ 4 % 3=0 then 0 else if m / 10 ^ 4 % 3=1 then m / 100 % 100 else 99
def Lj(m:Int):FB [j0 0,.int (m / 100 % 100),.int 99] (m / 10 ^ wk 4 % 3)=jb (.int (mo m)):=by unfold mo;show FB _ (m / 10 ^ 4 % 3)=_;rcases(show m / 10 ^ 4 % 3=0∨m / 10 ^ 4 % 3=1∨m / 10 ^ 4 % 3=2 by omega) with e|e|e;rw[e,n8 rfl];rfl;rw[e,n7 (by decide),n8 rfl];rfl;rw[e,n7 (by decide),n7 (by decide)];rfl
def p4(s m:Int)(j:Nat):P4:=(dC s (j:Int),m % 100,mo m,1+m / 10 ^ 5 % 4)
def mL(ns:LJ)(s:Int)(c:Nat):List P4:=(QH c).map λ(j:Nat)=>p4 s (pA ns (1+(j:Int)+1)) j
def mI(n:Int)(j:Nat):Int:=if(n / 60+(j:Int)) % 2=0 then(j:Int) else 50+(j:Int)
def Yr(n:Int)(j:Nat):FB [j0 (j:Int),.int (50+(j:Int))] ((n / 60+(j:Int)) % 2)=jb (.int (mI n j)):=by unfold mI;rcases(show(n / 60+(j:Int)) % 2=0∨(n / 60+(j:Int)) % 2=1 by omega) with e|e;rw[e,n8 rfl];rfl;rw[e,n7 (by decide)];rfl
def CJ(s n:Int):LS:=(QH (1+n / 10 % 6).toNat).map λ(j:Nat)=>dC s (mI n j)
def PP(ns:LJ)(a:Int)(ps:List P4)(ms:LS):Nat->List Ev×Int
 |0=>([],a)|k+1=>((PP ns a ps ms k).1++[(N1 ns (PP ns a ps ms k).2 ps ms).1],(N1 ns (PP ns a ps ms k).2 ps ms).2)
def MF(ns:LJ):Int:=pA ns 0 % 10 ^ 12
def nW(ns:LJ):Int:=pA ns (0+1)
def cW(ns:LJ):Nat:=(1+nW ns % 10).toNat
def kW(ns:LJ):Int:=if nW ns / 100 % 8=1 then 80 else nW ns / 1000 % 26
def CH(ns:LJ):List P4:=mL ns (MF ns) (cW ns)
def KB(ns:LJ):LS:=CJ (MF ns) (nW ns)
def vK(ns:LJ):PA:=Y3 ns (KB ns) (1+(cW ns:Int))
def xM(ns:LJ):List Ev×Int:=PP ns (vK ns).2 (CH ns) (KB ns) (kW ns).toNat
def E3(ns:LJ):D:=.tuple [y6 (CH ns),E7 (KB ns),.list ((vK ns).1.map aD),.list ((xM ns).1.map eD)]
def JM:PSp where
 md:=[.shal]
 run:=λx Q _=>∃(h:LJ),x=[lB h]/\tB h/\Q (.d (E3 h)) []
def wS(ns:LJ)(g e b a k u z y x h:Option Sl):yA:=[jb (.bor (lB ns)),g,e,b,a,k,u,z,y,x,h]
noncomputable abbrev sA(a:Int):Option Sl:=jb (.own (O2 a))
def BQ(ns:LJ):0<=MF ns/\MF ns<1000000000000:=by
 unfold MF;have e:(10:Int) ^ 12=1000000000000:=by decide
 rw[e];omega
def Im(ns:LJ):1<=cW ns/\cW ns<=10:=by unfold cW;omega
def dG(ns:LJ)(s:Int)(c:Nat):(mL ns s c).9=c:=by unfold mL;rw[QG,qA]
def BJ(s n:Int):1<=(CJ s n).9/\(CJ s n).9<=6:=by unfold CJ;rw[QG,qA];omega
section
variable{Ψ:PEv}{Z:PEnds}{r:PT}{ns:LJ}{a n s:Int}{o m g p u z f v w y:Option Sl}
def Py(k:pF Ψ r Z (wS ns (sA 0) m g p u z f v w y)):pF Ψ (.seq (.own 1 (.lst %[.int 0|1])) r) Z (wS ns o m g p u z f v w y):=by delta wS;simp![↓xA];exact#[(),k]
def Oy(x:Ψ.sp "_law_draw"=mE)(h:tB ns)(k:pF Ψ r Z (wS ns o (sI (MF ns)) g p u z f v w y)):pF Ψ (.seq (.set 2 (.bin .Mod (.call "_law_draw" %[.var 0,.int 0|1]) (.bin .Pow (.int 10) (.int 12)))) r) Z (wS ns o m g p u z f v w y):=by delta wS;simp![↓uA (md:=[.shal]) x rfl rfl];refine#[_,_,rfl,h,#[by decide,by decide],?_];simp![↓xA];exact#[#[by decide,by decide,by decide],by decide,k]
def Ny(x:Ψ.sp "_law_next"=XC)(h:tB ns)(k:pF Ψ r Z (wS ns (sA 1) m (sI (nW ns)) (jb (.own (.lst []))) u z f v w y)):pF Ψ (.seq (.set 3 (.call "_law_next" %[.var 0,.var 1|1])) (.seq (.own 4 (.lst .anil)) r)) Z (wS ns (sA 0) m g p u z f v w y):=by delta wS;simp![↓KG (md:=[]) x rfl rfl];refine#[_,_,rfl,h,#[by decide,by decide],#[_,rfl,?_]];simp![↓xA];exact#[(),k]
noncomputable abbrev pT(ps:List P4):T:=.lst ((ps.map pD).map T.d)
def Mu(e:Ψ.sp "_law_next"=XC)(b:Ψ.sp "_law_name"=UC)(x:tB ns){ps:List P4}{j:Nat}(h:0<=s)(X:s<1000000000000)(q:0<=a)(K:a<=1000)(W:j<=600)(Y:ps.9<=600)(k:∀z,Z.nx (wS ns (sA (a+1)) (sI s) g (jb (.own (pT (ps++[p4 s (pA ns (a+1)) j])))) (sI (j:Int)) z f v w y)):pF Ψ SD Z (wS ns (sA a) (sI s) g (jb (.own (pT ps))) (sI (j:Int)) z f v w y):=by
 have l:=Lj (pA ns (a+1));delta wS at k ⊢;delta SD;simp![↓KG (md:=[]) e rfl rfl];refine#[_,_,rfl,x,#[q,()],#[_,rfl,?_]];simp! -implicitDefEqProofs[↓uA (md:=[]) b rfl rfl];refine PB h () () () ?_;simp![l];have k:=k (sI (pA ns (a+1)));have i:pT (ps++[p4 s (pA ns (a+1)) j])=.lst ((ps.map pD).map T.d++[.d (pD (p4 s (pA ns (a+1)) j))]):=by simp
 rw[i]at k;exact#[(),#[by decide,by decide,by decide],by decide,by decide,#[by decide,by decide,by decide],by decide,by decide,(),by simp only[QG];omega,k]
def My(K:Ψ.sp "_law_next"=XC)(W:Ψ.sp "_law_name"=UC)(X:tB ns)(q:0<=s)(j:s<1000000000000)(k:∀u z,pF Ψ r Z (wS ns (sA (1+((1+n % 10).toNat:Int))) (sI s) (sI n) (jb (.own (pT (mL ns s (1+n % 10).toNat)))) u z f v w y)):pF Ψ (.seq (.for_ (.nm 5) .rng1 %[.bin .Add (.int 1) (.bin .Mod (.var 3) (.int 10))|1] SD) r) Z (wS ns (sA 1) (sI s) (sI n) (jb (.own (.lst []))) u z f v w y):=by delta wS;simp![↓xA];refine#[(),(),?_];refine FC (λ(i:Nat)=>T.d (.int (i:Int))) (λl h=>∃(i:Nat) (u z:Option Sl),i<=(1+n % 10).toNat/\l=(QH (1+n % 10).toNat).drop i/\h=wS ns (sA (1+(i:Int))) (sI s) (sI n) (jb (.own (pT (mL ns s i)))) u z f v w y) ?_ ?_ _ _ #[0,u,z,(),rfl,rfl];rintro h ⟨i,u,z,b,e,rfl⟩;have:=pK e b;subst this;exact k _ _;rintro x A h N Y ⟨i,u,z,b,e,rfl⟩;let#[rfl,B,rfl]:=iI e.symm;show pF Ψ SD _ (wS ns (sA (1+(x:Int))) (sI s) (sI n) (jb (.own (pT (mL ns s x)))) (sI (x:Int)) z f v w y);refine Mu K W X q j () () () (by rw[dG];omega) λz=>Y _ #[x+1,sI (x:Int),z,(),rfl,?_];rw[show 1+((x+1:Nat):Int)=1+(x:Int)+1 by omega];unfold mL;rw[QAi,Q5];rfl
def Ly(l:Ψ.sp "_law_name"=UC){ps:List P4}(b:0<=s)(Y:s<1000000000000)(k:pF Ψ r Z (wS ns o (sI s) (sI n) (bD (y6 ps)) u z (bD (E7 (CJ s n))) v w y)):pF Ψ (.seq (.frz [4] (.set 7 (.comp [Kz,Kz,Kz,Kz,Kz,j3] ["_law_j"] (.nm 0) .rng1 %[.bin .Add (.int 1) (.bin .Mod (.bin .FloorDiv (.var 3) (.int 10)) (.int 6))|1] .nop (.call "_law_name" %[.var 3,.idx (.lst %[.var 0,.bin .Add (.int 50) (.var 0)|1]) (.bin .Mod (.bin .Add (.bin .FloorDiv (.var 4) (.int 60)) (.var 0)) (.int 2))|1])))) r) Z (wS ns o (sI s) (sI n) (oW (pT ps)) u z f v w y):=by
 delta wS;refine Eq.mpr Ja ?_;have X:frzAt [4] [jb (.bor (lB ns)),o,sI s,sI n,oW (pT ps),u,z,f,v,w,y]=[jb (.bor (lB ns)),o,sI s,sI n,bD (y6 ps),u,z,f,v,w,y]:=by
  have:(pT ps).er=y6 ps:=by simp only[T.er,EA]
  rw[<- this];rfl
 rw[X];simp![↓xA];refine#[(),(),?_];refine UB (λ(j:Nat)=>T.d (.int (j:Int))) (λ(j:Nat)=>T.d (.str (dC s (mI n j)))) (QH (1+n / 10 % 6).toNat) [] _ (λj x R i=>?_) (by simp;omega) ?_;have x:=Qf.mp x;have q:=Yr n j;have h:0<=mI n j/\mI n j<676:=by unfold mI;split<;>omega
 simp![q,↓uA (md:=[]) l rfl rfl];exact#[(),PB b () h.1 h.2 #[rfl,i]];have e:(QH (1+n / 10 % 6).toNat).map (λ(j:Nat)=>T.d (Jz (dC s (mI n j))))=((CJ s n).map Jz).map T.d:=by simp[CJ]
 rw[Qu,e,jo];exact k
def Hy(b:Ψ.sp "_law_against"=xG)(x:tB ns){ms:LS}(i:0<=a)(e:a<=100)(h:ms.9<=6)(k:pF Ψ r Z (wS ns (sA (Y3 ns ms a).2) m g p u z (bD (E7 ms)) (bD (.list ((Y3 ns ms a).1.map aD))) w y)):pF Ψ (.seq (.set 8 (.call "_law_against" %[.var 0,.var 1,.var 7|1])) r) Z (wS ns (sA a) m g p u z (bD (E7 ms)) v w y):=by delta wS;simp![↓KG (md:=[.shal]) b rfl rfl,↓Lw];refine#[_,_,_,rfl,x,#[i,e],h,#[_,rfl,?_]];simp![↓xA];exact k
def Gy(k:pF Ψ r Z (wS ns o m (sI n) p u z f v (sI (if n / 100 % 8=1 then 80 else n / 1000 % 26)) y)):pF Ψ (.seq (.set 9 (.bin .Mod (.bin .FloorDiv (.var 3) (.int 1000)) (.int 26))) (.seq (.ife (.cmp .Eq (.bin .Mod (.bin .FloorDiv (.var 3) (.int 100)) (.int 8)) (.int 1)) %[.set 9 (.int 80)|2] .nil) r)) Z (wS ns o m (sI n) p u z f v w y):=by delta wS at k ⊢;simp![↓xA];by_cases c:n / 100 % 8=1;rw[n8 c]at k;rw[n8 (dT c)];exact k;rw[n7 c]at k;rw[n7 (by simpa using c)];exact k
def Js{a:Int}:a+1<=(N1 ns a ps ms).2/\(N1 ns a ps ms).2<=a+7:=by
 have:=XV (pA ns (a+1));unfold N1;split;exact#[by show a+1<=a+1;omega,by show a+1<=a+7;omega];refine#[?_,?_]
 ·show a+1<=a+1+(Lb (pA ns (a+1)):Int)
  omega
 show a+1+(Lb (pA ns (a+1)):Int)<=a+7;omega
def fg{a:Int}:∀k:Nat,a<=(PP ns a ps ms k).2/\(PP ns a ps ms k).2<=a+7 * (k:Int)
 |0=>#[Int.le_refl _,by show a<=_;omega]|k+1=>by have h:=fg (a:=a) (ps:=ps) (ms:=ms) k;have x:=Js (ns:=ns) (a:=(PP ns a ps ms k).2) (ps:=ps) (ms:=ms);refine#[?_,?_];show a<=(N1 ns (PP ns a ps ms k).2 ps ms).2;omega;show(N1 ns (PP ns a ps ms k).2 ps ms).2<=_;omega
def SJ{a:Int}:∀k:Nat,(PP ns a ps ms k).1.length=k
 |0=>rfl|k+1=>by show((PP ns a ps ms k).1++_).9=_;rw[QJ,SJ k];rfl
def Fy(B:Ψ.sp "_law_event"=fJ)(K:tB ns){ps:List P4}{ms:LS}{c:Int}(F:0<=c)(E:c<=80)(I:0<=a)(G:a<=200)(X:0<ps.9)(q:ps.9<=10)(W:0<ms.9)(Y:ms.9<=6)(k:pF Ψ r Z (wS ns (sA (PP ns a ps ms c.toNat).2) m g (bD (y6 ps)) u z (bD (E7 ms)) v (sI c) (bD (.list ((PP ns a ps ms c.toNat).1.map eD))))):pF Ψ (.seq (.set 10 (.eff (.comp [] ["_law_k"] (.nm 0) .rng1 %[.var 9|1] .nop (.call "_law_event" %[.var 1,.var 2,.var 5,.var 8|1])))) r) Z (wS ns (sA a) m g (bD (y6 ps)) u z (bD (E7 ms)) v (sI c) y):=by delta wS;simp![Ci];refine#[rfl,rfl,rfl,(),(),?_];refine MK (λ(i:Nat)=>T.d (.int (i:Int))) (λj h b=>∃i:Nat,i<=c.toNat/\j=(QH c.toNat).drop i/\h=(PP ns a ps ms i).1.map eD/\b=wS ns (sA (PP ns a ps ms i).2) m g (bD (y6 ps)) u z (bD (E7 ms)) v (sI c) y) ?_ ?_ _ _ _ #[0,(),rfl,rfl,rfl];rintro h b ⟨i,l,e,rfl,rfl⟩;have:=pK e l;subst this;refine#[?_,k];rw[QG,SJ];omega;rintro x j h b N ⟨i,l,e,rfl,rfl⟩ A;let#[rfl,C,rfl]:=iI e.symm;have hl:=fg (ns:=ns) (a:=a) (ps:=ps) (ms:=ms) x;show bB Ψ _ (λ_=>False) (bD (.int (x:Int))::wS ns (sA (PP ns a ps ms x).2) m g (bD (y6 ps)) u z (bD (E7 ms)) v (sI c) y) _;delta wS;simp![↓KG (md:=[]) B rfl rfl];refine#[_,_,_,_,rfl,K,#[(),()],X,q,W,Y,#[_,rfl,?_,A _ _ #[x+1,(),rfl,?_,rfl]]];rw[QG,SJ];omega;show _=((PP ns a ps ms x).1++_).map eD;rw[Q5];rfl
def Rv{a:D}:RF [.d a,.d b,.d c,.d d]=.d (.tuple [a,b,c,d]):=rfl
def Dy{Q:T->LT->Prop}{e b x h:D}(k:Q (.d (.tuple [e,b,x,h])) []):pF Ψ %[.ret (.tup %[.var 4,.var 7,.var 8,.var 10|1])|2] (eZ Q) (wS ns o m g (bD e) u z (bD b) (bD x) w (bD h)):=by delta wS;simp![Rv];exact#[(),k]
end
def gt(ns:LJ)(ms:LS):∀(st:PA) (j:Nat),(BU ns ms st j).2=st.2+(j:Int):=by
 intro st j;unfold BU;have:∀(l:LN) (st:PA),(l.foldl (cS ns ms j) st).2=st.2+(l.9:Int):=by
  intro l;induction l with|nil=>intro st;show st.2=_;simp|cons x l h=>intro st;rw[WK,h,RY,QM];omega
 rw[this,qA]
def ut(ns:LJ)(ms:LS)(a:Int)(k:ms.9<=6):a<=(Y3 ns ms a).2/\(Y3 ns ms a).2<=a+36:=by
 have:∀(l:LN) (st:PA),(∀j∈l,j<=6)->st.2<=(l.foldl (BU ns ms) st).2/\(l.foldl (BU ns ms) st).2<=st.2+6 * (l.9:Int):=by
  intro l;induction l with|nil=>intro st _;exact#[Int.le_refl _,by show st.2<=_;simp]|cons x l z=>intro st h;have u:=z (BU ns ms st x) λj y=>h j (QI _ y);have b:=h x QL;rw[gt]at u;rw[WK,QM];omega
 have h:=this (QH ms.9) ([],a) λj y=>by have:=Qf.mp y;omega
 rw[qA]at h;unfold Y3;have e:(([],a):PA).2=a:=rfl;rw[e]at h;omega
def i7{Ψ:PEv}(l:Ψ.sp "_law_draw"=mE)(b:Ψ.sp "_law_next"=XC)(a:Ψ.sp "_law_name"=UC)(j:Ψ.sp "_law_against"=xG)(i:Ψ.sp "_law_event"=fJ):yL Ψ fQ JM nQ GM:=by rintro _ Q _ ⟨h,rfl,x,q⟩;let#[k,u]:=BQ h;let#[n,z]:=Im h;let#[g,y]:=BJ (MF h) (nW h);have r:(CH h).9=cW h:=dG h (MF h) (cW h);let#[e,m]:=ut h (KB h) (1+(cW h:Int)) y;refine rA (wS h js js js js js js js js js js) ?_;refine Py (Oy l x (Ny b x (My b a x k u λp o=>Ly a k u (Hy j x () (by unfold cW at z;omega) y (Gy (Fy i x ?_ ?_ (by unfold cW at e;unfold KB at e;omega) ?_ ?_ ?_ g y (Dy q)))))));split<;>omega;split<;>omega;unfold cW KB at m;unfold cW at z;omega;rw[dG];unfold cW at n;omega;rw[dG];unfold cW at z;omega
def KW:∀w∈keys,rB w=true:=by decide +kernel
def FitsL.app(b:FitsL z x)(k:FitsL y h):FitsL (z++y) (x++h):=by
 induction b with|nil=>exact k|cons a _ u=>exact .cons a u
def aF{r f k:Int}(a:KA x=j3)(y:0<=r)(h:r<=99)(e:0<=f)(b:f<=99)(u:1<=k)(z:k<=4):Good "person" [.str x,.int r,.int f,.int k] :=
 #[dE (by decide +kernel),#[["name","rank","floor","needs"],(show TC (QA "person") 5=_ by decide +kernel),.cons (EB a) (.cons (U1 y h) (.cons (NW e b) (.cons (MW u z) .nil)))],.inl (by kernel_rfl)]
def eF(h:KA x=j3):Good "matter" [.str x] :=
 #[dE (by decide +kernel),#[["name"],(show TC (QA "matter") 2=_ by decide +kernel),.cons (EB h) .nil],.inl (by kernel_rfl)]
def iE(z:KA x=j3)(h:KA y=j3)(n:x≠y):Good "against" [.str x,.str y] :=
 #[dE (by decide +kernel),#[["name","name"],(show TC (QA "against") 3=_ by decide +kernel),.cons (EB z) (.cons (EB h) .nil)],.inr #[1,2,x,y,by kernel_rfl,rfl,rfl,n]]
def KN{t:Int}(z:0<=t)(h:t<=999999999)(k:KA x=j3)(u:KA y=j3)(a:rB w=j3):Good "see" [.int t,.str x,.str y,.str w] :=
 #[dE (by decide +kernel),#[["time","name","name","word"],(show TC (QA "see") 5=_ by decide +kernel),.cons (NP z h) (.cons (EB k) (.cons (EB u) (.cons (MP a) .nil)))],.inl (by kernel_rfl)]
def OP{t:Int}(u:0<=t)(h:t<=999999999)(b:KA x=j3)(a:KA y=j3)(k:KA z=j3)(e:rB w=j3):FitsL kC [.int t,.str x,.str y,.str z,.str w] :=
 .cons (NP u h) (.cons (EB b) (.cons (EB a) (.cons (EB k) (.cons (MP e) .nil))))
def Y1{t:Int}(u:0<=t)(h:t<=999999999)(b:KA x=j3)(a:KA y=j3)(k:KA z=j3)(e:rB w=j3)(n:x≠y):Good "tell" [.int t,.str x,.str y,.str z,.str w] :=
 #[dE (by decide +kernel),#[kC,(show TC (QA "tell") 6=_ by decide +kernel),OP u h b a k e],.inr #[2,3,x,y,by kernel_rfl,rfl,rfl,n]]
def GN:∀(x:LS),(∀q∈x,KA q=j3)->FitsL (QK x.9 (QA "name")) (x.map Jz)
 |[],_=>.nil|q::x,h=>.cons (EB (h q QL)) (GN x λr y=>h r (QI _ y))
def YR{t:Int}{x y z w:Str}{h:LS}(k:0<=t)(u:t<=999999999)(g:KA x=j3)(b:KA y=j3)(a:KA z=j3)(i:rB w=j3)(n:x≠y)(l:∀q∈h,KA q=j3)(o:1<=h.9)(m:h.9<=6) :
  Good "tell" ([.int t,.str x,.str y,.str z,.str w]++.str "by"::h.map Jz):=by
 refine#[dE (by decide +kernel),#[kC++zh h.9,?_,FitsL.app (OP k u g b a i) (.cons ye (GN h l))],.inr #[2,3,x,y,by kernel_rfl,UA (j:=2) rfl,UA (j:=3) rfl,n]];have e:([j0 t,.str x,.str y,.str z,.str w]++.str "by"::h.map Jz).9+1=h.9+7:=by simp
 rw[e];unfold TC;rw[n8 (by decide),n8 #[(),()]];rfl
def Good.txts(g:Good h vs):∀d∈(Jz h::vs),VC (gI d)/\((∃z,d=.str z)∨∃n:Int,d=.int n/\0<=n/\n<=999999999):=by let#[f,_,x]:=g.fm;intro d hd;rcases QO.mp hd with rfl|hd;exact#[g.hd,.inl #[h,rfl]];exact x.all d hd
def wR(ps:List P4)(ms:LS)(x:P3)(h:List Ev):List Rw:=ps.map .per++(ms.map .mat++(x.map (λp=>.aga p.1 p.2)++h.map .ev))
section
variable(ps:List P4)(ms:LS)(x:P3)(h:List Ev)(l m:List Rw)
def RM:OA (l++m)=OA l++OA m:=by unfold OA;rw[qg]
def mG:GA (l++m)=GA l++GA m:=by unfold GA;rw[qg]
def bS:HA (l++m)=HA l++HA m:=by unfold HA;rw[qg]
def MN:EF (l++m)=EF l++EF m:=by unfold EF;rw[qg]
def MQ:OA (ps.map .per)=ps:=by unfold OA;rw[Qt];exact Wj
def t6:OA (ms.map .mat)=[]:=by unfold OA;rw[Qt];exact Qh.mpr λ_ _=>rfl
def i6:OA (x.map λp=>.aga p.1 p.2)=[]:=by unfold OA;rw[Qt];exact Qh.mpr λ_ _=>rfl
def Y6:OA (h.map .ev)=[]:=by unfold OA;rw[Qt];exact Qh.mpr λ_ _=>rfl
def ZK:GA (ps.map .per)=[]:=by unfold GA;rw[Qt];exact Qh.mpr λ_ _=>rfl
def mN:GA (ms.map .mat)=ms:=by unfold GA;rw[Qt];exact Wj
def aW:GA (x.map λp=>.aga p.1 p.2)=[]:=by unfold GA;rw[Qt];exact Qh.mpr λ_ _=>rfl
def y8:GA (h.map .ev)=[]:=by unfold GA;rw[Qt];exact Qh.mpr λ_ _=>rfl
def uS:HA (ps.map .per)=[]:=by unfold HA;rw[Qt];exact Qh.mpr λ_ _=>rfl
def gX:HA (ms.map .mat)=[]:=by unfold HA;rw[Qt];exact Qh.mpr λ_ _=>rfl
def E9:HA (x.map λp=>.aga p.1 p.2)=x:=by unfold HA;rw[Qt];exact Wj
def Ln:HA (h.map .ev)=[]:=by unfold HA;rw[Qt];exact Qh.mpr λ_ _=>rfl
def kU:EF (ps.map .per)=[]:=by unfold EF;rw[Qt];exact Qh.mpr λ_ _=>rfl
def VY:EF (ms.map .mat)=[]:=by unfold EF;rw[Qt];exact Qh.mpr λ_ _=>rfl
def v9:EF (x.map λp=>.aga p.1 p.2)=[]:=by unfold EF;rw[Qt];exact Qh.mpr λ_ _=>rfl
def dg:EF (h.map .ev)=h:=by unfold EF;rw[Qt];exact Wj
def y4:OA (wR ps ms x h)=ps:=by unfold wR;simp only[RM,MQ,t6,i6,Y6,Qe]
def xV:GA (wR ps ms x h)=ms:=by unfold wR;simp only[mG,ZK,mN,aW,y8,Qe,Qu]
def t4:HA (wR ps ms x h)=x:=by unfold wR;simp only[bS,uS,gX,E9,Ln,Qe,Qu]
def kj:EF (wR ps ms x h)=h:=by unfold wR;simp only[MN,kU,VY,v9,dg,Qu]
def zj:G3 (wR ps ms x h)=wR ps ms x h:=by unfold G3;rw[y4,xV,t4,kj];rfl
def Ro:W4 (wR ps ms x h)=.tuple [y6 ps,E7 ms,.list (x.map aD),.list (h.map eD)]:=by unfold W4;rw[y4,xV,t4,kj]
end
def oM(h:gF l)(k:∀a r b,m=a++r::b->RowOk (l++a) r):gF (l++m):=by
 intro a r b e;rcases List.append_eq_append_iff.mp e with⟨u,x,z⟩| ⟨bs,x,z⟩
 rw[x];exact k u r b z;cases bs with
 |nil =>
  rw[Qe]at x;rw[<- x];have:=k [] r b z.symm
  rwa [Qe]at this
 |cons y bs=>let#[rfl,_]:=QAW z;exact h a r bs x
def FH{α u:Type}{f:α->u}{l:List α}{a b:List u}{r:u}(h:l.map f=a++r::b):∃x y z,l=x++y::z/\a=x.map f/\r=f y:=by let#[x,w,j,i,g]:=QBc.mp h;let#[y,z,e,k,m]:=List.map_eq_cons_iff.mp g;exact#[x,y,z,by rw[j,e],i.symm,k.symm]
structure PerOk(p:P4):Prop where
 n:KA p.1=j3
 r0:0<=p.2.1
 r1:p.2.1<=99
 f0:0<=p.2.2.1
 f1:p.2.2.1<=99
 k0:1<=p.2.2.2
 k1:p.2.2.2<=4
def zo(ps:List P4)(ms:LS):Ev->Prop
 | .see t p m w=>(0<=t/\t<=999999999)/\p∈ps.map qk/\m∈ms/\rB w=j3|.tell t p q m w b=>(0<=t/\t<=999999999)/\p∈ps.map qk/\q∈ps.map qk/\m∈ms/\rB w=j3/\p≠q/\(∀x∈b,x∈ps.map qk)/\b.9<=6
def JX(J:∀p∈ps,PerOk p)(np:(ps.map qk).Nodup)(M:ps.9<=10)(l:∀m∈ms,KA m=j3)(nm:ms.Nodup)(N:ms.9<=6)(S:∀p∈i,p.1∈ms/\p.2∈ms/\p.1≠p.2)(I:i.Pairwise λp q=>p≠q/\p≠(q.2,q.1))(P:i.9<=15)(R:∀e∈B,zo ps ms e)(O:B.9<=80):gF (wR ps ms i B):=by
 have j:∀x∈ps.map qk,KA x=true:=λx k=>by let#[p,K,rfl]:=Qa.mp k;exact(J p K).n
 unfold wR;rw[<- Q9,<- Q9];refine oM (oM (oM (λa r b e=>?_) λa r b e=>?_) λa r b e=>?_) λa r b e=>?_;let#[x,p,z,rfl,rfl,rfl]:=FH e;have o:=J p (by simp);refine#[aF o.n o.r0 o.r1 o.f0 o.f1 o.k0 o.k1,by show 4<=12;decide,ZK _,uS _,kU _,?_,?_];unfold cF;rw[MQ];rw[Q5,QR,W7]at np;intro k;exact np.2.2 _ k _ QL rfl;rw[MQ];rw[QJ,QM]at M;omega;let#[x,p,z,rfl,rfl,rfl]:=FH e;have o:=l p (by simp);refine#[eF o,by show 1<=12;decide,by rw[bS,uS,gX];rfl,by rw[MN,kU,VY];rfl,?_,?_];rw[mG,ZK,mN,Qu];rw[W7]at nm;intro k;exact nm.2.2 _ k _ QL rfl;rw[mG,ZK,mN,Qu];rw[QJ,QM]at N;omega;let#[x,#[p,q],z,rfl,rfl,rfl]:=FH e;let#[u,h,g]:=S (p,q) (by simp);have A:HA (ps.map Rw.per++ms.map Rw.mat++x.map λp=>.aga p.1 p.2)=x:=by rw[bS,bS,uS,gX,E9];rfl
 have s:GA (ps.map Rw.per++ms.map Rw.mat++x.map λp=>.aga p.1 p.2)=ms:=by rw[mG,mG,ZK,mN,aW,Qu,Qe]
 have W:EF (ps.map Rw.per++ms.map Rw.mat++x.map λp=>.aga p.1 p.2)=[]:=by rw[MN,MN,kU,VY,v9];rfl
 refine#[iE (l _ u) (l _ h) g,by show 2<=12;decide,W,?_,?_,by rw[s];exact u,by rw[s];exact h,?_];rw[A];intro k;exact((QBu.mp I).2.2 _ k _ QL).1 rfl;rw[A];intro k;exact((QBu.mp I).2.2 _ k _ QL).2 rfl;rw[A];rw[QJ,QM]at P;omega;let#[x,v,z,rfl,rfl,rfl]:=FH e;have o:=R v (by simp);have Z:cF (ps.map Rw.per++ms.map Rw.mat++(i.map λp=>.aga p.1 p.2)++x.map Rw.ev)=ps.map qk:=by unfold cF;rw[RM,RM,RM,MQ,t6,i6,Y6];simp
 have s:GA (ps.map Rw.per++ms.map Rw.mat++(i.map λp=>.aga p.1 p.2)++x.map Rw.ev)=ms:=by rw[mG,mG,mG,ZK,mN,aW,y8];simp
 have W:EF (ps.map Rw.per++ms.map Rw.mat++(i.map λp=>.aga p.1 p.2)++x.map Rw.ev)=x:=by rw[MN,MN,MN,kU,VY,v9,dg];simp
 have L:x.9<80:=by rw[QJ,QM]at O;omega
 cases v with
 |see t p m w=>let#[#[Y,X],u,h,g]:=o;exact#[KN Y X (j _ u) (l _ h) g,by show 4<=12;decide,by rw[Z];exact u,by rw[s];exact h,by rw[W];exact L]|tell t p q m w b =>
  let#[#[Y,X],u,h,g,G,F,E,C]:=o;refine#[?_,?_,by rw[Z];exact u,by rw[Z];exact h,by rw[s];exact g,by rw[Z];exact E,by rw[W];exact L];cases b with|nil=>exact Y1 Y X (j _ u) (j _ h) (l _ g) G F|cons y b=>exact YR Y X (j _ u) (j _ h) (l _ g) G F (λq Q=>j _ (E q Q)) (by simp) C
  cases b with|nil=>show 5<=12;decide|cons y b=>simp only[Rw.vs,zn,QJ,QM,wF,QG]at C ⊢;omega
def Pp(m:Int):0<=mo m/\mo m<=99:=by unfold mo;split;omega;split<;>omega
def uk{s:Int}(h:0<=s):∀p∈mL ns s c,PerOk p:=by
 intro p z;let#[j,_,rfl]:=Qa.mp z;let#[y,x]:=Pp (pA ns (1+(j:Int)+1));have e:(10:Int) ^ 5=100000:=by decide
 refine#[EE h,?_,?_,y,x,?_,?_]<;>simp only[p4,e]<;>omega
def VJ{α:Type}{f:Nat->α}(c:Nat)(h:∀i j,i<c->j<c->f i=f j->i=j):((QH c).map f).Nodup:=by rw[List.Nodup,QBG];refine List.Pairwise.imp_of_mem (R:=λa b=>a≠b) (λ{a b} z y x e=>x (h a b (Qf.mp z) (Qf.mp y) e)) ?_;exact List.nodup_range
def Rb{s:Int}(h:0<=s)(hc:c<=600):((mL ns s c).map qk).Nodup:=by unfold mL;rw[Q8];refine VJ c λi j y x e=>?_;have e:dC s (i:Int)=dC s (j:Int):=e;have:=zD h () () () () e;omega
def j6{ns:LJ}{s:Int}{c:Nat}{i:Int}(x:0<=i)(h:i<(c:Int)):(IX (mL ns s c) i).1=dC s i:=by unfold IX mL;rw[Q0,Qd,wg ()];show dC s ((i.toNat:Nat):Int)=_;rw[show((i.toNat:Nat):Int)=i by omega]
def z8{n:Int}(y:i<6)(x:j<6)(h:mI n i=mI n j):i=j:=by unfold mI at h;split at h<;>split at h<;>omega
def Vd{n:Int}(h:j<6):0<=mI n j/\mI n j<676:=by unfold mI;split<;>omega
def T7{s n:Int}(h:0<=s):∀m∈CJ s n,KA m=true:=by intro m x;let#[j,_,rfl]:=Qa.mp x;exact EE h
def Kd{s n:Int}(h:0<=s):(CJ s n).Nodup:=by unfold CJ;refine VJ _ λi j y x e=>?_;have a:=Vd (n:=n) (j:=i) ();have b:=Vd (n:=n) (j:=j) ();exact z8 (n:=n) () () (zD h a.1 a.2 b.1 b.2 e)
def A7{s n:Int}(h:i<(CJ s n).9):uF (CJ s n) i=dC s (mI n i):=by unfold CJ at h ⊢;rw[QG,qA]at h;unfold uF;rw[Q0,Qd,wg h];rfl
def cY{s n:Int}(h:0<=s)(y:i<(CJ s n).9)(x:j<(CJ s n).9)(e:uF (CJ s n) i=uF (CJ s n) j):i=j:=by rw[A7 y,A7 x]at e;have l:=(BJ s n).2;have a:=Vd (n:=n) (j:=i) ();have b:=Vd (n:=n) (j:=j) ();exact z8 (n:=n) () () (zD h a.1 a.2 b.1 b.2 e)
def DJ{ms:LS}(h:i<ms.9):uF ms i∈ms:=by unfold uF;rw[Q0,qC h];exact WB h
def IY(ms:LS)(J K:Nat)(L:P3):Prop :=
 (L.Pairwise λp q=>p≠q/\p≠(q.2,q.1))/\∀p∈L,∃j k:Nat,k<j/\j<ms.9/\(j<J∨(j=J/\k<K))/\(p=(uF ms j,uF ms k)∨p=(uF ms k,uF ms j))
def UW{α:Type}(l:List α)(k:Nat)(y:α):(bE l k y).Perm (y::l):=by
 unfold bE;have:=List.perm_middle (a:=y) (l₁:=l.take k) (l₂:=l.drop k)
 rwa [wq]at this
def ja(ns:LJ)(ms:LS)(j k:Nat)(n:Int):bh ns ms j k n=(uF ms j,uF ms k)∨bh ns ms j k n=(uF ms k,uF ms j):=by unfold bh;split;exact .inl rfl;exact .inr rfl
def IY.weak{ms:LS}{J K x y:Nat}{L:P3}(h:IY ms J K L)(w:∀j k,k<j->(j<J∨(j=J/\k<K))->(j<x∨(j=x/\k<y))):IY ms x y L :=
 #[h.1,λp z=>by let#[j,k,a,b,c,d]:=h.2 p z;exact#[j,k,a,b,w j k a c,d]]
def IY.step{ns:LJ}{ms:LS}(inj:∀i j,i<ms.9->j<ms.9->uF ms i=uF ms j->i=j){J K:Nat}{st:PA}(h:IY ms J K st.1)(s:K<J)(o:J<ms.9):IY ms J (K+1) (cS ns ms J st K).1:=by
 unfold cS;split;refine#[(List.Perm.pairwise_iff (R:=λp q:Str×Str=>p≠q/\p≠(q.2,q.1)) (λ{x y} z=>#[λe=>z.1 e.symm,λe=>z.2 (by rw[e])]) (UW _ _ _)).mpr (List.pairwise_cons.mpr #[λq r=>?_,h.1]),λp n=>?_]
 ·let#[j,k,a,b,c,d]:=h.2 q r
  have l:∀x y:Nat,(x=j/\y=k)∨(x=k/\y=j)->(uF ms J,uF ms K)≠(uF ms x,uF ms y):=by intro x y m e;rw[QCa]at e;have Y:=inj J x o () e.1;have X:=inj K y () () e.2;omega
  have u:∀x y:Nat,(x=j/\y=k)∨(x=k/\y=j)->(uF ms K,uF ms J)≠(uF ms x,uF ms y):=by intro x y m e;rw[QCa]at e;have Y:=inj K x () () e.1;have X:=inj J y o () e.2;omega
  rcases ja ns ms J K (pA ns (st.2+1)) with g|g<;>rcases d with rfl|rfl<;>rw[g];exact#[l j k (.inl #[rfl,rfl]),l k j (.inr #[rfl,rfl])];exact#[l k j (.inr #[rfl,rfl]),l j k (.inl #[rfl,rfl])];exact#[u j k (.inl #[rfl,rfl]),u k j (.inr #[rfl,rfl])];exact#[u k j (.inr #[rfl,rfl]),u j k (.inl #[rfl,rfl])]
 rcases N0.mp n with rfl|n
 ·exact#[J,K,s,o,.inr #[rfl,()],ja ns ms J K _]
 let#[j,k,a,b,c,d]:=h.2 p n;exact#[j,k,a,b,(),d];exact h.weak λj k _ c=>()
def IY.row{ns:LJ}{ms:LS}(inj:∀i j,i<ms.9->j<ms.9->uF ms i=uF ms j->i=j){J:Nat}{st:PA}(h:IY ms J 0 st.1)(x:J<ms.9):∀K:Nat,K<=J->IY ms J K ((QH K).foldl (cS ns ms J) st).1
 |0,_=>h|K+1,hK=>by rw[QAi,QCu];exact IY.step inj (IY.row inj h x K ()) () x
def Mn(ns:LJ){ms:LS}(inj:∀i j,i<ms.9->j<ms.9->uF ms i=uF ms j->i=j)(a:Int):IY ms ms.9 0 (Y3 ns ms a).1:=by
 have:∀J:Nat,J<=ms.9->IY ms J 0 ((QH J).foldl (BU ns ms) ([],a)).1:=by
  intro J;induction J with|zero=>intro _;exact#[.nil,λp x=>by cases x]|succ J h=>intro y;rw[QAi,QCu];exact(IY.row inj (h ()) () J ()).weak λj k a c=>()
 exact this _ (QX _)
def Jt(ns:LJ)(ms:LS)(j:Nat)(st:PA)(k:Nat):(cS ns ms j st k).1.length<=st.1.9+1:=by unfold cS;split;rw[FP];exact QX _;show st.1.9<=_;omega
def dh(ns:LJ)(ms:LS)(j:Nat):∀(l:LN) (st:PA),(l.foldl (cS ns ms j) st).1.length<=st.1.9+l.9
 |[],st=>QX _|x::l,st=>by have y:=dh ns ms j l (cS ns ms j st x);have h:=Jt ns ms j st x;rw[WK,QM];omega
def uh(ns:LJ){ms:LS}(a:Int)(k:ms.9<=6):(Y3 ns ms a).1.length<=15:=by
 have:∀(l:LN) (st:PA),(l.foldl (BU ns ms) st).1.length<=st.1.9+l.sum:=by
  intro l;induction l with|nil=>intro st;exact QX _|cons x l u=>intro st;have b:=u (BU ns ms st x);have y:=dh ns ms x (QH x) st;rw[qA]at y;have y:(BU ns ms st x).1.length<=st.1.9+x:=y;rw[WK,List.sum_cons];omega
 have h:=this (QH ms.9) ([],a);have e:∀m:Fin 7,(QH m.val).sum<=15:=by decide
 have e:=e #[ms.9,()];have e:(QH ms.9).sum<=15:=e;unfold Y3;have z:(([],a):PA).1.length=0:=rfl;omega
def pS{n:Int}(h:0<=n):rB (yj n)=true:=by
 unfold yj;split;have:=i8 (i:=n / 10 ^ 6 % 19) () ();rw[ZG]at this;let#[v,y,x]:=MH (xs:=keys) (i:=n / 10 ^ 6 % 19) () (by show n / 10 ^ 6 % 19<19;omega);unfold Br;rw[Q0,x];exact KW v (qa x);have e:(10:Int) ^ 12=1000000000000:=by decide
 exact oP (EE (by rw[e];omega))
def oq{n m:Int}(h:2<=m):(0<=qI n m/\qI n m<m)/\n / 100 % m≠qI n m:=by
 unfold qI;have a:=Qv (n / 100) (show m≠0 by omega);have k:=Qi (n / 100) (show 0<m by omega);have u:=Qv (n / 10 ^ 4) (show m - 1≠0 by omega);have z:=Qi (n / 10 ^ 4) (show 0<m - 1 by omega);generalize n / 100 % m=x at *;generalize n / 10 ^ 4 % (m - 1)=y at *;refine#[#[Qv _ (),Qi _ ()],λe=>?_];by_cases c:x+1+y<m;rw[QCv () c]at e;omega;have:(x+1+y) % m=x+1+y - m:=by rw[show x+1+y=(x+1+y - m)+m by omega,Int.add_emod_right,QCv () ()];omega
 omega
def Bm{s h:Int}(l:0<=s)(A:1<=c)(K:c<=10)(a:Int):zo (mL ns s c) (CJ s h) (N1 ns a (mL ns s c) (CJ s h)).1:=by
 have p:=dG ns s c;have W:=BJ s h;have k:=GR ns (a+1);let#[g,b]:=Ao k;have z:∀i:Int,0<=i->i<(c:Int)->(IX (mL ns s c) i).1∈(mL ns s c).map qk:=λi X r=>Qa.mpr #[_,Kc X (by rw[p];exact r),rfl];have j:uF (CJ s h) (pA ns (a+1) / 1000 % ((CJ s h).9:Int)).toNat∈CJ s h:=DJ (by have:=Qv (pA ns (a+1) / 1000) (show((CJ s h).9:Int)≠0 by omega);have:=Qi (pA ns (a+1) / 1000) (show 0<((CJ s h).9:Int) by omega);omega);have y:=Qv (pA ns (a+1) / 100) (show((mL ns s c).9:Int)≠0 by omega);have Z:=Qi (pA ns (a+1) / 100) (show 0<((mL ns s c).9:Int) by omega);unfold N1;split;exact#[#[g,b],z _ y (),j,pS k];rename_i hc;have o:2<=((mL ns s c).9:Int):=by by_cases e:(mL ns s c).9=1;exact n9 (.inl e) hc;omega
 let#[#[u,Y],m]:=oq (n:=pA ns (a+1)) o;refine#[#[g,b],z _ y (),z _ u (),j,pS k,λe=>?_,λx q=>?_,?_];rw[j6 y (),j6 u ()]at e;exact m (zD l y () u () e);let#[i,_,rfl]:=Qa.mp q;exact z _ (Qv _ ()) (by have:=Qi (pA ns (a+1+(i:Int)+1)) (show 0<((mL ns s c).9:Int) by omega);omega);unfold yn;rw[QG,qA];exact XV _
def x9{s x:Int}(y:0<=s)(u:1<=c)(z:c<=10)(a:Int):∀k:Nat,∀e∈(PP ns a (mL ns s c) (CJ s x) k).1,zo (mL ns s c) (CJ s x) e
 |0,e,h=>by cases h|k+1,e,h=>by have h:e∈(PP ns a (mL ns s c) (CJ s x) k).1++[(N1 ns (PP ns a (mL ns s c) (CJ s x) k).2 (mL ns s c) (CJ s x)).1]:=h;rcases Qp.mp h with h|h;exact x9 y u z a k e h;rw[qD.mp h];exact Bm y u z _
def TB(ns:LJ):List Rw:=wR (CH ns) (KB ns) (vK ns).1 (xM ns).1
def Ur(ns:LJ):0<=kW ns/\kW ns<=80:=by unfold kW;split<;>omega
def V5(ns:LJ):W4 (TB ns)=E3 ns:=Ro _ _ _ _
def mM(ns:LJ):gF (TB ns):=by
 let#[h,o]:=BQ ns;let#[n,u]:=Im ns;have z:=BJ (MF ns) (nW ns);have a:=Mn ns (ms:=KB ns) (λi j l g e=>cY h l g e) (1+(cW ns:Int));refine JX (uk h) (Rb h ()) (by unfold CH;rw[dG];exact u) (T7 h) (Kd h) z.2 (λp b=>?_) a.1 (uh ns _ z.2) (x9 h n u _ _) ?_;let#[j,k,r,x,q,m]:=a.2 p b;have y:uF (KB ns) j≠uF (KB ns) k:=λe=>by have:=cY h x (show k<(KB ns).9 by omega) e;omega
 rcases m with rfl|rfl;exact#[DJ x,DJ (),y];exact#[DJ (),DJ x,λe=>y e.symm];unfold xM;rw[SJ];have:=Ur ns;omega
def sx(x:T)(n:Bool)(i:Int)(C:T->Prop):Prop:=LG x n=j3/\∃h,x.er=.tuple h/\C (.d (.tuple (ZE h js (jb i))))
def Ui{Ψ:PEv}{E:XE}{ρ:yA}{K:TK}{a:PX}{i:Int}:bB Ψ (.eff (.slc a .nop (.int i))) E ρ K=bB Ψ a E ρ λx n h=>sx x n i λz=>K z Kz h:=rfl
def rg{i:Int}:sx (.d (.tuple h)) n i C=C (.d (.tuple (ZE h js (jb i)))) :=
 Pz #[λzz=>by let#[_,_,e,q]:=zz;cases e;exact q,λq=>#[by cases n<;>rfl,_,rfl,q]]
def IB(x:Rw):LS:=(Jz x.hd::x.vs).map gI
def JP(x:Rw):T:=match x with
 | .ev e=>.d (.list ((IB (.ev e)).map Jz))|x=>.lst (((IB x).map Jz).map T.d)
def YM:PSp where
 run:=λh Q _=>∃l,h=[.d (W4 l)]/\(G3 l).9<=200/\(∀x∈G3 l,x.vs.9<=12/\∀d∈x.vs,Hh d)/\Q (.lst ((G3 l).map JP)) []
def VQ{Ψ:PEv}{ρ:yA}{t:Str}(x:List D)(h:∀d∈x,Hh d)(hl:x.9<=ke){Q:LT->Prop}(q:Q (((x.map gI).map Jz).map T.d)):gD (IP Ψ (λ_=>False) [] [t] (.nm 0) .nop (.bi .str %[.var 0|1]) ρ) (x.map T.d) [] Q:=by
 refine UB T.d (λd=>T.d (.str (gI d))) x [] _ (λd hd R y=>?_) (by simp;omega) ?_;simp![↓xA];refine E4 (h d hd) ?_;simp![↓xA];exact y;have e:x.map (λd=>T.d (Jz (gI d)))=((x.map gI).map Jz).map T.d:=by simp
 rw[Qu,e];exact q
def Ud{Ψ:PEv}{Z:PEnds}{w:D}{ls:LT}{e:Ev}{z:Option Sl}(u:(Rw.vs (.ev e)).9<=12)(g:∀d∈Rw.vs (.ev e),Hh d)(hl:ls.length<=300)(k:∀z,Z.nx [bD w,oW (.lst (ls++[JP (.ev e)])),bD (eD e),z]) :
  pF Ψ TD Z [bD w,oW (.lst ls),bD (eD e),z]:=by
 have i:decide (QA "see"=QA "tell")=false:=by decide +kernel
 cases e with
 |see t p m h =>
  have a:ZE [Jz "see",.int t,.str p,.str m,.str h] js (jb 6)=[Jz "see",.int t,.str p,.str m,.str h]:=rfl;delta eD at k ⊢;delta TD;simp![↓Ui,↓rg,a];refine VQ [Jz "see",.int t,.str p,.str m,.str h] (λd hd=>?_) (by simp;omega) ?_;rcases QO.mp hd with rfl|hd
  ·exact R8 (.ev (.see t p m h))
  exact g d hd;delta VE;simp![↓zJ,i];exact#[(),k _]
 |tell t p q m h b =>
  have a:∀x:D,ZE [Jz "tell",.int t,.str p,.str q,.str m,.str h,x] js (jb 6)=[Jz "tell",.int t,.str p,.str q,.str m,.str h]:=λ_=>rfl;delta eD at k ⊢;delta TD;simp![↓Ui,↓rg,a];refine VQ [Jz "tell",.int t,.str p,.str q,.str m,.str h] (λd hd=>?_) (by simp;omega) ?_;rcases QO.mp hd with rfl|hd
  ·exact R8 (.ev (.tell t p q m h b))
  exact g d (qJ _ hd);have s:∀x∈b,gI (Jz x)=x:=λ_ _=>rfl;cases b with
  |nil =>
   have r:decide ((0:Int)<((([]:LS).9:Nat):Int))=false:=by decide
   delta VE;simp![↓zJ,↓ax,QG,r];exact#[(),k _]
  |cons y b =>
   have X:b.9<=12:=by simp only[Rw.vs,zn,QJ,QM,QG]at u;omega
   have o:decide ((0:Int)<((b.9+1:Nat):Int))=true:=dT ();delta VE;simp![↓zJ,↓ax,QG,QM,o,↓On];refine#[(),by first|omega | (simp;omega),by first|omega | (simp;omega),(),?_];have l:(IB (.ev (.tell t p q m h (y::b)))).map Jz=(([Jz "tell",.int t,.str p,.str q,.str m,.str h].map gI).map Jz)++[Jz "by"]++(y::b).map Jz:=by
    have n:((y::b).map Jz).map gI=y::b:=by rw[Q8];exact List.map_id _
    show(([Jz "tell",.int t,.str p,.str q,.str m,.str h]++[Jz "by"]++(y::b).map Jz).map gI).map Jz=_;rw[Q5,n,Q5,Q5,Q5];rfl
   have k:=k (bD (.list ((IB (.ev (.tell t p q m h (y::b)))).map Jz)));have j:JP (.ev (.tell t p q m h (y::b)))=.d (.list ((IB (.ev (.tell t p q m h (y::b)))).map Jz)):=rfl;rw[j,l]at k;exact k
def Tv(l:List Rw)(ls:LT)(x h:Option Sl):yA:=[bD (W4 l),oW (.lst ls),x,h]
def Y7{Ψ:PEv}:yL Ψ RK YM oQ HM:=by
 rintro _ Q _ ⟨l,rfl,hl,i,q⟩;refine rA [bD (W4 l),js,js,js] ?_;have o:(OA l).9+((GA l).9+((HA l).9+(EF l).9))<=200:=by simpa[G3]using hl
 delta W4;delta RK;simp![↓zJ,↓T2,↓Vo,↓Cw];refine xD pD (λp=>JP (.per p)) (OA l) _ (λp n R u=>?_) () ?_;have a:=(i (.per p) (by simp[G3,n])).2;delta pD;simp![↓xA];refine#[(),?_];refine VQ [Jz p.1,.int p.2.1,.int p.2.2.1,.int p.2.2.2] a (by simp;omega) ?_;simp![↓xA];exact#[by simp;omega,u];refine xD Jz (λm=>JP (.mat m)) (GA l) _ (λm _ R u=>?_) () ?_;simp![↓xA];exact#[(),u];refine#[by simp only[QG];omega,?_];refine xD aD (λp=>JP (.aga p.1 p.2)) (HA l) _ (λp _ R u=>?_) () ?_;delta aD;simp![↓zJ,↓T2];exact#[(),u];refine#[by simp only[QJ,QG];omega,?_];rw[<- Yl];refine FC (λe=>T.d (eD e)) (λg k=>∃(h:List Ev) (z y:Option Sl),EF l=h++g/\k=Tv l ((OA l).map (λp=>JP (.per p))++(GA l).map (λm=>JP (.mat m))++(HA l).map (λp=>JP (.aga p.1 p.2))++h.map λe=>JP (.ev e)) z y) ?_ ?_ _ _ #[[],js,js,rfl,by rw[wJ,Qe];rfl]
 ·rintro k ⟨h,z,y,e,rfl⟩
  rw[Qe]at e;subst e;have g:(OA l).map (λp=>JP (.per p))++(GA l).map (λm=>JP (.mat m))++(HA l).map (λp=>JP (.aga p.1 p.2))++(EF l).map (λe=>JP (.ev e))=(G3 l).map JP:=by simp[G3,qX]
  rw[g];change mB _ _ _ _ [bD (W4 l),oW (.lst ((G3 l).map JP)),fC z,y];generalize fC z=z;simp![↓xA];exact q
 ·rintro x s k N r ⟨h,z,y,e,rfl⟩
  have j:x∈EF l:=by rw[e];simp
  let#[b,a]:=i (.ev x) (by simp[G3,j]);have X:h.9<=(EF l).length:=by have:=pu We e;rw[QJ]at this;omega
  show pF Ψ TD _ [bD (W4 l),oW (.lst _),bD (eD x),y];refine Ud b a (by simp only[QJ,QG];omega) λy=>r _ #[h++[x],bD (eD x),y,by rw[e];simp,?_];rw[Q5,<- Q9];rfl
def EY(Ψ:PEv):Prop:=∀x∈[QA "WorldError","BadRow","Misplaced","Twice","NoName","TooMany","Unfinished"],Ψ.va x=jb (IF x)
structure RowsOk(rows:LS):Prop where
 l:rows.9<=600
 r:∀r∈rows,r.9<=900/\10∉r.cps.toList
def nz(h:LS):LS:=if h=[] then[QA ""] else h
def RowsOk.split(h:RowsOk x):qO (wm (QA "\n") x) (QA "\n")=nz x:=by
 unfold nz;split
 ·next e=>rw[e];decide +kernel
 ·next e =>
  have z:QA "\n"=#[(List.toArray [10])]:=by decide +kernel
  rw[z];exact oV e λp y=>(h.r p y).2
def jl(h:List Str):(nz h).9<=h.9+1:=by unfold nz;split<;>simp
def RowsOk.len(h:RowsOk x):(wm (QA "\n") x).9<=1000000:=by rw[GT,uW];have:=sM (λz:Str=>z.9) 900 x λz y=>(h.r z y).1;have:=h.l;omega
def Gm:Option (Str×Int)->D
 |none=>.none|some x=>FF x.1 x.2
def BH:PSp where
 run:=λy Q _=>∃(h:LS) (x:List Rw) (o:Option (Str×Int)),y=[.d (.list (h.map Jz))]/\RowsOk h/\gF x/\Ends (nz h) x o/\Q (.d (Gm o)) []
def DZ{Ψ:PEv}(b:Ψ.sp "read_world"=nC)(v:EY Ψ):yL Ψ yJ BH rO dL:=by
 rintro _ Q _ ⟨h,u,o,rfl,ok,y,e,q⟩;refine rA [bD (.list (h.map Jz)),js,js] ?_;have k:ke=16777216:=wP;have a:=v (QA "WorldError") (by simp);have hl:=ok.l;have i:=sM (λz:Str=>z.9) 900 h λz k=>(ok.r z k).1;have g:=jl h;delta yJ;simp![↓An b rfl a,uW];refine#[by decide,(),_,u,o,rfl,#[ok.len,by rw[ok.split];omega],y,by rw[ok.split];exact e,?_];cases o with|none=>change mB _ _ _ _ [bD (.list (h.map Jz)),bD .none,js];simp![↓xA];exact q|some x=>simp![↓xA];exact q
def Ow:mZ Ψ E r Z i (.lst [.d a,.d b,.d c]) j3 ρ=mZ Ψ E r Z i (.lst ([a,b,c].map T.d)) j3 ρ:=rfl
def fY:∀{l:List D},(∀x∈l,x.canLay0=j3/\x.depth<=1)->wC l=j3/\wK l<=1
 |[],_=>by simp[wC,wK]|x::l,h=>by let#[k,b]:=h x QL;let#[z,a]:=fY (l:=l) λy u=>h y (QI _ u);simp only[wC,wK,k,z,QCX,true_and];omega
def vT(l:List Bool):GG (.list (l.map PyData.bool)):=by
 let#[y,u]:=fY (l:=l.map PyData.bool) λx h=>by let#[s,z,rfl]:=Qa.mp h;simp only[QAB,WN];exact#[by simp,()]
 refine#[?_,?_];simp only[QAB];exact y;simp only[WN];omega
def cls:LS:=["BadRow","Misplaced","Twice","NoName","TooMany","Unfinished"]
def oC:PSp where
 run:=λx Q _=>∃(c:Str) (w h:Int),x=[.d (FF c h),.d (.int w),.d (.int h)]/\(cls[w.toNat]?=jb c/\0<=w)/\Q (.d (.bool j3)) []
def MX{m:Nat}{c:Str}{pl:Int}{K:T->LT->Prop}{E:XE}(h:cls[m]?=jb c)(q:K (.d (.bool j3)) []):tI oC [.d (FF c pl),.d (.int (m:Int)),.d (.int pl)] K E:=#[_,_,_,rfl,#[h,Int.natCast_nonneg m],q]
def Rp{Ψ:PEv}(v:EY Ψ){c:Str}{w pl:Int}{Q:T->LT->Prop}{a u z y x h:Bool}
  (A:decide (QA "WorldError"=c∨QA "WorldError"=QA "WorldError")=j3)
  (K:decide (QA "BadRow"=c∨QA "BadRow"=QA "WorldError")=a)
  (W:decide (QA "Misplaced"=c∨QA "Misplaced"=QA "WorldError")=u)
  (Z:decide (QA "Twice"=c∨QA "Twice"=QA "WorldError")=z)
  (Y:decide (QA "NoName"=c∨QA "NoName"=QA "WorldError")=y)
  (X:decide (QA "TooMany"=c∨QA "TooMany"=QA "WorldError")=x)
  (s:decide (QA "Unfinished"=c∨QA "Unfinished"=QA "WorldError")=h)
  (n:Q2 (.list [.bool a,.bool u,.bool z,.bool y,.bool x,.bool h]) (.list ((QH (wk 6)).map λ(k:Nat)=>PyData.bool (decide ((k:Int)=w))))=j3) (q:Q (.d (.bool j3)) []) :
  pF Ψ dD (eZ Q) [bD (FF c pl),bD (.int w),bD (.int pl),js]:=by
 have p:ke=16777216:=wP;have m:=v (QA "WorldError") (by simp);have l:=v (QA "BadRow") (by simp);have j:=v (QA "Misplaced") (by simp);have i:=v (QA "Twice") (by simp);have g:=v (QA "NoName") (by simp);have e:=v (QA "TooMany") (by simp);have b:=v (QA "Unfinished") (by simp);have o:GG (.list ((QH (wk 6)).map λ(k:Nat)=>PyData.bool (decide ((k:Int)=w)))):=by have:=vT ((QH (wk 6)).map λ(k:Nat)=>decide ((k:Int)=w));rw[Q8]at this;exact this
 delta dD;simp! -implicitDefEqProofs[↓cE m,↓cE l,↓cE j,↓cE i,↓cE g,↓cE e,↓cE b,↓A,↓K,↓W,↓Z,↓Y,↓X,↓s,↓Ow];refine#[(),(),(),?_];refine UB (λk:Nat=>T.d (j0 (k:Int))) (λk=>T.d (.bool (decide ((k:Int)=w)))) _ _ _ (λk hk R r=>?_) (by rw[p];decide) ?_;simp![↓xA];exact r;rw[Qu,VT λk:Nat=>PyData.bool (decide ((k:Int)=w))];simp![↓xA];refine#[vT [a,u,z,y,x,h],o,?_];rw[n];simp![↓xA];exact q
def KO(v:EY Ψ):yL Ψ dD oC ZH XG:=by
 rintro _ Q _ ⟨c,w,h,rfl,hc,q⟩;refine rA [bD (FF c h),bD (.int w),bD (.int h),js] ?_;let#[hc,x]:=hc;let#[m,rfl]:=qS x;have hc:cls[m]?=jb c:=hc;have y:m<6:=(QZ.mp hc).1;have:m=0∨m=1∨m=2∨m=3∨m=4∨m=5:=()
 rcases this with rfl|rfl|rfl|rfl|rfl|rfl<;>cases hc<;>exact Rp v (by decide +kernel) rfl rfl rfl rfl rfl rfl (by decide +kernel) q
inductive Laid:List (LS)->LS->LN->Prop where
 |nil:Laid [] [] []
 |blank {ls:List (LS)}{rs:LS}{ps:LN}{r:Str}:Laid ls rs ps->Lib.wordsOf r=[]->Laid ls (rs++[r]) ps
 |row {ls:List (LS)}{rs:LS}{ps:LN}{r:Str}{ws:LS}:Laid ls rs ps->Lib.wordsOf r=ws->Laid (ls++[ws]) (rs++[r]) (ps++[rs.9+1])
def SO(r:Str):Prop:=r.9<=900/\10∉r.cps.toList
def OL(h:LS):Prop:=h.9<=15/\∀w∈h,VC w
def aA(ls:List (LS)):List D:=ls.map λh=>.list (h.map Jz)
def lE(l:LS):LT:=(l.map Jz).map T.d
def UO(l:LN):LT:=(l.map λ(n:Nat)=>j0 (n:Int)).map T.d
def mQ(a b:Str):(a++b).cps.toList=a.cps.toList++b.cps.toList:=by show(a.cps++b.cps).toList=_;rw[w9]
def mH(k:Int):(aI (QA " ") k).cps.toList=QK k.toNat 32:=by
 rw[XM,show(QA " ").cps.toList=[32] by decide +kernel];induction k.toNat with|zero=>rfl|succ n h=>rw[Qs,qV,h,Qs];rfl
def Ve(k:Int):Lib.wordsOf (aI (QA " ") k)=[]:=dI (by rw[mH];have:=lK k.toNat [];rw[Qe]at this;rw[this];rfl)
def OY{k:Int}(h:k<=100):SO (aI (QA " ") k):=by refine#[?_,?_];rw[VM,RI];omega;rw[mH];intro z;have:=Wm z;omega
def Hl(h:OL x)(k:Int):Lib.wordsOf (aI (QA " ") k++wm (QA " ") x)=x:=dI (by rw[mQ,mH,lK,<- TH];exact pu _ (yV h.2))
def b8(h:OL x):(wm (QA " ") x).9<=200/\(x.map (·.length)).sum<=135:=by rw[GT,RI];have:=sM (λz:Str=>z.9) 9 x λz y=>(h.2 z y).2.1;have:=h.1;exact#[(),()]
def Ll(h:OL a){k:Int}(hk:k<=100):SO (aI (QA " ") k++wm (QA " ") a):=by
 refine#[?_,?_];rw[qY,VM,RI];have:=(b8 h).1;omega;have e:QA " "=#[(List.toArray [32])]:=by decide +kernel
 rw[mQ];intro z;rcases Qp.mp z with z|z;exact(OY hk).2 z;rw[YX,e,tF]at z;have:∀(l:List (LN)),(∀w∈l,10∉w)->10∉aN 32 l:=by
  intro l;induction l with
  |nil=>intro _ h;cases h|cons x l b =>
   intro h;cases l with
   |nil=>exact h x QL|cons y r =>
    intro z;rcases Qp.mp z with z|z;exact h x QL z;rcases QO.mp z with z|z
    ·omega
    exact b (λw u=>h w (QI _ u)) z
 refine this _ (λw u=>?_) z;let#[v,hv,rfl]:=Qa.mp u;intro z;have:=(h.2 v hv).2.2 10 z;omega
section
variable{Ψ:PEv}{Z:PEnds}{x u:LS}{ps:LN}{n:Int}{y:Nat}{a b:Option Sl}
def Dp(h:OL u)(X:x.9<=1000)(Y:ps.9<=1000)(z:Option Sl)(k:∀g e,Z.nx [a,b,oW (.lst (lE (x++[aI (QA " ") (n / 15 % 2)++wm (QA " ") u]))),oW (.lst (UO (ps++[x.9+1]))),bD (.int y),z,g,e]) :
  pF Ψ JC Z [a,b,oW (.lst (lE x)),oW (.lst (UO ps)),bD (.int y),z,bD (.list (u.map Jz)),bD (.int n)]:=by
 let#[s,q]:=b8 h;have p:=h.1;have o:n / 15 % 2<2:=Qi _ (by decide);delta lE UO at k ⊢;delta JC;simp![RI];refine#[(),(),(),(),by rw[VM,RI];omega,by rw[QG,QG];omega,?_];have l:∀r:Str,(x.map Jz).map T.d++[T.d (.str r)]=((x++[r]).map Jz).map T.d:=λr=>by simp
 have j:∀r:Str,((x++[r]).map Jz).9=x.9+1:=λr=>by simp
 have i:∀m:Nat,(ps.map λ(n:Nat)=>j0 (n:Int)).map T.d++[T.d (.int (m:Int))]=((ps++[m]).map λ(n:Nat)=>j0 (n:Int)).map T.d:=λm=>by simp
 rw[l];simp![j];refine#[by rw[QG,QG];omega,?_];rw[i];exact k _ _
def xz(ls:List (LS))(a b:Option Sl)(xs:List (D×Nat))(ρ:yA):Prop:=∃(h z:List (LS)) (x:LS) (ps:LN) (y:Nat) (g e k:Option Sl),
 ls=h++z/\xs=(aA z).zipIdx h.9/\Laid h x ps/\(∀r∈x,SO r)/\(y<=40/\x.9=h.9+y/\ps.9=h.9) /\
 ρ=[a,b,oW (.lst (lE x)),oW (.lst (UO ps)),bD (.int y),g,e,k]
def Cp{ns:LJ}(hd:Ψ.sp "_law_draw"=mE)(B:tB ns){g:List (LS)}(W:Laid g x ps)(X:∀r∈x,SO r)(h:OL u)(m:y<=40)(rl:x.9=g.9+y)(pl:ps.9=g.9)(I:g.9<=300)(o:Option Sl)
  (k:∀e l (i:Nat) Y o,Laid (g++[u]) e l->(∀r∈e,SO r)->i<=40->e.9=g.9+1+i->l.9=g.9+1->Z.nx [a,jb (.bor (lB ns)),oW (.lst (lE e)),oW (.lst (UO l)),bD (.int i),bD (.int (g.9:Int)),Y,o]) :
  pF Ψ KE Z [a,jb (.bor (lB ns)),oW (.lst (lE x)),oW (.lst (UO ps)),bD (.int y),bD (.int (g.9:Int)),bD (.list (u.map Jz)),o]:=by
 have fin:∀(e:LS) (i:Nat) (n:Int),Laid g e ps->(∀r∈e,SO r)->i<=40->e.9=g.9+i->pF Ψ JC Z [a,jb (.bor (lB ns)),oW (.lst (lE e)),oW (.lst (UO ps)),bD (.int i),bD (.int (g.9:Int)),bD (.list (u.map Jz)),bD (.int n)]:=λe i n q p s G=>by have F:n / 15 % 2<2:=Qi _ (by decide);refine Dp h () () _ λY o=>k _ _ _ _ _ (.row q (Hl h _)) (λr j=>?_) s (by rw[QJ,WL];omega) (by rw[QJ,WL];omega);rcases Qp.mp j with j|j;exact p r j;rw[qD.mp j];exact Ll h ()
 have C:KE=.seq (.set 7 (.call "_law_draw" %[.var 1,.bin .Add (.int 900) (.var 5)|1])) (.seq (.ife (.and (.cmp .Eq (.bin .Mod (.var 7) (.int 5)) (.int 0)) (.cmp .Lt (.var 4) (.int 40))) %[.expr (.mt .append (.var 2) %[.bin .Mult (.str " ") (.bin .Mod (.bin .FloorDiv (.var 7) (.int 5)) (.int 3))|1]),.set 4 (.bin .Add (.var 4) (.int 1))|2] .nil) JC):=rfl;rw[C];simp![↓uA (md:=[.shal]) hd rfl rfl,RI];refine#[_,_,rfl,B,#[(),()],#[rfl,?_]];rw[Te];generalize pA ns (900+(g.9:Int))=n;have E:n / 5 % 3<3:=Qi _ (by decide);have s:∀r:Str,(x.map Jz).map T.d++[T.d (.str r)]=lE (x++[r]):=λr=>by simp[lE]
 have K:=fin x y n W X m rl;have A:=λ(z:y<40)=>fin (x++[aI (QA " ") (n / 5 % 3)]) (y+1) n (.blank W (Ve _)) (λr j=>by rcases Qp.mp j with j|j;exact X r j;rw[qD.mp j];exact OY ()) () (by rw[QJ,WL];omega);delta lE;simp![RI];refine OD (λ_=>OD (λc=>#[(),(),(),by rw[QG,QG];omega,?_]) λ_=>K) λ_=>K;rw[s];exact A (by have:=pz c;omega)
end
def Po:BP .enum [(.d (.list x),n)] W=W (x.zipIdx.map λp=>.d (.tuple [.int (p.2:Int),p.1])):=by unfold BP YB;rw[zA];exact Pz #[λzz=>by let#[_,_,_,z,y,h,q]:=zz;cases z;cases y;rw[nA]at h;cases h;exact q,λq=>#[_,_,_,rfl,rfl,nA _,q]]
def UH:PSp where
 md:=[.bor,.shal]
 run:=λu Q _=>∃(ls:List (LS)) (y:LJ),u=[.d (.list (aA ls)),lB y]/\tB y/\(ls.length<=300/\∀z∈ls,OL z)/\∀(h:LS) (x:LN) (m:Nat),Laid ls h x->(∀r∈h,SO r)->h.9<=ls.length+40->m<=2 ->
  Q (.lst [.lst (lE (h++QK m (QA ""))),.d (.list (x.map λ(n:Nat)=>j0 (n:Int)))]) []
def BZ{Ψ:PEv}(hd:Ψ.sp "_law_draw"=mE):yL Ψ jJ UH oO cL:=by
 rintro _ Q _ ⟨ls,r,rfl,B,⟨hl,L⟩,q⟩;refine rA [bD (.list (aA ls)),jb (.bor (lB r)),js,js,js,js,js,js] ?_;delta jJ;simp![↓Po];refine#[(),(),?_];refine FC (λ(p:D×Nat)=>T.d (.tuple [.int (p.2:Int),p.1])) (xz ls (bD (.list (aA ls))) (jb (.bor (lB r)))) ?_ ?_ _ _ #[[],ls,[],[],0,js,js,js,rfl,rfl,.nil,(λ_ z=>(by cases z)),#[(),rfl,rfl],rfl]
 ·rintro G ⟨h,y,u,l,C,s,o,m,e,g,K,Y,⟨a,rl,F⟩,rfl⟩
  have:y=[]:=by
   cases y with|nil=>rfl|cons _ _=>simp[aA]at g
  subst this;rw[Qe]at e;subst e;change mB _ _ _ _ [bD (.list (aA ls)),jb (.bor (lB r)),oW (.lst (lE u)),oW (.lst (UO l)),bD (.int C),fC s,fC o,m];generalize fC s=s;generalize fC o=o;delta lE UO;simp![↓uA (md:=[.shal]) hd rfl rfl];refine#[(),#[_,_,rfl,B,#[(),()],#[rfl,?_]]];generalize pA r 890=n;have m3:n % 3<3:=Qi _ (by decide);have m0:0<=n % 3:=Qv _ (by decide);have er:T.er (T.lst ((l.map λ(n:Nat)=>j0 (n:Int)).map T.d))=.list (l.map λ(n:Nat)=>j0 (n:Int)):=by show PyData.list (ersT _)=_;rw[EA]
  have H:(u.map Jz++(QK (n % 3).toNat [Jz (QA "")]).flatten).map T.d=lE (u++QK (n % 3).toNat (QA "")):=by
   have:∀k:Nat,(QK k [Jz (QA "")]).flatten=(QK k (QA "")).map Jz:=λk=>by
    induction k with|zero=>rfl|succ k J=>rw[Qs,qV,J,Qs];rfl
   unfold lE;rw[this,<- Q5]
  rw[er];simp![↓xA];have S:(QK (n % 3).toNat [Jz (QA "")]).flatten.9=(n % 3).toNat:=by simp
  refine#[(),(),(),by rw[QG,S];omega,(),?_];rw[H];exact q _ _ _ K Y () ()
 ·rintro⟨x,i⟩ I G N M ⟨h,y,u,l,C,s,o,m,e,g,K,Y,⟨a,rl,F⟩,rfl⟩
  cases y with
  |nil=>simp[aA]at g|cons j y =>
   have g:(x,i)::I=(PyData.list (j.map Jz),h.9)::(aA y).zipIdx (h.9+1):=g;injection g with e1 e2;cases e1;subst e2;have dl:h.9<=300:=by rw[e]at hl;simp at hl;omega
   refine#[_,rfl,?_];show pF Ψ KE _ [bD (.list (aA ls)),jb (.bor (lB r)),oW (.lst (lE u)),oW (.lst (UO l)),bD (.int C),bD (.int (h.9:Int)),bD (.list (j.map Jz)),m];have E:(h++[j]).9=h.9+1:=by simp
   refine Cp hd B K Y (L j (by rw[e];simp)) a rl F dl m λb Z A o m W X R P O=>M _ #[h++[j],y,b,Z,A,_,_,_,by rw[e];simp,by rw[E],W,X,#[R,by rw[E];exact P,by rw[E];exact O],rfl]
def Reads.app(h:Reads a l)(k:Reads b m):Reads (a++b) (l++m):=by
 induction h with|nil=>exact k|blank w n _ x=>exact .blank w n x|row w n _ x=>exact .row w n x
def Laid.len{ls:List (LS)}(h:Laid ls y ps):ps.9=ls.length:=by
 induction h with|nil=>rfl|blank _ _ x=>exact x|row _ _ x=>rw[QJ,QJ,x];rfl
def Laid.reads{ls:List (LS)}(h:Laid ls k ps):∀{l:List Rw},ls=l.map IB->(∀r∈k,SO r)->Reads k l:=by
 induction h with
 |nil =>
  intro l e _;cases l with|nil=>exact .nil|cons _ _=>cases e
 |blank _ w b =>
  intro l e z;have g:=b e λr y=>z r (qJ _ y);have i:Reads [_] []:=.blank w (z _ (by simp)).1 .nil;have:=g.app i
  rwa [Qe]at this
 |row _ w b =>
  intro l e z;let#[m,a,rfl,j,u]:=QBc.mp e.symm;have g:=b j.symm λr y=>z r (qJ _ y);cases a with
  |nil=>cases u|cons x a=>cases a with|cons _ _=>cases u|nil=>have u:IB x=_:=List.head_eq_of_cons_eq u;refine g.app (.row ?_ (z _ (by simp)).1 .nil);rw[w,<- u];rfl
def Laid.split{ls:List (LS)}(h:Laid ls z ps):∀{y u:List (LS)}{b:LS},ls=y++b::u->∃pre r post x,z=pre++r::post/\Lib.wordsOf r=b/\Laid y pre x/\ps[y.9]?=jb (pre.9+1):=by
 induction h with
 |nil=>intro y u b e;cases y<;>cases e|@blank ls z ps r _ w g=>intro y u b e;let#[pre,a,post,x,l,j,i,k]:=g e;exact#[pre,a,post++[r],x,by rw[l];simp,j,i,k]|@row ls z ps r p n w g =>
  intro y u b e;rcases List.eq_nil_or_concat u with rfl|⟨q,c,rfl⟩
  let#[m,o]:=QDP e rfl;subst m;cases o;refine#[z,r,[],ps,rfl,w,n,?_];rw[<- n.len,Qj (QX _),Nat.sub_self];rfl;have e:ls++[p]=(y++b::q)++[c]:=by rw[e];simp
  let#[m,o]:=QDP e rfl;let#[pre,a,post,x,l,j,i,k]:=g m;refine#[pre,a,post++[r],x,by rw[l];simp,j,i,?_];rw[Qw (QZ.mp k).1];exact k
def US(t:gF l):∀x∈l,∃a,RowOk a x:=λx h=>by let#[a,b,e]:=List.append_of_mem h;exact#[a,t a x b e]
def JS(t:gF (l++m)):gF l:=λa r b e=>t a r (b++m) (by rw[e];simp)
def l5(t:gF l):∀x∈l,x.vs.9<=12/\∀d∈x.vs,Hh d:=λx y=>by let#[a,o]:=US t x y;refine#[o.few,λd hd=>?_];let#[u,h]:=Good.txts o.good d (QI _ hd);rcases h with⟨z,rfl⟩| h;exact .inl #[z,rfl,by have:=u.2.1;show(gI (.str z)).9<=100;omega];exact .inr h
def x4(ns:LJ):(TB ns).9<=200:=by have k:=(Im ns).2;have h:=(BJ (MF ns) (nW ns)).2;have x:=uh ns (ms:=KB ns) (1+(cW ns:Int)) h;have y:=Ur ns;have u:(CH ns).9=cW ns:=dG ns (MF ns) (cW ns);have z:(xM ns).1.length=(kW ns).toNat:=SJ _;have x:(vK ns).1.length<=15:=x;have h:(KB ns).9<=6:=h;unfold TB wR;rw[QJ,QJ,QJ,QG,QG,QG,QG];omega
def u8(l:List Rw):(T.lst (l.map JP)).er=.list (aA (l.map IB)):=by
 have e:∀x:Rw,(JP x).er=.list ((IB x).map Jz):=λx=>by cases x<;>simp only[JP,T.er,EA]
 have g:∀l:List Rw,ersT (l.map JP)=aA (l.map IB):=by
  intro l;induction l with|nil=>rfl|cons x l h=>rw[QR,ersT,h,e];rfl
 rw[T.er,g]
def ZR(g:Good h vs)(y:vs.9<=12):OL ((Jz h::vs).map gI):=by refine#[by rw[QG,QM];omega,λw x=>?_];let#[d,hd,rfl]:=Qa.mp x;exact(Good.txts g d hd).1
def RL(t:gF l):∀h∈l.map IB,OL h:=λh z=>by let#[x,y,rfl]:=Qa.mp z;let#[a,o]:=US t x y;exact ZR o.good o.few
def GK(R:LS)(pl:LN):T.er (.lst [.lst (lE R),.d (.list (pl.map λ(n:Nat)=>j0 (n:Int)))])=.list [.list (R.map Jz),.list (pl.map λ(n:Nat)=>j0 (n:Int))]:=by
 have h:∀l:LS,T.er (.lst (lE l))=.list (l.map Jz):=λl=>by show PyData.list (ersT (lE l))=_;unfold lE;rw[EA]
 show PyData.list [T.er (.lst (lE _)),_]=_;rw[h];rfl
def VW(t:T){i:Int}(F:T->Prop):eE t j3 (.d (.int i)) Kz F=eE (.d t.er) Kz (.d (.int i)) Kz F:=rfl
def aL(m:Nat):Reads (QK m (QA "")) []:=by
 induction m with|zero=>exact .nil|succ m h=>exact .blank (by decide +kernel) (by decide +kernel) h
def DK{ls:List (LS)}(y:∀r∈h,SO r)(hl:h.9<=ls.length+40)(z:ls.length<=300)(u:m<=2):RowsOk (h++QK m (QA "")) :=
 #[by rw[QJ,qN];omega,λr x=>by rcases Qp.mp x with x|x;exact y r x;rw[Wm x];exact#[by decide +kernel,by decide +kernel]]
def sN{l:List Rw}(y:Laid (l.map IB) h ps)(x:∀r∈h,SO r)(m:Nat):Reads (nz (h++QK m (QA ""))) l:=by
 have:=(y.reads rfl x).app (aL m);rw[Qe]at this;unfold nz;split
 ·next e=>rw[e]at this;cases this;exact aL 1
 exact this
def Ym(x:Rw):(QA "person"=x.hd↔OA [x]≠[])/\(QA "matter"=x.hd↔GA [x]≠[]):=by
 let#[k,o,n,l,j,i,g,s,r]:=tY;have y:∀{a b:Str}{P:Prop},decide (b=a)=Kz->P->(a=b↔¬ P):=λh p=>iff_of_false (λz=>of_decide_eq_false h z.symm) (λz=>z p);have u:∀{a b:Str}{P:Prop},decide (a=b)=Kz->P->(a=b↔¬ P):=λh p=>iff_of_false (of_decide_eq_false h) (λz=>z p);cases x with
 |per p=>exact#[iff_of_true rfl (λz=>by cases z),u k rfl]|mat m=>exact#[y k rfl,iff_of_true rfl (λz=>by cases z)]|aga a b=>exact#[y o rfl,y j rfl]|ev e=>cases e with|see t p m w=>exact#[y n rfl,y i rfl]|tell t p q m w b=>exact#[y l rfl,y g rfl]
def Rr{l:List Rw}:(QA "person"∈l.map Rw.hd↔OA l≠[])/\(QA "matter"∈l.map Rw.hd↔GA l≠[]):=by
 induction l with|nil=>exact#[iff_of_false (λz=>by cases z) (λz=>z rfl),iff_of_false (λz=>by cases z) (λz=>z rfl)]|cons x l h=>have u:OA (x::l)=OA [x]++OA l:=RM [x] l;have k:GA (x::l)=GA [x]++GA l:=mG [x] l;have y:=Ym x;rw[u,k,QR,QO,QO,y.1,h.1,y.2,h.2,ne_eq,ne_eq,ne_eq,ne_eq,ne_eq,ne_eq,W5,W5,Wx,Wx];exact#[.rfl,.rfl]
def TL:PSp where
 md:=[.bor,.shal]
 run:=λx Q _=>∃(l:List Rw) (h:LJ),x=[.d (.list (aA (l.map IB))),lB h]/\tB h/\l.9<=200/\gF l/\Q (.d (.bool j3)) []
def Ec{Ψ:PEv}(L:Ψ.sp "_law_spread"=UH)(J:Ψ.sp "_law_caught"=BH)(I:Ψ.sp "_law_is_refused"=oC):yL Ψ zF TL KH UG:=by
 rintro _ Q _ ⟨l,r,rfl,B,hl,h,q⟩;refine rA [bD (.list (aA (l.map IB))),jb (.bor (lB r)),js,js,js] ?_;have K:aA (l.map IB)=l.map λx=>PyData.list ((IB x).map Jz):=by simp[aA]
 have N:(l.map λx=>T.d (.str x.hd))=((l.map Rw.hd).map Jz).map T.d:=by simp
 have s:(l.map IB).9<=300:=by rw[QG];omega
 delta zF;simp![↓xA];rw[K];refine xD (λx=>PyData.list ((IB x).map Jz)) (λx:Rw=>T.d (.str x.hd)) l _ (λx _ R G=>?_) () ?_;have O:FB ((IB x).map Jz) 0=jb (.str x.hd):=UA (j:=0) rfl;simp![↓zB O];exact G;rw[N,<- K];simp![↓uA (md:=[.bor,.shal]) L rfl rfl];refine#[l.map IB,r,rfl,B,#[s,RL h],λu P m E g rl A=>#[rfl,?_]];rw[VW,GK];have i:=DK g rl s A;have rd:=sN E g m;generalize u++QK m (QA "")=R at i rd;simp![↓zJ,↓uA (md:=[]) J rfl rfl];have W:=Rr (l:=l);have k:∃o,Ends (nz R) l o/\((QA "person"∈l.map Rw.hd/\QA "matter"∈l.map Rw.hd/\o=js)∨(¬ (QA "person"∈l.map Rw.hd/\QA "matter"∈l.map Rw.hd)/\o=jb (QA "Unfinished",((nz R).9:Int)))):=by rw[W.1,W.2];by_cases c:OA l≠[]/\GA l≠[];exact#[_,.fine rd c.1 c.2,.inl #[c.1,c.2,rfl]];exact#[_,.part rd (by by_cases z:OA l=[];exact .inl z;exact .inr (Decidable.byContradiction λy=>c #[z,y])),.inr #[c,rfl]]
 let#[o,k,c]:=k;refine#[_,_,_,rfl,i,h,k,#[rfl,?_]];rw[Te];have M:((nz R).9:Int)=if(R.9:Int) > 1 then(R.9:Int) else 1:=by
  unfold nz;split
  ·next e=>rw[e];rfl
  ·next e=>have:=List.length_pos_iff.mpr e;split<;>omega
 have F:=λx:Str=>JF (l.map Rw.hd) x;have two:∀{a b:Bool}{X Y Z:Prop},Z->¬ (a=j3/\b=j3)->X->(if a=j3 then X/\(if b=j3 then Y else Z) else Z):=λ{a b X Y Z} z n x=>by
  cases a with|false=>exact z|true=>exact#[x,by cases b with|false=>exact z|true=>exact n9 #[rfl,rfl] n]
 simp![F];refine#[.inl #[rfl,AC _],?_];rcases c with⟨p,C,rfl⟩| ⟨c,rfl⟩
 rw[n8 (dT p),n8 (dT C)];refine#[.inl #[rfl,AC _],?_];delta Gm;simp![↓xA];exact q;refine two ?_ (λz=>c #[pz z.1,pz z.2]) (.inl #[rfl,AC _]);simp![↓uA (md:=[]) I rfl rfl];rw[QG,<- M];exact MX (m:=5) rfl #[rfl,q]
def kP(s:Int)(k:Nat):P4:=(dC s (k:Int),9 * (k:Int),0,1+(k:Int) % 4)
def kM(s:Int)(k:Nat):Str:=dC s (20+(k:Int))
def iR:List (Nat×Nat):=(QH 6).flatMap λj=>(QH j).map λk=>(j,k)
def kA(s:Int)(k:Nat):Str×Str:=match iR[k]? with
 |some q=>(kM s q.1,kM s q.2)|none=>(dC s (21+((k - 15:Nat):Int)),dC s 25)
def kE(s:Int)(k:Nat):Ev:=.see ((k:Int) * 7 % 80) (dC s ((k:Int) % 2)) (dC s 20) "w"
def yB(s:Int)(i n:Nat):List Rw:=wR ((QH (if i=0 then n else 2)).map (kP s)) ((QH (if i=1 then n else if i=2 then 6 else 1)).map (kM s)) (if i=2 then(QH n).map (kA s) else[]) (if i=3 then(QH n).map (kE s) else[])
section
variable{s:Int}
def GI(x:0<=s)(z:a<600)(y:b<600)(h:kM s a=kM s b):a=b:=by have:=zD x () () () () h;omega
def MT(h:a<b):kM s a∈(QH b).map (kM s):=QAj (Qf.mpr h)
def e8(h:a<b):dC s (a:Int)∈((QH b).map (kP s)).map qk:=by rw[Q8];exact Qa.mpr #[a,Qf.mpr h,rfl]
def t8(x:0<=s)(h:k<=11):PerOk (kP s k):=#[EE x,by show 0<=9 * (k:Int);omega,by show 9 * (k:Int)<=99;omega,by show(0:Int)<=0;omega,by show(0:Int)<=99;omega,by show 1<=1+(k:Int) % 4;omega,by show 1+(k:Int) % 4<=4;omega]
def idx_ok:∀k,k<15->∃q,iR[k]?=jb q/\q.2<q.1/\q.1<6:=by decide
def vg:(QH 15).map (kA s)=iR.map λq=>(kM s q.1,kM s q.2):=rfl
def dZ(y:0<=s)(X:i<4):gF (yB s i (CG[i]?.getD 0)):=by
 have n:∀(a b:Nat) (g e:Bool),a<=10->b<=6->(g=j3->b=6)->(e=j3->2<=a/\1<=b)->gF (wR ((QH a).map (kP s)) ((QH b).map (kM s)) (if g=j3 then(QH 15).map (kA s) else[]) (if e=j3 then(QH 80).map (kE s) else[])):=by
  intro a b g e I l F G;refine JX (λp u=>?_) ?_ (by simpa using I) (λm C=>?_) (VJ b λi j X E h=>GI y () () h) (by simpa using l) (λp u=>?_) ?_ ?_ (λx o=>?_) ?_;let#[k,hk,rfl]:=Qa.mp u;exact t8 y (by have:=Qf.mp hk;omega);rw[Q8];exact VJ a λi j X E h=>by have:=zD y () () () () h;omega
  let#[k,_,rfl]:=Qa.mp C;exact EE y;split at u
  ·next e=>let#[k,hk,rfl]:=Qa.mp u;let#[q,J,Q,P]:=idx_ok k (Qf.mp hk);unfold kA;rw[J];have:=F e;exact#[MT (),MT (),λz=>by have:=GI y () () z;omega]
  cases u;split
  ·rw[vg]
   have l:∀q∈iR,q.1<600/\q.2<600:=by decide
   have u:iR.Pairwise λp q=>p≠q/\p≠(q.2,q.1):=by decide
   refine QBG.mpr (u.imp_of_mem λ{p q} Y r h=>?_);let#[O,N]:=p;let#[M,L]:=q;let#[A,K]:=l _ Y;let#[W,Z]:=l _ r;refine#[λz=>h.1 ?_,λz=>h.2 ?_];injection z with z1 z2;cases GI y A W z1;cases GI y K Z z2;rfl;injection z with z1 z2;cases GI y A Z z1;cases GI y K W z2;rfl
  exact .nil;split<;>simp;split at o
  ·next e =>
   let#[k,hk,rfl]:=Qa.mp o;let#[Y,r]:=G e;have B:0<=(k:Int) % 2:=()
   refine#[#[(),()],?_,MT (a:=0) r,by decide +kernel];have:dC s (((k:Int) % 2).toNat:Int)∈((QH a).map (kP s)).map qk:=e8 ()
   rwa [Wg B]at this
  cases o;split<;>simp
 have:i=0∨i=1∨i=2∨i=3:=()
 rcases this with rfl|rfl|rfl|rfl;exact n 10 1 Kz Kz () () (λz=>by cases z) (λz=>by cases z);exact n 2 6 Kz Kz () () (λz=>by cases z) (λz=>by cases z);exact n 2 6 j3 Kz () () (λ_=>rfl) (λz=>by cases z);exact n 2 1 Kz j3 () () (λz=>by cases z) (λ_=>())
end
def SG:LS:=["person","matter","against","see"]
def XQ:PSp where
 run:=λx Q _=>∃(s:Int) (i:Nat) (h:Str) (n:Nat),x=[.d (.int s),.d (.str h),.d (.int (n:Int))]/\(0<=s/\s<2 ^ 60)/\(SG[i]?=jb h/\n<=90/\(i=2->15<=n))/\Q (.lst ((aA ((yB s i n).map IB)).map T.d)) []
def CK(x:Rw):T:=.lst (lE (IB x))
def Na(s:Int)(h:Str)(n:Nat)(u z:Option Sl)(ls:LT)(y x:Option Sl):yA:=[bD (.int s),bD (.str h),bD (.int (n:Int)),u,z,oW (.lst ls),y,x]
def Bl(l:List Rw):(l.map CK).map (λt=>T.d t.er)=(aA (l.map IB)).map T.d:=by
 have e:∀x,(CK x).er=.list ((IB x).map Jz):=λx=>by show PyData.list (ersT (lE (IB x)))=_;unfold lE;rw[EA]
 unfold aA;rw[Q8,Q8,Q8];exact Wi λx _=>pu T.d (e x)
def He(s:Int)(h:15<=n):(QH n).map (kA s)=((QH 6).flatMap λj=>(QH j).map λk=>(kM s j,kM s k))++(QH (n - 15)).map λ(k:Nat)=>(dC s (21+(k:Int)),dC s 25):=by let#[m,rfl]:=QBR h;rw[QA2,Q5,vg,qR,Q8];refine congr (pu _ rfl) (Wi λk _=>?_);show kA s (15+k)=_;unfold kA;rw[qP (show iR.length<=15+k by show 15<=15+k;omega),qR]
def lg{x:Int}(y:0<=x)(h:x<=1000):x.natAbs.log2<1920:=by by_cases e:x.natAbs=0;rw[e];decide;rw[QAe e];exact QAt (show x.natAbs<=2 ^ 30 by omega) (QBs (by decide) (by decide))
def Hq:yD 0=QA "0":=by decide +kernel
section
variable{Ψ:PEv}{Q:T->LT->Prop}{s:Int}{h:Str}{n:Nat}
def Zl(X:Ψ.sp "_law_name"=UC)(o:0<=s)(m:s<2 ^ 60){i:Nat}(Y:(h=QA "see")=(i=3))(A:n<=90)(b a u y:Option Sl){l:List Rw}(W:l.9<=300)(q:Q (.lst ((aA ((l++(if i=3 then(QH n).map (kE s) else[]).map Rw.ev).map IB)).map T.d)) []) :
  pF Ψ yC (eZ Q) (Na s h n b a (l.map CK) u y):=by
 have fin:∀(l:List Rw) (u y:Option Sl),Q (.lst ((aA (l.map IB)).map T.d)) []->pF Ψ cD (eZ Q) (Na s h n b a (l.map CK) u y):=λl u y q=>by unfold Na;delta cD;simp![CO,Bl];exact q
 have p:=fin;delta Na at fin ⊢;delta yC;simp![Y];refine OD (λc=>?_) λc=>?_
 ·rw[n8 (pz c)]at q
  refine#[(),(),?_];refine FC (λ(k:Nat)=>T.d (j0 (k:Int))) (λj g=>∃(x:LN) (y:Option Sl),QH n=x++j/\g=Na s h n b a ((l++(x.map (kE s)).map Rw.ev).map CK) u y) ?_ ?_ _ _ #[[],y,rfl,by rw[wJ,wJ,Qe];rfl]
  ·rintro g ⟨x,y,e,rfl⟩
   rw[Qe]at e;subst e;exact p _ u (fC y) q
  ·rintro k j g N r ⟨x,y,e,rfl⟩
   have K:x.9<=n:=by have:=pu We e;simp at this;omega
   have hk:k<n:=Qf.mp (by rw[e];simp);show mB Ψ _ tD _ [bD (.int s),bD (.str h),bD (.int (n:Int)),b,a,oW (.lst ((l++(x.map (kE s)).map Rw.ev).map CK)),u,bD (.int (k:Int))];delta tD;simp! -implicitDefEqProofs[↓uA (md:=[]) X rfl rfl];refine#[TU.ok (.inr #[(),()]),lg () (),PB o m () () #[rfl,PB o m () () #[rfl,(),?_]]];simp![↓xA];refine#[by simp;omega,r _ #[x++[k],bD (.int (k:Int)),by rw[e];simp,?_]];have Z:(l++((x++[k]).map (kE s)).map Rw.ev).map CK=(l++(x.map (kE s)).map Rw.ev).map CK++[CK (.ev (kE s k))]:=by simp
   rw[Z];rfl
 rw[n7 (λz=>c (dT z)),wJ,Qe]at q;exact p _ _ _ q
end
def Ac{Ψ:PEv}(Z:Ψ.sp "_law_name"=UC):yL Ψ yF XQ YH VG:=by
 rintro _ Q _ ⟨s,i,h,n,rfl,⟨l,g⟩,⟨F,M,P⟩,q⟩;refine rA [bD (.int s),bD (.str h),bD (.int (n:Int)),js,js,js,js,js] ?_;have O:i<4:=(QZ.mp F).1;have:i=0∨i=1∨i=2∨i=3:=()
 have o:(h=QA "person")=(i=0)/\(h=QA "against")=(i=2)/\(h=QA "see")=(i=3)/\((["person","matter","against","see"]:LS).zip [j0 1,.int (n:Int),.int 6,.int 1]).lookup h=jb (.int ((if i=1 then n else if i=2 then 6 else 1:Nat):Int)):=by rcases this with rfl|rfl|rfl|rfl<;>cases F;exact#[by decide +kernel,by decide +kernel,by decide +kernel,by kernel_rfl];exact#[by decide +kernel,by decide +kernel,by decide +kernel,by kernel_rfl];exact#[by decide +kernel,by decide +kernel,by decide +kernel,by kernel_rfl];exact#[by decide +kernel,by decide +kernel,by decide +kernel,by kernel_rfl]
 let#[H,I,S,G]:=o;unfold yB at q;generalize B:(if i=1 then n else if i=2 then 6 else 1:Nat)=b at G q;have lb:b<=90:=by rw[<- B];split<;>(try split)<;>omega
 generalize ea:(if i=0 then n else 2:Nat)=a at q;have la:a<=90:=by rw[<- ea];split<;>omega
 have L:FB [j0 2,.int (n:Int)] (if decide (i=0)=j3 then 1 else 0)=jb (.int (a:Int)):=by rw[<- ea];by_cases z:i=0;rw[dT z,n8 z];rfl;rw[dF z,n7 z];rfl
 delta yF;simp! -implicitDefEqProofs[H,↓zB L];refine#[(),by decide +kernel,by decide,Eq.mpr (Xq (ks:=["person","matter","against","see"]) #[by simp,rfl] G) ?_];rw[Te];simp![↓xA];refine#[(),(),?_];refine UB (λk:Nat=>T.d (j0 (k:Int))) (λk=>CK (.per (kP s k))) (QH a) [] _ (λk hk R r=>?_) (by simp;omega) ?_;have:=Qf.mp hk;simp![↓uA (md:=[]) Z rfl rfl];refine PB l g () () #[rfl,TU.ok (.inr #[(),()]),lg () (),lg () (),(),?_];simp![↓xA];have e:CK (.per (kP s k))=.lst [.d (.str "person"),.d (.str (dC s k)),.d (.str (yD (9 * (k:Int)))),.d (.str "0"),.d (.str (yD (1+(k:Int) % 4)))]:=by show T.lst [_,_,_,.d (.str (yD 0)),_]=_;rw[Hq];rfl
 rw[e]at r;exact r;refine#[(),(),?_];refine UB (λk:Nat=>T.d (j0 (k:Int))) (λk=>CK (.mat (kM s k))) (QH b) [] _ (λk hk R r=>?_) (by simp;omega) ?_;have:=Qf.mp hk;simp![↓uA (md:=[]) Z rfl rfl];refine PB l g () () #[rfl,(),?_];simp![↓xA];exact r;refine#[by simp;omega,?_];have B:([]++(QH a).map (λk=>CK (.per (kP s k)))++([]++(QH b).map λk=>CK (.mat (kM s k))))=(((QH a).map (kP s)).map Rw.per++((QH b).map (kM s)).map Rw.mat).map CK:=by simp[qX]
 rw[B];generalize eR:((QH a).map (kP s)).map Rw.per++((QH b).map (kM s)).map Rw.mat=R;have lR:R.9<=180:=by rw[<- eR];simp;omega
 have fin:∀y m,pF Ψ yC (eZ Q) (Na s h n (bD (.int (a:Int))) (bD (.int (b:Int))) ((R++(if i=2 then(QH n).map (kA s) else[]).map λp=>Rw.aga p.1 p.2).map CK) y m):=λy m=>by refine Zl Z l g S M _ _ _ _ (by rw[QJ,QG];split<;>simp<;>omega) ?_;rw[<- eR];unfold wR at q;rw[Q9,Q9];exact q
 refine OD (λc=>?_) λc=>?_
 rotate_left
 rw[n7 (λz=>c (dT (I▸z))),wJ,Qe]at fin;exact fin _ _;have E:i=2:=I▸pz c;have W:=P E;rw[n8 E,He s W]at fin;have Y:((QH 6).flatMap λj=>(QH j).map λk=>(kM s j,kM s k)).9=15:=rfl;refine FC (λj:Nat=>T.d (j0 (j:Int))) (λX u=>∃(x:LN) (y:Option Sl),QH 6=x++X/\u=Na s h n (bD (.int (a:Int))) (bD (.int (b:Int))) ((R++(x.flatMap λj=>(QH j).map λk=>(kM s j,kM s k)).map λp=>Rw.aga p.1 p.2).map CK) y js) ?_ ?_ _ _ #[[],js,rfl,by simp;rfl]
 ·rintro u ⟨x,y,e,rfl⟩
  rw[Qe]at e;subst e;generalize ((QH 6).flatMap λj=>(QH j).map λk=>(kM s j,kM s k))=A at fin Y;change mB _ _ _ _ (Na s h n (bD (.int (a:Int))) (bD (.int (b:Int))) _ (fC y) js);generalize fC y=y;delta Na;simp![↓xA];refine#[(),(),?_];refine FC (λj:Nat=>T.d (j0 (j:Int))) (λX u=>∃(x:LN) (m:Option Sl),QH (n - 15)=x++X/\u=Na s h n (bD (.int (a:Int))) (bD (.int (b:Int))) ((R++(A++x.map λk:Nat=>(dC s (21+(k:Int)),dC s 25)).map λp=>Rw.aga p.1 p.2).map CK) y m) ?_ ?_ _ _ #[[],js,by rw[show((n:Int) - 15).toNat=n - 15 by omega];rfl,by simp;rfl]
  ·rintro u ⟨x,m,e,rfl⟩
   rw[Qe]at e;subst e;exact fin y (fC m)
  ·rintro k X u N K ⟨x,m,e,rfl⟩
   have ld:x.9<=n:=by have:=pu We e;simp at this;omega
   have hk:k<n - 15:=Qf.mp (by rw[e];simp);show mB Ψ _ iD _ [bD (.int s),bD (.str h),bD (.int (n:Int)),_,_,oW (.lst ((R++(A++x.map λk:Nat=>(dC s (21+(k:Int)),dC s 25)).map λp=>Rw.aga p.1 p.2).map CK)),y,bD (.int (k:Int))];delta iD;simp![↓uA (md:=[]) Z rfl rfl];refine PB l g () () #[rfl,PB l g () () #[rfl,(),?_]];simp![↓xA];refine#[by simp;omega,K _ #[x++[k],bD (.int (k:Int)),by rw[e];simp,?_]];have C:(R++(A++(x++[k]).map λk:Nat=>(dC s (21+(k:Int)),dC s 25)).map λp=>Rw.aga p.1 p.2).map CK=(R++(A++x.map λk:Nat=>(dC s (21+(k:Int)),dC s 25)).map λp=>Rw.aga p.1 p.2).map CK++[CK (.aga (dC s (21+(k:Int))) (dC s 25))]:=by simp
   rw[C];rfl
 ·rintro j X u N K ⟨x,y,e,rfl⟩
  have hj:j<6:=Qf.mp (by rw[e];simp);have J:(x.flatMap λj=>(QH j).map λk=>(kM s j,kM s k)).9<=15:=by rw[<- Y,e,List.flatMap_append,QJ];exact qh ..
  generalize eA:(x.flatMap λj=>(QH j).map λk=>(kM s j,kM s k))=A at J;show mB Ψ _ JD _ [bD (.int s),bD (.str h),bD (.int (n:Int)),bD (.int (a:Int)),bD (.int (b:Int)),oW (.lst ((R++A.map λp=>Rw.aga p.1 p.2).map CK)),bD (.int (j:Int)),js];delta JD;simp![↓xA];refine#[(),(),?_];refine UB (λk:Nat=>T.d (j0 (k:Int))) (λk=>CK (.aga (kM s j) (kM s k))) (QH j) [] _ (λk hk R r=>?_) (by simp;omega) ?_;have:=Qf.mp hk;simp![↓uA (md:=[]) Z rfl rfl];refine PB l g () () #[rfl,PB l g () () #[rfl,(),?_]];simp![↓xA];exact r;refine#[by simp;omega,K _ #[x++[j],bD (.int (j:Int)),by rw[e];simp,?_]];have C:(R++((x++[j]).flatMap λj=>(QH j).map λk=>(kM s j,kM s k)).map λp=>Rw.aga p.1 p.2).map CK=(R++A.map λp=>Rw.aga p.1 p.2).map CK++([]++(QH j).map λk=>CK (.aga (kM s j) (kM s k))):=by rw[<- eA];simp[qX]
  rw[C];rfl
def uZ(x:LS)(h:Str)(way:Int)(y z:Str):LS×Int :=
 if h="against" then(if way % 2=0 then x else[x.headD #[#[]],(x.drop 2).headD #[#[]],(x.drop 1).headD #[#[]]],2)
 else if way=1/\h≠"see" then(x.headD #[#[]]::y::x.drop 2,2)
 else if way=1 then(x.take 2++z::x.drop 3,3)
 else if way=2/\h="see" then(x.take 3++z::x.drop 4,3)
 else(x,4)
def vG:PSp where
 run:=λu Q _=>∃(a b c:Str) (r:LS) (h:Str) (y:Int) (x z:Str),u=[.d (.list ((a::b::r).map Jz)),.d (.str h),.d (.int y),.d (.str x),.d (.str z)]/\(r.9<=10/\(h="against"->r=[c]))/\∀t,t.er=.list [.list ((uZ (a::b::r) h y x z).1.map Jz),.int (uZ (a::b::r) h y x z).2]->Q t []
def NV{Ψ:PEv}(ds Q E)(h:vG.run ds Q E):Hu Ψ rH vG ZL tJ ds Q:=by
 let#[a,b,c,r,h,y,g,z,rfl,#[W,hc],q]:=h;refine rA [bD (.list ((a::b::r).map Jz)),bD (.str h),bD (.int y),bD (.str g),bD (.str z)] ?_;unfold uZ at q;have Y:=λk:Int=>@SW D (Jz a::.str b::r.map .str) k;have X:=λk:Int=>@SN D (Jz a::.str b::r.map .str) k;delta rH;by_cases l:h="against";obtain rfl:=hc l;simp only[n8 l]at q;subst l;have o:y % 2=0∨y % 2=1:=()
 simp![↓zJ,↓T2,↓Vo,QR,wJ];refine#[(),(),rfl,?_];show eE (.lst _) j3 _ Kz _;rw[VW];change eE (.d (.list [.list [.str a,.str b,.str c],.list [.str a,.str c,.str b]])) Kz _ _ _;rcases o with e|e;rw[n8 e]at q;simp![e,↓zJ];exact#[(),q _ rfl];rw[n7 ()]at q;simp![e,↓T2];exact#[(),q _ rfl];have Z:decide (h="against")=false:=dF l;simp only[n7 l]at q;have fin:∀(ds:List D) (n:LS) (k:Int),ds=n.map Jz->(∀t,T.er t=.list [.list (n.map Jz),.int k]->Q t [])->Q (.lst [.lst (ds.map T.d),.d (.int k)]) []:=λds n k e q=>q _ (by subst e;show PyData.list [PyData.list (ersT _),_]=_;rw[EA];rfl);simp![Z,QR];simp only[Y 2 (),Y 3 (),X 2 (),X 3 (),X 4 ()];refine OD (λi=>OD (λm=>?_) λm=>OD (λ_=>?_) λx=>n9 i x) λi=>OD (λx=>n9 x i) λ_=>OD (λs=>OD (λp=>?_) λp=>?_) λs=>?_;have u:y=1/\h≠"see":=#[pz i,λx=>by rw[dT x]at m;cases m]
 simp only[n8 u]at q;simp![↓zJ];refine#[(),?_];change zC .Add (.lst ([Jz a,.str g].map T.d)) j3 (.lst ((QDq _ _).map T.d)) j3 _;simp![↓xA];exact#[by simp;omega,(),fin _ _ _ (by simp) q];have u:y=1:=pz i;have j:¬ (y=1/\h≠"see"):=λx=>m (by rw[dF x.2];rfl);simp only[n7 j,n8 u]at q;exact#[(),by simp;omega,by simp;omega,(),fin _ _ _ (by simp) q];have u:¬ y=1:=λx=>i (dT x);have j:¬ (y=1/\h≠"see"):=λx=>u x.1;simp only[n7 j,n7 u,n8 (show y=2/\h="see" from#[pz s,pz p])]at q;exact#[(),by simp;omega,by simp;omega,(),fin _ _ _ (by simp) q];have u:¬ y=1:=λx=>i (dT x);have j:¬ (y=1/\h≠"see"):=λx=>u x.1;simp only[n7 j,n7 u,n7 (show ¬ (y=2/\h="see") from λx=>p (dT x.2))]at q;exact#[(),q _ rfl];have u:¬ y=1:=λx=>i (dT x);have j:¬ (y=1/\h≠"see"):=λx=>u x.1;simp only[n7 j,n7 u,n7 (show ¬ (y=2/\h="see") from λx=>s (dT x.1))]at q;exact#[(),q _ rfl]
def BR(s:Int)(i k:Nat):Rw:=if i=0 then .per (kP s k) else if i=1 then .mat (kM s k) else if i=2 then .aga (kA s k).1 (kA s k).2 else .ev (kE s k)
def FR(s:Int)(i:Nat):List Rw:=if i=0 then[] else((QH 2).map (kP s)).map Rw.per++(if i=1 then[] else((QH (if i=2 then 6 else 1)).map (kM s)).map Rw.mat)
def CR(s:Int)(i:Nat):List Rw:=if i=0 then[.mat (kM s 0)] else[]
def kh(s:Int)(h:i=0∨i=1∨i=2∨i=3):∃a b c r,IB (BR s i k)=a::b::r/\r.9<=10/\(i=2->r=[c]):=by rcases h with rfl|rfl|rfl|rfl;exact#[_,_,#[#[]],_,rfl,by show 3<=10;omega,λz=>()];exact#[_,_,#[#[]],_,rfl,by show 0<=10;omega,λz=>()];exact#[_,_,_,_,rfl,by show 1<=10;omega,λ_=>rfl];exact#[_,_,#[#[]],_,rfl,by show 3<=10;omega,λz=>()]
def BK(x:SG[i]?=jb h):i=0∨i=1∨i=2∨i=3:=by have:i<4:=(QZ.mp x).1;omega
def HC(s:Int)(x:SG[i]?=jb h)(n:Nat):yB s i n=FR s i++((QH n).map (BR s i)++CR s i):=by rcases BK x with rfl|rfl|rfl|rfl;show _=[]++((QH n).map (λk=>Rw.per (kP s k))++_);unfold yB wR;rw[Q8];rfl;show _=_++((QH n).map (λk=>Rw.mat (kM s k))++[]);unfold yB wR;simp[FR,qX];show _=_++((QH n).map (λk=>Rw.aga (kA s k).1 (kA s k).2)++[]);unfold yB wR;simp[FR,qX];show _=_++((QH n).map (λk=>Rw.ev (kE s k))++[]);unfold yB wR;simp[FR,qX]
def Ed(s:Int)(o:SG[i]?=jb h):(∀x∈FR s i,¬ x.hd=h)/\(∀k,(BR s i k).hd=h)/\∀x∈CR s i,¬ x.hd=h:=by
 let#[j,Y,X,A,r,q,K,W,Z]:=tY;have u:∀{a b:Str},decide (b=a)=Kz->¬ a=b:=λh z=>of_decide_eq_false h z.symm;have y:∀{l:List P4}{m:Str},¬ QA "person"=m->∀x∈l.map Rw.per,¬ x.hd=m:=λn x g=>by let#[p,_,rfl]:=Qa.mp g;exact n
 have e:∀{l:LS}{m:Str},¬ QA "matter"=m->∀x∈l.map Rw.mat,¬ x.hd=m:=λn x g=>by let#[p,_,rfl]:=Qa.mp g;exact n
 rcases BK o with rfl|rfl|rfl|rfl<;>cases o;exact#[(λx z=>by cases z),λ_=>rfl,(λx z=>by cases qD.mp z;exact of_decide_eq_false j)];refine#[λx z=>?_,λ_=>rfl,(λx z=>by cases z)];rcases Qp.mp z with z|z;exact y (u j) x z;cases z;refine#[λx z=>?_,λ_=>rfl,(λx z=>by cases z)];rcases Qp.mp z with z|z;exact y (u Y) x z;exact e (u r) x z;refine#[λx z=>?_,λ_=>rfl,(λx z=>by cases z)];rcases Qp.mp z with z|z;exact y (u X) x z;exact e (u q) x z
def isS(l:List Rw)(h:Str)(k:Nat):Bool:=match l[k]? with
 |some x=>decide (x.hd=h)|none=>Kz
def nY(e:l[k]?=jb x):isS l h k=decide (x.hd=h):=by unfold isS;rw[e]
def gb(u:∀x∈F,¬ x.hd=h)(b:∀x∈B,x.hd=h)(a:∀x∈C,¬ x.hd=h):(QH (F++(B++C)).9).filter (isS (F++(B++C)) h)=(QH B.9).map (F.9+·):=by
 rw[QJ,QJ,QA2,QA2,Q5,QAw,QAw];have i:(QH F.9).filter (isS (F++(B++C)) h)=[]:=W6.mpr λk hk=>by have hk:=Qf.mp hk;rw[nY (by rw[Qw hk,qC hk])];simpa using u _ (WB hk)
 have g:((QH B.9).map (F.9+·)).filter (isS (F++(B++C)) h)=(QH B.9).map (F.9+·):=QCF.mpr λk hk=>by let#[j,y,rfl]:=Qa.mp hk;have y:=Qf.mp y;rw[nY (by rw[Qj (qh ..),qR,Qw y,qC y])];simpa using b _ (WB y)
 have e:(((QH C.9).map (B.9+·)).map (F.9+·)).filter (isS (F++(B++C)) h)=[]:=W6.mpr λk hk=>by let#[l,z,rfl]:=Qa.mp hk;let#[j,y,rfl]:=Qa.mp z;have y:=Qf.mp y;rw[nY (by rw[Qj (qh ..),qR,Qj (qh ..),qR,qC y])];simpa using a _ (WB y)
 rw[i,g,e,Qu,Qe]
section
variable{l:List Rw}{r:Rw}
def MY(x:TF l r=Kz)(h:pM l r=j3):chk l r=jb "Twice":=by unfold chk;rw[x,h];rfl
def Vg(y:TF l r=Kz)(x:pM l r=Kz)(h:strB l r=j3):chk l r=jb "NoName":=by unfold chk;rw[y,x,h];rfl
def Z9(z:TF l r=Kz)(y:pM l r=Kz)(x:strB l r=Kz)(h:uI l r=j3):chk l r=jb "TooMany":=by unfold chk;rw[z,y,x,h];rfl
end
def oK(ps:List P4)(ms:LS)(x:P3)(h:List Ev):ND (wR ps ms x h)=[ps.map pD,ms.map Jz,x.map aD,h.map eD]:=by unfold ND;rw[y4,xV,t4,kj]
def dW(ps:List P4)(ms:LS)(x:P3)(h:List Ev):cF (wR ps ms x h)=ps.map qk:=by unfold cF;rw[y4]
def To{s:Int}(g:0<=s){way:Int}(Z:SG[i]?=jb h)(A:CG[i]?=jb m)(Y:j<m):∃(x:Rw) (d:Nat) (c:Str),uZ (IB (BR s i m)) h way ((IB (BR s i j)).tail.headD #[#[]]) (dC s 600)=(IB x,(d:Int))/\RowF x/\chk (FR s i++(QH m).map (BR s i)) x=jb c/\cls[d]?=jb c:=by
 have nm:=λk=>EE (s:=s) (k:=k) g;have np:∀{a b:Nat},a<600->b<=a->dC s (a:Int)∉((QH b).map (kP s)).map qk:=λ{a b} C B z=>by rw[Q8]at z;let#[k,hk,e]:=Qa.mp z;have hk:=Qf.mp hk;have:=zD g () () () () (show dC s (k:Int)=dC s (a:Int) from e);omega
 have q:∀{a b:Nat},a<=620->b<=a->kM s a∉(QH b).map (kM s):=λ{a b} C B z=>by let#[k,hk,e]:=Qa.mp z;have hk:=Qf.mp hk;have:=zD g () () () () (show dC s (20+(k:Int))=dC s (20+(a:Int)) from e);omega
 rcases BK Z with rfl|rfl|rfl|rfl<;>cases Z<;>cases A;have eA:FR s 0++(QH 10).map (BR s 0)=wR ((QH 10).map (kP s)) [] [] []:=by unfold wR;rw[Q8];simp[FR,BR,qX]
 rw[eA];have u:=t8 g (k:=10) ();have lt:∀p,TF (wR ((QH 10).map (kP s)) [] [] []) (.per p)=false:=λp=>by unfold TF;rw[oK];rfl
 by_cases w:way=1;refine#[.per (dC s j,(kP s 10).2),2,_,?_,#[aF (nm _) u.r0 u.r1 u.f0 u.f1 u.k0 u.k1,by show 4<=12;omega],MY (lt _) (dT ?_),rfl]
 ·unfold uZ
  rw[n7 (by decide +kernel),n8 #[w,by decide +kernel]];rfl
 rw[dW];exact e8 Y;refine#[.per (kP s 10),4,_,?_,#[aF (nm _) u.r0 u.r1 u.f0 u.f1 u.k0 u.k1,by show 4<=12;omega],Z9 (lt _) (dF ?_) rfl ?_,rfl]
 ·unfold uZ
  rw[n7 (by decide +kernel),n7 (λz=>w z.1),n7 w,n7 (λz=>n9 z.2 (by decide +kernel))];rfl
 rw[dW];exact np () ();unfold uI;rw[oK];rfl;have eA:FR s 1++(QH 6).map (BR s 1)=wR ((QH 2).map (kP s)) ((QH 6).map (kM s)) [] []:=by unfold wR;simp[FR,BR,qX]
 rw[eA];have lt:∀x,TF (wR ((QH 2).map (kP s)) ((QH 6).map (kM s)) [] []) (.mat x)=false:=λx=>by unfold TF;rw[oK];rfl
 by_cases w:way=1;refine#[.mat (kM s j),2,_,?_,#[eF (nm _),by show 1<=12;omega],MY (lt _) (dT ?_),rfl]
 ·unfold uZ
  rw[n7 (by decide +kernel),n8 #[w,by decide +kernel]];rfl
 rw[xV];exact MT Y;refine#[.mat (kM s 6),4,_,?_,#[eF (nm _),by show 1<=12;omega],Z9 (lt _) (dF ?_) rfl ?_,rfl]
 ·unfold uZ
  rw[n7 (by decide +kernel),n7 (λz=>w z.1),n7 w,n7 (λz=>n9 z.2 (by decide +kernel))];rfl
 rw[xV];exact q () ();unfold uI;rw[oK];rfl;have eA:FR s 2++(QH 15).map (BR s 2)=wR ((QH 2).map (kP s)) ((QH 6).map (kM s)) ((QH 15).map (kA s)) []:=by unfold wR;simp[FR,BR,qX]
 rw[eA];have lt:∀x y,TF (wR ((QH 2).map (kP s)) ((QH 6).map (kM s)) ((QH 15).map (kA s)) []) (.aga x y)=false:=λx y=>by unfold TF;rw[oK];rfl
 have r:dC s 21≠dC s 25:=λz=>by have:=zD g () () () () z;omega
 have l:(dC s 25,dC s 21)∈(QH 15).map (kA s):=Qa.mpr #[11,Qf.mpr (),rfl];by_cases w:way % 2=0;refine#[.aga (dC s 21) (dC s 25),2,_,?_,#[iE (nm _) (nm _) r,by show 2<=12;omega],MY (lt _ _) ?_,rfl]
 ·unfold uZ
  rw[n8 rfl,n8 w];rfl
 show(decide (_∈HA _)||decide (_∈HA _))=j3;rw[t4,dT l,QBf];refine#[.aga (dC s 25) (dC s 21),2,_,?_,#[iE (nm _) (nm _) r.symm,by show 2<=12;omega],MY (lt _ _) ?_,rfl]
 ·unfold uZ
  rw[n8 rfl,n7 w];rfl
 show(decide (_∈HA _)||decide (_∈HA _))=j3;rw[t4,dT l,QAn];have eA:FR s 3++(QH 80).map (BR s 3)=wR ((QH 2).map (kP s)) ((QH 1).map (kM s)) [] ((QH 80).map (kE s)):=by unfold wR;simp[FR,BR,qX]
 rw[eA];have X:dC s 600∉((QH 2).map (kP s)).map qk/\dC s 600∉(QH 1).map (kM s):=#[λz=>by rw[Q8]at z;let#[k,hk,e]:=Qa.mp z;have hk:=Qf.mp hk;have:=zD g () () () () (show dC s (k:Int)=dC s 600 from e);omega,q (a:=580) () ()]
 have F:dC s 0∈((QH 2).map (kP s)).map qk:=e8 (a:=0) ();have E:dC s 20∈(QH 1).map (kM s):=MT (a:=0) ();have n:∀x y,KA x=j3->KA y=j3->RowF (.ev (.see 0 x y "w")):=λx y K W=>#[KN () () K W (by decide +kernel),by show 4<=12;omega]
 have st:∀x y,strB (wR ((QH 2).map (kP s)) ((QH 1).map (kM s)) [] ((QH 80).map (kE s))) (.ev (.see 0 x y "w"))=((decide (x∉((QH 2).map (kP s)).map qk)||false)||(decide (y∉(QH 1).map (kM s))||false)):=λx y=>by show(List.any [x] _||List.any [y] _)=_;rw[dW,xV];rfl
 by_cases w:way=1;refine#[.ev (.see 0 (dC s 600) (dC s 20) "w"),3,_,?_,n _ _ (nm _) (nm _),Vg rfl rfl ?_,rfl]
 ·unfold uZ
  rw[n7 (by decide +kernel),n7 (λz=>z.2 rfl),n8 w];rfl
 rw[st,dT X.1];rfl;by_cases o:way=2;refine#[.ev (.see 0 (dC s 0) (dC s 600) "w"),3,_,?_,n _ _ (nm _) (nm _),Vg rfl rfl ?_,rfl]
 ·unfold uZ
  rw[n7 (by decide +kernel),n7 (λz=>w z.1),n7 w,n8 #[o,rfl]];rfl
 rw[st,dT X.2,QAn,QBf];refine#[.ev (.see 0 (dC s 0) (dC s 20) "w"),4,_,?_,n _ _ (nm _) (nm _),Z9 rfl rfl ?_ ?_,rfl]
 ·unfold uZ
  rw[n7 (by decide +kernel),n7 (λz=>w z.1),n7 w,n7 (λz=>o z.1)];rfl
 rw[st,dF (λz=>z F),dF (λz=>z E)];rfl;unfold uI;rw[oK];rfl
def Ke{s:Int}(y:0<=s)(a:SG[i]?=jb h)(u:CG[i]?=jb m)(hk:k<m+2):RowF (BR s i k):=by
 have nm:=λk=>EE (s:=s) (k:=k) y;rcases BK a with rfl|rfl|rfl|rfl<;>cases u;have x:=t8 y (k:=k) ();exact#[aF x.n x.r0 x.r1 x.f0 x.f1 x.k0 x.k1,by show 4<=12;omega];exact#[eF (nm _),by show 1<=12;omega];refine#[iE ?_ ?_ ?_,by show 2<=12;omega]<;>unfold kA<;>by_cases z:k<15
 ·let#[q,e,_]:=idx_ok k z
  rw[e];exact nm _
 rw[qP (show iR.length<=k by show 15<=k;omega)];exact nm _;let#[q,e,_]:=idx_ok k z;rw[e];exact nm _;rw[qP (show iR.length<=k by show 15<=k;omega)];exact nm _;let#[q,e,g,b]:=idx_ok k z;rw[e];exact λz=>by have:=GI y () () z;omega
 rw[qP (show iR.length<=k by show 15<=k;omega)];exact λz=>by have:=zD y () () () () z;omega
 exact#[KN () () (nm _) (nm _) (by decide +kernel),by show 4<=12;omega]
def oI:PSp where
 md:=[.bor,.bor,.bor,.bor,.shal]
 run:=λy Q _=>∃(s:Int) (i:Nat) (h:Str) (m:Nat) (n:Int) (x:LJ),y=[.d (.int s),.d (.str h),.d (.int (m:Int)),.d (.int n),lB x]/\(0<=s/\s<2 ^ 60)/\(SG[i]?=jb h/\CG[i]?=jb m)/\0<=n/\tB x/\Q (.d (.bool j3)) []
def SV{Ψ:PEv}(h1:Ψ.sp "_law_many_lines"=XQ)(h2:Ψ.sp "_law_caught"=BH)(h3:Ψ.sp "_law_spread"=UH)(h4:Ψ.sp "_law_twisted"=vG)(h5:Ψ.sp "_law_name"=UC)(h6:Ψ.sp "_law_is_refused"=oC):yL Ψ tH oI KL aJ:=by
 rintro _ Q _ ⟨s,i,h,m,n,S,rfl,⟨Z,s1⟩,⟨y,o⟩,n0,B,q⟩;refine rA [bD (.int s),bD (.str h),bD (.int (m:Int)),bD (.int n),jb (.bor (lB S)),js,js,js,js,js,js,js] ?_;have m80:m<=80:=by
  have:∀k∈CG,k<=80:=by decide
  exact this m (qa o)
 obtain⟨e,he⟩:∃e:Nat,(e:Int)=n % 3:=#[(n % 3).toNat,()]
 have e2:e<=2:=()
 have i15:i=2->15<=m+e:=λz=>by subst z;cases o;omega
 have em:(m:Int)+n % 3=((m+e:Nat):Int):=()
 delta tH;simp! -implicitDefEqProofs[em,↓uA (md:=[]) h1 rfl rfl];refine#[_,_,_,_,rfl,#[Z,s1],#[y,(),i15],#[rfl,?_]];have lR:(yB s i (m+e)).9<=110:=by
  rw[HC s y];have l1:(FR s i).9<=8/\(CR s i).9<=1:=by rcases BK y with rfl|rfl|rfl|rfl<;>simp[FR,CR]
  simp only[QJ,QG,qA];omega
 have lD:(aA ((yB s i (m+e)).map IB)).9=(yB s i (m+e)).length:=by unfold aA;rw[QG,QG]
 simp![lD];refine#[(),(),?_];refine vD (λk:Nat=>T.d (j0 (k:Int))) (λk:Nat=>T.d (j0 (k:Int))) (isS (yB s i (m+e)) h) (QH (yB s i (m+e)).9) _ _ (λk hk R W=>?_) (by simp;omega) ?_;have hk:=Qf.mp hk;obtain⟨x,G⟩:∃x,(yB s i (m+e))[k]?=jb x:=#[_,qC hk]
 have a1:FB (aA ((yB s i (m+e)).map IB)) (k:Int)=jb (.list ((IB x).map Jz)):=UA (by unfold aA;rw[Qd,Qd,G];rfl);have a0:FB ((IB x).map Jz) 0=jb (.str x.hd):=UA (j:=0) rfl;rw[nY G]at W;simp![↓zB a1,↓zB a0];cases c:decide (x.hd=h) with|true=>rw[c]at W;exact W|false=>rw[c]at W;exact W
 have M:(QH (yB s i (m+e)).9).filter (isS (yB s i (m+e)) h)=(QH (m+e)).map λx=>(FR s i).9+x:=by
  rw[HC s y];let#[hF,hB,hC]:=Ed s y;have M:=gb hF (B:=(QH (m+e)).map (BR s i)) (λx G=>by let#[k,_,rfl]:=Qa.mp G;exact hB k) hC
  rwa [QG,qA]at M
 rw[M,Qu,VT λk:Nat=>j0 (k:Int),jo];simp![↓xA];have l:=dZ Z (i:=i) (by rcases BK y with z|z|z|z<;>omega);rw[o]at l;have l:gF (yB s i m):=l;have lF:(FR s i).9<=8/\(CR s i).9<=1:=by rcases BK y with rfl|rfl|rfl|rfl<;>simp[FR,CR]
 have er:∀L:List D,T.er (.lst (L.map T.d))=.list L:=λL=>by show PyData.list (ersT _)=_;rw[EA]
 refine OD (λc=>?_) λc=>?_;have e0:e=0:=by have:=pz c;omega
 subst e0;rw[Nat.add_zero]at lR ⊢;rw[er];have F:((yB s i m).map IB).9<=300:=by rw[QG];omega
 simp![↓uA (md:=[]) h2 rfl rfl,↓uA (md:=[.bor,.shal]) h3 rfl rfl];refine#[(yB s i m).map IB,S,rfl,B,#[F,RL l],λb P k la X rl H=>#[rfl,?_]];rw[VW,GK];have E:=DK X rl F H;have rd:=sN la X k;generalize b++QK k (QA "")=R at E rd;simp![↓zJ];refine#[_,_,_,rfl,E,l,(.fine rd ?_ ?_),#[rfl,?_]];have hp:=y4 ((QH (if i=0 then m else 2)).map (kP s)) ((QH (if i=1 then m else if i=2 then 6 else 1)).map (kM s)) (if i=2 then(QH m).map (kA s) else[]) (if i=3 then(QH m).map (kE s) else[]);rcases BK y with rfl|rfl|rfl|rfl<;>cases o<;>exact λz=>n9 (hp.symm.trans z) (λz=>by cases z);have hp:=xV ((QH (if i=0 then m else 2)).map (kP s)) ((QH (if i=1 then m else if i=2 then 6 else 1)).map (kM s)) (if i=2 then(QH m).map (kA s) else[]) (if i=3 then(QH m).map (kE s) else[]);rcases BK y with rfl|rfl|rfl|rfl<;>cases o<;>exact λz=>n9 (hp.symm.trans z) (λz=>by cases z);delta Gm;simp![↓xA];exact q;have e1:1<=e:=by rcases Nat.eq_zero_or_pos e with z|z;exact n9 (dT ()) c;exact z
 have mp:0<m:=by
  have:∀k∈CG,0<k:=by decide
  exact this m (qa o)
 have ap:∀j:Nat,j<m+e->FB (((QH (m+e)).map (λx=>(FR s i).9+x)).map λk:Nat=>j0 (k:Int)) (j:Int)=jb (.int (((FR s i).9+j:Nat):Int)):=λj Y=>UA (by rw[Qd,Qd,wg Y];rfl);obtain⟨j,Y⟩:∃j:Nat,(j:Int)=n / 9 % (m:Int):=#[(n / 9 % (m:Int)).toNat,Wg (Qv _ ())]
 have jm:j<m:=by have:=Qi (n / 9) (show(0:Int)<m by omega);omega
 have al:∀j:Nat,j<m+e->FB (aA ((yB s i (m+e)).map IB)) (((FR s i).9+j:Nat):Int)=jb (.list ((IB (BR s i j)).map Jz)):=λj Y=>UA (by unfold aA;rw[Qd,Qd,HC s y,Qj (qh ..),qR,Qw (by simpa using Y),Qd,wg Y];rfl);rw[<- Y];simp![↓zB (ap m ()),↓zB (ap j ())];let#[a',a,_,r',C,_,_]:=kh s (k:=j) (BK y);have a1:FB ((IB (BR s i j)).map Jz) 1=jb (.str a):=by rw[C];exact T2 ..
 refine#[(),?_];simp![↓zB (al j ()),↓zB a1];simp! -implicitDefEqProofs[↓uA (md:=[]) h4 rfl rfl,↓uA (md:=[]) h5 rfl rfl,↓zB (al m ())];refine PB Z s1 () () #[rfl,?_];simp![↓xA];let#[x,d,cl,tw,J,ck,cd]:=To Z (way:=n / 3 % 3) y o jm;have et:(IB (BR s i j)).tail.headD #[#[]]=a:=by rw[C];rfl
 rw[et]at tw;let#[am,bm,cm,rm,A,N,rc]:=kh s (k:=m) (BK y);refine#[am,bm,cm,rm,h,_,a,dC s 600,by rw[A],#[N,λz=>rc ?_],λt ht=>#[rfl,.list ((IB x).map Jz),.int (d:Int),?_,?_]];rcases BK y with rfl|rfl|rfl|rfl<;>cases y<;>first|rfl|exact n9 z (by decide +kernel)
 rw[ht,<- A,tw];have hsp:yB s i (m+e)=(FR s i++(QH m).map (BR s i))++(yB s i (m+e)).drop ((FR s i).9+m):=by
  have:(yB s i (m+e)).take ((FR s i).9+m)=FR s i++(QH m).map (BR s i):=by rw[HC s y,QA2,Q5,Q9,<- Q9,QDg (by simp)]
  rw[<- this,wq]
 have tA:gF (FR s i++(QH m).map (BR s i)):=by rw[HC s y,<- Q9]at l;exact JS l
 have K:∀p∈(yB s i (m+e)).map IB,OL p:=λp g=>by
  let#[r,u,rfl]:=Qa.mp g;have gm:∀r∈yB s i m,OL (IB r):=λr u=>RL l _ (QAj u);rw[HC s y]at u gm;rcases Qp.mp u with u|u;exact gm r (qJ _ u);rcases Qp.mp u with u|u
  ·let#[k,hk,rfl]:=Qa.mp u
   have f:=Ke Z y o (k:=k) (by have:=Qf.mp hk;omega);exact ZR f.good f.few
  exact gm r (Qg _ (Qg _ u))
 have hk:(FR s i).9+m<(yB s i (m+e)).length:=by rw[HC s y];simp only[QJ,QG,qA];omega
 have eS:((aA ((yB s i (m+e)).map IB)).map T.d).set ((FR s i).9+m) (.d (.list ((IB x).map Jz)))=(aA (((yB s i (m+e)).map IB).set ((FR s i).9+m) (IB x))).map T.d:=by unfold aA;rw[List.map_set,List.map_set]
 refine#[_,_,(FR s i).9+m,rfl,rfl,?_,?_];unfold N3;rw[QG,lD,n8 (),n8 (),W8];rw[eS];have lnx:OL (IB x):=ZR J.good J.few;have F:((yB s i (m+e)).map IB).9<=300:=by rw[QG];omega
 have eL:((yB s i (m+e)).map IB).set ((FR s i).9+m) (IB x)=(FR s i++(QH m).map (BR s i)).map IB++IB x::((yB s i (m+e)).map IB).drop ((FR s i).9+m+1):=by rw[List.set_eq_take_append_cons_drop,n8 (by rw[QG];exact hk),<- QBS,hsp,QDg (by simp)]
 rw[eL];have lno:∀p∈(FR s i++(QH m).map (BR s i)).map IB++IB x::((yB s i (m+e)).map IB).drop ((FR s i).9+m+1),OL p:=λp g=>by
  rcases Qp.mp g with g|g;exact RL tA p g;rcases QO.mp g with rfl|g
  ·exact lnx
  exact K p (QAQ g)
 have ll:((FR s i++(QH m).map (BR s i)).map IB++IB x::((yB s i (m+e)).map IB).drop ((FR s i).9+m+1)).9<=300:=by rw[<- eL,we];exact F
 simp![er,↓uA (md:=[.bor,.shal]) h3 rfl rfl];refine#[_,S,rfl,B,#[ll,lno],λb P k la X rl H=>#[rfl,?_]];have ea:=GK (b++QK k (QA "")) P;refine#[_,_,ea,?_];have E:=DK X rl ll H;let#[pre,r,post,ps1,I,g2,g3,g4]:=la.split rfl;have lA:((FR s i++(QH m).map (BR s i)).map IB).9=(FR s i).9+m:=by simp
 rw[lA]at g4;have aP:FB (P.map λ(n:Nat)=>j0 (n:Int)) (((FR s i).9+m:Nat):Int)=jb (.int ((pre.9:Int)+1)):=UA (by rw[Qd,g4];rfl);have O:Reads pre (FR s i++(QH m).map (BR s i)):=g3.reads rfl λr u=>X r (by rw[I];exact qJ _ u);simp![↓uA (md:=[]) h6 rfl rfl,↓uA (md:=[]) h2 rfl rfl,↓zB aP];refine#[_,_,_,rfl,E,tA,(.bad (pre:=pre) (bad:=r) (post:=post++QK k (QA "")) (c:=cl) ?_ O (X r (by rw[I];simp)).1 (.ref g2 J ck)),#[rfl,?_]];unfold nz;rw[n7 (by rw[I];simp),I];simp;simp![↓zB aP];exact MX cd #[rfl,q]
def En{h:List D}:DB (.bor::md) ((.lst (h.map T.d),j3)::xs) C=DB md xs λx=>C (.d (.list h)::x):=by have e:BA (.bor::md) ((.lst (h.map T.d),j3)::xs) []=(BA md xs []).map (.d (.list (ersT (h.map T.d)))::·):=rfl;unfold DB;rw[e,EA];exact EG
def Et:DB (.bor::md) ((.d d,n)::xs) C=DB md xs λh=>C (.d d::h):=by
 have e:BA (.bor::md) ((.d d,n)::xs) []=(BA md xs []).map (.d d::·):=by cases n<;>rfl
 unfold DB;rw[e];exact EG
def UI(ns:LJ):List (LS):=(TB ns).map IB
def Zo(ns:LJ)(k u z y x h:Option Sl):yA:=[jb (.bor (lB ns)),bD (W4 (TB ns)),bD (.list (aA (UI ns))),k,u,z,y,x,h]
section
variable{Ψ:PEv}{Z:PEnds}{ns:LJ}{k:Nat}
def Xr(l:Ψ.sp "_law_draw"=mE)(j:Ψ.sp "_law_ends_right"=TL)(B:tB ns)(hk:k<4)(u:∀z y,Z.nx (Zo ns (bD (.int (k:Int))) z y js js js))(z y:Option Sl) :
  pF Ψ zS Z (Zo ns (bD (.int (k:Int))) z y js js js):=by
 have q:ke=16777216:=wP;have h:=mM ns;have p:=x4 ns;have x:(aA (UI ns)).9=(TB ns).length:=by unfold aA UI;rw[QG,QG]
 have i:W4 (TB ns)=.tuple [.list ((OA (TB ns)).map pD),.list ((GA (TB ns)).map Jz),.list ((HA (TB ns)).map aD),.list ((EF (TB ns)).map eD)]:=rfl;unfold Zo at u ⊢;rw[i]at u ⊢;delta zS;simp![↓uA (md:=[.shal]) l rfl rfl];refine#[_,_,rfl,B,#[(),()],#[rfl,?_]];rw[Te];have g:=GR ns (500+(k:Int));generalize pA ns (500+(k:Int))=n at g;simp![x,↓zJ,↓uA (md:=[.bor,.shal]) j rfl rfl];refine#[(),(),(),?_];have b:∃a:Int,0<=a/\FB [j0 (n / 2 % (((TB ns).9:Int)+1)),.int (n / 2 % ((((OA (TB ns)).map pD).9:Int)+2))] (n % 2)=jb (.int a):=by
  have:n % 2=0∨n % 2=1:=()
  rcases this with e|e;exact#[_,Qv (n / 2) (show((TB ns).9:Int)+1≠0 by omega),by rw[e];exact zJ ..];exact#[_,Qv (n / 2) (show(((OA (TB ns)).map pD).9:Int)+2≠0 by omega),by rw[e];exact T2 ..]
 let#[a,o,b]:=b;rw[zB b];change DB [.bor,.shal] [(T.lst ((ZE (aA (UI ns)) js (jb a)).map T.d),j3),(lB ns,Kz)] _;simp![↓En];rw[SW _ o,show(aA (UI ns)).take a.toNat=aA (((TB ns).take a.toNat).map IB) from by unfold aA UI;rw[<- QBS,<- QBS]];refine#[_,_,rfl,B,(by rw[Wd];omega),(JS (m:=(TB ns).drop a.toNat) (by rw[wq];exact h)),#[rfl,?_]];simp![↓xA];exact u _ _
end
def N4(p:Rw->Bool)(t:gF l)(k:∀a r,p r=j3->RowOk a r->RowOk (a.filter p) r):gF (l.filter p):=by intro a r b e;let#[z,o,n,m,j]:=List.filter_eq_append_iff.mp e;let#[y,x,i,g,u,q]:=List.filter_eq_cons_iff.mp j;have h:=k (z++y) r u (t _ r x (by rw[n,i];simp));rw[QAw,m,W6.mpr (by simpa using g),Qe]at h;exact h
def R6(x:Rw):Bool:=decide (x.hd="person")
def Jo(x:Rw):Bool:=decide (x.hd∈([QA "matter","against"]))
def nP{α:Type}{f:Rw->Option α}{a:List Rw}(h:a.filterMap f=[]):(a.filter p).filterMap f=[]:=Qh.mpr λx y=>Qh.mp h x (QBh.mp y).1
def J6(a:List Rw):OA (a.filter R6)=OA a:=by
 unfold OA;rw[QAH];refine pu (QBz · a) (funext λx=>?_);cases x with|per p=>exact n8 (dT rfl)|_=>split<;>rfl
def Sv(a:List Rw):GA (a.filter Jo)=GA a/\HA (a.filter Jo)=HA a:=by
 unfold GA HA;rw[QAH,QAH];refine#[pu (QBz · a) (funext λx=>?_),pu (QBz · a) (funext λx=>?_)];cases x with|mat p=>exact n8 (dT QL)|_=>split<;>rfl
 cases x with|aga p q=>exact n8 (dT (QI _ QL))|_=>split<;>rfl
def M4{l:List Rw}(t:gF l):gF (l.filter R6):=N4 _ t λa r h o=>by
 have z:=o.sec;cases r with
 |per p=>exact#[o.good,o.few,nP z.1,nP z.2.1,nP z.2.2.1,by unfold cF;rw[J6];exact z.2.2.2.1,by rw[J6];exact z.2.2.2.2]|mat m=>exact n9 h (by show ¬ decide (QA "matter"=_)=j3;decide +kernel)|aga x y=>exact n9 h (by show ¬ decide (QA "against"=_)=j3;decide +kernel)|ev e=>cases e with|see t p m w=>exact n9 h (by show ¬ decide (QA "see"=_)=j3;decide +kernel)|tell t p q m w b=>exact n9 h (by show ¬ decide (QA "tell"=_)=j3;decide +kernel)
def Ea{l:List Rw}(t:gF l):gF (l.filter Jo):=N4 _ t λa r h o=>by
 have z:=o.sec;let#[u,k]:=Sv a;cases r with
 |per p=>exact n9 h (by show ¬ decide (QA "person"∈([QA "matter",QA "against"]))=j3;decide +kernel)|mat m=>exact#[o.good,o.few,nP z.1,nP z.2.1,by rw[u];exact z.2.2.1,by rw[u];exact z.2.2.2]|aga x y=>exact#[o.good,o.few,nP z.1,by rw[k];exact z.2.1,by rw[k];exact z.2.2.1,by rw[u];exact z.2.2.2.1,by rw[u];exact z.2.2.2.2.1,by rw[k];exact z.2.2.2.2.2]|ev e=>cases e with|see t p m w=>exact n9 h (by show ¬ decide (QA "see"∈([QA "matter",QA "against"]))=j3;decide +kernel)|tell t p q m w b=>exact n9 h (by show ¬ decide (QA "tell"∈([QA "matter",QA "against"]))=j3;decide +kernel)
def flt{body:T->(Option T->Prop)->Prop}{p:Rw->Bool}{l:List Rw}{Q:LT->Prop}(h:∀x∈l,∀R:Option T->Prop,R (if p x=j3 then jb (T.d (.list ((IB x).map Jz))) else js)->body (T.d (.list ((IB x).map Jz))) R)(hl:l.9<=200)(q:Q ((aA ((l.filter p).map IB)).map T.d)):gD body ((aA (l.map IB)).map T.d) [] Q:=by
 have e:∀l:List Rw,(aA (l.map IB)).map T.d=l.map λx=>T.d (.list ((IB x).map Jz)):=λl=>by simp[aA]
 rw[e]at q ⊢;exact vD _ _ p l [] Q h (by simp;omega) (by rw[Qu];exact q)
def j8:D:=.dict (OI ["person","matter","against","see"] [.int 10,.int 6,.int 15,.int 80])
def EZ{i:Nat}{h:Str}(x:SG[i]?=jb h):∃m:Nat,CG[i]?=jb m/\((["person","matter","against","see"]:LS).zip [j0 10,.int 6,.int 15,.int 80]).lookup h=jb (.int (m:Int)):=by rcases BK x with rfl|rfl|rfl|rfl<;>cases x<;>exact#[_,rfl,by kernel_rfl]
def Tk{Ψ:PEv}(H:Ψ.sp "_law_world"=JM)(P:Ψ.sp "_law_lines"=YM)(K:Ψ.sp "_law_draw"=mE)(I:Ψ.sp "_law_ends_right"=TL)(S:Ψ.sp "_law_counted"=oI):yL Ψ O9 PQ li E5:=by
 rintro _ Q _ ⟨z,hl,O,rfl,q⟩;have B:tB z:=#[hl,O]
 have u:=mM z;have A:G3 (TB z)=TB z:=zj _ _ _ _;have X:=x4 z;have Y:=l5 u;have E:=BQ z;refine rA [jb (.bor (lB z)),js,js,js,js,js,js,js,js] ?_;delta O9;simp![↓uA (md:=[.shal]) H rfl rfl];refine#[_,rfl,B,#[rfl,?_]];rw[<- V5,Te];simp![↓uA (md:=[]) P rfl rfl];refine#[_,rfl,(by rw[A];exact X),(by rw[A];exact Y),#[rfl,?_]];rw[A];refine#[rfl,?_];rw[u8];simp![↓xA];refine FC (λ(i:Nat)=>T.d (j0 (i:Int))) (λn b=>(∀i∈n,i<4)/\∃k l g,b=Zo z k l g js js js) ?_ ?_ _ _ #[λi r=>Qf.mp r,js,js,js,rfl]
 rotate_left
 rintro i n b N W ⟨G,k,l,g,rfl⟩;exact Xr K I B (G i QL) (λl g=>W _ #[λj M=>G j (QI _ M),_,_,_,rfl]) _ _;rintro b ⟨_,k,l,g,rfl⟩;change mB _ _ _ _ (Zo z (fC k) l g js js js);generalize fC k=k;unfold Zo;simp![↓uA (md:=[.bor,.shal]) I rfl rfl];unfold UI;refine flt (p:=Jo) (λx _ R a=>?_) X ?_;have C:FB ((IB x).map Jz) 0=jb (.str x.hd):=UA (j:=0) rfl;simp![↓zB C];refine#[(),.inl #[rfl,rfl],?_];have e:([Jz (QA "matter"),Jz (QA "against")].any λy=>Q2 y (.str x.hd))=Jo x:=JF [QA "matter",QA "against"] x.hd;rw[e];cases c:Jo x with|true=>rw[c]at a;exact a|false=>rw[c]at a;exact a
 have F:∀p:Rw->Bool,((TB z).filter p).9<=200:=λp=>qG (QBn ..) X;simp![↓En];refine#[_,_,rfl,B,(F _),(Ea u),#[rfl,?_]];simp![↓xA];refine flt (p:=R6) (λx _ R a=>?_) X ?_;have C:FB ((IB x).map Jz) 0=jb (.str x.hd):=UA (j:=0) rfl;simp![↓zB C];show if R6 x=j3 then _ else _
 cases c:R6 x with|true=>rw[c]at a;exact a|false=>rw[c]at a;exact a
 simp![↓En];refine#[_,_,rfl,B,(F _),(M4 u),#[rfl,?_]];simp![↓uA (md:=[.shal]) K rfl rfl];refine#[_,_,rfl,B,#[(),()],#[rfl,#[by decide,by decide,by decide],?_]];simp![↓xA];refine#[by decide,?_];refine#[by decide +kernel,by decide,(),?_];show BP .enum [(T.d (.list (SG.map Jz)),Kz)] _;rw[Po];refine FC (λp:D×Nat=>T.d (.tuple [.int (p.2:Int),p.1])) (λn b=>(∀p∈n,∃h,p.1=Jz h/\SG[p.2]?=jb h)/\∃k s:Option Sl,b=[jb (.bor (lB z)),bD (W4 (TB z)),bD (.list (aA ((TB z).map IB))),k,l,g,bD (.int (MF z)),bD j8,s]) ?_ ?_ _ _ #[λp o=>?_,_,_,rfl];rintro b ⟨_,k,s,rfl⟩;change mB _ _ _ _ [_,_,_,fC k,_,_,_,_,fC s];simp![↓xA];exact q;rintro⟨p,i⟩ n b N W ⟨o,k,s,rfl⟩;let#[h,rfl,r]:=o _ QL;refine#[_,rfl,?_];let#[m,L,J]:=EZ r;show mB Ψ _ yS _ [jb (.bor (lB z)),bD (W4 (TB z)),bD (.list (aA ((TB z).map IB))),bD (.int (i:Int)),l,g,bD (.int (MF z)),bD j8,bD (.str h)];delta j8;delta yS;simp! -implicitDefEqProofs[↓uA (md:=[.bor,.bor,.bor,.bor,.shal]) S rfl rfl,↓uA (md:=[.shal]) K rfl rfl,↓Xq (ks:=["person","matter","against","see"]) #[by simp,rfl] J,↓Et];have i4:i<4:=(QZ.mp r).1;have s2:=E.2;refine#[_,_,rfl,B,#[(),()],#[rfl,?_]];simp![↓Et];refine#[_,_,_,_,_,_,rfl,#[E.1,()],#[r,L],(GR z _),B,#[rfl,?_]];simp![↓xA];exact W _ #[λp Z=>o p (QI _ Z),_,_,rfl];simp only[SG,QR,wJ,QAJ,QBk,QO,qT,or_false]at o;rcases o with rfl|rfl|rfl|rfl<;>exact#[_,rfl,rfl]
end L2.L3.K3
namespace L2.L3
open PySem PySem.Spec PyProof.Rows L2.L3.Q
def IM{α z y x h:Type}{o:Option α}{f:α->z×y}{g:α->x}{k:α->h}{a:z×y}{b:x}{c:h}(u:o.map (λs=>((f s).1,g s))=jb (a.1,b))(i:o.map (λs=>(f s).2)=jb a.2)(e:o.map k=jb c):o.map (λs=>(f s,(g s,k s)))=jb (a,(b,c)):=by
 cases o with|none=>cases u|some s=>let#[n,m]:=Wh (QW u);have l:(f s).2=a.2:=QW i;have j:k s=c:=QW e;show jb (f s,(g s,k s))=jb (a,(b,c));rw[m,j,<- Prod.eta (f s),n,l]
def CW:∀(x:List kl),(Fu x h).In h
 |[],a,o,e=>nomatch e
 |b::x,a,o,e=>by
  unfold Fu at e;rw[wa]at e;cases c:h.get? b with
  |none=>rw[c]at e;exact CW x a o e|some y =>
   rw[c]at e;have e:wf a ((b,y)::Fu x h)=jb o:=e;rw[Ql]at e;cases d:a==b with|true=>rw[d]at e;cases e;rw[beq_iff_eq.mp d];exact c|false=>rw[d]at e;exact CW x a o e
def A8{K:QC}{x q:Str}{st:y1}{f:kl}{y:x3}{a:ky}{k:Option kl}{z:Array (Option ky)}(hl:K.lookup f=jb #[a,k,.func y,z])(h:E8 y (WX K y.code q&&qq K (.ref f))=E8 (qZ x q (bC st) (JB st) (oA st) .none .none .none .none js .none .none) j3):∃y,Fun K x q st f y:=by let#[W,Z,Y,X,s,r,p,o,n,m,l,j,i,g,e]:=y;unfold E8 at h;injection h with h1 h2;injection h2 with h2 h3;injection h1 with b1 h1;injection h1 with b2 h1;injection h1 with b3 h1;injection h1 with b4 b5;injection h2 with c1 h2;injection h2 with c2 h2;injection h2 with c3 c4;let#[u,b]:=QAR.mp h3;simp only at b1 b2 b3 b4 b5 c1 c2 c3 c4 u;subst b1 b2 b3 b4 b5 c1 c2 c3 c4;exact#[_,Zm hl u b]
def i5{K:QC}{x:Str}{st:y1}(h:FW K x=CN x st)(y:(CN x st).isSome=j3):SU K x st:=by
 have hd:CN x st=jb (E8 (qZ x x (bC st) (JB st) (oA st) .none .none .none .none js .none .none) j3):=by by_cases k:st.ctorIdx=0;exact @WH (λst=>CN x st=jb (E8 (qZ x x (bC st) (JB st) (oA st) .none .none .none .none js .none .none) j3)) st k λ_ _ _ _ _ _ _ _ _ _=>rfl;unfold CN at y;rw[dif_neg k]at y;cases y
 rw[hd]at h;unfold FW at h;split at h;rename_i f hf;split at h;rename_i hl;let#[z,F]:=A8 hl (QW h);exact#[f,z,hf,F];cases h;cases h
def Yb{K:QC}{x:Str}(h:jW K x=j3):qw K vl x=jb none:=by unfold jW at h;split at h;assumption;cases h
def Y5(u:ky):Op u=(M3 u).map QCW:=by cases u<;>rfl
def Gj{K:QC}{x:Str}{d:D}(h:vj K x=jb d):dO K x d:=by
 unfold vj at h;split at h;rename_i u hu;rw[Y5]at h;cases e:M3 u with|none=>rw[e]at h;cases h|some p=>let#[v,y]:=p;rw[e]at h;cases h;have ok:=(tV (K:=K) e).2;refine#[u,v,hu,?_,ok];unfold M3 at e;split at e<;>cases e<;>rfl
 cases h
def Vb(its:LW):its.map Op=(its.map M3).map λo=>o.map QCW:=by rw[Q8];exact Wi λu _=>Y5 u
def tX{K:QC}{f:kl}{x:List D}(h:tupD K f=jb (x.map jb))(y:x.9<=ke):∀F,Rep K F (.ref f) (.tuple x):=by unfold tupD at h;split at h;rename_i t od its n sl hl;split at h;rename_i et;subst et;injection h with h;exact G5 (its:=its.toList) (by simpa using hl) ((Vb _).symm.trans h) y;cases h;cases h
def pV:D->Bool
 | .tuple h=>decide (h.9<=1000)|_=>j3
def ym(h:zm z=jb x):∃t,z=.str x t:=by
 cases z with|str y t=>cases h;exact#[t,rfl]|_=>cases h
def Nj(h:Oj u=jb f):u=.ref f:=by
 cases u with|ref g=>cases h;rfl|_=>cases h
def Fm{K:QC}{w:vu}:∀(a:List hI) (y:List (Str×D)),a.map (Dj K)=y.map (fe w)->(y.all λp=>pV p.2)=j3->Ent K w a y:=by
 intro a;induction a with
 |nil =>
  intro y h _;cases y with|nil=>exact .nil|cons _ _=>cases h
 |cons e a m =>
  intro y h z;let#[n,l,u]:=e;cases y with
  |nil=>cases h|cons p y =>
  let#[x,d]:=p;rw[QR,QR]at h;let#[b,o]:=QAW h;rw[qB,Qc]at z;have r:=m y o z.2;unfold Dj fe at b;injection b with j b;injection b with i k;have j:n=WY w.params x:=j;have i:zm l=jb x:=i;have k:Cj K u=Ks d:=k;subst j;let#[t,rfl]:=ym i;unfold Cj at k;cases e:Oj u with
  |some f =>
   obtain rfl:=Nj e;rw[e]at k;cases d with|tuple g=>have k:(js,tupD K f)=((js,jb (g.map jb)):Option D×Option (List (Option D))):=k;have q:g.9<=1000:=pz z.1;exact .cons rfl (tX (Wh k).2 ()) r|_=>cases(Wh k).1
  |none =>
   rw[e]at k;cases d with|tuple g=>cases(Wh k).2|_=>exact .sc ((Y5 u).symm.trans (Wh k).1) r
def nZ{K:QC}{w:vu}{x:Str}{y:List (Str×D)}(h:PN K x=jb (y.map (fe w)))(k:zH (y.map qk)=j3)(u:(y.all λp=>pV p.2)=j3):aO w K x y:=by unfold PN at h;split at h;rename_i a ha;split at h;rename_i hs;split at h;rename_i t es ep sl hl;split at h;rename_i et;let#[rfl,z]:=et;injection h with h;have:sl=#[]:=Array.eq_empty_of_size_eq_zero z;subst this;exact#[a,es,ep,ha,hs,hl,Fm _ _ h u,rD k];cases h;cases h;cases h;cases h
def t5{K:QC}{x:Str}{y:List D}(h:xj K x=jb (y.map jb))(z:y.9<=ke):dO K x (.tuple y):=by unfold xj at h;split at h;rename_i f hf;exact#[_,_,hf,rfl,tX h z];cases h
def walk_seenW{l:PySem.W.OpenLaw}{YP:vu->v6->Prop}{d:DefRec}{Fs:vu->QC->Prop}(hn:l.most=jb 63)(C:d.params.defaults=[])(R:Room k ei)(hY:∀(w:vu) (h:v6),YP w h->∃K:QC,K.In h/\Fs w K)(F:∀(w:vu) (m:Str->Option ky) (Z:kl) (h:v6) (K:QC),K.In h->Fs w K->h.Ns vl m->m d.name=jb (.ref Z) ->
   ∃E:x3,(∀(s:kt) (u:ky),Cz s E #[[u],[]] [(x,u)]) /\
    ∀y:v6,K.In y->y.Ns vl m->FnOk l.prog w K m y (Ga l.prog w K) k Z E [x] (lift K PQ)) :
  PySem.W.WalkO q loose XP YP l.row.toRowW d [] (λf vs=>PySem.call f vs):=by
 intro w L J m mb G Y Z o pm cd doc dV kV ho hd hcd M B hg args I as n X Q A hlo;obtain rfl:dV=.none:=PySem.W.Dflts.none M C;obtain rfl:kV=.none:=PySem.W.Dflts.noKw M;let#[a,vs,P,rfl,rfl,p,j,i]:=Att.script_of hn n A;let#[K,N,fs]:=hY w _ Y;let#[E,hb,hF]:=F w m Z _ K N fs G.T.g B;refine PySem.W.enter_call (WJ (f8 N G.T.g G.T.b G.T.builtins G.T.nolimit hg p j (qG i (by decide)) R hF hb (λH hO hS=>Ml _ H a P i (Xe X) hS) λH e O=>λz=>j4 z) λr O S=>?_);let#[rfl,h2,h3,h4]:=S;exact#[.inl #[.bool j3,.bool j3,[],rfl,λ_=>rfl,.bool j3,Att.post_true l _,λ_=>#[List.Pairwise.nil,λ_ hm=>(nomatch hm)]],h2,h3,h4]
def D8(h:F8 o a=j3):o=jb (jb (.ref a)):=by unfold F8 at h;split at h;rw[Qn h];cases h
def MJ(h:ZN o i=j3):o=jb (jb (.builtin i)):=by unfold ZN at h;split at h;rw[Qn h];cases h
def rY(h:Nd o=j3):o=jb none:=by unfold Nd at h;split at h;rfl;cases h
def GJ(h:iN o i=j3):o=jb (.type i):=by unfold iN at h;split at h;rw[Qn h];cases h
def Gp(h:vx x=j3):∃a k u z y,x=(List.toArray [a,k,u,z,jb (.builtin "ValueError.__new__"),y]):=by
 revert h;show(match x.toList with
  |[_,_,_,_,o,_]=>ZN (jb o) "ValueError.__new__"|_=>Kz)=j3->_
 cases x with
 |mk l =>
  match l with
  |[a,k,u,z,o,y]=>exact λh=>by have b:=QW (MJ h);subst b;exact#[a,k,u,z,y,rfl]|[] | [_] | [_,_] | [_,_,_] | [_,_,_,_] | [_,_,_,_,_]|_::_::_::_::_::_::_::_=>exact λh=>n9 h QD
def J4(h:Nu l=j3):l=JO:=by
 match l,h with
 |[a,b,c,d],h=>let#[u,y]:=jA (show(iN (jb a) "ValueError" && (iN (jb b) "Exception" && (iN (jb c) "BaseException" && iN (jb d) "object")))=j3 from h);let#[y,x]:=jA y;let#[x,z]:=jA x;rw[QW (GJ u),QW (GJ y),QW (GJ x),QW (GJ z)];rfl|[],h | [_],h | [_,_],h | [_,_,_],h|_::_::_::_::_::_,h=>exact n9 h QD
def il(h:Jl W C l=j3):l=.ref C::ZF W C:=by unfold Jl at h;split at h;let#[u,x]:=jA h;have e:=Qn u;subst e;unfold ZF;split at x;rename_i e;rw[n8 e,J4 x];rename_i e;rw[n7 e];unfold jx at x;split at x;let#[z,y]:=jA x;rw[Qn z,J4 y];cases x;cases h
def sY(h:im o a=j3):o=jb a:=by unfold im at h;split at h;rw[Qn h];cases h
def yd(h:Ek W C x o=j3):(∃nm q N bs u sub j y i g e b a k,o=jb (excClassObj nm q C N bs (ZF W C) j3 u sub j y i g e b a k "ValueError.__new__"))/\o.any (L2.L3.clsNm x)=true:=by
 unfold Ek at h;split at h;rename_i t i cd sl;let#[Z,h]:=jA h;let#[Y,h]:=jA h;let#[X,h]:=jA h;let#[s,h]:=jA h;let#[r,p]:=jA h;let#[nm,bs,mro,n,m,hd,u,sub,j,y,z]:=cd;let#[g,e,b,a,k,rfl]:=Gp r;have B:=Qn Z;have l:=il Y;have K:z=false:=by simpa using s
 have A:hd=true:=X;simp only at l;subst B l A K;exact#[#[nm,m,n,bs,u,sub,j,y,i,g,e,b,a,k,rfl],p];cases h
def cg{K:QC}{C:kl}{x:Str}(h:aw K (Q.wOf K) (Q.iOf K) C x=j3):((K.lookup (L2.L3.wOf K)).any (L2.L3.clsNm "WorldError")=j3->ExC K C x)/\L2.L3.clsAt K x=jb C/\(K.lookup C).any (L2.L3.clsNm x)=true:=by unfold aw at h;let#[n,h]:=jA h;let#[m,h]:=jA h;let#[l,h]:=jA h;let#[j,h]:=jA h;let#[i,h]:=jA h;let#[g,h]:=jA h;let#[e,h]:=jA h;let#[b,h]:=jA h;let#[a,y]:=jA h;let#[u,z]:=yd n;exact#[λk=>#[#[u,D8 m,GJ l,MJ j,MJ i,rY g,rY e,MJ b,a],sY y,z,k],sY y,z]
def Lu{K:QC}(h:LH K "WorldError"=j3):(K.lookup (L2.L3.wOf K)).any (L2.L3.clsNm "WorldError")=true:=by
 unfold LH at h;split at h;rename_i C hC;let#[_,e,o]:=cg h;have:L2.L3.wOf K=C:=by unfold L2.L3.wOf;rw[e];rfl
 rw[this];exact o;cases h
def J5{K:QC}{x:Str}(h:LH K x=j3)(y:LH K "WorldError"=j3):dO K x (IF x):=by have w:=Lu y;unfold LH at h;split at h;rename_i C hC;exact#[.ref C,.ref C,hC,rfl,λF=>.cls ((cg h).1 w)];cases h
def Fw:Nat->(LW->Prop)->Prop
 |0,p=>p []|n+1,p=>∀u,Fw n λh=>p (u::h)
def Ou:∀{n:Nat}{p:LW->Prop},Fw n p->∀us:LW,us.9=n->p us
 |0,_,h,us,e=>by rw[Ww.mp e];exact h|_+1,_,_,[],e=>nomatch e
 |_+1,_,h,u::us,e=>Ou (h u) us (Wl e)
def By(x q:Str)(st:y1)(ps:LS):Prop:=∀(kV h u:ky) (a:Option kl) (y k:ky),Fw ps.9 λz=>Bz (qZ x q (bC st) (JB st) (oA st) .none kV h u a y k) #[z,[]]=n5 (ps.zip z)
def be{K:QC}{P:vb}{w:vu}{z:Str->Option ky}{x:v6}{st:y1}(h:zM K=LI st)(y:(LI st).isSome=j3)(B:IniB st)(u:z "ValueError"=js)
  (g:By "__init__" "WorldError.__init__" st ["self","words","place"]):U3 P w K z x:=by
 have hd:LI st=jb (E8 (qZ "__init__" "WorldError.__init__" (bC st) (JB st) (oA st) .none .none .none .none js .none .none) j3):=by by_cases k:st.ctorIdx=0;exact @WH (λst=>LI st=jb (E8 (qZ "__init__" "WorldError.__init__" (bC st) (JB st) (oA st) .none .none .none .none js .none .none) j3)) st k λ_ _ _ _ _ _ _ _ _ _=>rfl;unfold LI at y;rw[dif_neg k]at y;cases y
 rw[hd]at h;unfold zM at h;split at h;rename_i hl;let#[i,F]:=A8 hl (QW h);exact#[_,λk=>Um F B u,F.binds λa b c d e f=>Ou (g a b c d e f)];cases h
def vo:List (Str×D):=tT.map (λp=>(p.1,.tuple p.2))++(sT++cT.map λx=>(x,IF x))
structure Cx(P:vb)(w:vu)(K:QC)(h:v6)(mg:Str->Option ky):Prop where
 X:K.In h
 G:h.Ns vl mg
 V:∀p∈vo,dO K p.1 p.2
 B:∀p∈dT,aO w K p.1 p.2
 N:∀y∈nT,qw K vl y=jb js
 D:∀p∈fT,SU K p.1 (top p.2)
 er:∀base,U3 P w K mg base
def AF{α:Type}{d:α}:∀{l:List α}{i:Nat},QDh i l.9=j3->l.getD i d∈l
 |[],_,h=>nomatch h
 |_::_,0,_=>.head _|_::_,_+1,h=>.tail _ (AF (Nat.blt_eq.mpr (Nat.lt_of_succ_lt_succ (Nat.blt_eq.mp h))))
def x8{α:Type}{l:List (Str×α)}{p:Str×α}(y:(l.map qk).Nodup)(h:p∈l):l.lookup p.1=jb p.2:=by
 induction l with|nil=>cases h|cons a l u=>let#[x,s]:=a;rw[QR,wH]at y;rw[Ql];rcases QO.mp h with rfl|h;rw[beq_self_eq_true];have b:p.1∈l.map qk:=QAj h;have k:(p.1==x)=false:=beq_eq_false_iff_ne.mpr λz=>y.1 (by rw[<- z];exact b);rw[k];exact u y.2 h
def Fl{α:Type}{a:α}{g:Str}:∀(l:LS) (r:List α) (i:Nat),g≠l.getD i ""->(l.zip (r.set i a)).lookup g=(l.zip r).lookup g
 |[],_,_,_=>rfl|_::_,[],_,_=>rfl|x::l,s::r,0,h=>by have h:g≠x:=h;show wf g ((x,a)::l.zip r)=wf g ((x,s)::l.zip r);rw[Ql,Ql,beq_eq_false_iff_ne.mpr h]|x::l,s::r,i+1,h=>by show wf g ((x,s)::l.zip (r.set i a))=wf g ((x,s)::l.zip r);rw[Ql,Ql,Fl l r i h]
def Of:LS:=fT.map qk
def fx(i:Nat):Str×Nat:=fT.getD i ("",0)
def tbl(r:List PSp):PEv:=cf (Of.zip r) vo dT
def jE{r:List PSp}(i:Nat)(h:autoParam (QDh i vo.length=true) zzr._auto_1):(tbl r).va (vo.getD i ("",.none)).1=jb (vo.getD i ("",.none)).2:=x8 (rD (by kernel_rfl)) (AF h)
def RN{r:List PSp}(i:Nat)(h:autoParam (QDh i dT.length=true) zzr._auto_1):(tbl r).dc (dT.getD i ("",[])).1=jb (dT.getD i ("",[])).2:=x8 (rD (by kernel_rfl)) (AF h)
def Fp{r:List PSp}(x:zH ((Of.zip r).map qk)=j3)(i:Nat)(h:QDh i (Of.zip r).9=j3):(tbl r).sp ((Of.zip r).getD i ("",ao)).1=((Of.zip r).getD i ("",ao)).2:=by show(wf _ _).getD ao=_;rw[x8 (rD x) (AF h)];rfl
def nB(n:Need)(fs:LS):Bool:=n.fn.all (λx=>fs.contains x)&&((n.va.all λx=>(vo.map qk).contains x)&&((n.dc.all λx=>(dT.lookup x).isSome)&&n.no.all (λx=>nT.contains x)))
section
variable{P:vb}{w:vu}{K:QC}{h base:v6}{mg:Str->Option ky}{r r':List PSp}{R:PSp}{u:LS}{k:Nat}{b:PT}{n:Need}{N ps:LS}
def np(h:∀y Q (E:XE),R.run y Q E->y.9=ps.9/\pF Ψ b (aC R ps.9 Q) (AA N R.md y)):∀y Q E,R.run y Q E->y.9=ps.9/\∃E':XE,(∀x,E' x->E x)/\mB Ψ E' b (aC R ps.9 Q) (AA N R.md y) :=
 λy Q E z=>#[(h y Q E z).1,_,λ_ z=>z.elim,(h y Q E z).2]
def hv(C:Cx P w K h mg)(A:∀g∈u,BE P w K mg base (tbl r) (k+2) g)(i:Nat)(chk:XB n b N ps (top (fx i).2)=j3)
  (body:∀j Q E,R.run j Q E->j.9=ps.9/\∃E':XE,(∀x,E' x->E x)/\mB (tbl r) E' b (aC R ps.9 Q) (AA N R.md j)) (q:(tbl r').sp (fx i).1=R) (hc:autoParam (YK (jC 0 R.md ps.9) b=true) zzk._auto_1)
  (p:By (fx i).1 (fx i).1 (top (fx i).2) ps:=by(repeat intro _);rfl)
  (z:autoParam (nB n u=true) zzk._auto_1) (m:autoParam (QDh i fT.length=true) zzr._auto_1):BE P w K mg base (tbl r') (k+3) (fx i).1:=by
 let#[W,z]:=jA z;let#[Z,z]:=jA z;let#[Y,s]:=jA z;exact S8 C.X C.G (C.D _ (AF m)) chk hc (λa b c d e f=>Ou (p a b c d e f)) (λg o=>A g (KQ W g o)) (pX C.X C.G C.V C.B Z Y) (λy l=>C.N y (KQ s y l)) (λ_=>#[QDi 2 k,C.er base]) body q
def hc(A:∀g∈u,BE P w K mg base (tbl r) (k+2) g)(Z:BE P w K mg base (tbl r) (k+3) x):∀g∈x::u,BE P w K mg base (tbl r) (k+1+2) g:=by intro g y;rcases QO.mp y with rfl|y;exact Z;exact(A g y).mono (QB3 _)
def hl(C:Cx P w K h mg)(A:∀g∈u,BE P w K mg base (tbl r) (k+2) g){x q:Str}{st:y1}{f:kl}{e:x3}(F:Fun K x q st f e)(chk:XB n b N ps st=j3)
  (body:∀a Q E,R.run a Q E->a.9=ps.9/\∃E':XE,(∀x,E' x->E x)/\mB (tbl r) E' b (aC R ps.9 Q) (AA N R.md a)) (hc:autoParam (YK (jC 0 R.md ps.9) b=true) zzk._auto_1) (z:autoParam (nB n u=true) zzk._auto_1):FnOk P w K mg base (Ga P w K) (k+3) f e ps (lift K R):=by
 let#[p,z]:=jA z;let#[o,z]:=jA z;let#[m,l]:=jA z;exact JY F chk hc (λg j=>A g (KQ p g j)) (pX C.X C.G C.V C.B o m) (λy i=>QAu C.X C.G (C.N y (KQ l y i))) (λ_=>#[QDi 2 k,C.er base]) body
def Xs(X:K.In h)(G:h.Ns vl mg)(e:seen K=due w)(c:seenC K=dueC)(A:(fT.all λp=>(CN p.1 (top p.2)).isSome)=j3)(W:(tT.all λp=>decide (p.2.9<=1000))=j3)(B:(dT.all λp=>zH (p.2.map qk)&&p.2.all λp=>pV p.2)=j3)
  (C:cT.contains "WorldError"=j3) (er:(∀y∈nT,mg y=js)->zM K=LI sv->∀base,U3 P w K mg base):Cx P w K h mg:=by
 injection e with o e;injection e with m e;injection e with l e;injection e with j i;injection c with a c2;have o:=wz.mp o;have m:=wz.mp m;have l:=wz.mp l;have j:=wz.mp j;have i:=wz.mp i;have a:=wz.mp a;have s:∀y∈nT,qw K vl y=jb none:=λy g=>Yb (j y g);refine#[X,G,λp z=>?_,λp z=>?_,s,λp z=>i5 (o p z) (Qr.mp A p z),er (λy g=>QAu X G (s y g)) c2];rcases Qp.mp z with z|z
 ·let#[q,Y,rfl]:=Qa.mp z
  have:=pz (Qr.mp W q Y);exact t5 (m q Y) ()
 rcases Qp.mp z with z|z
 ·exact Gj (l p z)
 let#[x,Z,rfl]:=Qa.mp z;exact J5 (a x Z) (a _ (Qb.mp C));let#[F,E]:=jA (Qr.mp B p z);exact nZ (i p z) F E
end
end L2.L3
namespace L2.L3.K3
open PySem PySem.W PySem.Spec PyProof.Rows L2 L2.L3 L2.L3.Lib L2.L3.Q
def sf:List PSp:=[mE,XC,OC,UC,xG,fJ,JM,YM,UH,nF,pC,nD,NE,EC,xC,OG,kG,RG,KF,NC,MD,nI,LD,ED,fZ GB [.bor],oF,nC,BH,oC,TL,XQ,vG,oI,PQ]
def eA(i:Nat)(h:autoParam (QDh i (Of.zip sf).9=true) zzr._auto_1):(tbl sf).sp ((Of.zip sf).getD i ("",ao)).1=((Of.zip sf).getD i ("",ao)).2:=Fp (by kernel_rfl) i h
def uf:EY (tbl sf):=by intro x h;simp only[QO,qT,or_false]at h;rcases h with rfl|rfl|rfl|rfl|rfl|rfl|rfl<;>kernel_rfl
def all{P:vb}{w:vu}{K:Frag}{h:v6}{y:Str->Option ky}{a:kl}(C:Cx P w K h y)(z:y "law"=jb (.ref a)) :
  ∃k:x3,(∀(s:kt) (u:ky),Cz s k #[[u],[]] [("_law_script",u)])/\∀x:v6,K.In x->x.Ns vl y->FnOk P w K y x (Ga P w K) 36 a k ["_law_script"] (lift K PQ):=by
 refine Nl C.X C.G (C.D (fx 33) (AF rfl)) rfl z (eA 33) (λ_ _ _ _ _ _ b hl=>by let#[u,rfl]:=List.length_eq_one_iff.mp hl;rfl) λx i e f k F _=>?_;have A:∀g∈([]:LS),BE P w K y x (tbl sf) (0+2) g:=nofun;have A:=hc A (hv C A 0 B2 (np Ic) (eA 0));have A:=hc A (hv C A 1 V2 (np (Sc (eA 0))) (eA 1));have A:=hc A (hv C A 2 GO (np jT) (eA 2));have A:=hc A (hv C A 3 U2 (np (Tc (eA 2))) (eA 3));have A:=hc A (hv C A 4 PR (np (TV (eA 1))) (eA 4));have A:=hc A (hv C A 5 kX (np (Z7 (eA 1) (eA 2) (eA 3))) (eA 5));have A:=hc A (hv C A 6 yX (np (i7 (eA 0) (eA 1) (eA 3) (eA 4) (eA 5))) (eA 6));have A:=hc A (hv C A 7 zX (np Y7) (eA 7));have A:=hc A (hv C A 8 tU (np (BZ (eA 0))) (eA 8));have A:=hc A (hv C A 9 oU (np RS) (eA 9));have A:=hc A (hv C A 10 LO (np VO) (eA 10));have A:=hc A (hv C A 11 vX (np (OV (eA 10) (jE 3) (jE 5))) (eA 11));have A:=hc A (hv C A 12 uX (np (RV (eA 11) (jE 0))) (eA 12));have A:=hc A (hv C A 13 MR (np (vR (eA 10) (jE 4) (jE 6))) (eA 13));have A:=hc A (hv C A 14 NK (np (JK (eA 13))) (eA 14));have A:=hc A (hv C A 15 pU (np (SS (eA 12) (eA 11) (eA 14) (jE 1) (RN 1))) (eA 15));have A:=hc A (hv C A 16 LR (np (zR (eA 15))) (eA 16));have A:=hc A (hv C A 17 eU (np (yT (RN 0) (jE 7))) (eA 17));have A:=hc A (hv C A 18 MO (np (XO (RN 2))) (eA 18));have A:=hc A (hv C A 19 K2 (CZ (eA 9) (eA 16) (eA 17) (eA 18) (jE 10)) (eA 19));have A:=hc A (hv C A 20 sU (np IS) (eA 20));have A:=hc A (hv C A 21 xX (np (PV (eA 20))) (eA 21));have A:=hc A (hv C A 22 rU (np (AS (jE 8))) (eA 22));have A:=hc A (hv C A 23 NL (np (BL (eA 20) (eA 22) (RN 4) (RN 5))) (eA 23));have Z:=hv (r':=sf.set 24 GB) C A 24 SR (xR (eA 21) (eA 23) (RN 3) (jE 2) (jE 11) (jE 12) (jE 13) (jE 14)) (by kernel_rfl);have A:=hc A (BE.tmp (md:=[.bor]) (Ψ':=tbl sf) Z (by kernel_rfl) rfl (by kernel_rfl));have A:=hc A (hv C A 25 iU (np (zT (eA 22) (jE 8))) (eA 25));have A:=hc A (hv C A 26 FO (ZO (eA 19) (eA 24) (eA 25) (RN 3) (jE 15)) (eA 26));have A:=hc A (hv C A 27 aU (np (DZ (eA 26) uf)) (eA 27));have A:=hc A (hv C A 28 LL (np (KO uf)) (eA 28));have A:=hc A (hv C A 29 ML (np (Ec (eA 8) (eA 27) (eA 28))) (eA 29));have A:=hc A (hv C A 30 HL (np (Ac (eA 3))) (eA 30));have A:=hc A (hv C A 31 NR (np NV) (eA 31));have A:=hc A (hv C A 32 OR (np (SV (eA 30) (eA 27) (eA 8) (eA 31) (eA 3) (eA 28))) (eA 32));exact hl C A F Rm (np (Tk (eA 6) (eA 7) (eA 0) (eA 29) (eA 32)))
def Dr:IniB sv:=#[#[_,_,_,_,_,_,_,_,_,_,rfl,rfl],cH (by kernel_rfl),by kernel_rfl,by kernel_rfl,by kernel_rfl,by kernel_rfl]
def fin{K:Frag}(X:K.In h)(e:seen K=due w/\seenC K=dueC)(G:h.Ns vl y)(z:y "law"=jb (.ref a)) :
  ∃k:x3,(∀(s:kt) (u:ky),Cz s k #[[u],[]] [("_law_script",u)])/\∀x:v6,K.In x->x.Ns vl y->FnOk QU w K y x (Ga QU w K) 36 a k ["_law_script"] (lift K PQ) :=
 all (Xs X G e.1 e.2 (by kernel_rfl) (by kernel_rfl) (by kernel_rfl) (by kernel_rfl) λn c x=>be c (by kernel_rfl) Dr (n _ (Qb.mp (by kernel_rfl))) (by(repeat intro _);rfl)) z
def hk:Hook:=#[ua×da,λs=>(seen (fr s),seenC (fr s)),λw=>(due w,dueC),λw h=>∃K:Frag,K.In h/\seen K=due w/\seenC K=dueC,λ_ _ e=>#[_,CW _,(Wh e).1,(Wh e).2],λ_ _ _ #[K,X,e] k=>#[K,X.keeps k,e]]
def left:LeftO QU qv ls xt (Hook.obs hk) (Hook.val hk) 6278:=λw=>by have e:=World.withFollow_self w "special-get-raises";cases z:w.params.followText "special-get-raises"<;>rw[z]at e;have y:=Me w;have x:=Ce w;have h:=ae w;unfold ends at y x h;rw[e]at y x h;exact IM y x h;have y:=Nn w;have x:=Fn w;have h:=Em w;unfold ends at y x h;rw[e]at y x h;exact IM y x h
end L2.L3.K3
open PySem PySem.W PyProof.Rows
set_option maxRecDepth 100000 in
set_option maxHeartbeats 0 in
theorem PySem.Challenge.cw_quoteweave_k08_unfinished_too_many_holds : PySem.Challenge.rw_quoteweave_k08_unfinished_too_many.Holds := by
 refine holds_law (by kernel_rfl) λy=>?_;refine holds_open (q:=L2.L3.Q.qv) (loose:=L2.L3.Q.ls) (Xt:=L2.L3.Q.xt) (XP:=XL L2.L3.Q.qv []) (Yf:=Hook.obs L2.L3.K3.hk) (Ya:=Hook.val L2.L3.K3.hk) (YP:=Hook.says L2.L3.K3.hk) (N:=6278) L2.L3.K3.left (Hook.of L2.L3.K3.hk) (Hook.keeps L2.L3.K3.hk) (λs e=>xl_of s (QAR.mp e).1) XL.keeps (by rfl) (by rfl) (by rfl) (λs e=>recFacts_of (QAR.mp e).2) (by rfl) (by first|assumption|decide +kernel) (by decide +kernel) ⟨rfl,rfl,rfl,rfl,rfl,by decide +kernel⟩ ?hw ?hc
 case hw=>w_witness2
 case hc=>exact L2.L3.walk_seenW (l:=qe) (k:=36) (x:="_law_script") (Fs:=λw K=>L2.L3.Q.seen K=L2.L3.Q.due w/\L2.L3.Q.seenC K=L2.L3.Q.dueC) rfl rfl ⟨rfl,by decide,by decide⟩ (λw h Y=>Y) λw z u h K X e G m=>L2.L3.K3.fin X e G m
