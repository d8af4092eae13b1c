import PyProof.Rows.All
import Wide.All
import OpenK.AllK
import Wide.FinOn
import Lean
import PyProof.EqAt
import PyProof.EqKinds
import PyProof.TupleCall
import PySem.Challenge.RW_quoteweave_k07_misplaced
set_option Elab.async false
set_option linter.all false
set_option compiler.extract_closed false
set_option bootstrap.genMatcherCode false
set_option genInjectivity false
set_option genSizeOf false
set_option maxRecDepth 100000
set_option maxHeartbeats 4000000
open PySem.Str renaming ofString->QA,length_append->qN,join->QAl,length->QCV,empty->QDg
open PySem.W renaming Frag->QC,kia_one->qD,fnOf->qP,keepIn->qe,nsIn->qp,findIn->qz,codeIn->WX,kitOne->WZ,mroIn->QAO,clsIn->QAP,WData->QAR,mg_of->QAS,hideAll_get->QAV,callWith_K->QAg,mg_none_of->QAk,lookIn->QAo,methodObj->QAs,hasDictIn->QAu,kitx_list->QAv,cellsFrom_some->QBN,instObj->QBW,hideAll_none->QBe,typeIn->QBh,of_hideAll->QB7,kitx_tuple->QB9,kitx_dict->QCS,plainGet->QCz,hideAll->QDG,kitMeta->QDQ
open Bool renaming false_ne_true->QD,and_eq_true->QX,false_eq_true->Qp,or_eq_true->qk,or_eq_false_iff->wP,eq_iff_iff->wY,not_eq_true'->wu,not_true->wz,not_false->WW,and_eq_true_iff->QAL,and_true->QAM,true_and->QAN,and_false->QAn,or_false->QA9,false_or->QBA,false_and->QBg,and_self->QCL,true_or->QCm
open PySem.PyData renaming str->Jx,int->Jy
open PySem.Value renaming none->Jz,ref->jx
open PySem renaming wpAny_bind->QE,wpAny_pure->QS,wpAny_field->qA,wpAny_loadPart_at->qG,mem_of_lookup->qJ,wpAny_mono->qL,wpAny_holding->qX,wpAny_truthy_bool->qa,sizeLine_eq->qi,wpAny_callSpecial?_slot->qj,Spec->ql,wpAny_newObj_type->qt,wpAny_Call_Name_kw->wG,codeAny_call_builtin->wO,wpAny_setField_rec->wg,wpAny_seqItems->wm,wpAny_call_entry->w8,call_meets->w9,wpAny_execs_nil->WF,codeAny_mono->WG,wpAny_standAt->WQ,wpAny_pyIter_list->WR,wpAny_isSubtype_exc->We,wpAny_passesOwn->Wl,strLen_append->Wo,strKind->Wq,wpAny_pyNext_list_item->Wu,wpAny_Call_method_late->Ww,wpAny_setField->Wz,wpAny_execs_cons->QAB,wpAny_updateSeq_pair->QAH,wpAny_binaryOp_repeat_ref->QAr,wpAny_call->QAx,typeIs_str->QA0,wpAny_onRaise->QBF,wpAny_pyNext_list_end->QBX,typeIs_int->QBd,refuseLoop_ref->QBi,wpAt_of_wpAny->QBp,intBits_le_64->QB8,tupleKind_room_in1->QCB,wpAny_pyIter_tuple->QCE,wpAny_assign_Name->QCR,wpAny_sequenceKey->QCT,slot_list_getitem->QCU,wpAny_rule->QCa,wpAny_pyIter_enum->QCb,concat_meets->QCr,wpAny_typeOf->QCs,seqIndex_neg->QCt,noFill_tuple_add->QC0,wpAny_getItem_of->QC2,wpAny_madeBy_exc->QC3,wpAny_pyIter_zip->QC7,seqSlot_of->QC8,strKind_is->QDC,seqIndex_of->QDJ,wpAt_bind->QDK,wpAny_letGo->QDP,wpAny_Name->QDa,wpAny_load->QDb,strKind_is->QDd,Str->QDf
open PySem.Heap renaming get?_push_of_some->QF,lt_size->QO,get?_push_size->QV,size_push->qM,get?_update_other->qR,SameBut->wB,get?_update_self->wD,size_after_update->WB,get?_push_cases->QAG,ExtBut->QAZ,get?_push_at->QA1,get?_update_ne->QBq,IsList->QBu,IsListIter->QDO
open List renaming length_map->QG,mem_cons_of_mem->QH,replicate->QI,length_cons->QJ,mem_cons_self->QK,length_append->QL,size_toArray->QM,map_cons->QN,mem_cons->QR,contains_iff_mem->QW,getElem?_eq_some_iff->Qa,mem_append_right->Qc,append_nil->Qd,range->Qe,replicate_succ->Qf,lookup_cons->Qg,getElem?_map->Qj,getElem?_set_ne->Ql,mem_map->Qm,filterMap_eq_nil_iff->Qn,all_eq_true->Qo,filterMap_map->Qr,nil_append->Qt,forall_mem_cons->Qv,getD_eq_getElem?_getD->Qx,mem_append->Qy,isEmpty_iff->Q0,getElem?_set_self->Q3,getElem?_append_right->Q5,map_append->Q6,length_replicate->Q7,all_cons->Q8,getElem?_append_left->Q9,any_cons->qB,flatten_cons->qF,mem_singleton->qH,not_mem_nil->qK,length_range->qO,mem_append_left->qQ,filterMap_append->qU,mem_range->qV,length_drop->qW,append_assoc->qd,length_nil->qf,mem_of_getElem?->qm,take_of_length_le->qr,ext_getElem?->qy,nodup_cons->wC,map_map->wF,contains_cons->wI,getElem?_drop->wJ,getElem?_eq_getElem->wL,eq_of_mem_replicate->wM,length_take->wN,getElem?_replicate->wT,getElem?_set->wW,filterMap_cons->wX,lookup->wa,mem_filterMap->wf,getElem?_eq_none->wj,length_set->wr,map_inj_left->ww,map_nil->wx,getElem?_cons_succ->wy,map->WD,length->WH,foldl_cons->WI,length_singleton->WJ,find?_cons->WK,mem_of_mem_take->WV,cons_append->Wc,getElem?_range->Wf,filterMap_some->Wh,zip_cons_cons->Wr,length_eq_zero_iff->Wt,nodup_append->Wx,mem_iff_getElem?->W9,take_append_drop->QAA,any_eq_true->QAC,zipIdx_cons->QAD,getElem?_modify->QAI,mem_of_mem_drop->QAK,set->QAT,foldl->QAU,of_mem_zip->QAW,forIn_cons->QAX,length_pos_iff->QAb,range_succ->QAc,ne_nil_of_mem->QAm,forIn_nil->QAq,any_eq_false->QAt,pairwise_map->QA6,append_cancel_right->QA7,getElem?_cons_zero->QA8,getElem_mem->QBK,drop_length->QBM,drop_eq_nil_of_le->QBS,map_eq_append_iff->QBT,modify_succ_cons->QBU,modify_zero_cons->QBV,getD->QBY,zipIdx_nil->QBZ,length_zip->QBb,pairwise_append->QBf,nodup_nil->QBj,getElem_of_mem->QBs,mem_map_of_mem->QB0,map_congr_left->QB1,dropWhile_cons->QB2,set_cons_zero->QB3,set_cons_succ->QB4,zip_nil_right->QCJ,map_drop->QCO,map_take->QCQ,foldl_append->QCk,all_map->QCw,any_map->QCy,filter_cons->QDD,append_inj'->QDF,mem_filter->QDH,any_append->QDX
open False renaming elim->QT
open Nat renaming le_refl->QU,lt_of_lt_of_le->Qh,ne_of_lt->Qk,le_trans->qZ,lt_irrefl->wA,le_add_right->Wd,ne_of_gt->Wi,zero_add->W5,lt_or_ge->QAi,log2_lt->QBE,add_sub_cancel_left->QBI,zero_le->QBm,le_succ->QBo,lt_of_le_of_lt->QCI,not_lt->QCX,lt_succ_of_lt->QCY,le_of_lt->QCn,mul_comm->QCu,toDigits->QCx,min_eq_right->QDE,min_eq_left->QDW,blt->QDY,le_add_left->QDZ
open Option.some renaming inj->QY,injEq->Qu
open PySem.Challenge renaming pw_quoteweave_k07_misplaced->QZ,rw_quoteweave_k07_misplaced->qg
open Int renaming emod_lt_of_pos->Qb,emod_nonneg->Qs,eq_ofNat_of_zero_le->wV,toNat->wd,toNat_natCast->QA4,toNat_of_nonneg->QBr,emod_eq_of_lt->QCl,natCast_mul->QDN
open LawfulBEq renaming eq_of_beq->Qi
open Ne renaming symm->Qw
open PySem.PyData renaming eqv->Qz,canLayAll0->qw,depthAll->wE,depth->WL,keyHash->WY,canLay0->W0
open PySem.Builtin.SmallTypes renaming nextOf->Q2,ownedTupleIsFree->qY,fitsIndex->wU,ownedTupleHandOut->Wb
open Array renaming length_toList->Q4,toList_append->w6,getElem?_eq_some_iff->QAf,toList_inj->QBJ,getElem?_map->QCD,toList->QCo
open Option renaming map_some->qC,map_none->wv,isSome_iff_exists->QAy,getD_none->QC1,getD_some->QC4
open PySem.Txt renaming split->qS,join->we,slice->W8,slice_le->QCv
open PySem.Builtin.Int renaming intBits->qT
open PySem.Builtin.Str renaming occurrences->qh,strKind->QBt
open PySem.F renaming slot_tuple_iterator_next->qq,called_enumerate->wt,slot_zip_next->WM,slot_dict_get->WN,excBase_ValueError->WU,args_tuple_iterator_next_1->Wk,entry_tuple_iterator_next->Wp,plainAttrs_list->Ws,slot_tuple_mul->QAE,slot_int_rmul->QAY,entry_enumerate_new->QAa,args_str_split_2->QAj,slot_dict_getitem->QAp,args_tuple_add_2->QAz,attr_ValueError->QA2,entry_str_split->QA3,entry_tuple_add->QBC,args_zip_next_1->QBG,plainAttrs_dict->QBH,slot_str_split->QBL,slot_tuple_add->QBO,entry_zip_next->QBP,entry_dict_get->QBQ,plainAttrs_str->QBR,type_dict_get->QBa,store_ValueError->QCC,args_tuple_mul_2->QCF,args_int_rmul_2->QCZ,slot_tuple_rmul->QCc,entry_tuple_mul->QCd,slot_int_index->QC5,entry_int_rmul->QC6,entry_bexc_ga->QDL,fills_int_mul->QDM
open PySem.SeqAt renaming EqAt->qu
open PySem.Builtin.List renaming listTooLong->wH
open Prod renaming fst->wK,snd->QCK
open Lean.Parser.Tactic renaming tacticSeq->wQ
open PyProof.Rows renaming callWith_type1->wZ,slot_tuple_getitem->wo,slot_tuple_getitem->Wn,subscriptTail_builtinR->Wv,callWith_builtin1->W6,entry_tuple_getitem->QBl,args_tuple_getitem->QCA,Subscript_->QDc,split_le->QDe
open List.cons renaming injEq->wb,inj->QAQ
open PySem.Builtin.Slice renaming slicePlaces->wk,sliceAdjust->Wa,sliceApplied->QAd
open PySem.Builtin.Tuple renaming tupleExact->wq,tupleTooMany->WT,tupleItemsOf->QAe
open PySem.W.WData renaming weightAll->w4,weight->QAJ
open PySem.Calls renaming callWith_builtin->WA,Name_function_global->WS,spliced_cons->Wm,evalArgs_plain->QAF,spliced_nil->QAw,loadGlobal_global->QBB
open PySem.Obj renaming data_mapFields->WC,isFreed_of_fields->W7,mapFields->QBD,mapSeq->QBc,cls_mapFields->QCW
open PySem.Stmt.FunctionDef renaming elim->WE
open PySem.W.KIN renaming signs_num->WO
open PySem.Paired renaming length->WP
open Prod.mk renaming inj->Wg,injEq->QCP
open Nat.succ renaming inj->Wj
open Iff renaming rfl->Wy
open PySem.Code renaming quiet_builtin->QAh,isFrame->QCq
open PySem.Expr.FormattedValue renaming elim->QA5
open Sum.inr renaming inj->QBk
open PySem.EntryCells renaming newEntry->QBn
open PySem.Heap.SameBut renaming update->QBv
open PySem.Shared renaming heap->QBw
open PySem.Expr.Attribute renaming elim->QBx
open PySem.Expr.Subscript renaming elim->QBy
open PySem.Expr.JoinedStr renaming elim->QBz
open PySem.SeqAt.EqAt renaming int_str->QB5,str_int->QB6
open PySem.Expr.Constant renaming elim->QCG
open PySem.Expr.ListComp renaming elim->QCH
open PySem.StrLaws renaming join_split->QCM,split_free->QCN,sliceText->QCj
open PySem.Expr.UnaryOp renaming elim->QCe
open PySem.Expr.Compare renaming elim->QCf
open PySem.NumText renaming digitsVal->QCg,AllDigits->QCh
open Function renaming comp_def->QCi
open PySem.Around renaming under->QCp
open PySem.Expr.BoolOp renaming elim->QC9
open PySem.Stmt.Assign renaming elim->QDA
open PySem.Stmt.Return renaming elim->QDB
open PyProof.Rows.IsTup renaming new->QDI
open PySem.Expr.BinOp renaming elim->QDR
open PySem.Expr.IfExp renaming elim->QDS
open PySem.Expr.Slice renaming elim->QDT
open PySem.Expr.Tuple renaming elim->QDU
open PySem.Stmt.Raise renaming elim->QDV
theorem dF{p:Prop}[Decidable p](h:¬p):decide p=false:=_root_.decide_eq_false h
theorem dT{p:Prop}[Decidable p](h:p):decide p=true:=_root_.decide_eq_true h
abbrev FB:=List (PySem.Addr×PySem.Obj)
abbrev NB:=PySem.Value -> PySem.Shared -> Prop
abbrev pA:=PySem.Addr -> Prop
abbrev v9:=List (QDf×QDf)
open Option renaming some->jy,none->jz
open Bool renaming true->jb,false->js
open PySem renaming Value->j0,sizeLine->j1,Addr->j2,Shared->j3,wpAny->Kx,model->Ky,Program->Kz,mainGlobals->ke,World->kl,Heap->kt,starEach->ka,compareOp->Vx,Around->Vy,PyData->Vz,FuncData->vy,strIterType->vz,bootBuiltins->vb,Stmt->vl,eval->vu,binaryOp->v5,sysModules->v6,assignEach->Xx,rawInt->Xy,Scope->Xz,Paired->x0,backTo->x2,IsPair->x3,attributeBase->Yx,ExceptHandler->Yy,foldedSetIterable->Yz,Operator->yx,DictEntry->yy,valueAt->yz,checkBuiltinCall->y1,letOwnedTupleGo->Zz,CmpOp->Z1,sliceBounds->zx,keywordEach->zy,Keyword->zz,NameKind->z0,swappedStores->z4,getItem->Gx,IsZip->Gy,assign->Gz,swapsWith->gx,call->gy,backToKw->gz,holding->gV,IsPart->ge,isInstance->gl,Model->gm,GenState->gn,cLine->gi,bindArgs->Hx,subscripted->Hy,ZipApart->Hz,tupleKind->hB,BindsTo->hR,codeAny->hT,setFlight->hI,noteFrame->hW,relabel->Fx,assignInOrder->Fy,behindInMarks->Fz,Meets->fy,typeLookup->fb,IntMulOk->ft,callerA->fa,Const->Dx,pyNext->Dy,onTheHeap->Dz,atKey->DC,field->dy,wpAny_specialOf->db,codeAny_of_tree->dn,wpAny_stack_any->dr,OsState->dt,builtinsNs->dw,wpAny_Expr_any->d3,bindC->d4,PlainAttrs->d7,firstArgMember->d8,intBits_add_le->Bx,seq_tuple_add->By,evalPart_none->Bz,call_list_seq->Bn,comprehension->bx,wpAny_attempt->bz,sub_enumerate->Cy,checkTypeCall->Cz,Comprehension->cy,PassesOwn->cz,lastMarks->cC,cellsFrom->c5,setItem->c6,standAt->Ex,pyIter->Ey,typeOf->Ez,Drawn->Ew,callWith->ej
open Pure renaming pure->ez
open ToString renaming toString->eg
theorem eH.{u}{c:Prop}{d:Decidable c}(h:¬c){α:Sort u}{t e:α}:ite c t e=e:=_root_.if_neg h
theorem ef.{u}{c:Prop}{d:Decidable c}(h:c){α:Sort u}{t e:α}:ite c t e=t:=_root_.if_pos h
theorem eN{a b:Prop}(h:a)(k:¬a):b:=_root_.absurd h k
theorem eI{a b:Prop}(h:a<->b):a=b:=_root_.propext h
theorem ei{p:Prop}[Decidable p](h:decide p=true):p:=_root_.of_decide_eq_true h
theorem zzd(h:True:=by decide):True:=trivial
theorem zzi(h:∀_:True,True=True:=by intro _;rfl):True:=trivial
theorem zzk(h:True=True:=by kernel_rfl):True:=trivial
theorem zzr(h:True=True:=by rfl):True:=trivial
theorem zzu(h:True=True:=by with_unfolding_all rfl):True:=trivial
theorem e6.{u,v}{α:Sort u}{β:Sort v}{a b:α}(f:α->β)(h:a=b):f a=f b:=_root_.congrArg f h
open Lean in
def zzp:Nat->Syntax->Syntax
 | 0,s=>s
 | n+1,s=>let g:=Syntax.node .none
  if s.isIdent then g `Lean.Parser.Tactic.rcasesPat.one #[s] else if s.getKind==`Lean.Parser.Term.hole then g `Lean.Parser.Tactic.rcasesPat.ignore #[s[0]] else
  g `Lean.Parser.Tactic.rcasesPat.tuple #[.atom .none "⟨",g `null (s[1].getArgs.map λx=>if x.isAtom then x else g `Lean.Parser.Tactic.rcasesPatLo #[g `Lean.Parser.Tactic.rcasesPatMed #[g `null #[zzp n x]],g `null #[]]),.atom .none "⟩"]
local macro_rules | `(tactic| let $p:term:=$e:term)=>`(tactic| obtain $(⟨zzp 9 p⟩):rcasesPat:=$e)
set_option hygiene false in
local macro_rules | `(tactic| omega)=>`(tactic| first|decide|with_reducible assumption|exact L2.szL (by decide)|exact L2.szA (by with_reducible assumption) (by decide)|lia|omega (config:={})|(have:=PySem.sizeLine_eq;first|lia|omega (config:={})))
local macro_rules
 | `(%[ $xs,*|$n ])=>do
  let c:=n.raw.isNatLit?
  if c==none then Lean.Macro.throwUnsupported
  let b:=c==some 1
  let r:Lean.Term:=xs.getElems.foldr (λ(x r:Lean.Term)=>Lean.Syntax.mkApp (Lean.mkIdent (if b then `PX.nz else `PT.seq)) #[x,r]) (Lean.mkIdent (if b then `PX.kz else `PT.nil))
  return r
def zza:="bg C8 Mf VT XT Mm On Sn En An nq Df ml oq b8 Te Xp D8 Ef kg P8 DT CT dg fg gq Av Gq Bv Do Co Op Pp kf u8 Se re me ce de rj Mo Ho Il El Al zm dA jg vg F8 zg yg xg ug Bg Lg Dg Gg Sg Pf Pg Rf Rg Ag Sf Lq aq Nf X8 Of Mq Fg OX FT Mg UT Hg Cg R8 Zf V8 Kf Ig j9 OT RT cg ig lg Jq L8 Zg Yg Kg iq Yq Jg ng G8 Sv jw Tv Iv Ov Rv Pv Eu Tu Au Gv Dv Fv Uv Vl Kl bv zw yw AW Io xp Vv Kv Zv Yv Jv sv pv nv gv fv Vg zv jv vv Zq Ug Cv Eg Tp Lf Hf Vf Bf Xf Gf Cf Uf ul mq tq Ff pq uf xf Re Pe Mp Np Ee jf Ae Ie Me Oe vf yf x8 zf c8 Bu Ou gp Jp bp fe Yo uo Jo ae Vo Ko ao mo Ku Tl vh jm Zu Du Ds Lo Go Vu Xu vm km ym ud xm Rn Fe Ge eE reduceIte"
def zzb:="MG FE zD XI T.isD lockA DG lock kill MC Tg.ix TC isMut frzAt pV eF.eq_1 eF.eq_2 mM.eq_1 mM.eq_2 mM.eq_3 mM.eq_4 z6 y6 j6 cJ.eq_1 List.modify_succ_cons List.modify_zero_cons Option.map_some List.length_cons List.length_nil List.getElem?_cons_zero List.getElem?_cons_succ List.cons_append List.nil_append List.set_cons_zero List.set_cons_succ Nat.reduceAdd Nat.reduceSub Nat.zero_add Bool.and_true Bool.true_and Bool.not_true Bool.not_false Bool.or_true Bool.true_or Bool.or_false Bool.false_or Bool.and_false Bool.false_and if_true if_false Bool.false_eq_true true_and and_true false_implies ne_eq reduceCtorEq not_false_eq_true not_true_eq_false implies_true forall_const Int.reduceLT Int.reduceLE Int.reducePow Int.reduceNeg Nat.reducePow and_self eq_self Option.some.injEq Sl.own.injEq Sl.xx.injEq and_assoc decide_true decide_false"
open Lean in
def zzc (s:String)(b:Bool):TSyntaxArray `Lean.Parser.Tactic.simpLemma:=(s.splitOn " ").toArray.map λx=>⟨.node .none `Lean.Parser.Tactic.simpLemma #[mkNullNode (if b then #[.node .none `Lean.Parser.Tactic.simpPre #[.atom .none "↓"]] else #[]),mkNullNode,mkIdent x.toName]⟩
set_option hygiene false in
local macro_rules
 | `(tactic| simp! $c:optConfig [$ls,*])=>`(tactic| simp $c:optConfig only [$ls,*,$(zzc zza true),*,$(zzc zzb false),*])
set_option hygiene false in
local macro_rules
 | `(#[$xs,*])=>if xs.getElems.isEmpty then Lean.Macro.throwUnsupported else `(⟨$xs,*⟩)
 | `(())=>`(by omega)
abbrev LS:=List QDf
abbrev LN:=List Nat
abbrev LJ:=List Int
abbrev LW:=List PySem.Value
namespace L2.L3.Q
open PySem PySem.W PySem.Spec PyProof.Rows
noncomputable def nr(x:List j2)(h:kt):QC:=x.filterMap λa=>(h.get? a).map λo=>(a,o)
noncomputable abbrev Ec:=(Str×Str×Arguments×FuncBody×Xz)×(j2×List (Str×j2)×j0×j2)×Bool
noncomputable def e7(h:vy)(b:Bool):Ec:=((h.name,h.qualname,h.params,h.body,h.scope),(h.globals,h.closure,h.defaults,h.builtins),b)
noncomputable def tV(K:QC)(x:Str):Option Ec:=match qp K ke x with
 |some (jy (.ref f))=>(match K.lookup f with
  |some #[_,_,.func fd,_]=>jy (e7 fd (WX K fd.code x&&qe K (.ref f)))|_=>jz)
 |_=>jz
noncomputable def PM(x:Str)(st:vl):Option Ec:=if k:st.ctorIdx=0 then @WE (λ_=>Option Ec) st k λ_ a b _ _ _ sc _ _ _=>jy (e7 (qP x x a b sc .none .none .none .none jz .none .none) jb) else jz
noncomputable def Om:j0->Option Vz
 | .int i _=>jy (.int i)|.str z _=>jy (.str z)|.bool b=>jy (.bool b)|.none=>jy .none|_=>jz
noncomputable def tupD(K:QC)(f:j2):Option (List (Option Vz)):=match K.lookup f with
 |some #[.type t,_,.seq its _,_]=>if t="tuple" then jy (its.toList.map Om) else jz|_=>jz
noncomputable def Am:j0->Option j2
 | .ref f=>jy f|_=>jz
noncomputable def Ph(K:QC)(u:j0):Option Vz×Option (List (Option Vz)):=match Am u with
 |some f=>(jz,tupD K f)|none=>(Om u,jz)
noncomputable def Bp:Vz->Option Vz×Option (List (Option Vz))
 | .tuple h=>(jz,jy (h.map jy))|d=>(jy d,jz)
noncomputable def Ro:j0->Option Str
 | .str z _=>jy z|_=>jz
noncomputable abbrev Ic:=Int×Option Str×Option Vz×Option (List (Option Vz))
noncomputable def Rh(K:QC)(e:yy):Ic:=(e.hash,Ro e.key,Ph K e.val)
noncomputable def Jc(w:kl)(p:Str×Vz):Ic:=(WY w.params p.1,jy p.1,Bp p.2)
noncomputable def yN(K:QC)(x:Str):Option (List Ic):=match qp K ke x with
 |some (jy (.ref a))=>if(a==v6)=js then(match K.lookup a with
  |some #[.type t,jz,.dict es _,sl]=>if t="dict"/\sl.size=0 then jy (es.toList.map (Rh K)) else jz|_=>jz) else jz
 |_=>jz
noncomputable def nh(K:QC)(x:Str):Option (List (Option Vz)):=match qp K ke x with
 |some (jy (.ref f))=>tupD K f|_=>jz
noncomputable def mh(K:QC)(x:Str):Option PyData:=match qp K ke x with
 |some (jy u)=>Om u|_=>jz
noncomputable def GU(K:QC)(x:Str):Bool:=match qp K ke x with
 |some jz=>jb|_=>js
noncomputable def clsNm(x:Str)(o:Obj):Bool:=match o.data with
 | .cls h=>h.name==x|_=>js
noncomputable def clsAt(K:QC)(x:Str):Option Addr:=(K.find? λp=>clsNm x p.2).map (·.1)
noncomputable def wOf(K:QC):Addr:=(clsAt K "WorldError").getD 0
noncomputable def iOf(K:QC):Addr:=match qz K (.ref (wOf K)) "__init__" with
 |some (jy (.ref f))=>f|_=>0
noncomputable def T6(o:Option (Option j0))(a:j2):Bool:=match o with
 |some (jy (.ref b))=>b==a|_=>js
noncomputable def DO(o:Option (Option j0))(i:String):Bool:=match o with
 |some (jy (.builtin j))=>j==i|_=>js
noncomputable def jc(o:Option (Option j0)):Bool:=match o with
 |some jz=>jb|_=>js
noncomputable def mV(o:Option j0)(i:String):Bool:=match o with
 |some (.type j)=>j==i|_=>js
noncomputable def Sj(o:Option j2)(a:j2):Bool:=match o with
 |some b=>b==a|_=>js
noncomputable def Xs(h:Array (Option j0)):Bool:=match h.toList with
 |[_,_,_,_,o,_]=>DO (jy o) "ValueError.__new__"|_=>js
noncomputable def Rq:LW->Bool
 |[a,b,c,d]=>mV (jy a) "ValueError" && (mV (jy b) "Exception" && (mV (jy c) "BaseException" && mV (jy d) "object"))|_=>js
noncomputable def Uu(W:j2):LW->Bool
 | .ref b::r=>b==W&&Rq r|_=>js
noncomputable def oj(W C:j2):LW->Bool
 | .ref a::r=>a==C&&(if C=W then Rq r else Uu W r)|_=>js
noncomputable def xj(W C:j2)(x:Str)(o:Option Obj):Bool:=match o with
 |some #[.type t,_,.cls cd,sl]=>t == "type" && (oj W C cd.mro&&(cd.hasDict&&(!cd.hasDel&&(Xs sl&&cd.name==x))))|_=>js
noncomputable def Ot(K:QC)(W f C:j2)(x:Str):Bool:=xj W C x (K.lookup C)&&(T6 (qz K (.ref C) "__init__") f&&(mV (QBh K (.ref f)) "function" && (DO (qz K (.ref C) "__setattr__") "object.__setattr__" && (DO (qz K (.ref C) "__getattribute__") "BaseException.__getattribute__" && (jc (qz K (.ref C) "__getattr__")&&(jc (qz K (.ref C) "place")&&(DO (qz K (.ref C) "__class__") "object.__class__" && (qe K (.ref C)&&Sj (clsAt K x) C))))))))
noncomputable def sH(K:QC)(x:Str):Bool:=match qp K ke x with
 |some (jy (.ref C))=>Ot K (wOf K) (iOf K) C x|_=>js
noncomputable def eL(K:QC):Option Ec:=match K.lookup (iOf K) with
 |some #[_,_,.func fd,_]=>jy (e7 fd (WX K fd.code "WorldError.__init__" && qe K (.ref (iOf K))))|_=>jz
noncomputable def dI(st:vl):Option Ec:=if k:st.ctorIdx=0 then @WE (λ_=>Option Ec) st k λ_ a b _ _ _ sc _ _ _=>jy (e7 (qP "__init__" "WorldError.__init__" a b sc .none .none .none .none jz .none .none) jb) else jz
noncomputable def top(i:Nat):Stmt:=QZ.main.body.getD i (.Pass #[0,0,0,0])
noncomputable def kT:LN:=[1,2,3,4,5,6,7,9,10,11,12,13,14,15,16,17,18,20,21,22,23,24,25,26,27,28,29,30,32,33,34,35,36,37,38,39,40,41,42,43,45,46,47,48,49,50,51,52,53,54,55,56,57,58]
noncomputable def qv:Program:={ QZ with main:={ QZ.main with body:=kT.map top } }
noncomputable abbrev U8:=List (Option Ec)×List (Option (List (Option Vz)))×List (Option Vz)×List Bool×List (Option (List Ic))
noncomputable abbrev B8:=List Bool×Option Ec
noncomputable def Lp(st:vl):Stmt:=if k:st.ctorIdx=2 then @Stmt.ClassDef.elim (λ_=>vl) st k λ_ _ _ b _ _ _ _ _ _ _=>b.getD 0 (.Pass #[0,0,0,0]) else .Pass #[0,0,0,0]
noncomputable def Zs:Stmt:=Lp (top 1)
noncomputable def fT:List (Str×Nat):=([("_law_draw",46),("_law_next",47),("_law_keywords",45),("_law_name",48),("_law_against",49),("_law_event",50),("_law_world",51),("_law_lines",52),("_law_row",56),("_law_is_late",55),("_law_spread",53),("_law_is_refused",54),("words_in",14),("is_made_of",15),("is_word",16),("is_name",17),("number_in",18),("number_within",29),("value_of",28),("values_by",26),("form_for",27),("are_unlike",30),("row_of",25),("names_of",41),("is_told",39),("quote_in",42),("has_stranger",40),("check_row",38),("entry_of",43),("read_world",37),("_law_caught",57),("law",58)]:List (String×Nat)).map λp=>(QA p.1,p.2)
noncomputable def tT:List (Str×List Vz):=[("KEYWORDS",[.str "person",.str "matter",.str "against",.str "see",.str "tell",.str "by",.str "at",.str "who",.str "what",.str "since",.str "tellers",.str "wordings",.str "apart",.str "leans",.str "hidden",.str "strike",.str "quote",.str "ground",.str "cut"]),("NAMED",[.str "name",.str "person",.str "matter"]),("MOST",[.int 10,.int 6,.int 15,.int 80])]
noncomputable def sT:List (Str×Vz):=[("LETTERS",.str "abcdefghijklmnopqrstuvwxyz"),("FIGURES",.str "0123456789"),("MOST_LETTERS",.int 8),("MOST_FIGURES",.int 9),("MOST_QUOTED",.int 6),("WORDING_ENDS",.int 6)]
noncomputable def cT:LS:=(["WorldError","BadRow","Misplaced","Twice","NoName","TooMany","Unfinished"]:List String).map QA
noncomputable def nT:LS:=(["ValueError","all","any","bool","enumerate","int","isinstance","len","list","raise","range","str","tuple","zip"]:List String).map QA
noncomputable def dT:List (Str×List (Str×Vz)):=[("FORMS",[("person",.tuple [.str "name",.str "rank",.str "floor",.str "needs"]),("matter",.tuple [.str "name"]),("against",.tuple [.str "name",.str "name"]),("see",.tuple [.str "time",.str "name",.str "name",.str "word"]),("tell",.tuple [.str "time",.str "name",.str "name",.str "name",.str "word"])]),("RANGES",[("rank",.tuple [.int 0,.int 99]),("floor",.tuple [.int 0,.int 99]),("needs",.tuple [.int 1,.int 4]),("time",.tuple [.int 0,.int 999999999]),("number",.tuple [.int 0,.int 999999999])]),("UNLIKE",[("against",.tuple [.int 1,.int 2]),("tell",.tuple [.int 2,.int 3])]),("SECTIONS",[("person",.int 0),("matter",.int 1),("against",.int 2),("see",.int 3),("tell",.int 3)]),("PEOPLE_AT",[("see",.tuple [.int 2]),("tell",.tuple [.int 2,.int 3])]),("MATTERS_AT",[("against",.tuple [.int 1,.int 2]),("see",.tuple [.int 3]),("tell",.tuple [.int 4])])]
noncomputable def seenC(K:Frag):B8:=(cT.map (sH K),eL K)
noncomputable def dueC:B8:=(cT.map λ_=>jb,dI Zs)
noncomputable def seen(K:Frag):U8:=(fT.map λp=>tV K p.1,tT.map λp=>nh K p.1,sT.map λp=>mh K p.1,nT.map (GU K),dT.map λp=>yN K p.1)
noncomputable def due(w:kl):U8:=(fT.map λp=>PM p.1 (top p.2),tT.map λp=>jy (p.2.map jy),sT.map λp=>jy p.2,nT.map λ_=>jb,dT.map λp=>jy (p.2.map (Jc w)))
noncomputable def fr(s:j3):Frag:=nr [3,6,4,31,30,28,27,44,43,56,55,68,67,80,79,92,91,104,103,107,112,111,117,116,124,123,131,130,138,137,139,140,141,142,143,144,145,146,147,148,149,150,151,152,153,154,161,160,166,165,173,172,180,179,187,186,194,193,195,196,197,198,199,200,201,202,203,210,209,215,214,222,221,227,226,232,231,239,238,246,245,253,252,260,259,267,266,272,271,279,278,284,283,289,288,294,293,301,300,306,305,313,312,320,319,327,326,334,333] s.1
noncomputable def ls:LS:=["FORMS","RANGES","UNLIKE","SECTIONS","PEOPLE_AT","MATTERS_AT"]
noncomputable def xt(s:j3):Bool:=xlAt qv [] s&&recOk (RowW.records qg.row.toRowW) s
noncomputable def ends(w:kl)(b:Bool){α:Type}(f:j3->α):Option α:=(openEnds treeTable QZ (w.withFollow "special-get-raises" b) 6218).map f
noncomputable def os(s:j3):=openSeen qv ls (importedModules QZ.main.body) xt jb s
theorem Rc:∀w:kl,ends w js (λs=>((os s).1,seen (fr s)))=jy ((openGood qv ls).1,due (w.withFollow "special-get-raises" js)):=by intro w;kernel_rfl
theorem Kc:∀w:kl,ends w js (λs=>seenC (fr s))=jy dueC:=by intro w;kernel_rfl
theorem Hc:∀w:kl,ends w js (λs=>(os s).2)=jy (openGood qv ls).2:=by intro w;kernel_rfl
theorem yl:∀w:kl,ends w jb (λs=>((os s).1,seen (fr s)))=jy ((openGood qv ls).1,due (w.withFollow "special-get-raises" jb)):=by intro w;kernel_rfl
theorem Kk:∀w:kl,ends w jb (λs=>seenC (fr s))=jy dueC:=by intro w;kernel_rfl
theorem Sk:∀w:kl,ends w jb (λs=>(os s).2)=jy (openGood qv ls).2:=by intro w;kernel_rfl
end L2.L3.Q
namespace L2
open PySem PySem.Spec PyProof.Rows
noncomputable abbrev oC:=Sum Int Str
noncomputable def VO:oC->j0->Bool
 | .inl k,v=>Value.isInt k v|.inr x,v=>Value.isStrOf x v
noncomputable def ut(w:kl):oC->Int
 | .inl k=>hashInt k|.inr x=>hashStr w x
theorem tB:∀{k:oC}{v:j0},VO k v=jb->(∃i t,k=Sum.inl i/\v=Value.int i t)∨(∃x t,k=Sum.inr x/\v=Value.str x t)
 | .inl i,v,h=>by let#[t,e]:=Value.isInt_shape (k:=i) (v:=v) h;exact .inl #[i,t,rfl,e]|.inr x,v,h=>by let#[t,e]:=Value.isStrOf_shape (x:=x) (v:=v) h;exact .inr #[x,t,rfl,e]
theorem yZ(i:Int)(t:Tok):VO (.inl i) (.int i t)=true:=by simp[VO,Value.isInt]
theorem jZ(x:Str)(t:Tok):VO (.inr x) (.str x t)=true:=by simp[VO,Value.isStrOf]
theorem Hj(a b:Int):decide ((Sum.inl a:oC)=Sum.inl b)=(a==b):=by by_cases e:a=b;subst e;simp;have h:¬ (Sum.inl a:oC)=Sum.inl b:=λq=>e (Sum.inl.inj q);rw[dF h];exact(beq_eq_false_iff_ne.mpr e).symm
theorem Dj(a b:Str):decide ((Sum.inr a:oC)=Sum.inr b)=decide (a=b):=by by_cases e:a=b;subst e;simp;have h:¬ (Sum.inr a:oC)=Sum.inr b:=λq=>e (QBk q);rw[dF h,dF e]
theorem Gj(a:Int)(b:Str):decide ((Sum.inl a:oC)=Sum.inr b)=false:=dF (λq=>nomatch q)
theorem Fj(a:Str)(b:Int):decide ((Sum.inr a:oC)=Sum.inl b)=false:=dF (λq=>nomatch q)
noncomputable def KB(prog:Kz)(w:kl):PySem.KeyKind prog w oC where
 is:=VO
 hash:=ut w
 inj:=λv a b g z=>by
  rcases tB g with⟨i,t,rfl,rfl⟩| ⟨x,t,rfl,rfl⟩
  rcases tB z with⟨j,u,rfl,e⟩| ⟨y,u,rfl,e⟩
  ·injection e with e1 _;rw[e1]
  exact nomatch e;rcases tB z with⟨j,u,rfl,e⟩| ⟨y,u,rfl,e⟩
  ·exact nomatch e
  injection e with e1 _;rw[e1]
 byValue:=λk v h=>by rcases tB h with⟨i,t,rfl,rfl⟩| ⟨x,t,rfl,rfl⟩<;>rfl
 pyHash:=λhv h=>by
  rcases tB hv with⟨i,t,rfl,rfl⟩| ⟨x,t,rfl,rfl⟩
  exact wpAny_pyHash_int h;exact wpAny_pyHash_str h
 eqBool:=λf hv h=>by
  rcases tB f with⟨i,t,rfl,rfl⟩| ⟨x,t,rfl,rfl⟩
  rcases tB hv with⟨j,u,rfl,rfl⟩| ⟨y,u,rfl,rfl⟩
  ·rw[Hj]at h;exact wpAny_eqBool_int h
  rw[Gj]at h;exact QB5 i t y u _ _ _ _ h;rcases tB hv with⟨j,u,rfl,rfl⟩| ⟨y,u,rfl,rfl⟩
  ·rw[Fj]at h;exact QB6 x t j u _ _ _ _ h
  rw[Dj]at h;exact wpAny_eqBool_str h
 «strs»:=λk x t v h=>by
  rcases tB h with⟨i,u,rfl,e⟩| ⟨y,u,rfl,e⟩
  exact nomatch e;injection e with e1 _;subst e1;cases v<;>rfl
theorem dS(prog:Kz)(w:kl)(i:Int)(t:Tok):(KB prog w).is (.inl i) (.int i t)=true:=yZ i t
theorem cS(prog:Kz)(w:kl)(x:Str)(t:Tok):(KB prog w).is (.inr x) (.str x t)=true:=jZ x t
set_option genInjectivity true in
inductive V where
 |non|bl (b:Bool)|int (i:Int)|str (x:Str)|byt (b:Array UInt8)|flt (b:UInt64)|ref (a:j2)|ty (n:String)
 deriving DecidableEq
abbrev LV:=List V
noncomputable def aA:V->j0->Prop
 | .non,u=>u=Jz|.bl b,u=>u=Value.bool b|.int i,u=>∃t,u=Value.int i t|.str x,u=>∃t,u=Value.str x t|.byt b,u=>∃t,u=Value.bytes b t|.flt b,u=>∃t,u=Value.float b t|.ref a,u=>u=jx a|.ty n,u=>u=Value.type n
noncomputable abbrev iA:LV->LW->Prop:=x0 aA
theorem iA.length{xs:LV}{us:LW}(r:iA xs us):xs.length=us.length:=WP r
theorem iA.get:∀{xs:LV}{us:LW}{i:Nat}{x:V},iA xs us->xs[i]?=jy x->∃u,us[i]?=jy u/\aA x u
 |_,_,_,_,.nil,e=>by simp at e|_,_,0,_,.cons r _,e=>by simp at e;subst e;exact#[_,rfl,r]|_,_,i+1,x,.cons _ t,e=>by let#[u,y,h]:=iA.get (i:=i) (x:=x) t (by simpa using e);exact#[u,by simpa using y,h]
theorem iA.set{x:V}{u:j0}(r:aA x u):∀{xs:LV}{us:LW}(i:Nat),iA xs us->iA (xs.set i x) (us.set i u)
 |_,_,_,.nil=>.nil|_,_,0,.cons _ t=>.cons r t|_,_,i+1,.cons q t=>.cons q (iA.set r i t)
theorem iA.append:∀{xs ys:LV}{us ws:LW},iA xs us->iA ys ws->iA (xs++ys) (us++ws)
 |_,_,_,_,.nil,s=>s|_,_,_,_,.cons r t,s=>.cons r (iA.append t s)
theorem iA.take:∀{xs:LV}{us:LW}(n:Nat),iA xs us->iA (xs.take n) (us.take n)
 |_,_,0,_=>.nil|_,_,_+1,.nil=>.nil|_,_,n+1,.cons r t=>.cons r (iA.take n t)
theorem iA.drop:∀{xs:LV}{us:LW}(n:Nat),iA xs us->iA (xs.drop n) (us.drop n)
 |_,_,0,r=>r|_,_,_+1,.nil=>.nil|_,_,n+1,.cons _ t=>iA.drop n t
noncomputable def KH:Option V->Option j0->Prop
 |some v,jy u=>aA v u|none,jz=>True|_,_=>False
noncomputable def KV{h:Type}:List (h×V)->List (h×j0)->Prop:=x0 λ(p:h×V) (q:h×j0)=>p.1=q.1/\aA p.2 q.2
noncomputable def kV:oC->V
 | .inl i=>.int i|.inr x=>.str x
inductive HO where
 |lst (xs:LV)
 |tup (xs:LV)
 |dK (kvs:List (oC×V))|dT (kvs:List (List oC×V))
 |set (S:Int->Bool) (n:Nat)
 |ins (C dx:j2) (fs:List (Str×V))
 |own (x:j2)
 |xd (fs:List (Str×V))
 |met (f x:j2)
 |rng (lo hi:Int)
 |frz (o:Obj) (u:HO)
 |tbl (ps:Array j0)
 |ext (φ:kt->Prop)
noncomputable abbrev Hp:=j2->Option HO
noncomputable def VA(H:Hp)(a:j2)(o:HO):Hp:=λb=>if b=a then jy o else H b
theorem vA{H:Hp}{a:j2}{o:HO}:VA H a o a=jy o:=by unfold VA;rw[ef rfl]
theorem yA{H:Hp}{a b:j2}{o:HO}(h:b≠a):VA H a o b=H b:=by unfold VA;rw[eH h]
theorem c9{H:Hp}{a:j2}{o u:HO}:VA (VA H a o) a u=VA H a u:=by funext b;unfold VA;split<;>rfl
theorem xo{H:Hp}{a b:j2}{o u:HO}(h:H a=jy o)(h':H b=jy u)(d:o≠u):a≠b:=by intro e;subst e;rw[h]at h';exact d (QY h')
theorem ZA{H:Hp}{a b:j2}{o:HO}(h:H a=jy o)(h':H b=jz):a≠b:=by intro e;subst e;rw[h]at h';cases h'
section
variable(P:Kz)(w:kl)
noncomputable def LA(H:Hp)(h:kt)(a:j2):HO->Prop
 | .lst b=>b.length<=j1/\∃(z:LW) (n:Nat),iA b z/\h.get? a=jy { cls:=.type "list",data:=.seq z.toArray n }|.tup b=>b.length<=j1/\∃z:LW,iA b z/\IsTup h a z.toArray|.dK y=>y.length<=j1/\(a==v6)=js/\∃vs,KV y vs/\h.DictOf (KB P w) a vs|.dT y=>y.length<=j1/\(a==v6)=js/\∃b:List (List oC×j2×j0),
   x0 (λ(p:List oC×V) (q:List oC×j2×j0)=>p.1=q.1/\H q.2.1=jy (.tup (p.1.map kV))/\aA p.2 q.2.2) y b /\
   ∃o m Y,h.get? a=jy o/\o.ExactDict/\o.data=.dict m Y/\m.toList=b.map (entryOfKey (hB (KB P w)))/\(b.map (·.1)).Nodup
 | .set S n=>h.SetOf (intKind P w) a S n|.ins C g fs=>H g=jy (.own a)/\fs.length<=1000/\g≠a/\h.get? a=jy (QBW C g) /\
   ∃e,h.Ns1 g e/\(∀f,KH (fs.lookup f) (e f))/\PySem.Within e (fs.map (·.1))
 | .own _=>∃o,h.get? a=jy o|.xd fs=>∃e,h.Ns1 a e/\∀f,KH (fs.lookup f) (e f)|.rng s X=>∃t u v,h.get? a=jy { cls:=.type "range",data:=.fields (List.toArray [.int s t,.int X u,.int 1 v]) }|.frz o u=>h.get? a=jy o/\LA H h a u|.tbl r=>h.get? a=jy { cls:=.none,data:=.fields r }|.met f x=>h.get? a=jy (QAs (.ref f) (.ref x))|.ext i=>i h/\(∃o,h.get? a=jy o)/\∀l j:kt,i l->(∀o,l.get? a=jy o->j.get? a=jy o)->i j
def aH(H:Hp)(h:kt):Prop:=∀a o,H a=jy o->LA P w H h a o
end
section
variable{P:Kz}{w:kl}{H H':Hp}{h h':kt}{a:j2}{o:HO}
theorem LA.lt(x:LA P w H h a o):a<h.1.size:=by
 cases o with|lst b=>let#[_,_,_,_,e]:=x;exact QO e|tup b=>let#[_,_,_,p]:=x;exact p.lt|dK z=>let#[_,_,_,_,o,_,_,e,_]:=x;exact QO e|dT z=>let#[_,_,_,_,o,_,_,e,_]:=x;exact QO e|set S n=>let#[o,_,_,_,e,_]:=x;exact QO e|ins C q fs=>let#[_,_,_,e,_]:=x;exact QO e|own y=>let#[_,e]:=x;exact QO e|xd fs=>let#[_,#[_,_,_,e,_],_]:=x;exact QO e|rng l m=>let#[_,_,_,e]:=x;exact QO e|frz j u=>let#[e,_]:=x;exact QO e|tbl i=>exact QO (show h.get? a=jy _ from x)|met f y=>exact QO (show h.get? a=jy _ from x)|ext g=>let#[_,#[_,e],_]:=x;exact QO e
theorem Paired.mapP{α x:Type}{F G:α->x->Prop}:∀{l₁:List α}{l₂:List x},x0 F l₁ l₂->(∀a b,F a b->G a b)->x0 G l₁ l₂
 |_,_,.nil,_=>.nil|_,_,.cons r t,f=>.cons (f _ _ r) (Paired.mapP t f)
theorem LA.stay(x:LA P w H h a o)(k:∀b u,(b=a∨H b=jy (.own a))->h.get? b=jy u->h'.get? b=jy u)
  (A:∀b,H b=jy (.own a)->H' b=jy (.own a)) (K:∀b xs,H b=jy (.tup xs)->H' b=jy (.tup xs)):LA P w H' h' a o:=by
 induction o with|lst xs=>let#[z,l,n,r,e]:=x;exact#[z,l,n,r,k _ _ (.inl rfl) e]|tup xs=>let#[z,l,r,g,e,c]:=x;exact#[z,l,r,g,k _ _ (.inl rfl) e,c]|dK X=>let#[z,y,vs,r,g,i,j,e,c]:=x;exact#[z,y,vs,r,g,i,j,k _ _ (.inl rfl) e,c]|dT X=>let#[z,y,xs,r,g,i,j,e,c]:=x;exact#[z,y,xs,Paired.mapP r λp q z=>#[z.1,K _ _ z.2.1,z.2.2],g,i,j,k _ _ (.inl rfl) e,c]|set S n=>let#[g,i,j,t,e,c]:=x;exact#[g,i,j,t,k _ _ (.inl rfl) e,c]|ins C I fs=>let#[d,z,Z,e,s,#[m,i,j,B,c],r]:=x;exact#[A _ d,z,Z,k _ _ (.inl rfl) e,s,#[m,i,j,k _ _ (.inr d) B,c],r]|own y=>let#[g,e]:=x;exact#[g,k _ _ (.inl rfl) e]|xd fs=>let#[s,#[m,i,j,e,c],r]:=x;exact#[s,#[m,i,j,k _ _ (.inl rfl) e,c],r]|rng F G=>let#[t,u,v,e]:=x;exact#[t,u,v,k _ _ (.inl rfl) e]|frz g u W=>let#[e,q]:=x;exact#[k _ _ (.inl rfl) e,W q]|tbl Y=>have e:h.get? a=jy { cls:=.none,data:=.fields Y }:=x;show h'.get? a=jy { cls:=.none,data:=.fields Y };exact k a _ (.inl rfl) e|met f y=>have e:h.get? a=jy (QAs (.ref f) (.ref y)):=x;show h'.get? a=jy (QAs (.ref f) (.ref y));exact k a _ (.inl rfl) e|ext E=>let#[p,#[o,e],st]:=x;exact#[st _ _ p λo q=>k _ _ (.inl rfl) q,#[o,k _ _ (.inl rfl) e],st]
theorem aH.lt(x:aH P w H h)(e:H a=jy o):a<h.1.size:=(x a o e).lt
theorem aH.fresh(x:aH P w H h)(e:h.1.size<=a):H a=none:=by
 cases q:H a with|none=>rfl|some u=>exact eN (Qh (x.lt q) e) (wA _)
theorem aH.kept(x:aH P w H h)(k:∀b u,h.get? b=jy u->h'.get? b=jy u):aH P w H h':=λa o e =>
 (x a o e).stay (λb u _ q=>k b u q) (λ_ q=>q) λ_ _ q=>q
theorem aH.laid(x:aH P w H h)(k:∀b u,h.get? b=jy u->h'.get? b=jy u)(f:h.1.size<=a)(new:LA P w (VA H a o) h' a o):aH P w (VA H a o) h':=λb u e=>by have y:=x.fresh f;by_cases z:b=a;subst z;rw[vA]at e;cases e;exact new;rw[yA z]at e;exact(x b u e).stay (λc v _ q=>k c v q) (λc q=>by rw[yA (ZA q y)];exact q) λc g q=>by rw[yA (ZA q y)];exact q
end
def Rd(H:Hp)(a:j2)(u:HO):Prop:=H a=jy u∨∃o,H a=jy (.frz o u)
theorem Rd.ok{P:Kz}{w:kl}{H:Hp}{h:kt}{a:j2}{u:HO}(r:Rd H a u)(x:aH P w H h):LA P w H h a u:=by
 rcases r with r|⟨o,r⟩
 exact x a u r;let#[_,q]:=x a _ r;exact q
noncomputable def Cq:Option HO->Prop
 |some (.lst _)=>True|some (.dK _)=>True|some (.dT _)=>True|some (.set _ _)=>True|some (.ins _ _ _)=>True|some (.ext _)=>True|_=>False
section
variable{P:Kz}{w:kl}{H:Hp}{h h':kt}{x e:j2}{a:HO}
theorem aH.write(ok:aH P w H h)(l:Cq (H x))(p:e=x∨H e=jy (.own x))(k:∀b u,b≠e->h.get? b=jy u->h'.get? b=jy u)(n:∃u,h'.get? e=jy u)
  (new:LA P w (VA H x a) h' x a):aH P w (VA H x a) h':=λb u q=>by
 have g:∀c y,H c=jy (.own y)->c≠x:=λc y r z=>by subst z;rw[r]at l;exact l
 have i:∀c j,H c=jy (.tup j)->c≠x:=λc j r z=>by subst z;rw[r]at l;exact l
 by_cases m:b=x;subst m;rw[vA]at q;cases q;exact new;rw[yA m]at q;by_cases f:b=e;have o:H b=jy (.own x):=by rcases p with z|z;exact eN (f.trans z) m;rw[f];exact z
 rw[q]at o;cases o;let#[v,hv]:=n;exact#[v,by rw[f];exact hv];refine(ok b u q).stay (λc v hc r=>k c v ?_ r) (λc r=>by rw[yA (g c b r)];exact r) λc j r=>by rw[yA (i c j r)];exact r
 rcases hc with rfl|hc;exact f;rintro rfl;rcases p with z|z;exact g c b hc z;rw[hc]at z;cases z;exact m rfl
end
structure Un(fs ex:List j2)(H H':Hp)(h h':kt):Prop where
 keep:∀b o,h.get? b=jy o->H b=jz->b∉fs->b∉ex->h'.get? b=jy o
 slot:∀b o,h.get? b=jy o->H b=jz->b∈fs->b∉ex->∃sl,h'.get? b=jy { o with slots:=sl }
 free:∀b o,h.get? b=jy o->H b=jz->b∉ex->H' b=jz
 there:∀b o,h.get? b=jy o->b∉ex->∃o',h'.get? b=jy o'
 tups:∀b xs,H b=jy (.tup xs)->H' b=jy (.tup xs)
 frzs:∀b o u,H b=jy (.frz o u)->H' b=jy (.frz o u)
 tbls:∀b ps,H b=jy (.tbl ps)->∃more,H' b=jy (.tbl (ps++more))
section
variable{y v ex w:List j2}{H d g:Hp}{h c f h':kt}{a x e:j2}{o:HO}
theorem Un.any(u:Un y ex H d h c){b:j2}{z:Obj}(q:h.get? b=jy z)(n:H b=jz)(i:b∉ex):∃l,c.get? b=jy { z with slots:=l }:=by by_cases j:b∈y;exact u.slot b z q n j i;exact#[z.slots,u.keep b z q n j i]
theorem Un.kept(k:∀b u,h.get? b=jy u->h'.get? b=jy u):Un y ex H H h h' :=
 #[λb z q _ _ _=>k b z q,λb z q _ _ _=>#[z.slots,k b z q],λ_ _ _ n _=>n,λb z q _=>#[z,k b z q],λ_ _ q=>q,λ_ _ _ q=>q,λ_ i q=>#[#[],by rw[q];simp]]
theorem Un.refl:Un y ex H H h h:=Un.kept λ_ _ q=>q
theorem Un.laid(k:∀b u,h.get? b=jy u->h'.get? b=jy u)(j:h.1.size<=a)(z:H a=jz):Un y ex H (VA H a o) h h' where
 keep:=λb u q _ _ _=>k b u q
 slot:=λb u q _ _ _=>#[u.slots,k b u q]
 free:=λb u q n _=>by rw[yA (Qk (Qh (QO q) j))];exact n
 there:=λb u q _=>#[u,k b u q]
 tups:=λb i q=>by rw[yA (ZA q z)];exact q
 frzs:=λb u i q=>by rw[yA (ZA q z)];exact q
 tbls:=λb l q=>#[#[],by rw[yA (ZA q z),q];simp]
theorem Un.write(j:Cq (H x))(Y:e=x∨H e=jy (.own x))(k:∀b u,b≠e->h.get? b=jy u->h'.get? b=jy u)(m:∃u,h'.get? e=jy u):Un y ex H (VA H x o) h h':=by
 have p:∀b,H b=jz->b≠x:=λb n z=>by subst z;rw[n]at j;exact j
 have s:∀b,H b=jz->b≠e:=λb n z=>by subst z;rcases Y with r|r;exact p b n r;rw[n]at r;cases r
 have l:∀b u,H b=jy u->¬ Cq (jy u)->b≠x:=λb u q nm z=>by subst z;rw[q]at j;exact nm j
 refine#[λb u q n _ _=>k b u (s b n) q,λb u q n _ _=>#[u.slots,k b u (s b n) q],λb u q n _=>by rw[yA (p b n)];exact n,λb u q _=>?_,
  λb X q=>by rw[yA (l b _ q λz=>z)];exact q,λb u X q=>by rw[yA (l b _ q λz=>z)];exact q,λb Z q=>#[#[],by rw[yA (l b _ q λz=>z),q];simp]]
 by_cases i:b=e;subst i;exact m;exact#[u,k b u i q]
theorem Un.mono(u:Un y ex H d h c)(m:∀b∈y,b∈v)(l:∀b∈ex,b∈w):Un v w H d h c :=
 #[λb j q n p i=>u.keep b j q n (λz=>p (m b z)) λz=>i (l b z),λ_ _ q n _ i=>u.any q n λz=>i (l _ z),λb j q n i=>u.free b j q n λz=>i (l b z),λb j q i=>u.there b j q λz=>i (l b z),u.tups,u.frzs,u.tbls]
end
noncomputable def Iq(h:kt)(H:Hp):List Addr:=(Qe h.1.size).filter λa=>(H a).isSome
noncomputable def GQ(h:kt)(H:Hp):Heap:=QDG h (Iq h H)
theorem cZ(h:kt)(H:Hp):(GQ h H).1.size=h.1.size:=PySem.W.hideAll_size _ _
theorem c7{h:kt}{H:Hp}{b:j2}{o:Obj}(e:h.get? b=jy o)(n:H b=jz):(GQ h H).get? b=jy o :=
 QAV _ e λx=>by have q:(H b).isSome=true:=(QDH.mp x).2;rw[n]at q;simp at q
theorem Vb{h:kt}{H:Hp}{b:j2}{o:Obj}(e:(GQ h H).get? b=jy o):h.get? b=jy o/\H b=none:=by
 have y:h.get? b=jy o:=QB7 (Iq h H) e;refine#[y,?_];cases q:H b with|none=>rfl|some x=>have u:b∈Iq h H:=QDH.mpr #[qV.mpr (QO y),by simp[q]];have z:(GQ h H).get? b=none:=QBe (Iq h H) u;rw[z]at e;cases e
structure Mod(K:QC)(mg:Str->Option j0)(base:kt):Prop where
 kin:K.In base
 glob:base.Ns ke mg
 blt:∃mb,base.Ns dw mb/\∀x:Str,x≠"__name__"->mb x=vb x
 nolimit:base.NoLimit
structure Cx where
 prog:Kz
 w:kl
 K:QC
 mg:Str->Option j0
 base:kt
 A:Vy
 N:LS
 s₀:j3
 H₀:Hp
 env:Env
 outer:List Env
 stack:List Env
 ex:List j2
 fn:Str->Bool
 calm:Bool
 pn:FB
 xe:j0->j3->Prop
noncomputable def LO(l:List Env):List Addr:=l.filterMap (·.frame)
noncomputable abbrev Cx.fs(X:Cx):List Addr:=LO X.outer
def lq(sc:Xz)(x:Str):Prop:=sc.names.lookup x=jy .local∨sc.names.lookup x=jy .cell∨sc.names.lookup x=jy .free
def Dq(sc:Xz)(x:Str):Prop:=sc.names.lookup x=jy .local∨sc.names.lookup x=jy .cell
def au(env:Env)(h:kt)(m:Str->Option j0)(x:Str)(u:j0):Prop :=
 (env.kindOf x=jy .local/\m x=jy u)∨((env.kindOf x=jy .cell∨env.kindOf x=jy .free)/\∃c,env.cells.lookup x=jy c/\h.IsCell c (jy u))
structure Cx.Ok(X:Cx):Prop where
 mod:Mod X.K X.mg X.base
 kind:X.env.scope.kind=.function
 glob:X.env.globals=ke
 blt:X.env.builtins=dw
 above:X.s₀.1.1.size<=X.env.locals
 inj:∀x y c,X.env.cells.lookup x=jy c->X.env.cells.lookup y=jy c->x=y
 has:∀x,(X.env.kindOf x=jy .cell∨X.env.kindOf x=jy .free)->∃c,X.env.cells.lookup x=jy c
 cab:∀x c,X.fn x=jb->X.env.cells.lookup x=jy c->X.s₀.1.1.size<=c
 hd:X.calm=jb->X.A.handled=jz
 frames:X.A.frames=jy X.stack
 stk:X.stack=X.outer∨(X.stack=X.env::X.outer/\X.env.frame=jy X.env.locals)
 exf:∀b∈X.ex,b≠X.env.locals/\∀x c,X.env.cells.lookup x=jy c->c≠b
 bs:∀b o,X.base.get? b=jy o->X.s₀.1.get? b=jy o/\X.H₀ b=jz
 bsz:X.base.1.size<=X.s₀.1.1.size
 noex:∀b o,X.base.get? b=jy o->b∉X.ex
 exfs:∀b∈X.ex,b∉X.fs
 funs:X.s₀.1.FunFrames X.base X.outer
 frf:∀b∈X.fs,X.H₀ b=jz
structure Inv(X:Cx)(pins:FB)(σ:List (Option V))(H:Hp)(s:j3):Prop where
 ok:X.Ok
 os:s.os=X.s₀.os
 bare:AllBare s.gens
 base:Un X.fs X.ex X.H₀ H X.s₀.1 s.1
 loc:∃m,s.1.Ns X.env.locals m/\∀(i:Nat) (x:Str) (v:V),X.N[i]?=jy x->σ[i]?=jy (jy v)->lq X.env.scope x->∃u,aA v u/\au X.env s.1 m x u
 cell:∀x c,X.env.cells.lookup x=jy c->∃v,s.1.IsCell c v
 free:H X.env.locals=jz
 freeC:∀x c,X.env.cells.lookup x=jy c->H c=jz
 pin:∀p∈X.pn++pins,s.1.get? p.1=jy p.2/\H p.1=jz/\p.1≠X.env.locals/\p.1∉X.fs/\∀v,p.2.data≠.cell v
 hok:aH X.prog X.w H s.1
 len:σ.length=X.N.length
section
variable{X:Cx}{f:FB}{σ:List (Option V)}{H H':Hp}{s:j3}{h':kt}
theorem Cx.Ok.nofr(ok:X.Ok){b:j2}{o:Obj}(e:X.base.get? b=jy o):b∉X.fs:=λh=>by have:=(ok.funs.mem h).1;rw[e]at this;cases this
theorem Inv.bs(I:Inv X f σ H s):∀b o,X.base.get? b=jy o->s.1.get? b=jy o/\H b=none:=λb o e =>
 #[I.base.keep b o (I.ok.bs b o e).1 (I.ok.bs b o e).2 (I.ok.nofr e) (I.ok.noex b o e),I.base.free b o (I.ok.bs b o e).1 (I.ok.bs b o e).2 (I.ok.noex b o e)]
theorem Inv.bk(I:Inv X f σ H s):∀b o,X.base.get? b=jy o->s.1.get? b=jy o:=λb o e=>(I.bs b o e).1
theorem Inv.mod(I:Inv X f σ H s):Mod X.K X.mg X.base:=I.ok.mod
theorem Inv.kIn(I:Inv X f σ H s):X.K.In s.heap:=I.ok.mod.kin.keeps I.bk
theorem Inv.fr(I:Inv X f σ H s):∃m,Fr X.base X.env.locals s.1 m :=
 let#[m,h,_]:=I.loc
 #[m,h,I.bk,qZ I.ok.bsz I.ok.above]
theorem Inv.lt(I:Inv X f σ H s):X.env.locals<s.1.1.size:=let#[_,h,_]:=I.loc;h.lt
theorem Inv.sz(I:Inv X f σ H s):X.s₀.1.1.size<=s.1.1.size:=qZ I.ok.above (QCn I.lt)
theorem Inv.nofs(I:Inv X f σ H s){a:j2}(h:s.1.1.size<=a):a∉X.fs:=λy=>by let#[_,o,x,_]:=I.ok.funs.mem y;exact eN (Qh (QO x) (qZ I.sz h)) (wA _)
theorem Inv.cne(I:Inv X f σ H s):∀x c,X.env.cells.lookup x=jy c->c≠X.env.locals:=λx c e z=>by let#[v,o,u,hd]:=I.cell x c e;let#[m,#[a,b,g,h,y,_],_]:=I.loc;rw[z,h]at u;cases u;rw[y]at hd;cases hd
theorem Inv.funs(I:Inv X f σ H s):s.1.FunFrames X.base X.outer:=by
 have all:∀(l:List Env),(∀b∈LO l,b∈X.fs)->X.s₀.1.FunFrames X.base l->s.1.FunFrames X.base l:=by
  intro l;induction l with|nil=>intro _ _;trivial|cons m r a=>intro u hl;let#[hk,#[L,o,h,j,i,hd],g]:=hl;have y:L∈X.fs:=u L (by unfold LO;rw[wX,h];exact QK);let#[n,e]:=I.base.slot L o i (I.ok.frf L y) y λz=>I.ok.exfs L z y;exact#[hk,#[L,_,h,j,e,hd],a (λb x=>u b (by unfold LO;rw[wX,h];exact QH _ x)) g]
 exact all X.outer (λ_ x=>x) I.ok.funs
theorem Inv.stack(I:Inv X f σ H s):s.1.FunFrames X.base X.stack:=by
 rcases I.ok.stk with e|⟨e,x⟩
 rw[e];exact I.funs;rw[e];let#[m,h,_]:=I.loc;refine .cons (by rw[I.ok.kind];decide) x h ?_ I.funs;exact Heap.get?_none_of_le (qZ I.ok.bsz I.ok.above)
theorem Inv.stkSub(I:Inv X f σ H s):∀b∈LO X.stack,b∈X.env.locals::X.fs:=λb h=>by
 rcases I.ok.stk with e|⟨e,x⟩
 rw[e]at h;exact QH _ h;rw[e]at h;unfold LO at h;rw[wX,x]at h;exact h
theorem Inv.stkFree(I:Inv X f σ H s):∀b∈LO X.stack,H b=none:=λb h=>by rcases QR.mp (I.stkSub b h) with e|h;rw[e];exact I.free;let#[_,o,x,_]:=I.ok.funs.mem h;exact I.base.free b o x (I.ok.frf b h) λz=>I.ok.exfs b z h
theorem Inv.step{g':Array gn}{t':Nat}{d':Ew}{ch:List j2}(I:Inv X f σ H s)
  (a:∀b∈ch,(b∈X.ex∨X.s₀.1.1.size<=b)/\b≠X.env.locals/\(∀x c,X.env.cells.lookup x=jy c->c≠b)/\∀p∈X.pn++f,p.1≠b)
  (keep:∀b o,b≠X.env.locals->b∉X.fs->b∉ch->s.1.get? b=jy o->H b=jz->h'.get? b=jy o)
  (Z:∀b o,b≠X.env.locals->b∈X.fs->b∉ch->s.1.get? b=jy o->H b=jz->∃N,h'.get? b=jy { o with slots:=N }) (free:∀b o,b∉ch->s.1.get? b=jy o->H b=jz->H' b=jz)
  (W:∀b o,b∉ch->s.1.get? b=jy o->∃E,h'.get? b=jy E)
  (B:∀b xs,H b=jy (.tup xs)->H' b=jy (.tup xs)) (J:∀b o u,H b=jy (.frz o u)->H' b=jy (.frz o u)) (C:∀b ps,H b=jy (.tbl ps)->∃G,H' b=jy (.tbl (ps++G)))
  (ns:∀m,s.1.Ns X.env.locals m->h'.Ns X.env.locals m) (hok:aH X.prog X.w H' h') (hg:AllBare g') :
  Inv X f σ H' { s with heap:=h',gens:=g',drawn:=d',toks:=t' }:=by
 have F:∀b o,X.s₀.1.get? b=jy o->b≠X.env.locals:=λb o e=>Qk (Qh (QO e) I.ok.above);have j:∀b o,X.s₀.1.get? b=jy o->b∉X.ex->b∉ch:=λb o e h K=>by rcases(a b K).1 with z|z;exact h z;exact eN (Qh (QO e) z) (wA _)
 have g:∀x c,X.env.cells.lookup x=jy c->∀v,s.1.IsCell c v->h'.IsCell c v:=λx c e v #[o,A,hd]=>by have y:c∉ch:=λz=>(a c z).2.2.1 x c e rfl;by_cases hc:c∈X.fs;let#[N,q]:=Z c o (I.cne x c e) hc y A (I.freeC x c e);exact#[_,q,hd];exact#[o,keep c o (I.cne x c e) hc y A (I.freeC x c e),hd]
 refine#[I.ok,I.os,hg,#[λb o e n K h=>?_,λb o e n K h=>?_,λb o e n h=>?_,λb o e h=>?_,λb xs e=>B b xs (I.base.tups b xs e),λb o xs e=>J b o xs (I.base.frzs b o xs e),λb ps e=>?_],?_,λx c e=>?_,?_,λx c e=>?_,λp Q=>?_,hok,I.len];exact keep b o (F b o e) K (j b o e h) (I.base.keep b o e n K h) (I.base.free b o e n h);let#[N,Y]:=I.base.slot b o e n K h;let#[M,L]:=Z b _ (F b o e) K (j b o e h) Y (I.base.free b o e n h);exact#[M,L];let#[E,Y]:=I.base.there b o e h;exact free b E (j b o e h) Y (I.base.free b o e n h);let#[E,Y]:=I.base.there b o e h;exact W b E (j b o e h) Y;let#[S,Y]:=I.base.tbls b ps e;let#[R,L]:=C b _ Y;exact#[S++R,by rw[L,Array.append_assoc]];let#[m,hn,hl]:=I.loc;refine#[m,ns m hn,λi x v Y L e3=>?_];let#[u,r,l]:=hl i x v Y L e3;refine#[u,r,?_];rcases l with l|⟨k,c,e,z⟩
 exact .inl l;exact .inr #[k,c,e,g x c e _ z];let#[v,z]:=I.cell x c e;exact#[v,g x c e v z];let#[m,#[o,_,_,A,_],_]:=I.loc;exact free _ o (λz=>(a _ z).2.1 rfl) A I.free;let#[v,o,A,hd]:=I.cell x c e;exact free c o (λz=>(a c z).2.2.1 x c e rfl) A (I.freeC x c e);let#[e,n,P,O,d]:=I.pin p Q;have y:p.1∉ch:=λz=>(a p.1 z).2.2.2 p Q rfl;exact#[keep p.1 p.2 P O y e n,free p.1 p.2 y e n,P,O,d]
theorem Inv.un{t':Nat}(I:Inv X f σ H s)(u:Un X.fs [] H H' s.1 h')(hok:aH X.prog X.w H' h'):Inv X f σ H' { s with heap:=h',toks:=t' }:=by let#[m,#[o,Z,W,g,r],_]:=id I.loc;let#[p,l]:=u.any g I.free (by simp);exact I.step (g':=s.gens) (d':=s.drawn) (ch:=[]) (λ_ z=>nomatch z) (λb o _ x _ e n=>u.keep b o e n x (by simp)) (λb o _ x _ e n=>u.slot b o e n x (by simp)) (λb o _ e n=>u.free b o e n (by simp)) (λb o _ e=>u.there b o e (by simp)) u.tups u.frzs u.tbls (λY j=>by let#[q,y,a,h,i]:=j;rw[g]at h;cases h;exact#[_,y,a,l,i]) hok I.bare
theorem Inv.call{g':Array gn}{t':Nat}{d':Ew}{ch:List j2}(I:Inv X f σ H s)(u:Un (LO X.stack) ch H H' s.1 h')(hok:aH X.prog X.w H' h')(Y:AllBare g')
  (y:∀b∈ch,(b∈X.ex∨X.s₀.1.1.size<=b)/\b≠X.env.locals/\(∀x c,X.env.cells.lookup x=jy c->c≠b)/\∀p∈X.pn++f,p.1≠b) :
  Inv X f σ H' { s with heap:=h',gens:=g',drawn:=d',toks:=t' }:=by
 let#[m,#[o,B,C,j,r],_]:=id I.loc;let#[W,a]:=u.any j I.free λz=>(y _ z).2.1 rfl;exact I.step (ch:=ch) y (λb o a Z hc e n=>u.keep b o e n (λz=>(QR.mp (I.stkSub b z)).elim a Z) hc) (λb o _ _ hc e n=>u.any e n hc) (λb o hc e n=>u.free b o e n hc) (λb o hc e=>u.there b o e hc) u.tups u.frzs u.tbls (λA q=>by let#[K,g,i,h,l]:=q;rw[j]at h;cases h;exact#[_,g,i,a,l]) hok Y
theorem Inv.turned{t':Nat}{it:j2}(I:Inv X f σ H s)(k:∀b o,b≠it->s.1.get? b=jy o->h'.get? b=jy o)(g:H it=jz)(y:it≠X.env.locals)
  (Z:it∈X.ex∨X.s₀.1.1.size<=it) (Y:∀x c,X.env.cells.lookup x=jy c->c≠it) (l:∀p∈X.pn++f,p.1≠it):Inv X f σ H { s with heap:=h',toks:=t' }:=by
 have h:∀b u,H b=jy u->b≠it:=λb u e z=>by rw[z,g]at e;cases e
 refine I.step (g':=s.gens) (d':=s.drawn) (ch:=[it]) (λb j=>?_) (λb o _ _ hc e _=>k b o (λz=>hc (by simp[z])) e) (λb o _ _ hc e _=>#[o.slots,k b o (λz=>hc (by simp[z])) e]) (λ_ _ _ _ n=>n)
  (λb o hc e=>#[o,k b o (λz=>hc (by simp[z])) e]) (λ_ _ e=>e) (λ_ _ _ e=>e) (λb A e=>#[#[],by rw[e];simp]) (λm i=>?_) (λb u e=>?_) I.bare
 have e:b=it:=by simpa using j
 subst e;exact#[Z,y,Y,l];let#[o,W,K,a,r]:=i;exact#[o,W,K,k _ o (Qw y) a,r];refine(I.hok b u e).stay (λc v hc q=>k c v ?_ q) (λ_ q=>q) λ_ _ q=>q;rcases hc with z|z;rw[z];exact h b u e;exact h c _ z
theorem Inv.tok(I:Inv X f σ H s)(t:Nat):Inv X f σ H { s with toks:=t }:=I.un (h':=s.1) (t':=t) Un.refl I.hok
theorem Inv.kept{t':Nat}(I:Inv X f σ H s)(k:∀b u,s.1.get? b=jy u->h'.get? b=jy u):Inv X f σ H { s with heap:=h',toks:=t' }:=I.un (Un.kept k) (I.hok.kept k)
theorem Inv.laid{a:j2}{o:HO}{t':Nat}(I:Inv X f σ H s)(k:∀b u,s.1.get? b=jy u->h'.get? b=jy u)(h:s.1.1.size<=a)(new:LA X.prog X.w (VA H a o) h' a o) :
  Inv X f σ (VA H a o) { s with heap:=h',toks:=t' }:=I.un (Un.laid k h (I.hok.fresh h)) (I.hok.laid k h new)
theorem Inv.write{x e:j2}{o:HO}{t':Nat}(I:Inv X f σ H s)(y:Cq (H x))(z:e=x∨H e=jy (.own x))(k:∀b u,b≠e->s.1.get? b=jy u->h'.get? b=jy u)(h:∃u,h'.get? e=jy u)
  (new:LA X.prog X.w (VA H x o) h' x o):Inv X f σ (VA H x o) { s with heap:=h',toks:=t' }:=I.un (Un.write y z k h) (I.hok.write y z k h new)
theorem Inv.pins_of{x:FB}(I:Inv X f σ H s)(h:∀p∈x,s.1.get? p.1=jy p.2/\H p.1=jz/\p.1≠X.env.locals/\p.1∉X.fs/\∀v,p.2.data≠.cell v):Inv X x σ H s :=
 #[I.ok,I.os,I.bare,I.base,I.loc,I.cell,I.free,I.freeC,λp y=>(Qy.mp y).elim (λz=>I.pin p (qQ _ z)) (h p),I.hok,I.len]
theorem tM{N:LS}(h:N.Nodup){i j:Nat}{x:Str}(a:N[i]?=jy x)(b:N[j]?=jy x):i=j:=by let#[e,z]:=Qa.mp a;let#[u,y]:=Qa.mp b;exact(List.getElem_inj h).mp (z.trans y.symm)
theorem cO{M:gm}{A:Vy}{E:NB}{i:Nat}{x:Str}{v:V}{u:j0}{Q:Unit->j3->Prop}(I:Inv X f σ H s)(hN:X.N.Nodup)(O:X.N[i]?=jy x)(Z:Dq X.env.scope x)(r:aA v u)
  (h:∀s',Inv X f (σ.set i (jy v)) H s'->(∃a,wB a s.1 s'.1/\(a=X.env.locals∨X.env.cells.lookup x=jy a))->Q Unit.unit s') (hf:X.fn x=jb∨X.env.scope.names.lookup x=jy .local):Kx M A (storeName X.env x u) Q E s:=by
 let#[m,hn,hl]:=id I.loc;have P:(X.env.scope.kind==.class||(X.env.scope.kind==.module&&X.env.locals != X.env.globals))=false:=by rw[I.ok.kind];rfl
 have B:i<σ.length:=by rw[I.len];exact(Qa.mp O).1
 have cne:=I.cne;have l:∀{a:j2}{h':kt},(∃o,s.1.get? a=jy o/\H a=jz)->wB a s.1 h'->aH X.prog X.w H h':=λ{a h'} ha g b ob e=>by let#[_,_,W]:=ha;refine(I.hok b ob e).stay (λc w' hc q=>(g.2 c ?_).trans q) (λ_ q=>q) λ_ _ q=>q;rintro rfl;rcases hc with rfl|hc;rw[W]at e;cases e;rw[W]at hc;cases hc
 rcases Z with hk|hk;refine wpAny_storeName_local hk hn (λh' hn' g=>?_) P;let#[oL,_,_,hoL,_]:=id hn;refine h _ #[I.ok,I.os,I.bare,#[λb o e n G Z=>?_,λb o e n G Z=>?_,I.base.free,λb o e Z=>?_,I.base.tups,I.base.frzs,I.base.tbls],#[_,hn',λj y v' Y K e3=>?_],λy c e=>?_,I.free,I.freeC,λp hp=>?_,l #[oL,hoL,I.free] g,by simpa using I.len] #[_,g,.inl rfl];exact(g.2 b (Qk (Qh (QO e) I.ok.above))).trans (I.base.keep b o e n G Z);let#[sl,Y]:=I.base.slot b o e n G Z;exact#[sl,(g.2 b (Qk (Qh (QO e) I.ok.above))).trans Y];let#[o',Y]:=I.base.there b o e Z;exact#[o',(g.2 b (Qk (Qh (QO e) I.ok.above))).trans Y];by_cases C:j=i
 ·subst C
  rw[O]at Y;cases Y;rw[Q3 B]at K;cases K;exact#[u,r,.inl #[hk,by simp]]
 rw[Ql (Qw C)]at K;let#[u',r',q]:=hl j y v' Y K e3;refine#[u',r',?_];rcases q with⟨k,e⟩| ⟨k,c,e,z⟩
 refine .inl #[k,?_];have:y≠x:=λe=>C (tM hN Y (e▸O));simp[this,e];exact .inr #[k,c,e,z.sameBut g (cne y c e)];let#[w',z]:=I.cell y c e;exact#[w',z.sameBut g (cne y c e)];let#[e,n,ne,nf,d]:=I.pin p hp;exact#[(g.2 p.1 ne).trans e,n,ne,nf,d];have F:X.fn x=true:=by rcases hf with z|z;exact z;rw[z]at hk;cases hk
 let#[c,hc]:=I.ok.has x (.inl hk);let#[w',z]:=I.cell x c hc;refine wpAny_storeName_cell I.ok.kind hk hc z (λh' S g=>?_);let#[oc,L,J]:=id z;refine h { s with heap:=h' } #[I.ok,I.os,I.bare,#[λb o e n G Z=>?_,λb o e n G Z=>?_,I.base.free,λb o e Z=>?_,I.base.tups,I.base.frzs,I.base.tbls],#[m,hn.sameBut g (Qw (cne x c hc)),λj y v' Y K e3=>?_],λy c' e=>?_,I.free,I.freeC,λp hp=>?_,l #[oc,L,I.freeC x c hc] g,by simpa using I.len] #[c,g,.inr hc];exact(g.2 b (Qk (Qh (QO e) (I.ok.cab x c F hc)))).trans (I.base.keep b o e n G Z);let#[sl,Y]:=I.base.slot b o e n G Z;exact#[sl,(g.2 b (Qk (Qh (QO e) (I.ok.cab x c F hc)))).trans Y];let#[o',Y]:=I.base.there b o e Z;exact#[o',(g.2 b (Qk (Qh (QO e) (I.ok.cab x c F hc)))).trans Y];by_cases C:j=i
 ·subst C
  rw[O]at Y;cases Y;rw[Q3 B]at K;cases K;exact#[u,r,.inr #[.inl hk,c,hc,S]]
 rw[Ql (Qw C)]at K;let#[u',r',q]:=hl j y v' Y K e3;refine#[u',r',?_];rcases q with q|⟨k,c',e,z'⟩
 exact .inl q;refine .inr #[k,c',e,z'.sameBut g ?_];rintro rfl;exact C (tM hN Y (I.ok.inj _ _ _ e hc▸O));by_cases R:c'=c
 ·subst R;exact#[_,S]
 let#[w2,z2]:=I.cell y c' e;exact#[w2,z2.sameBut g R];let#[e,n,ne,nf,d]:=I.pin p hp;refine#[(g.2 p.1 ?_).trans e,n,ne,nf,d];intro q;rw[q,L]at e;have q':oc=p.2:=QY e;exact d w' (by rw[<- q'];exact J)
theorem LL{M:gm}{A:Vy}{E:NB}{i:Nat}{x:Str}{v:V}{u:j0}{Q:Unit->j3->Prop}(I:Inv X f σ H s)(b:X.N.Nodup)(z:X.N[i]?=jy x)(y:Dq X.env.scope x)(r:aA v u)
  (h:∀s',Inv X f (σ.set i (jy v)) H s'->Q Unit.unit s') (a:X.fn x=jb∨X.env.scope.names.lookup x=jy .local):Kx M A (storeName X.env x u) Q E s :=
 cO I b z y r (λs' e _=>h s' e) a
theorem Inv.call'{s':j3}{ch:List j2}(I:Inv X f σ H s)(z:s'.os=s.os)(u:Un (LO X.stack) ch H H' s.1 s'.1)(hok:aH X.prog X.w H' s'.1)(a:AllBare s'.gens)
  (h:∀b∈ch,(b∈X.ex∨X.s₀.1.1.size<=b)/\b≠X.env.locals/\(∀x c,X.env.cells.lookup x=jy c->c≠b)/\∀p∈X.pn++f,p.1≠b):Inv X f σ H' s':=by
 let#[h',g',d',t',y]:=s';have e:y=s.os:=z;subst e;exact I.call (g':=g') (t':=t') (d':=d') u hok a h
end
noncomputable abbrev XK:=j0->Option j2->Hp->Prop
noncomputable abbrev St:=List (Option V)
noncomputable abbrev VK:=V->Hp->Prop
noncomputable abbrev TE:=St->Hp->VK->Prop
noncomputable abbrev TT:=St->Hp->(Bool->Hp->Prop)->Prop
noncomputable abbrev TA:=St->Hp->(LV->Hp->Prop)->Prop
structure Ends where
 nx:St->Hp->Prop
 rt:VK
 bk:St->Hp->Prop:=λ_ _=>False
 ct:St->Hp->Prop:=λ_ _=>False
noncomputable abbrev TS:=Ends->St->Hp->Prop
def EP(X:Cx)(h:FB)(σ:St)(Q:VK)(u:j0)(s':j3):Prop:=∃v x,Inv X h σ x s'/\aA v u/\Q v x
def TP(X:Cx)(h:FB)(σ:St)(Q:Bool->Hp->Prop)(b:Bool)(s':j3):Prop:=∃x,Inv X h σ x s'/\Q b x
def AP(X:Cx)(h:FB)(σ:St)(Q:LV->Hp->Prop)(us:LW)(s':j3):Prop:=∃vs x,Inv X h σ x s'/\iA vs us/\Q vs x
def SP(X:Cx)(x:FB)(D:Ends)(f:Flow)(s':j3):Prop :=
 match f with
 | .next=>∃h y,Inv X x h y s'/\D.nx h y|.brk=>∃h y,Inv X x h y s'/\D.bk h y|.cont=>∃h y,Inv X x h y s'/\D.ct h y|.ret u=>∃v h y,Inv X x h y s'/\aA v u/\D.rt v y
def PE(X:Cx)(e:Expr)(t:TE):Prop :=
 ∀(h:FB) (s:j3) (x:St) (H:Hp) (Q:VK),Inv X h x H s->t x H Q->Kx (Ky X.prog X.w) X.A (vu e X.env) (EP X h x Q) X.xe s
def PT(X:Cx)(e:Expr)(t:TT):Prop :=
 ∀(h:FB) (s:j3) (x:St) (H:Hp) (Q:Bool->Hp->Prop),Inv X h x H s->t x H Q->Kx (Ky X.prog X.w) X.A (isTrue e X.env (vu e X.env)) (TP X h x Q) X.xe s
def PW(X:Cx)(e:Expr)(t:TT):Prop :=
 ∀(x:Sem j0) (h:FB) (s:j3) (y:St) (H:Hp) (Q:Bool->Hp->Prop),Inv X h y H s->t y H Q->Kx (Ky X.prog X.w) X.A (isTrue e X.env x) (TP X h y Q) X.xe s
theorem PW.pt{X:Cx}{e:Expr}{t:TT}(h:PW X e t):PT X e t:=h _
def PA(X:Cx)(z:List Expr)(t:TA):Prop :=
 ∀(y:Pos) (h:FB) (s:j3) (x:St) (H:Hp) (Q:LV->Hp->Prop),Inv X h x H s->t x H Q->Kx (Ky X.prog X.w) X.A (spliced (x2 y (ka z X.env))) (AP X h x Q) X.xe s
def PS(X:Cx)(st:vl)(t:TS):Prop :=
 ∀(h:FB) (s:j3) (x:St) (H:Hp) (D:Ends),Inv X h x H s->t D x H->Kx (Ky X.prog X.w) X.A (exec st X.env) (SP X h D) X.xe s
def OZ(X:Cx)(st:List vl)(t:TS):Prop :=
 ∀(h:FB) (s:j3) (x:St) (H:Hp) (D:Ends),Inv X h x H s->t D x H->Kx (Ky X.prog X.w) X.A (execs st X.env) (SP X h D) X.xe s
theorem EA{α:Type}{t:Sem α}{Q Q':α->j3->Prop}{M:gm}{A:Vy}{E:NB}{s:j3}(h:Kx M A t Q E s)(y:∀a s,Q a s->Q' a s):Kx M A t Q' E s:=qL h y λ_ _ x=>x
section
variable{X:Cx}
theorem bin{a b:Expr}{ta z:TE}(W:PE X a ta)(Z:PE X b z){e:FB}{s:j3}{σ:St}{H:Hp}{R:V->V->Hp->Prop}(I:Inv X e σ H s)(h:ta σ H λx m=>z σ m λy g=>R x y g)
  {α:Type}{Q:α->j3->Prop}{f:j0->j0->Sem α}
  (Y:∀v u l x y g,Inv X e σ g l->aA x v->aA y u->R x y g->Kx (Ky X.prog X.w) X.A (f v u) Q X.xe l) :
  Kx (Ky X.prog X.w) X.A (vu a X.env) (λv j=>Kx (Ky X.prog X.w) X.A (vu b X.env) (λu i=>Kx (Ky X.prog X.w) X.A (f v u) Q X.xe i) X.xe j) X.xe s:=by
 refine EA (W e s σ H _ I h) λv n #[x,m,B,p,r]=>?_;refine EA (Z e n σ m _ B r) λu l #[y,g,K,o,q]=>?_;exact Y v u l x y g K p o q
noncomputable def BP(i:Nat):TE:=λh H Q=>∃v,h[i]?=jy (jy v)/\Q v H
noncomputable def tC(v:V):TE:=λ_ H Q=>Q v H
theorem jK{i:Nat}{x:Str}{pos:Pos}(j:X.N[i]?=jy x)(hv:lq X.env.scope x)(hd:autoParam ((x==("__debug__":Str))=false) zzd._auto_1)(a:autoParam ((x==("__classdict__":Str))=false) zzd._auto_1):PE X (.Name x pos) (BP i):=by
 intro z s b H Q I h;let#[v,e,h]:=h;let#[m,f,hl]:=I.loc;let#[u,r,l]:=hl i x v j e hv;have fin:EP X z b Q u s:=#[v,H,I,r,h]
 rcases l with⟨hk,g⟩| ⟨hk,c,hc,y⟩
 exact QDa (wpAny_loadName_local I.ok.kind hk f g fin) hd;rcases hk with hk|hk
 ·exact QDa (wpAny_loadName_cell I.ok.kind hk hc y fin) hd
 exact QDa (wpAny_loadName_free I.ok.kind hk hc y fin a) hd
theorem B4{i j pos}:PE X (.Constant (.int i) j pos) (tC (.int i)):=λ_ _ _ H _ I h=>wpAny_Constant_int #[.int i,H,I.tok _,#[_,rfl],h]
theorem ye{b j pos}:PE X (.Constant (.bool b) j pos) (tC (.bl b)):=λ_ _ _ H _ I h=>Constant_bool #[.bl b,H,I,rfl,h]
theorem X4{j pos}:PE X (.Constant .none j pos) (tC .non):=λ_ _ _ H _ I h=>Constant_none #[.non,H,I,rfl,h]
theorem fM{x j pos}:PE X (.Constant (.str x) j pos) (tC (.str x)):=λ_ _ _ H _ I h=>Calls.Constant_str #[.str x,H,I.tok _,#[_,rfl],h]
def Gl(X:Cx)(x:Str):Prop:=X.env.kindOf x=jy .globalImplicit
theorem gJ{E:NB}{y:FB}{s:j3}{σ:St}{H:Hp}{x:Str}{u:j0}{pos:Pos}{Q:NB}(I:Inv X y σ H s)(a:Gl X x)(z:X.mg x=jy u)(h:Q u s)
  (hd:autoParam ((x==("__debug__":Str))=false) zzd._auto_1):Kx (Ky X.prog X.w) X.A (vu (.Name x pos) X.env) Q E s :=
 WS I.ok.kind a (QBB (by rw[I.ok.glob];exact I.mod.glob.keeps I.bk) z h) hd
theorem AF{E:NB}{y:FB}{s:j3}{σ:St}{H:Hp}{x:Str}{u:j0}{pos:Pos}{Q:NB}(I:Inv X y σ H s)(b:Gl X x)(a:X.mg x=jz)(hv:vb x=jy u)(h:Q u s)
  (z:autoParam (x≠"__name__") zzd._auto_1) (hd:autoParam ((x==("__debug__":Str))=false) zzd._auto_1):Kx (Ky X.prog X.w) X.A (vu (.Name x pos) X.env) Q E s:=by
 let#[g,f,e]:=I.mod.blt;exact WS I.ok.kind b (Calls.loadGlobal_builtin (by rw[I.ok.glob];exact I.mod.glob.keeps I.bk) a (by rw[I.ok.blt];exact f.keeps I.bk) ((e x z).trans hv) h) hd
theorem Ja{x:Str}{v:V}{u:j0}{pos:Pos}(z:Gl X x)(y:X.mg x=jy u)(r:aA v u)(hd:autoParam ((x==("__debug__":Str))=false) zzd._auto_1):PE X (.Name x pos) (tC v) :=
 λ_ _ _ H _ I h=>gJ I z y #[v,H,I,r,h] hd
theorem Da{x:Str}{v:V}{u:j0}{pos:Pos}(a:Gl X x)(z:X.mg x=jz)(hv:vb x=jy u)(r:aA v u)(y:autoParam (x≠"__name__") zzd._auto_1)(hd:autoParam ((x==("__debug__":Str))=false) zzd._auto_1):PE X (.Name x pos) (tC v) :=
 λ_ _ _ H _ I h=>AF I a z hv #[v,H,I,r,h] y hd
variable{a b:Expr}{ta z:TE}{pos:Pos}
variable{k g:TT}{rest:List Expr}
noncomputable def Er(t u:TT):TT:=λh H Q=>t h H λc x=>if c=jb then u h x Q else Q js x
noncomputable def Yw(t u:TT):TT:=λh H Q=>t h H λc x=>if c=jb then Q jb x else u h x Q
noncomputable def Lr(t:TT):TT:=λh H Q=>t h H λc x=>Q (!c) x
theorem N9(u:PT X a k):PW X (.BoolOp .And [a] pos) k:=by
 intro f x s y H Q I h;refine isTrue_and (EA (u x s y H Q I h) λc i e=>?_);cases c with|true=>exact isTrue_and_nil e|false=>exact e
theorem vi(u:PT X a k):PW X (.BoolOp .Or [a] pos) k:=by
 intro f x s y H Q I h;refine isTrue_or (EA (u x s y H Q I h) λc i e=>?_);cases c with|false=>exact isTrue_or_nil e|true=>exact e
theorem M3(m:PT X a k)(l:PW X (.BoolOp .And (b::rest) pos) g):PW X (.BoolOp .And (a::b::rest) pos) (Er k g):=by
 intro i x s y H Q I h;refine isTrue_and (EA (m x s y H _ I h) λc j #[f,e,u]=>?_);cases c with|true=>exact l i x j y f Q e u|false=>exact#[f,e,u]
theorem Td(m:PT X a k)(l:PW X (.BoolOp .Or (b::rest) pos) g):PW X (.BoolOp .Or (a::b::rest) pos) (Yw k g):=by
 intro i x s y H Q I h;refine isTrue_or (EA (m x s y H _ I h) λc j #[f,e,u]=>?_);cases c with|true=>exact#[f,e,u]|false=>exact l i x j y f Q e u
theorem xi(u:PT X a k):PT X (.UnaryOp .Not a pos) (Lr k):=by intro x s y H Q I h;exact isTrue_not (u x s y H (λc e=>Q (!c) e) I h)
noncomputable def Um(ta z:TE):TE:=λh H Q=>ta h H λx y=>∃c,x=.bl c/\if c=jb then z h y Q else Q (.bl js) y
noncomputable def Hr(ta z:TE):TE:=λh H Q=>ta h H λx y=>∃c,x=.bl c/\if c=jb then Q (.bl jb) y else z h y Q
theorem V4{op}{t:TE}(h:PE X a t):PE X (.BoolOp op [a] pos) t:=λx s y H Q I u=>BoolOp_one (h x s y H Q I u)
theorem N4(n:PE X a ta)(m:PE X (.BoolOp .And (b::rest) pos) z):PE X (.BoolOp .And (a::b::rest) pos) (Um ta z):=by
 intro y s e H Q I h;refine BoolOp_and (EA (n y s e H _ I h) λv j #[x,i,f,l,u]=>?_);let#[c,rfl,u]:=u;cases l;refine qa ?_;cases c with|true=>exact m y j e i Q f u|false=>exact#[.bl js,i,f,rfl,u]
theorem Ad(n:PE X a ta)(m:PE X (.BoolOp .Or (b::rest) pos) z):PE X (.BoolOp .Or (a::b::rest) pos) (Hr ta z):=by
 intro y s e H Q I h;refine BoolOp_or (EA (n y s e H _ I h) λv j #[x,i,f,l,u]=>?_);let#[c,rfl,u]:=u;cases l;refine qa ?_;cases c with|false=>exact m y j e i Q f u|true=>exact#[.bl jb,i,f,rfl,u]
noncomputable def Zw(t:TT)(ta z:TE):TE:=λh H Q=>t h H λc x=>if c=jb then ta h x Q else z h x Q
theorem C4{c:Expr}(hc:PT X c k)(l:PE X a ta)(j:PE X b z):PE X (.IfExp c a b pos) (Zw k ta z):=by
 intro x s y H Q I h;refine wpAny_IfExp (EA (hc x s y H _ I h) λd u #[i,f,e]=>?_);cases d with|true=>exact l x u y i Q f e|false=>exact j x u y i Q f e
end
def YD(K:QC)(H:Hp)(a:j2)(xs:LV):Prop :=
 Rd H a (.lst xs) ∨
  ∃(o:Obj) (h:Array j0) (n:Nat),K.lookup a=jy o/\o.cls=.type "list"/\o.dict=jz/\o.data=.seq h n/\h.size<=j1/\iA xs h.toList
def oE(K:QC)(H:Hp)(a:j2)(xs:LV):Prop :=
 Rd H a (.tup xs) ∨
  ∃(o:Obj) (h:Array j0) (n:Nat),K.lookup a=jy o/\o.cls=.type "tuple"/\o.data=.seq h n/\h.size<=j1/\iA xs h.toList
noncomputable def fL:j0->Option V
 | .none=>jy .non|.bool b=>jy (.bl b)|.int i _=>jy (.int i)|.str x _=>jy (.str x)|.bytes b _=>jy (.byt b)|.float b _=>jy (.flt b)|.ref a=>jy (.ref a)|.type n=>jy (.ty n)|_=>jz
theorem aA.abs{x:V}{u:j0}(r:aA x u):fL u=jy x:=by
 cases x with|non=>cases r;rfl|bl _=>cases r;rfl|int _=>let#[t,rfl]:=r;rfl|str _=>let#[t,rfl]:=r;rfl|byt _=>let#[t,rfl]:=r;rfl|flt _=>let#[t,rfl]:=r;rfl|ref _=>cases r;rfl|ty _=>cases r;rfl
theorem aA.inj{x y:V}{u:j0}(r:aA x u)(q:aA y u):x=y:=QY (r.abs.symm.trans q.abs)
theorem iA.inj:∀{xs ys:LV}{us:LW},iA xs us->iA ys us->xs=ys
 |_,_,_,.nil,.nil=>rfl|_,_,_,.cons r t,.cons r' t'=>by rw[r.inj r',iA.inj t t']
section
variable{X:Cx}{x:FB}{σ:St}{H:Hp}{s:j3}{a:j2}{xs ys:LV}
theorem YD.of{K:QC}(h:H a=jy (.lst xs)):YD K H a xs:=.inl (.inl h)
theorem oE.of{K:QC}(h:H a=jy (.tup xs)):oE K H a xs:=.inl (.inl h)
theorem Inv.list(I:Inv X x σ H s)(h:YD X.K H a xs):∃its:LW,iA xs its/\PlainL s.1 a its.toArray/\xs.length<=sizeLine:=by
 rcases h with h|⟨o,its,n,hk,hc,hd,y,u,r⟩
 let#[z,its,n,r,e]:=h.ok I.hok;exact#[its,r,#[_,n,e,rfl,rfl,rfl],z];refine#[its.toList,r,#[o,n,I.kIn a o hk,hc,hd,by simpa using y],?_];have e:=r.length;simp only[Q4]at e;omega
theorem Inv.tuple(I:Inv X x σ H s)(h:oE X.K H a xs):∃its:LW,iA xs its/\IsTup s.1 a its.toArray/\xs.length<=sizeLine:=by
 rcases h with h|⟨o,its,n,hk,hc,y,u,r⟩
 let#[z,its,r,p]:=h.ok I.hok;exact#[its,r,p,z];refine#[its.toList,r,#[o,I.kIn a o hk,hc,n,by simpa using y],?_];have e:=r.length;simp only[Q4]at e;omega
theorem Inv.list_inj(I:Inv X x σ H s)(h:YD X.K H a xs)(h':YD X.K H a ys):xs=ys:=by
 let#[z,r,#[o,n,e,_,_,d],_]:=I.list h;let#[y,f,#[g,i,u,_,_,b],_]:=I.list h';rw[e]at u;cases u;rw[d]at b;injection b with d1 _;have:z=y:=by simpa using e6 QCo d1
 subst this;exact r.inj f
theorem Inv.tuple_inj(I:Inv X x σ H s)(h:oE X.K H a xs)(h':oE X.K H a ys):xs=ys:=by
 let#[z,r,#[o,e,_,n,d],_]:=I.tuple h;let#[y,f,#[g,u,_,i,b],_]:=I.tuple h';rw[e]at u;cases u;rw[d]at b;injection b with d1 _;have:z=y:=by simpa using e6 QCo d1
 subst this;exact r.inj f
end
noncomputable abbrev Cx.wish(X:Cx)(E:NB):Cx:={ X with xe:=E }
noncomputable abbrev Cx.nox(X:Cx):Cx:=X.wish λ_ _=>False
theorem Cx.Ok.wish{X:Cx}(ok:X.Ok)(E:NB):(X.wish E).Ok :=
 #[ok.mod,ok.kind,ok.glob,ok.blt,ok.above,ok.inj,ok.has,ok.cab,ok.hd,ok.frames,ok.stk,ok.exf,ok.bs,ok.bsz,ok.noex,ok.exfs,ok.funs,ok.frf]
theorem Cx.Ok.unwish{X:Cx}{E:NB}(ok:(X.wish E).Ok):X.Ok :=
 #[ok.mod,ok.kind,ok.glob,ok.blt,ok.above,ok.inj,ok.has,ok.cab,ok.hd,ok.frames,ok.stk,ok.exf,ok.bs,ok.bsz,ok.noex,ok.exfs,ok.funs,ok.frf]
section
variable{X:Cx}{x:FB}{σ:St}{H:Hp}{s:j3}{E:NB}
theorem Inv.wish(I:Inv X x σ H s)(E:NB):Inv (X.wish E) x σ H s:=#[I.ok.wish E,I.os,I.bare,I.base,I.loc,I.cell,I.free,I.freeC,I.pin,I.hok,I.len]
theorem Inv.unwish(I:Inv (X.wish E) x σ H s):Inv X x σ H s:=#[I.ok.unwish,I.os,I.bare,I.base,I.loc,I.cell,I.free,I.freeC,I.pin,I.hok,I.len]
theorem SP.unwish{D:Ends}{f:Flow}{s':j3}(h:SP (X.wish E) x D f s'):SP X x D f s':=by
 cases f with|next=>let#[y,z,I,q]:=h;exact#[y,z,I.unwish,q]|brk=>let#[y,z,I,q]:=h;exact#[y,z,I.unwish,q]|cont=>let#[y,z,I,q]:=h;exact#[y,z,I.unwish,q]|ret u=>let#[v,y,z,I,r,q]:=h;exact#[v,y,z,I.unwish,r,q]
theorem OZ.nox{st:List vl}{t:TS}(h:OZ X.nox st t):OZ X st t:=λx s σ H D I y =>
 qL (h x s σ H D (I.wish _) y) (λ_ _ q=>q.unwish) λ_ _ z=>QT z
end
section
variable{X:Cx}{st:vl}{rest:List vl}{t u:TS}{e:Expr}{te:TE}{pos:Pos}
noncomputable def Zm:TS:=λD h H=>D.nx h H
noncomputable def Cr(t u:TS):TS:=λD h H=>t { D with nx:=u D } h H
theorem UW:OZ X [] Zm:=λ_ _ x H _ I h=>WF #[x,H,I,h]
theorem JG(g:PS X st t)(b:OZ X rest u):OZ X (st::rest) (Cr t u):=by
 intro x s z H D I h;refine QAB (EA (g x s z H { D with nx:=u D } I h) λf a q=>?_);cases f with|next=>let#[y,j,i,q]:=q;exact b x a y j D i q|ret v=>exact q|brk=>exact q|cont=>exact q
theorem P9(z:PS X st t):OZ X [st] t:=by
 intro x s y H D I h;refine QAB (EA (z x s y H D I h) λf a q=>?_);cases f with|next=>exact WF q|ret v=>exact q|brk=>exact q|cont=>exact q
theorem Inv.quiet{h:FB}{σ:St}{H:Hp}{s:j3}(I:Inv X h σ H s):interactive X.env=false:=by simp[interactive,I.ok.kind]
noncomputable def Km(te:TE):TS:=λD h H=>te h H λ_ x=>D.nx h x
theorem OP(f:PE X e te)(b:autoParam (gx e jz pos.line X.env=ez false) zzr._auto_1):PS X (.Expr e pos) (Km te):=by intro y s z H D I h;exact d3 (EA (f y s z H _ I h) λv j #[x,i,g,l,a]=>#[z,i,g,a]) I.quiet b
noncomputable def Gr(te:TE):TS:=λD h H=>te h H D.rt
theorem ci(f:PE X e te):PS X (.Return (jy e) pos) (Gr te):=by intro y s z H D I h;exact wpAny_Return_some (EA (f y s z H _ I h) λv j #[x,i,g,a,b]=>#[x,z,i,g,a,b])
noncomputable def Pr(c:TT)(t u:TS):TS:=λD h H=>c h H λb x=>if b=jb then t D h x else u D h x
theorem Gn{c:Expr}{a b:List vl}{tc:TT}(hc:PT X c tc)(l:OZ X a t)(j:OZ X b u):PS X (.If c a b pos) (Pr tc t u):=by
 intro x s y H D I h;refine wpAny_If (EA (hc x s y H _ I h) λd z #[i,g,f]=>?_);cases d with|true=>exact l x z y i D g f|false=>exact j x z y i D g f
end
noncomputable abbrev TG:=V->St->Hp->(St->Hp->Prop)->Prop
noncomputable abbrev gu:=LV->St->Hp->(St->Hp->Prop)->Prop
def PG(X:Cx)(h:Expr)(t:TG):Prop :=
 ∀(x:FB) (s:j3) (z:St) (H:Hp) (v:V) (u:j0) (Q:St->Hp->Prop),Inv X x z H s->aA v u->t v z H Q ->
  Kx (Ky X.prog X.w) X.A (Gz h X.env u) (λ_ b=>∃y a,Inv X x y a b/\Q y a) X.xe s
def uv(X:Cx)(ts:List Expr)(t:gu):Prop :=
 ∀(h:FB) (s:j3) (y:St) (H:Hp) (vs:LV) (z:LW) (Q:St->Hp->Prop),Inv X h y H s->iA vs z->t vs y H Q ->
  Kx (Ky X.prog X.w) X.A (Fy ((Xx ts X.env).map (·.2)) z) (λ_ a=>∃x u,Inv X h x u a/\Q x u) X.xe s
noncomputable abbrev Jl:=V->V->V->Hp->(Hp->Prop)->Prop
def Kq(X:Cx)(t:Jl):Prop :=
 ∀(h:FB) (s:j3) (x:St) (H:Hp) (o i v:V) (y z u:j0) (Q:Hp->Prop),Inv X h x H s->aA o y->aA i z->aA v u->t o i v H Q ->
  Kx (Ky X.prog X.w) X.A (c6 y z u) (λ_ b=>∃a,Inv X h x a b/\Q a) X.xe s
section
variable{X:Cx}{pos:Pos}
noncomputable def mX(i:Nat):TG:=λv h H Q=>Q (h.set i (jy v)) H
theorem DW{i:Nat}{x:Str}(e:X.N.Nodup)(a:X.N[i]?=jy x)(z:Dq X.env.scope x)(b:X.fn x=jb∨X.env.scope.names.lookup x=jy .local):PG X (.Name x pos) (mX i):=by intro y s g H v u Q I r h;exact QCR (LL I e a z r (λj f=>#[_,H,f,h]) b)
noncomputable def Ct(K:QC)(n:Nat)(t:gu):TG:=λv x H Q=>∃a h,v=.ref a/\oE K H a h/\h.length=n/\t h x H Q
theorem Ki{y:List Expr}{k:Nat}{t:gu}{n:Nat}(hc:X.calm=jb)(h:uv X y t)
  (Y:autoParam ((Xx y X.env).length=n) zzr._auto_1) (f:autoParam ((Xx y X.env).findIdx? (·.1)=none) zzr._auto_1):PG X (.Tuple y k pos) (Ct X.K n t):=by
 intro x s g H v u Q I r z;let#[a,j,W,q,hl,z]:=z;subst W;cases r;let#[l,i,p,B]:=I.tuple q;refine assign_Tuple_tuple (I.ok.hd hc) p (by simp[Y,<- hl,i.length]) f λZ m=>?_;have A:Inv X x g H { s with heap:=Z }:=I.kept (t':=s.toks) λb o e=>m b o (Qk (QO e)) e;exact h x _ g H j _ Q A (by simpa using i) z
noncomputable def Dt(to x:TE)(t:Jl):TG:=λv h H Q=>to h H λo u=>x h u λi z=>t o i v z λy=>Q h y
theorem Vi{o i:Expr}{to f:TE}{t:Jl}(Z:PE X o to)(W:PE X i f)(Y:Kq X t)
  (K:autoParam (∀v,Gz (.Subscript o i pos) X.env v=(do
   let a <- gV [v] (vu o X.env)
   let b <- gV [v,a] (vu i X.env)
   Ex pos
   gV [v,a,b] (c6 a b v)
   release [v,a,b] [])) zzi._auto_1):PG X (.Subscript o i pos) (Dt to f t):=by
 intro z s e H v u Q I r h;rw[K];refine QE (qX (EA (Z z s e H _ I h) λa j #[x,G,C,m,q]=>?_));refine QE (qX (EA (W z j e G _ C q) λb g #[y,F,B,l,p]=>?_));refine QE (WQ (QE (qX (EA (Y z g e F x y v a b u _ B m l r p) λ_ J #[E,A,n]=>?_))));exact wpAny_release #[e,E,A,n]
noncomputable def Kh(te:TE)(g:TG):TS:=λD h H=>te h H λx y=>g x h y D.nx
theorem A3{z e:Expr}{te:TE}{g:TG}(m:PE X e te)(l:PG X z g)(j:autoParam (swapsWithSole [z] e pos.line X.env=ez false) zzr._auto_1)(i:autoParam (z4 [z] e X.env=ez none) zzr._auto_1)
  (n:autoParam ((Xx [z] X.env).map (·.2)=[Gz z X.env]) zzr._auto_1):PS X (.Assign [z] e pos) (Kh te g):=by
 intro y s u H D I h;refine wpAny_Assign_stores (EA (m y s u H _ I h) λv a #[x,p,o,b,f]=>?_) j i;rw[n];exact EA (l y a u p x v _ o b f) λ_ r q=>q
theorem R3{i:Nat}{x:Str}{e:Expr}{te:TE}{pos':Pos}(n:X.N.Nodup)(j:X.N[i]?=jy x)(f:Dq X.env.scope x)(m:PE X e te)(g:autoParam (gx e (jy (.Name x pos')) pos.line X.env=ez false) zzr._auto_1)(l:X.fn x=jb∨X.env.scope.names.lookup x=jy .local) :
  PS X (.Assign [.Name x pos'] e pos) (Kh te (mX i)):=by
 intro z s u H D I h;refine wpAny_Assign_Name (EA (m z s u H _ I h) λv Y #[y,q,p,a,b]=>?_) g;exact LL p n j f a (λr o=>#[_,q,o,b]) l
end
structure It where
 go:Nat->Hp->Prop
 yld:Nat->Hp->V->Hp->Prop
 stop:Nat->Hp->Prop
def iK(X:Cx)(h:FB)(H:Hp)(b:j2):Prop :=
 H b=jz/\b≠X.env.locals/\b∉X.fs/\(b∈X.ex∨X.s₀.1.1.size<=b)/\(∀x c,X.env.cells.lookup x=jy c->c≠b)/\∀p∈X.pn++h,p.1≠b
theorem Inv.fpOk{X:Cx}{h:FB}{σ:St}{H H':Hp}{s:j3}{b:j2}(I:Inv X h σ H s)(y:s.1.1.size<=b)(a:H' b=jz):iK X h H' b:=by refine#[a,Wi (Qh I.lt y),I.nofs y,.inr (qZ I.sz y),λx c e z=>?_,λp u z=>?_];let#[v,q]:=I.cell x c e;exact eN (Qh q.lt (by rw[z];exact y)) (wA _);exact eN (Qh (QO (I.pin p u).1) (by rw[z];exact y)) (wA _)
structure Turn(P:Kz)(w:kl)(K:QC)(tg:Expr)(J:It)(fp:List j2)(it:j2)(tn:Nat->kt->Prop):Prop where
 mem:it∈fp
 obj:∀i h,tn i h->∀b∈fp,∃o,h.get? b=jy o/\∀v,o.data≠.cell v
 keep:∀i h h',tn i h->(∀b∈fp,∀o,h.get? b=jy o->h'.get? b=jy o)->tn i h'
 item:∀(X:Cx),X.prog=P->X.w=w->X.K=K->X.calm=jb->∀(i:Nat) (pins:FB) (s:j3) (σ:St) (H:Hp) (E:NB),Inv X pins σ H s->(∀b∈fp,iK X pins H b)->tn i s.1->J.go i H ->
  Kx (Ky P w) X.A (Dy (.ref it)) (λr s1=>∃u,r=jy u /\
   Kx (Ky P w) X.A (Zz tg (.ref it) u) (λ_ s2=>∃x H',Inv X pins σ H' s2/\aA x u/\J.yld i H x H'/\tn (i+1) s2.1/\∀b∈fp,H' b=jz) E s1) E s
 done:∀(X:Cx),X.prog=P->X.w=w->X.K=K->X.calm=jb->∀(i:Nat) (pins:FB) (s:j3) (σ:St) (H:Hp) (E:NB),Inv X pins σ H s->(∀b∈fp,iK X pins H b)->tn i s.1->J.stop i H ->
  Kx (Ky P w) X.A (Dy (.ref it)) (λr s1=>r=jz/\Inv X pins σ H s1) E s
 self:∀(A:Vy) (i:Nat) (s:j3) (Q:NB) (E:NB),tn i s.1->Q (.ref it) s->Kx (Ky P w) A (Ey (.ref it)) Q E s
noncomputable abbrev TI:=St->Hp->(It->Hp->Prop)->Prop
def su(X:Cx)(h:FB)(σ:St)(a:Expr)(R:It->Hp->Prop)(x:j0)(z:j3):Prop :=
 ∃(it:j2) (u:List j2) (tn:Nat->kt->Prop) (J:It) (y:Hp),x=.ref it/\Inv X h σ y z/\Turn X.prog X.w X.K a J u it tn/\tn 0 z.1/\(∀b∈u,iK X h y b)/\R J y
def PI(X:Cx)(u x:Expr)(z:TI):Prop :=
 ∀(h:FB) (s:j3) (y:St) (H:Hp) (R:It->Hp->Prop),Inv X h y H s->z y H R ->
  Kx (Ky X.prog X.w) X.A (vu x X.env) (λv a=>Kx (Ky X.prog X.w) X.A (Ey v) (su X h y u R) X.xe a) X.xe s
theorem lX{M:gm}{A:Vy}{E:NB}{s:j3}{y:Expr}{it:j2}{u:j0}{o:Obj}{n:String}{vs:Array j0}{Q:Unit->j3->Prop}(z:s.1.get? it=jy o)(hc:o.cls=.type n)(hd:o.data=.fields vs)
    (a:["enumerate","zip","dict_itemiterator","dict_reverseitemiterator","odict_iterator","itertools.zip_longest","itertools.pairwise"].contains n=js) (x:Q Unit.unit s):Kx M A (Zz y (.ref it) u) Q E s:=by
  unfold Zz;cases y<;>first
    |exact QS x
    | (cases u<;>first
        |exact QS x
        | (refine QE (QDb z ?_)
           rw[hc,hd];show Kx M A (if(["enumerate","zip","dict_itemiterator","dict_reverseitemiterator","odict_iterator","itertools.zip_longest","itertools.pairwise"].contains n&&vs[0]?==jy (Xy _))=jb then _ else _) Q E s;rw[eH (by intro h;rw[a,QBg]at h;cases h)];exact QS x))
noncomputable def Mv(K:QC)(a:j2):It :=
 #[λi H=>∃h x,YD K H a h/\h[i]?=jy x,λi H x y=>y=H/\∀h,YD K H a h->h[i]?=jy x,λi H=>∃h,YD K H a h/\h.length<=i]
noncomputable def Lv(K:QC)(a:j2):It :=
 #[λi H=>∃h x,oE K H a h/\h[i]?=jy x,λi H x y=>y=H/\∀h,oE K H a h->h[i]?=jy x,λi H=>∃h,oE K H a h/\h.length<=i]
noncomputable def Yu(h:Int)(n:Nat):It:=#[λi _=>i<n,λi H x y=>y=H/\x=.int (h+i),λi _=>n<=i]
theorem kY{P:Kz}{w:kl}{K:QC}{N:Expr}(a it:j2):Turn P w K N (Mv K a) [it] it (λi h=>h.IsListIter it a i) where
 mem:=by simp
 obj:=λi h st b f=>by
  have e:b=it:=by simpa using f
  subst e;let#[o,e,c,d]:=st;exact#[o,e,λv z=>by rw[d]at z;cases z]
 keep:=λi h m st k=>st.at λo e=>k it (by simp) o e
 item:=by intro X W Y A hc i y s L H E I l st Z;subst W Y A;let#[M,x,j,r]:=Z;let#[q,n,p,R]:=I.list j;let#[u,hu,Q]:=n.get r;let#[J,G,f2,F,C,B]:=l it (by simp);refine Wu st p.isList (x:=u) (by simpa using hu) λm g O=>?_;have I1:Inv X y L H { s with heap:=m }:=I.turned (t':=s.toks) (λb o f e=>(O.2 b f).trans e) J G F C B;let#[o,e,c,d]:=id g;exact#[u,rfl,lX (s:={ s with heap:=m }) e c d (by decide) #[x,H,I1,Q,#[rfl,λys S=>by rw[I.list_inj S j];exact r],g,λb f=>(l b f).1]]
 done:=by intro X W Y A hc i y s L H E I l st Z;subst W Y A;let#[M,j,r]:=Z;let#[q,n,p,R]:=I.list j;let#[J,G,f2,F,C,B]:=l it (by simp);have hl:=n.length;exact QBX (I.ok.hd hc) st p.isList (by simp;omega) λm eb=>#[rfl,I.turned (t':=s.toks) (λb o f e=>eb b o f e) J G F C B]
 self:=λ_ _ _ _ _ st h=>wpAny_pyIter_listiter st h
theorem kU{P:Kz}{w:kl}{K:QC}{N:Expr}(a it:j2):Turn P w K N (Lv K a) [it] it (λi h=>h.IsTupleIter it a i) where
 mem:=by simp
 obj:=λi h st b g=>by
  have e:b=it:=by simpa using g
  subst e;let#[o,e,c,d]:=st;exact#[o,e,λv z=>by rw[d]at z;cases z]
 keep:=λi h n st k=>st.at λo e=>k it (by simp) o e
 item:=by intro X W Y A hc i y s L H E I m st Z;subst W Y A;let#[M,x,l,r]:=Z;let#[f,q,p,R]:=I.tuple l;let#[u,hu,Q]:=q.get r;let#[J,G,f2,F,C,B]:=m it (by simp);refine wpAny_pyNext_tuple_item st (show s.1.IsTuple a f.toArray from p) (x:=u) (by simpa using hu) λn j O=>?_;have I1:Inv X y L H { s with heap:=n }:=I.turned (t':=s.toks) (λb o g e=>(O.2 b g).trans e) J G F C B;let#[o,e,c,d]:=id j;exact#[u,rfl,lX (s:={ s with heap:=n }) e c d (by decide) #[x,H,I1,Q,#[rfl,λys S=>by rw[I.tuple_inj S l];exact r],j,λb g=>(m b g).1]]
 done:=by intro X W Y A hc i y s L H E I m st Z;subst W Y A;let#[M,l,r]:=Z;let#[f,q,p,R]:=I.tuple l;let#[J,G,f2,F,C,B]:=m it (by simp);have hl:=q.length;exact wpAny_pyNext_tuple_end (I.ok.hd hc) st (show s.1.IsTuple a f.toArray from p) (by simp;omega) λn eb=>#[rfl,I.turned (t':=s.toks) (λb o g e=>eb b o g e) J G F C B]
 self:=λ_ _ _ _ _ st h=>wpAny_pyIter_tupleiter st h
theorem vU{P:Kz}{w:kl}{K:QC}{G:Expr}(it:j2)(a:Int)(n:Nat):Turn P w K G (Yu a n) [it] it (λi h=>IsRangeIter h it (a+(i:Nat) * 1) ((n:Int) - (i:Nat)) 1) where
 mem:=by simp
 obj:=λi h st b y=>by
  have e:b=it:=by simpa using y
  subst e;exact#[_,st,λv z=>by have F:Data.fields _=Data.cell v:=z;cases F]
 keep:=λi h g st k=>k it (by simp) _ st
 item:=by intro X m j p hc i x s B H E I f st l;subst m j p;let#[A,Z,L,Y,r,q]:=f it (by simp);have W:=Walks.range (prog:=X.prog) (w:=X.w) (I.ok.hd hc) it a 1 n;refine W.item i s _ _ l st λv g C hv u J=>?_;let#[t,rfl]:=hv;have N:Inv X x B H { s with heap:=g,toks:=C }:=I.turned (λb o y e=>J b o (by simpa using y) e) A Z Y r q;refine#[_,rfl,lX (s:={ s with heap:=g,toks:=C }) (n:="range_iterator") u rfl rfl (by decide) #[.int (a+i),H,N,#[t,?_],#[rfl,rfl],u,λb y=>(f b y).1]];rw[Int.mul_one]
 done:=by intro X m j p hc i x s B H E I f st l;subst m j p;let#[A,Z,L,Y,r,q]:=f it (by simp);exact wpAny_pyNext_range_end (I.ok.hd hc) st (by have:n<=i:=l;omega) λg M=>#[rfl,I.turned (t':=s.toks) (λb o y e=>M b o y e) A Z Y r q]
 self:=λ_ _ _ _ _ st h=>wpAny_pyIter_rangeiter st h
section
variable{X:Cx}{y:Expr}
theorem U3{z:FB}{σ:St}{H:Hp}{s:j3}{R:It->Hp->Prop}{E:NB}{h x:Int}{t u v:Tok}{a:Nat}(I:Inv X z σ H s)(m:-(2 ^ 62)<=h)(l:h<2 ^ 62)(j:-(2 ^ 62)<=x)(i:x<2 ^ 62)
  (q:R (Yu h (x - h).toNat) H):Kx (Ky X.prog X.w) X.A (Ey (.ref s.1.1.size)) (su X z σ y R) E { s with heap:=s.1.push { cls:=.type "range",data:=.fields (List.toArray [.int h t,.int x u,.int 1 v]) },toks:=a }:=by
 refine wpAny_pyIter_range (IsRange.new ..) (small_one m l j i) ?_;have f:Inv X z σ H { s with heap:=s.1.push { cls:=.type "range",data:=.fields (List.toArray [.int h t,.int x u,.int 1 v]) },toks:=a }:=I.kept λb o e=>QF _ e;refine#[(s.1.push { cls:=.type "range",data:=.fields (List.toArray [.int h t,.int x u,.int 1 v]) }).1.size,[(s.1.push { cls:=.type "range",data:=.fields (List.toArray [.int h t,.int x u,.int 1 v]) }).1.size],_,_,H,rfl,
  f.kept (t':=a) λb o e=>QF _ e,vU _ h (x - h).toNat,?_,λb g=>?_,q]
 have p:h+((0:Nat):Int) * 1=h:=by simp
 have n:(((x - h).toNat:Nat):Int) - ((0:Nat):Int)=Builtin.Range.rangeSize h x 1:=by rw[rangeSize_one];split<;>omega
 show IsRangeIter _ _ (h+((0:Nat):Int) * 1) ((((x - h).toNat:Nat):Int) - ((0:Nat):Int)) 1;rw[p,n];exact QV _ rfl;have e:b=(s.1.push { cls:=.type "range",data:=.fields (List.toArray [.int h t,.int x u,.int 1 v]) }).1.size:=by simpa using g
 subst e;exact f.fpOk (QU _) (f.hok.fresh (QU _))
noncomputable def Sr(e:TI)(g:TG)(f:TS):TS:=λD h H=>e h H λJ l=>∃W:Nat->Nat->St->Hp->Prop,(∃m,W 0 m h l)/\∀i m h H,W i m h H ->
 (J.stop i H/\D.nx h H)∨(J.go i H/\∃N:St->Hp->Prop,(∀z u,N z u->∃b,b < m/\W (i+1) b z u)/\∀x u,J.yld i H x u->g x h u λa j=>f { D with nx:=N,ct:=N,bk:=D.nx } a j)
noncomputable def dM(x:List j2)(h:kt):FB:=x.filterMap λb=>(h.get? b).map λo=>(b,o)
theorem RF{x:List j2}{h:kt}{b:j2}{o:Obj}(z:b∈x)(e:h.get? b=jy o):(b,o)∈dM x h:=wf.mpr #[b,z,by rw[e];rfl]
theorem CY{x:List j2}{h:kt}{p:j2×Obj}(z:p∈dM x h):p.1∈x/\h.get? p.1=jy p.2:=by
 let#[b,u,e]:=wf.mp z;cases q:h.get? b with|none=>rw[q]at e;cases e|some o=>rw[q]at e;have a:(b,o)=p:=QY e;subst a;exact#[u,q]
theorem Inv.pinned{h:FB}{σ:St}{H:Hp}{s:j3}{x:List j2}(I:Inv X h σ H s)(i:∀b∈x,iK X h H b)(g:∀b∈x,∃o,s.1.get? b=jy o/\∀v,o.data≠.cell v):Inv X (h++dM x s.1) σ H s :=
 I.pins_of λp f=>(Qy.mp f).elim (λz=>I.pin p (Qc _ z)) λz=>by let#[u,e]:=CY z;let#[m,l,j,_]:=i p.1 u;let#[o,a,d]:=g p.1 u;rw[e]at a;cases a;exact#[e,m,l,j,d]
theorem Inv.unpinned{h pl:FB}{σ:St}{H:Hp}{s:j3}(I:Inv X (h++pl) σ H s):Inv X h σ H s:=I.pins_of λp x=>I.pin p (Qc _ (qQ _ x))
theorem li{q:Expr}{body:List vl}{wi:TI}{g:TG}{tb:TS}{pos:Pos}(P:cz (Ky X.prog X.w) X.A X.env X.xe)(hc:X.calm=jb)(hi:PI X y q wi)(hg:PG X y g)(Y:OZ X body tb)
  (hs:autoParam (∀x,Yz q X.env x=ez x) zzi._auto_1):PS X (.For y q body [] pos) (Sr wi g tb):=by
 intro a s σ H D I h;refine wpAny_For (EA (hi a s σ H _ I h) λv s1 h1=>EA h1 λitv s2 h2=>?_) hs;let#[it,R,tn,J,H2,e,I2,T,st2,f2,W,#[m0,w0],G]:=h2;subst e;have p:∀{C:Hp},(∀b∈R,C b=jz)->∀b∈R,iK X a C b:=λhn b Y=>#[hn b Y,(f2 b Y).2]
 refine codeAny_forLoop_any (λn s'=>∃i l C,Inv X a l C s'/\tn i s'.1/\(∀b∈R,C b=jz)/\W i n l C) ?_ m0 #[0,σ,H2,I2,st2,λb Y=>(f2 b Y).1,w0];rintro n s3 ⟨i,j,S,I3,M,Q,w3⟩;rcases G i n j S w3 with⟨L,qn⟩| ⟨go,N,hN,step⟩
 refine Wl P (EA (T.done X rfl rfl rfl hc i a s3 j S X.xe I3 (p Q) M L) λr s4 #[hr,I4]=>?_);subst hr;exact WF #[j,S,I4,qn];refine Wl P (EA (T.item X rfl rfl rfl hc i a s3 j S X.xe I3 (p Q) M go) λr s4 #[u,hr,h4]=>?_);subst hr;refine Wl P (EA h4 λ_ s5 #[x,H5,I5,r5,y5,F,fr5]=>?_);have I5':=I5.pinned (p fr5) (T.obj _ _ F);refine Wl P (EA (hg _ s5 j H5 x u _ I5' r5 (step x H5 y5)) λ_ s6 #[σ6,H6,I6,q6]=>?_);refine Wl P (EA (Y _ s6 σ6 H6 _ I6 q6) λf s7 E=>?_);have Z:∀{z:St}{B:Hp},Inv X (a++dM R s5.1) z B s7->N z B->∃m,m<n/\∃i l C,Inv X a l C s7/\tn i s7.1/\(∀b∈R,C b=jz)/\W i m l C:=λ{z B} K O=>by let#[m',hm,w7]:=hN z B O;refine#[m',hm,i+1,z,B,K.unpinned,T.keep _ _ _ F λb Y o e=>(K.pin (b,o) (Qc _ (Qc _ (RF Y e)))).1,λb Y=>?_,w7];let#[o,e,d]:=T.obj _ _ F b Y;exact(K.pin (b,o) (Qc _ (Qc _ (RF Y e)))).2.1
 cases f with|next=>let#[z,B,K,O]:=E;exact Z K O|cont=>let#[z,B,K,O]:=E;exact Z K O|brk=>let#[z,B,K,E]:=E;exact#[z,B,K.unpinned,E]|ret v=>let#[x7,z,B,K,r7,E]:=E;exact#[x7,z,B,K.unpinned,r7,E]
end
noncomputable abbrev R2:=V->V->Hp->VK->Prop
def pE(X:Cx)(f:j0->j0->Sem j0)(r:R2):Prop :=
 ∀(h:FB) (s:j3) (z:St) (H:Hp) (x y:V) (v u:j0) (Q:VK),Inv X h z H s->aA x v->aA y u->r x y H Q ->
  Kx (Ky X.prog X.w) X.A (f v u) (EP X h z Q) X.xe s
def YC(X:Cx)(f:j0)(r:LV->Hp->VK->Prop):Prop :=
 ∀(h:FB) (s:j3) (x:St) (H:Hp) (y:LV) (z:LW) (Q:VK),Inv X h x H s->iA y z->r y H Q ->
  Kx (Ky X.prog X.w) X.A (gy f z) (EP X h x Q) X.xe s
def du(X:Cx)(r:V->Hp->(Bool->Hp->Prop)->Prop):Prop :=
 ∀(h:FB) (s:j3) (y:St) (H:Hp) (x:V) (v:j0) (Q:Bool->Hp->Prop),Inv X h y H s->aA x v->r x H Q ->
  Kx (Ky X.prog X.w) X.A (truthy v) (TP X h y Q) X.xe s
noncomputable def Ym(r:R2)(ta z:TE):TE:=λh H Q=>ta h H λx a=>z h a λy u=>r x y u Q
noncomputable def rI(C:Int->Int->Prop)(g:Int->Int->V):R2:=λx y H Q=>∃i j,x=.int i/\y=.int j/\C i j/\Q (g i j) H
noncomputable def F9(g:Int->Int->V):R2:=λx y H Q=>∃i j,x=.int i/\y=.int j/\Q (g i j) H
section
variable{X:Cx}{a b c:Expr}{ta z tc:TE}{pos:Pos}
theorem binT(W:PE X a ta)(Z:PE X b z){e:FB}{s:j3}{σ:St}{H:Hp}{R:V->V->Hp->Prop}(I:Inv X e σ H s)
  (h:ta σ H λx m=>z σ m λy g=>R x y g) {Q:NB}{f:j0->j0->Sem j0}
  (Y:∀v u l x y g,Inv X e σ g l->aA x v->aA y u->R x y g->Kx (Ky X.prog X.w) X.A (f v u) Q X.xe l) :
  Kx (Ky X.prog X.w) X.A (vu a X.env) (λv j=>Kx (Ky X.prog X.w) X.A (vu b X.env) (λu i=>Kx (Ky X.prog X.w) X.A (f v u) Q X.xe i) X.xe j) X.xe s:=by
 refine EA (W e s σ H _ I h) λv n #[x,m,B,p,r]=>?_;refine EA (Z e n σ m _ B r) λu l #[y,g,K,o,q]=>?_;exact Y v u l x y g K p o q
theorem Ed{f:yx}{r:R2}(m:pE X (v5 f) r)(o:PE X a ta)(n:PE X b z):PE X (.BinOp a f b pos) (Ym r ta z):=by intro e s g H Q I h;exact wpAny_BinOp (binT o n I h λv u i x y Y p l j q=>m e i g Y x y v u Q p l j q)
theorem Fu{f:j0->j0->Sem j0}{C:Int->Int->Prop}{g:Int->Int->Int}
  (e:∀(i j:Int) (t u:Tok) (s:j3) (Q:NB) (E:NB),C i j->Q (.int (g i j) s.toks) { s with toks:=s.toks+1 }->Kx (Ky X.prog X.w) X.A (f (.int i t) (.int j u)) Q E s) :
  pE X f (rI C λi j=>.int (g i j)):=by
 intro l s p H x y v u Q I o n h;let#[i,j,rfl,rfl,hc,q]:=h;let#[t,rfl]:=o;let#[m,rfl]:=n;exact e i j t m s _ _ hc #[.int (g i j),H,I.tok _,#[_,rfl],q]
theorem zo{f:j0->j0->Sem j0}{g:Int->Int->Int}
  (e:∀(i j:Int) (t u:Tok) (s:j3) (Q:NB) (E:NB),Q (.int (g i j) s.toks) { s with toks:=s.toks+1 }->Kx (Ky X.prog X.w) X.A (f (.int i t) (.int j u)) Q E s) :
  pE X f (F9 λi j=>.int (g i j)):=by
 intro l s p H x y v u Q I o n h;let#[i,j,rfl,rfl,q]:=h;let#[t,rfl]:=o;let#[m,rfl]:=n;exact e i j t m s _ _ #[.int (g i j),H,I.tok _,#[_,rfl],q]
theorem Ta{f:j0->j0->Sem j0}{g:Int->Int->Bool}
  (e:∀(i j:Int) (t u:Tok) (s:j3) (Q:NB) (E:NB),Q (.bool (g i j)) s->Kx (Ky X.prog X.w) X.A (f (.int i t) (.int j u)) Q E s) :
  pE X f (F9 λi j=>.bl (g i j)):=by
 intro l s p H x y v u Q I o n h;let#[i,j,rfl,rfl,q]:=h;let#[t,rfl]:=o;let#[m,rfl]:=n;exact e i j t m s _ _ #[.bl (g i j),H,I,rfl,q]
def E8(i j:Int):Prop:=0<=j/\j<=1000000/\i.natAbs<2 ^ 64
def RZ(i j:Int):Prop:=(-(2 ^ 64)<i/\i<2 ^ 64)∨(-(2 ^ 64)<j/\j<2 ^ 64)
theorem RZ.ok{i j:Int}(h:RZ i j):ft i j:=by
 rcases h with⟨y,x⟩| ⟨y,x⟩
 exact .of_left (QB8 y x);exact .of_right (QB8 y x)
theorem op_add:pE X (v5 .Add) (F9 λi j=>.int (i+j)):=zo λ_ _ _ _ _ _ _ q=>add_int q
theorem op_sub:pE X (v5 .Sub) (F9 λi j=>.int (i - j)):=zo λ_ _ _ _ _ _ _ q=>sub_int q
theorem op_mod:pE X (v5 .Mod) (rI (λ_ j=>0<j) λi j=>.int (i % j)):=Fu λi j _ _ _ _ _ hc q=>by have h:(0:Int)<j:=hc;exact mod_int' () (by rw[Int.fmod_eq_emod_of_nonneg i ()];exact q)
theorem op_pow:pE X (v5 .Pow) (rI E8 λi j=>.int (i ^ j.toNat)):=Fu λ_ _ _ _ _ _ _ hc q=>pow_int_small hc.1 hc.2.1 hc.2.2 q
end
noncomputable def Z9:V->V->Bool
 | .non,.non=>jb | .non,.int _=>jb | .int _,.non=>jb | .non,.bl _=>jb | .bl _,.non=>jb | .non,.str _=>jb | .str _,.non=>jb
 | .int _,.int _=>jb | .bl _,.bl _=>jb | .str _,.str _=>jb | .byt _,.byt _=>jb
 | .int _,.str _=>jb | .str _,.int _=>jb | .bl _,.str _=>jb | .str _,.bl _=>jb
 |_,_=>js
noncomputable def rEq:R2:=λx y H Q=>Z9 x y=jb/\Q (.bl (decide (x=y))) H
noncomputable def Xw:R2:=λx y H Q=>Z9 x y=jb/\Q (.bl (!decide (x=y))) H
theorem XX{i j:Int}:decide (V.int i=V.int j)=(i==j):=by rw[wY];simp
theorem L7{i j:Bool}:decide (V.bl i=V.bl j)=(i==j):=by rw[wY];simp
theorem VX{i j:Str}:decide (V.str i=V.str j)=(i==j):=by rw[wY];simp
theorem UX{i j:Array UInt8}:decide (V.byt i=V.byt j)=(i.toList==j.toList):=by rw[wY];cases i;cases j;simp
section
variable{X:Cx}{a b c:Expr}{ta g tc:TE}{pos:Pos}
theorem KA{h:FB}{σ:St}{H:Hp}{s:j3}{Q:VK}{k x:Bool}(I:Inv X h σ H s)(q:Q (.bl k) H)(e:k=x):EP X h σ Q (.bool x) s:=by subst e;exact#[.bl k,H,I,rfl,q]
theorem op_eq:pE X (Vx .Eq) rEq:=by
 intro m s n H x y v u Q I l z h;let#[f,q]:=h;cases x with
 |non =>
  cases l;cases y with|non=>cases z;exact PySem.EqNone.eq_none_none (KA I q (by simp))|bl j=>cases z;exact PySem.EqNone.eq_none_bool (KA I q (by simp))|int j=>let#[e,rfl]:=z;exact PySem.EqNone.eq_none_int (KA I q (by simp))|str j=>let#[e,rfl]:=z;exact PySem.EqNone.eq_none_str (KA I q (by simp))|_=>exact eN (show js=jb from f) QD
 |bl i =>
  cases l;cases y with|non=>cases z;exact PySem.EqNone.eq_bool_none (KA I q (by simp))|bl j=>cases z;exact eq_bool (KA I q L7)|str j=>let#[e,rfl]:=z;exact PySem.EqMixed.eq_bool_str (KA I q (by simp))|_=>exact eN (show js=jb from f) QD
 |int i =>
  let#[t,rfl]:=l;cases y with|non=>cases z;exact PySem.EqNone.eq_int_none (KA I q (by simp))|int j=>let#[e,rfl]:=z;exact eq_int (KA I q XX)|str j=>let#[e,rfl]:=z;exact PySem.EqMixed.eq_int_str (KA I q (by simp))|_=>exact eN (show js=jb from f) QD
 |str i =>
  let#[t,rfl]:=l;cases y with|non=>cases z;exact PySem.EqNone.eq_str_none (KA I q (by simp))|bl j=>cases z;exact PySem.EqMixed.eq_str_bool (KA I q (by simp))|int j=>let#[e,rfl]:=z;exact PySem.EqMixed.eq_str_int (KA I q (by simp))|str j=>let#[e,rfl]:=z;exact eq_str (KA I q VX)|_=>exact eN (show js=jb from f) QD
 |byt i =>
  let#[t,rfl]:=l;cases y with|byt j=>let#[e,rfl]:=z;exact PySem.W.eq_bytes (KA I q UX)|_=>exact eN (show js=jb from f) QD
 |_=>cases y<;>exact eN (show js=jb from f) QD
theorem op_ne:pE X (Vx .NotEq) Xw:=by
 intro m s n H x y v u Q I l z h;let#[f,q]:=h;cases x with
 |non =>
  cases l;cases y with|non=>cases z;exact PySem.EqNone.ne_none_none (KA I q (by simp))|bl j=>cases z;exact PySem.EqNone.ne_none_bool (KA I q (by simp))|int j=>let#[e,rfl]:=z;exact PySem.EqNone.ne_none_int (KA I q (by simp))|str j=>let#[e,rfl]:=z;exact PySem.EqNone.ne_none_str (KA I q (by simp))|_=>exact eN (show js=jb from f) QD
 |bl i =>
  cases l;cases y with|non=>cases z;exact PySem.EqNone.ne_bool_none (KA I q (by simp))|bl j=>cases z;exact ne_bool (KA I q (e6 not L7))|str j=>let#[e,rfl]:=z;exact PySem.EqMixed.ne_bool_str (KA I q (by simp))|_=>exact eN (show js=jb from f) QD
 |int i =>
  let#[t,rfl]:=l;cases y with|non=>cases z;exact PySem.EqNone.ne_int_none (KA I q (by simp))|int j=>let#[e,rfl]:=z;exact ne_int (KA I q (e6 not XX))|str j=>let#[e,rfl]:=z;exact PySem.EqMixed.ne_int_str (KA I q (by simp))|_=>exact eN (show js=jb from f) QD
 |str i =>
  let#[t,rfl]:=l;cases y with|non=>cases z;exact PySem.EqNone.ne_str_none (KA I q (by simp))|bl j=>cases z;exact PySem.EqMixed.ne_str_bool (KA I q (by simp))|int j=>let#[e,rfl]:=z;exact PySem.EqMixed.ne_str_int (KA I q (by simp))|str j=>let#[e,rfl]:=z;exact ne_str (KA I q (e6 not VX))|_=>exact eN (show js=jb from f) QD
 |byt i =>
  let#[t,rfl]:=l;cases y with|byt j=>let#[e,rfl]:=z;exact PySem.W.ne_bytes (KA I q (e6 not UX))|_=>exact eN (show js=jb from f) QD
 |_=>cases y<;>exact eN (show js=jb from f) QD
theorem op_lt:pE X (Vx .Lt) (F9 λi j=>.bl (decide (i<j))):=Ta λ_ _ _ _ _ _ _ q=>lt_int q
theorem op_le:pE X (Vx .LtE) (F9 λi j=>.bl (decide (i<=j))):=Ta λ_ _ _ _ _ _ _ q=>le_int q
theorem op_gt:pE X (Vx .Gt) (F9 λi j=>.bl (decide (j<i))):=Ta λ_ _ _ _ _ _ _ q=>gt_int q
theorem op_ge:pE X (Vx .GtE) (F9 λi j=>.bl (decide (j<=i))):=Ta λ_ _ _ _ _ _ _ q=>ge_int q
theorem ZY:pE X (Vx .In) (λx y H Q=>∃i j,x=.str i/\y=.str j/\Q (.bl (!(qh j i 0 j.length 1).isEmpty)) H):=by intro z s l H x y v u Q I f e h;let#[i,j,rfl,rfl,q]:=h;let#[t,rfl]:=f;let#[m,rfl]:=e;exact in_str (KA I q rfl)
theorem Ri:pE X (Vx .Is) (λx y H Q=>y=.non/\Q (.bl (decide (x=.non))) H):=by
 intro e s i H x y v u Q I z f h;let#[rfl,q]:=h;cases f;refine is_none_gen (KA I q ?_);cases x<;>first
  | (cases z;rfl)
  | (let#[t,rfl]:=z;rfl)
theorem Oa:pE X (Vx .IsNot) (λx y H Q=>y=.non/\Q (.bl (!decide (x=.non))) H):=by
 intro e s i H x y v u Q I z f h;let#[rfl,q]:=h;cases f;refine isnot_none_gen (KA I q ?_);cases x<;>first
  | (cases z;rfl)
  | (let#[t,rfl]:=z;rfl)
theorem cQ:pE X (Vx .NotIn) (λx y H Q=>∃i j,x=.str i/\y=.str j/\Q (.bl (!(!(qh j i 0 j.length 1).isEmpty))) H):=by intro z s l H x y v u Q I f e h;let#[i,j,rfl,rfl,q]:=h;let#[t,rfl]:=f;let#[m,rfl]:=e;exact notIn_str (KA I q rfl)
theorem pE.or{f:j0->j0->Sem j0}{r r':R2}(h:pE X f r)(h':pE X f r'):pE X f (λx y H Q=>r x y H Q∨r' x y H Q):=by intro z s e H x y v u Q I j i q;rcases q with q|q;exact h z s e H x y v u Q I j i q;exact h' z s e H x y v u Q I j i q
theorem Ua{e:Z1}{r:R2}(m:pE X (Vx e) r)(p:PE X a ta)(o:PE X b g)(n:Fz e b=js):PE X (.Compare a [e] [b] pos) (Ym r ta g):=by intro z s f H Q I h;exact wpAny_Compare1 (binT p o I h λv u i x y Z Y l j q=>m z i f Z x y v u Q Y l j q) n
noncomputable def Vd(t:TE):TT:=λh H Q=>t h H λx y=>∃k,x=.bl k/\Q k y
theorem O9{j:Z1}{r:R2}(W:pE X (Vx j) r)(B:PE X a ta)(A:PE X b g)(K:Fz j b=js):PT X (.Compare a [j] [b] pos) (Vd (Ym r ta g)):=by
 intro f s i H Q I h;refine wpAny_isTrue_Compare1 (EA (B f s i H _ I h) λv m #[x,L,F,p,Z]=>EA (A f m i L _ F Z) λu l #[y,J,E,o,Y] =>
  EA (W f l i J x y v u _ E p o Y) λc M #[z,G,C,n,k,e,q]=>?_) K
 subst e;cases n;exact qa #[G,C,q]
noncomputable def uU(r r':R2)(ta g tc:TE):TE:=λh H Q=>ta h H λx j=>g h j λy i=>r x y i λz u=>∃k,z=.bl k /\
 (if k=jb then tc h u λe f=>r' y e f Q else Q (.bl js) u)
theorem D4{l i:Z1}{r r':R2}(M:pE X (Vx l) r)(m:pE X (Vx i) r')(P:PE X a ta)(O:PE X b g)(hc:PE X c tc)
  (N:autoParam (cC [l,i] [b,c]=false) zzu._auto_1):PE X (.Compare a [l,i] [b,c] pos) (uU r r' ta g tc):=by
 intro f s j H Q I h;refine Compare_chain (EA (P f s j H _ I h) λv B #[x,H1,I1,F,L]=>chain_link (EA (O f B j H1 _ I1 L) λu A #[y,H2,S,n,J] =>
  EA (M f A j H2 x y v u _ S F n J) λd K #[z,q,p,E,k,e,o]=>?_)) N
 subst e;cases E;refine qa ?_;cases k with|false=>exact ite_ff #[.bl js,q,p,rfl,o]|true=>exact ite_tt (chain_last (EA (hc f K j q _ p o) λZ W #[Y,H4,R,C,G]=>m f W j H4 y Y u Z Q R n C G))
theorem P3{l i:Z1}{r r':R2}(P:pE X (Vx l) r)(m:pE X (Vx i) r')(ha:PE X a ta)(S:PE X b g)(hc:PE X c tc)
  (R:autoParam (cC [l,i] [b,c]=false) zzu._auto_1):PT X (.Compare a [l,i] [b,c] pos) (Vd (uU r r' ta g tc)):=by
 intro f s j H Q I h;refine isTrue_chain (EA (ha f s j H _ I h) λv B #[x,H1,I1,G,N]=>test_link (EA (S f B j H1 _ I1 N) λu A #[y,H2,I2,n,M] =>
  EA (P f A j H2 x y v u _ I2 G n M) λd K #[z,q,p,F,k,e,o]=>?_)) R
 subst e;cases F;refine qa ?_;cases k with|false=>let#[k',e',O]:=o;cases e';exact ite_ff #[q,p,O]|true=>refine ite_tt (test_last (EA (hc f K j q _ p o) λZ W #[Y,H4,I4,E,L]=>EA (m f W j H4 y Y u Z _ I4 n E L) λd' s5 #[z2,H5,I5,C,k2,e2,J]=>?_));subst e2;cases C;exact qa #[H5,I5,J]
def ol(K:QC)(x:V)(H:Hp)(k:Bool):Prop :=
 match x with
 | .non=>k=js|.bl b=>k=b|.int i=>k=(i != 0)|.str y=>y.length<=j1/\k=((y.length:Int) != 0)|.byt y=>y.size<=j1/\k=((y.size:Int) != 0)|.ref p=>(∃h,YD K H p h/\k=!h.isEmpty)∨(∃h,oE K H p h/\k=!h.isEmpty)∨∃z,H p=jy (.dK z)/\k=!z.isEmpty|_=>False
theorem nV{x:Type}{h:List (x×V)}{vs:List (x×j0)}(r:KV h vs):(!vs.isEmpty)=!h.isEmpty:=by cases r<;>rfl
theorem HM{xs:LV}{its:LW}(r:iA xs its):(!its.toArray.isEmpty)=!xs.isEmpty:=by cases r<;>simp
theorem uI:(j1:Nat)<2 ^ 63:=by rw[qi];decide
theorem C1:du X (λx H Q=>∃k,ol X.K x H k/\Q k H):=by
 intro Z s E H x v Q I l h;let#[k,e,q]:=h;have hl:=uI;have F:j1=16777216:=qi;cases x with
 |non=>cases l;have z:k=false:=e;subst z;exact truthy_none #[H,I,q]|bl b=>cases l;have z:k=b:=e;subst z;exact qa #[H,I,q]|int i=>let#[t,rfl]:=l;have z:k=(i != 0):=e;subst z;exact PySem.P.truthy_int #[H,I,q]|str y=>let#[t,rfl]:=l;obtain⟨B,z⟩:y.length<=j1/\k=((y.length:Int) != 0):=e;subst z;exact PySem.P.truthy_str () #[H,I.tok _,q]|byt y=>let#[t,rfl]:=l;obtain⟨B,z⟩:y.size<=j1/\k=((y.size:Int) != 0):=e;subst z;exact PySem.W.truthy_bytes () #[H,I.tok _,q]|ref p =>
  cases l;have z:(∃j,YD X.K H p j/\k=!j.isEmpty)∨(∃j,oE X.K H p j/\k=!j.isEmpty)∨∃u,H p=jy (.dK u)/\k=!u.isEmpty:=e;rcases z with⟨j,n,z⟩| ⟨j,n,z⟩| ⟨u,n,z⟩
  subst z;let#[Y,r,o,A]:=I.list n;have f:=r.length;exact wpAny_truthy_list o.isList (by simp only[QM];omega) #[H,I.tok _,by rw[HM r];exact q];subst z;let#[Y,r,o,A]:=I.tuple n;have f:=r.length;exact truthy_tuple o (by simp only[QM];omega) #[H,I.tok _,by rw[HM r];exact q];subst z;obtain⟨A,C,vs,r,m⟩:u.length<=j1/\(p==v6)=js/\∃vs,KV u vs/\s.1.DictOf (KB X.prog X.w) p vs:=I.hok p _ n;have f:u.length=vs.length:=WP r;exact wpAny_truthy_dict C m () #[H,I.tok _,by rw[nV r];exact q]
 |_=>exact(show False from e).elim
theorem JU:pE X (v5 .Add) (λx y H Q=>∃i j,x=.str i/\y=.str j/\i.length+j.length<=j1/\Q (.str (i++j)) H):=by intro z s n H x y v u Q I l f h;let#[i,j,rfl,rfl,m,q]:=h;let#[t,rfl]:=l;let#[e,rfl]:=f;exact add_str (λe o=>#[.str (i++j),H,I.tok _,#[_,rfl],q]) m
theorem sF{x:V}{us:LW}(r:iA [x] us):∃u,us=[u]/\aA x u:=by
 cases r with|cons y h=>cases h;exact#[_,rfl,y]
theorem P0{x y:V}{us:LW}(r:iA [x,y] us):∃u h,us=[u,h]/\aA x u/\aA y h:=by
 cases r with
 |cons i f =>
  cases f with|cons e z=>cases z;exact#[_,_,rfl,i,e]
theorem vP:YC X (.type "int") (λxs H Q=>(∃i,xs=[.int i]/\Q (.int i) H)∨∃k,xs=[.bl k]/\Q (.int (if k then 1 else 0)) H):=by
 intro x s z H xs e Q I r h;rcases h with⟨i,rfl,q⟩| ⟨k,rfl,q⟩
 let#[u,rfl,t,rfl]:=sF r;exact call_int_int #[.int i,H,I,#[_,rfl],q];let#[u,rfl,y]:=sF r;cases y;exact call_int_bool #[.int (if k then 1 else 0),H,I.tok _,#[_,rfl],q]
theorem jR:YC X (.type "str") (λxs H Q=>∃i,xs=[.int i]/\i.natAbs.log2<1920/\Q (.str (eg i)) H):=by intro x s z H xs e Q I r h;let#[i,rfl,y,q]:=h;let#[u,rfl,t,rfl]:=sF r;exact PySem.P.str_of_int y #[.str _,H,I.tok _,#[_,rfl],q]
end
structure ObjM(h:kt)(x dx C:j2)(mA:Str->Option j0):Prop where
 obj:h.get? x=jy (QBW C dx)
 ns:h.Ns1 dx mA
 ne:dx≠x
theorem YO{h:kt}{g:j2}{b:Str->Option j0}(n:h.Ns1 g b):∃u,h.get? g=jy u/\∀name,QAo name u=jy (b name):=by
 let#[o,f,p,j,hd,hk,_,l]:=n;refine#[o,j,λname=>?_];have e:=l name;unfold nsFind findBy at e;rw[<- Array.find?_toList]at e;unfold QAo;rw[hd];dsimp only;split;rename_i y q;rw[q]at e;exact e6 jy e;rename_i q;rw[q]at e;have a:f.toList.any (·.refKey)=false:=by rw[QAt];intro y i;let#[z,t,x]:=hk y (Array.mem_toList_iff.mp i);simp[DictEntry.refKey,x]
 have m:¬ f.toList.any (·.refKey)=true:=by rw[a];exact QD
 rw[eH m];exact e6 jy e
theorem ObjM.look{h:kt}{x u C:j2}{z:Str->Option j0}(I:ObjM h x u C z):∃y,PySem.W.InstAt h x (QBW C u) C (jy y)/\∀name,QAo name y=jy (z name) :=
 let#[y,a,hl]:=YO I.ns
 #[y,#[I.obj,rfl,rfl,a],hl]
theorem KH.some_of{v:V}{o:Option j0}(r:KH (jy v) o):∃u,o=jy u/\aA v u:=by
 cases o with|none=>exact(show False from r).elim|some u=>exact#[u,rfl,r]
theorem fZ{v:V}{u:j0}(r:aA v u):PySem.W.handedIn u=true:=by
 cases v with|non=>cases(show u=Jz from r);rfl|bl b=>cases(show u=Value.bool b from r);rfl|int i=>let#[t,e]:=(show ∃t,u=Value.int i t from r);cases e;rfl|str x=>let#[t,e]:=(show ∃t,u=Value.str x t from r);cases e;rfl|byt b=>let#[t,e]:=(show ∃t,u=Value.bytes b t from r);cases e;rfl|flt b=>let#[t,e]:=(show ∃t,u=Value.float b t from r);cases e;rfl|ref a=>cases(show u=jx a from r);rfl|ty n=>cases(show u=Value.type n from r);rfl
section
variable{P:Kz}{w:kl}{H H':Hp}{h h':kt}{a C y:j2}{x u:List (Str×V)}
theorem vc(hok:aH P w H h)(e:H a=jy (.ins C y x)):∃b,ObjM h a y C b/\(∀f,KH (x.lookup f) (b f))/\PySem.Within b (x.map (·.1))/\x.length<=1000/\H y=jy (.own a):=by
 let#[d,z,i,g,b,n,r,q]:=(show LA P w H h a (.ins C y x) from hok a _ e)
 exact#[b,#[g,n,i],r,q,z,d]
end
structure Cls(K:QC)(C:j2):Prop where
 pg:QCz K C QDg=jb
 hd:QAu K C=jb
 po:PySem.W.plainOver K C=jb
 sa:qz K (.ref C) "__setattr__"=jy (jy (.builtin "object.__setattr__"))
theorem Cls.get{K:QC}{C:j2}(c:Cls K C)(f:Str):QCz K C f=true:=c.pg
section
variable{X:Cx}{x:FB}{σ:St}{H:Hp}{s:j3}{a C z:j2}{y:List (Str×V)}{f:Str}{v:V}{A:Vy}{E:NB}
theorem Lc{prog:Kz}{w:kl}{env:Env}{e:Expr}{f:Str}{pos:Pos}{s:j3}{Q:NB}(b:Yx e f env (vu e env)=vu e env)
  (h:Kx (Ky prog w) A (vu e env) (λo u=>Kx (Ky prog w) A (getAttr o f jb) Q E u) E s):Kx (Ky prog w) A (vu (.Attribute e f pos) env) Q E s :=
 Attribute_any_ h (by rw[arm_eval_Attribute,b])
end
section
variable{X:Cx}{v:FB}{σ:St}{H:Hp}{s:j3}{A:Vy}{E:NB}{Q:NB}{c:j0}{b:Bool}
inductive TyOf(K:QC)(H:Hp):V->j0->Prop where
 |non:TyOf K H .non (.type "NoneType")
 |bl (x:Bool):TyOf K H (.bl x) (.type "bool")
 |int (i:Int):TyOf K H (.int i) (.type "int")
 |str (x:Str):TyOf K H (.str x) (.type "str")
 |flt (x:UInt64):TyOf K H (.flt x) (.type "float")
 |lst {a:j2}{xs:LV}(e:H a=jy (.lst xs)):TyOf K H (.ref a) (.type "list")
 |frz {a:j2}{o:Obj}{xs:LV}(e:H a=jy (.frz o (.lst xs))):TyOf K H (.ref a) (.type "list")
 |tup {a:j2}{xs:LV}(e:H a=jy (.tup xs)):TyOf K H (.ref a) (.type "tuple")
 |dK {a:j2}{kvs:List (oC×V)}(e:H a=jy (.dK kvs)):TyOf K H (.ref a) (.type "dict")
 |dT {a:j2}{kvs:List (List oC×V)}(e:H a=jy (.dT kvs)):TyOf K H (.ref a) (.type "dict")
 |ins {a C dx:j2}{fs:List (Str×V)}(e:H a=jy (.ins C dx fs)) (cl:Cls K C) (ha:qz K (.ref C) "__class__"=jy (jy (.builtin "object.__class__")))
   (hn:PySem.W.specialIn K (.builtin "object.__class__") "__get__"=jy (jy (.builtin "getset_descriptor.__get__"))) (htk:PySem.W.takesIn K (.builtin "object.__class__")=jy jb)
   (hm:QAO K C (.type "object")=jy jb):TyOf K H (.ref a) (.ref C)
theorem zZ{x:V}{u t:j0}(I:Inv X v σ H s)(f:aA x u)(ty:TyOf X.K H x t)(e:WZ X.K t c=jy b)(h:∀B,Q (.bool b) { s with toks:=B }) :
  Kx (Ky X.prog X.w) A (gy (.builtin "isinstance") [u,c]) Q E s:=by
 cases ty with
 |non=>cases(show u=Jz from f);exact qD PySem.W.kitx_none I.kIn True.intro e (λz=>nomatch z) h
 |bl y=>cases(show u=Value.bool y from f);exact qD PySem.W.kitx_bool I.kIn True.intro e (λz=>nomatch z) h
 |int i=>let#[t,q]:=(show ∃t,u=Value.int i t from f);cases q;exact qD PySem.W.kitx_int I.kIn True.intro e (λz=>nomatch z) h
 |str y=>let#[t,q]:=(show ∃t,u=Value.str y t from f);cases q;exact qD PySem.W.kitx_str I.kIn True.intro e (λz=>nomatch z) h
 |flt y=>let#[t,q]:=(show ∃t,u=Value.float y t from f);cases q;exact qD PySem.W.kitx_float I.kIn True.intro e (λz=>nomatch z) h
 |@lst a m g =>
  cases(show u=jx a from f);let#[_,_,n,_,j]:=(show LA X.prog X.w H s.1 a (.lst m) from I.hok a _ g)
  exact qD QAv I.kIn #[_,j,rfl] e (λz=>nomatch z) h
 |@frz a F m g =>
  cases(show u=jx a from f);let#[_,_,_,n,_,j]:=(show LA X.prog X.w H s.1 a (.frz F (.lst m)) from I.hok a _ g)
  exact qD QAv I.kIn #[_,j,rfl] e (λz=>nomatch z) h
 |@tup a m g =>
  cases(show u=jx a from f);let#[_,_,_,p]:=(show LA X.prog X.w H s.1 a (.tup m) from I.hok a _ g)
  let#[o,j,r,_]:=p;exact qD QB9 I.kIn #[o,j,r] e (λz=>nomatch z) h
 |@dK a l g =>
  cases(show u=jx a from f);let#[_,_,vs,_,p]:=(show LA X.prog X.w H s.1 a (.dK l) from I.hok a _ g)
  let#[o,N,P,j,r,_]:=p;exact qD QCS I.kIn #[o,j,r.1] e (λz=>nomatch z) h
 |@dT a l g =>
  cases(show u=jx a from f);let#[_,_,m,_,o,N,P,j,r,_]:=(show LA X.prog X.w H s.1 a (.dT l) from I.hok a _ g)
  exact qD QCS I.kIn #[o,j,r.1] e (λz=>nomatch z) h
 |@ins a C dx fs g Z M G Y L=>cases(show u=jx a from f);let#[S,O,_]:=vc I.hok g;let#[R,J,_]:=O.look;exact qD (PySem.W.kitx_own (Z.get _) Z.hd M G Y L) I.kIn J e (λz=>nomatch z) h
end
structure Room(k:Nat)(A:Vy):Prop where
 hd:A.handled=jz
 dp:A.depth+3 * k+5<recursionLimit
 un:A.units+16 * k+200<gi
theorem Room.mono{j k:Nat}{A:Vy}(r:Room k A)(h:j<=k):Room j A:=#[r.hd,by have:=r.dp;omega,by have:=r.un;omega]
theorem Room.deeper{k:Nat}{A:Vy}(r:Room (k+1) A)(env:Env):Room k (A.deeper env) :=
 #[r.hd,by have:=r.dp;show A.depth+1+3 * k+5<_;omega,by have:=r.un;show A.units+3+16 * k+200<_;omega]
theorem xV{A:Vy}{C:j2}{us:LW}{h:List (Str×j0)}:(A.under (.builtin "type.__call__" #[.ref C::us,h])).depth=A.depth+1:=by first|rfl|simp[QCp,Code.weight,Code.isCreation,Code.isGuard,Code.isCaller,Code.frames,QCq,guardIds]
theorem vV{A:Vy}{C:j2}{us:LW}{h:List (Str×j0)}:(A.under (.builtin "type.__call__" #[.ref C::us,h])).units=A.units+1:=by first|rfl|simp[QCp,Code.cUnits,Code.frames,QCq]
theorem Room.make{k:Nat}{A:Vy}(r:Room (k+1) A)(C:j2)(us:LW)(h:List (Str×j0)):Room k (A.under (.builtin "type.__call__" #[.ref C::us,h])) :=
 #[r.hd,by have:=r.dp;rw[xV];omega,by have:=r.un;rw[vV];omega]
theorem Room.depth{k:Nat}{A:Vy}(r:Room k A):A.depth<recursionLimit:=by have:=r.dp;omega
noncomputable def Yh:TA:=λ_ H Q=>Q [] H
noncomputable def Xd(ta:TE)(z:TA):TA:=λh H Q=>ta h H λx a=>z h a λy u=>Q (x::y) u
section
variable{X:Cx}{e:Expr}{y:List Expr}{te:TE}{t:TA}{pos:Pos}
theorem kK:PA X [] Yh:=λ_ _ _ _ H Q I h=>QAw #[[],H,I,.nil,h]
theorem mD(o:PE X e te)(n:PA X y t)(m:autoParam (ka (e::y) X.env=(js,vu e X.env)::ka y X.env) zzr._auto_1):PA X (e::y) (Xd te t):=by intro pos z s a H Q I h;rw[m];show Kx _ _ (spliced ((js,vu e X.env)::x2 pos (ka y X.env))) _ _ s;refine Wm (EA (o z s a H _ I h) λu f #[x,Y,q,i,l]=>?_);exact EA (n pos z f a Y _ q l) λZ W #[b,r,p,g,j]=>#[x::b,r,p,.cons i g,j]
noncomputable def Br(t:TA):TE:=λz H Q=>t z H λh x=>h.length<=j1/\∀p,x p=jz->Q (.ref p) (VA x p (.tup h))
noncomputable def Mr(t:TA):TE:=λz H Q=>t z H λh x=>h.length<=j1/\∀p,x p=jz->Q (.ref p) (VA x p (.lst h))
theorem Xi{x1}(h:PA X y t):PE X (.Tuple y x1 pos) (Br t):=by intro x s i H Q I m;refine wpAny_Tuple_spliced (EA (h pos x s i H _ I m) λl a #[j,g,f,r,z,q]=>#[by rw[<- r.length];exact z,?_]);have n:g a.1.1.size=none:=f.hok.fresh (QU _);refine#[.ref a.1.1.size,VA g a.1.1.size (.tup j),f.laid (t':=a.toks) (λb u e=>QF _ e) (QU _) ?_,rfl,q _ n];exact#[z,l,r,#[_,QV _ rfl,rfl,_,rfl]]
theorem Ci(h:PA X y t):PE X (.List y pos) (Mr t):=by intro x s i H Q I m;refine wpAny_List_spliced (EA (h pos x s i H _ I m) λl a #[j,g,f,r,z,q]=>#[by rw[<- r.length];exact z,?_]);have n:g a.1.1.size=none:=f.hok.fresh (QU _);refine#[.ref a.1.1.size,VA g a.1.1.size (.lst j),f.laid (t':=a.toks) (λb u e=>QF _ e) (QU _) ?_,rfl,q _ n];exact#[z,l,0,r,QV _ rfl]
end
noncomputable abbrev Sp:=LV->Hp->VK->XK->Prop
noncomputable abbrev AT:=List Env->Hp->j3->XK->j0->j3->Prop
structure Env0(P:Kz)(w:kl)(K:QC)(mg:Str->Option j0)(base:kt)(A:Vy)(outer:List Env)(s:j3)(H:Hp):Prop where
 frames:A.frames=jy outer
 mod:Mod K mg base
 bs:∀b o,base.get? b=jy o->s.1.get? b=jy o/\H b=jz
 bsz:base.1.size<=s.1.1.size
 funs:s.1.FunFrames base outer
 frf:∀b∈LO outer,H b=jz
 hok:aH P w H s.1
 bare:AllBare s.gens
def CE(outer:List Env)(P:Kz)(w:kl)(H:Hp)(s:j3)(Q:VK)(u:j0)(s':j3):Prop :=
 ∃v h,s'.os=s.os/\AllBare s'.gens/\Un (LO outer) [] H h s.1 s'.1/\aH P w h s'.1/\aA v u/\Q v h
def CR(h:AT)(outer:List Env)(P:Kz)(w:kl)(H:Hp)(s:j3)(Q:VK)(E:XK)(r:Result)(s':j3):Prop :=
 match r with
 | .ok (.ret u)=>CE outer P w H s Q u s'|.ok _=>False|.error e=>h outer H s E e s'
structure FnOk(P:Kz)(w:kl)(K:QC)(mg:Str->Option j0)(base:kt)(CX:AT)(k:Nat)(f:j2)(fd:vy)(ps:LS)(sp:Sp):Prop where
 len:∀vs H Q E,sp vs H Q E->vs.length=ps.length
 run:∀(A:Vy) (outer:List Env) (s:j3) (H:Hp) (args:Args) (us:LW) (vs:LV) (Q:VK) (E:XK),Room k A->Env0 P w K mg base A outer s H->hR s fd args (ps.zip us)->iA vs us->sp vs H Q E ->
  hT (Ky P w) A (.call (.ref f) args) (CR CX outer P w H s Q E) s
theorem FnOk.mono{P:Kz}{w:kl}{K:QC}{u:Str->Option j0}{x:kt}{b:AT}{j k:Nat}{f:j2}{a:vy}{ps:LS}{z:Sp}(F:FnOk P w K u x b j f a ps z)(h:j<=k) :
  FnOk P w K u x b k f a ps z:=#[F.len,λA y s H args e vs Q E g=>F.run A y s H args e vs Q E (g.mono h)]
theorem FnOk.imp{P:Kz}{w:kl}{K:QC}{a:Str->Option j0}{x:kt}{e:AT}{k:Nat}{f:j2}{b:vy}{ps:LS}{u z:Sp}(F:FnOk P w K a x e k f b ps u)
  (h:∀vs H Q E,z vs H Q E->u vs H Q E):FnOk P w K a x e k f b ps z :=
 #[λvs H Q E q=>F.len vs H Q E (h _ _ _ _ q),λA y s H args g vs Q E j l m hv i=>F.run A y s H args g vs Q E j l m hv (h _ _ _ _ i)]
theorem Env0.make{P:Kz}{w:kl}{K:QC}{x:Str->Option j0}{h:kt}{A:Vy}{outer:List Env}{s:j3}{H:Hp}(e:Env0 P w K x h A outer s H)(C:j2)(us:LW)(y:List (Str×j0)) :
  Env0 P w K x h (A.under (.builtin "type.__call__" #[.ref C::us,y])) outer s H:=#[by first|exact e.frames | (simpa[QCp,Code.envs,QCq,pushEnvs]using e.frames),e.mod,e.bs,e.bsz,e.funs,e.frf,e.hok,e.bare]
section
variable{X:Cx}{x:FB}{σ:St}{H:Hp}{s s':j3}
theorem Inv.env0(I:Inv X x σ H s):Env0 X.prog X.w X.K X.mg X.base X.A X.stack s H :=
 #[I.ok.frames,I.ok.mod,I.bs,qZ I.ok.bsz I.sz,I.stack,I.stkFree,I.hok,I.bare]
theorem Inv.after{Q:VK}{u:j0}(I:Inv X x σ H s)(h:CE X.stack X.prog X.w H s Q u s'):EP X x σ Q u s':=by let#[v,e,os,bare,un,hok,r,q]:=h;let#[a,g,d,t,y]:=s';obtain rfl:y=s.os:=os;exact#[v,e,I.call (h':=a) (g':=g) (d':=d) (t':=t) (ch:=[]) un hok bare (λb z=>eN z (by simp)),r,q]
end
noncomputable def Ud(y:Sp)(h:LV)(E:XK)(t:TA):TE:=λx H Q=>t x H λvs z=>y (vs++h) z Q E
def KE(K:QC)(y:vy)(ps:LS)(x:LW):Prop :=
 ∀(s:j3) (h:LW),K.In s.1->(h++x).length=ps.length->hR s y #[h,[]] (ps.zip (h++x))
theorem KE.all{K:QC}{x:vy}{ps:LS}(h:∀us:LW,us.length=ps.length->Hx x #[us,[]]=ez (ps.zip us)):KE K x ps []:=λs us _ hl=>by rw[Qd]at hl ⊢;exact .of_eq (h us hl)
def aN(z:AT)(X:Cx)(E:XK):Prop:=∀(h:FB) (y:St) (H:Hp) (s:j3) (e:j0) (x:j3),Inv X h y H s->z X.stack H s E e x->X.xe e x
section
variable{X:Cx}{b:AT}{k:Nat}{f C:j2}{a:vy}{ps:LS}{v:Sp}{y:LV}{z:LW}{E:XK}{x m:Str}{p pos apos:Pos}{e o:Expr}{c:List Expr}{ta:TE}{t:TA}
theorem G2{g:FB}{σ:St}{H:Hp}{s:j3}{Q:VK}{us:LW}{vs:LV}(F:FnOk X.prog X.w X.K X.mg X.base b k f a ps v)(q:Room k X.A)(Y:KE X.K a ps z)(hd:iA y z)(n:aN b X E)
  (I:Inv X g σ H s) (r:iA vs us) (h:v (vs++y) H Q E):Kx (Ky X.prog X.w) X.A (gy (.ref f) us) (EP X g σ Q) X.xe s:=by
 have j:iA (vs++y) (us++z):=r.append hd;have hl:(us++z).length=ps.length:=by rw[<- j.length];exact F.len _ _ _ _ h
 refine QAx (WG (F.run X.A X.stack s H #[us,[]] (us++z) (vs++y) Q E q I.env0 (Y s us I.kIn hl) j h) λr l i=>?_);cases r with
 |error e=>exact n g σ H s e l I i|ok Z =>
  cases Z with|ret u=>exact I.after i|next=>exact QT i|brk=>exact QT i|cont=>exact QT i
theorem Ca(F:FnOk X.prog X.w X.K X.mg X.base b k f a ps v)(Y:Room k X.A)(W:Gl X x)(Z:X.mg x=jy (.ref f))(hk:qe X.K (.ref f)=jb)(G:KE X.K a ps z)(hd:iA y z)(n:aN b X E)
  (J:PA X (e::c) t) (i:autoParam ((x==("__debug__":Str))=false) zzd._auto_1) (B:autoParam (ka (e::c) X.env=(js,vu e X.env)::ka c X.env) zzr._auto_1) (g:autoParam ((x2 pos (ka c X.env)).any (·.1)=false) zzr._auto_1) :
  PE X (.Call (.Name x p) (e::c) [] pos) (Ud v y E t):=by
 intro u s l H Q I h;refine wG (gJ I W Z ?_ i);refine QAg (h₀:=X.base) I.ok.mod.kin hk (EA (J pos u s l H _ I h) λL M #[vs,N,j,r,q]=>#[j.kIn,?_]) B g;exact G2 F Y G hd n j r q
theorem M4(F:FnOk X.prog X.w X.K X.mg X.base b k f a ps v)(j:Room k X.A)(n:Gl X x)(l:X.mg x=jy (.ref f))(hk:qe X.K (.ref f)=jb)(q:KE X.K a ps z)(hd:iA y z)(i:aN b X E)
  (u:autoParam ((x==("__debug__":Str))=false) zzd._auto_1):PE X (.Call (.Name x p) [] [] pos) (Ud v y E Yh):=by
 intro g s r H Q I h;refine wG (gJ I n l ?_ u);exact PySem.W.callWith_K0 I.kIn hk (G2 (us:=[]) F j q hd i I .nil h)
end
section
variable{X:Cx}{c:AT}{k:Nat}{f C:j2}{a:vy}{ps ks:LS}{u:Sp}{E:XK}{x m:Str}{p pos apos h:Pos}{e o:Expr}{b:List Expr}{y:List zz}{te ta:TE}{t z:TA}{v:Option Str}
variable{g:LW->LW->LW}{w:LV->LV->LV}
end
structure FnScope(N P:LS)(sc:Xz):Prop where
 kind:sc.kind=.function
 co:sc.isCoroutine=js
 gen:sc.isGenerator=js
 nd:N.Nodup
 pre:N.take P.length=P
 par:∀x∈P,sc.names.lookup x=jy .local∨sc.names.lookup x=jy .cell
 nofree:∀y∈sc.names,y.2≠.free
theorem uP{y:Str->Option z0}{x:Str}:∀{binds:List (Str×j0)}{m:Str->Option j0},(∀v,(x,v)∉binds)->bindL y binds m x=m x
 |[],_,_=>rfl|(n,v)::r,m,h=>by
  unfold bindL;rw[uP λw z=>h w (QH _ z)];split;have:x≠n:=by rintro rfl;exact h v QK
  simp[this];rfl
theorem cP{y:Str->Option z0}{x:Str}:∀{binds:List (Str×j0)}{m:Str->Option j0},(∀v,(x,v)∉binds)->d4 y binds m x=m x
 |[],_,_=>rfl|(n,v)::r,m,h=>by
  unfold d4;rw[cP λw z=>h w (QH _ z)];split;rfl;have:x≠n:=by rintro rfl;exact h v QK
  simp[this]
theorem bP{y:Str->Option z0}{x:Str}{v:j0}:∀{P:LS}{vs:LW}{i:Nat}{m:Str->Option j0},P.Nodup->P[i]?=jy x->vs[i]?=jy v->y x=jy .local ->
  bindL y (P.zip vs) m x=jy v
 |[],_,_,_,_,h,_,_=>by simp at h|_::_,[],_,_,_,_,h,_=>by simp at h|p::P,w::vs,0,m,nd,h1,h2,hk=>by simp at h1 h2;subst h1;subst h2;show bindL y ((p,w)::P.zip vs) m p=_;unfold bindL;rw[uP λv hv=>(wC.mp nd).1 (QAW hv).1,ef hk];simp|p::P,w::vs,i+1,m,nd,h1,h2,hk=>by show bindL y ((p,w)::P.zip vs) m x=_;unfold bindL;exact bP (i:=i) (wC.mp nd).2 (by simpa using h1) (by simpa using h2) hk
theorem dP{y:Str->Option z0}{x:Str}{v:j0}:∀{P:LS}{vs:LW}{i:Nat}{m:Str->Option j0},P.Nodup->P[i]?=jy x->vs[i]?=jy v->y x≠jy .local ->
  d4 y (P.zip vs) m x=jy v
 |[],_,_,_,_,h,_,_=>by simp at h|_::_,[],_,_,_,_,h,_=>by simp at h|p::P,w::vs,0,m,nd,h1,h2,hk=>by simp at h1 h2;subst h1;subst h2;show d4 y ((p,w)::P.zip vs) m p=_;unfold d4;rw[cP λv hv=>(wC.mp nd).1 (QAW hv).1,eH hk];simp|p::P,w::vs,i+1,m,nd,h1,h2,hk=>by show d4 y ((p,w)::P.zip vs) m x=_;unfold d4;exact dP (i:=i) (wC.mp nd).2 (by simpa using h1) (by simpa using h2) hk
noncomputable def GE(N:LS)(vs:LV):St:=vs.map jy++QI (N.length - vs.length) jz
noncomputable def nK(z:AT)(P:Kz)(w:kl)(K:QC)(mg:Str->Option j0)(base:kt)(N:LS)(x:Str)(h:Xz)(f:j2)(cd:j0)(A:Vy)(outer:List Env)(s:j3)(H:Hp)(E:XK):Cx where
 prog:=P
 w:=w
 K:=K
 mg:=mg
 base:=base
 A:=A.deeper (envOfC x h s.1.1.size f cd)
 N:=N
 s₀:=s
 H₀:=H
 env:=envOfC x h s.1.1.size f cd
 outer:=outer
 stack:=envOfC x h s.1.1.size f cd::outer
 ex:=[]
 calm:=jb
 fn:=λ_=>jb
 pn:=[]
 xe:=λe u=>Kx (Ky P w) (A.deeper (envOfC x h s.1.1.size f cd)) (leaving (envOfC x h s.1.1.size f cd) e) (λ_ y=>z outer H s E e y) (λa y=>z outer H s E a y) u
theorem HS{sc:Xz}{n:Nat}{x:Str}(h:sc.names.lookup x=jy .cell):∃c,(c5 n sc.names []).lookup x=jy c:=by have q:=QBN sc.names n [] (.inl h);exact QAy.mp q
theorem vZ{J:AT}{P:Kz}{w:kl}{K:QC}{F:Str->Option j0}{m:kt}{N ps:LS}{j:Str}{g:Xz}{f:j2}{cd:j0}{A:Vy}{outer:List Env}{s G:j3}{H:Hp}{E:XK}{us:LW}{vs:LV}
  (S:FnScope N ps g) (hd:A.handled=jz) (o:Env0 P w K F m A outer s H) (hl:vs.length=ps.length) (r:iA vs us)
  (x:InCallC s s.1.1.size (bindL (envOfC j g s.1.1.size f cd).kindOf (ps.zip us) λ_=>jz) (c5 (s.1.1.size+1) g.names []) (d4 (envOfC j g s.1.1.size f cd).kindOf (ps.zip us) λ_=>jz) G) :
  Inv (nK J P w K F m N j g f cd A outer s H E) [] (GE N vs) H G:=by
 have M:ps.length<=N.length:=by have:=e6 WH S.pre;rw[wN]at this;omega
 let#[C,Q,rfl,hk]:=x.done;have X:∀b:j2,b∉(nK J P w K F m N j g f cd A outer s H E).ex:=λb z=>eN (show b∈([]:List j2) from z) (by simp);refine#[#[o.mod,S.kind,rfl,rfl,QU _,λy z c C l=>?_,λy Y=>?_,λy c _ h=>?_,λ_=>hd,Around.frames_deeper o.frames,.inr #[rfl,rfl],λb z=>eN z (X b),o.bs,o.bsz,λb _ _=>X b,λb z=>eN z (X b),o.funs,o.frf],
  rfl,o.bare,Un.kept hk,#[_,x.toInCall.ns,λi y v C l R=>?_],λy c h=>#[_,x.cell y c h],o.hok.fresh (QU _),λy c h=>?_,λp W=>eN (show p∈([]:FB) from W) (by simp),o.hok.kept hk,?_]
 exact name_of_addr x.apart (qJ C) (qJ l);have Y:g.names.lookup y=jy .cell∨g.names.lookup y=jy .free:=Y;rcases Y with Y|Y;exact HS Y;exact eN rfl (S.nofree _ (qJ Y));exact QCn (x.above y c (qJ h));have B:i<vs.length:=by unfold GE at l;by_cases B:i<vs.length;exact B;rw[Q5 (by simpa using B)]at l;rw[wT]at l;split at l<;>cases l
 have O:vs[i]?=jy v:=by
  unfold GE at l;rw[Q9 (by simpa using B),Qj]at l;cases e:vs[i]? with|none=>rw[e]at l;cases l|some a=>rw[e]at l;cases l;rfl
 let#[u,I,L]:=r.get O;have W:ps[i]?=jy y:=by rw[<- S.pre,List.getElem?_take_of_lt ()];exact C
 have Z:ps.Nodup:=by rw[<- S.pre];exact S.nd.sublist (List.take_sublist _ _)
 refine#[u,L,?_];rcases S.par y (qm W) with k|k;exact .inl #[k,bP Z W I k];let#[c,e]:=HS (n:=s.1.1.size+1) k;refine .inr #[.inl k,c,e,?_];have q:=x.cell y c e;rw[dP Z W I (by show g.names.lookup y≠_;rw[k];decide)]at q;exact q;exact o.hok.fresh (QCn (x.above y c (qJ h)));unfold GE;show _=N.length;rw[QL,QG,Q7];omega
theorem Ve{C:AT}{P:Kz}{w:kl}{K:QC}{B:Str->Option j0}{i:kt}{k:Nat}{f:j2}{name z:Str}{g:Arguments}{body:List vl}{h:Xz}{dV kV Z pm a ct oc:j0}{an od:Option j2}
  {M:Array (Option j0)}{N ps:LS}{F:Sp}(lk:K.lookup f=jy #[oc,od,.func (qP name z g body h dV kV Z pm an a ct),M]) (hcd:WX K a z=jb) (S:FnScope N ps h)
  (len:∀vs H Q E,F vs H Q E->vs.length=ps.length)
  (m:∀(A:Vy) (outer:List Env) (s:j3) (H:Hp) (vs:LV) (Q:VK) (E:XK),Room k (A.deeper (envOfC z h s.1.1.size f a))->F vs H Q E ->
   ∃t,OZ (nK C P w K B i N z h f a A outer s H E) body t/\t { nx:=λ_ H'=>Q .non H',rt:=Q } (GE N vs) H) :
  FnOk P w K B i C (k+1) f (qP name z g body h dV kV Z pm an a ct) ps F:=by
 refine#[len,λA outer s H args us vs Q E R Y hb r X=>?_];have hl:=len _ _ _ _ X;have KX:K.In s.heap:=Y.mod.kin.keeps λb o e=>(Y.bs b o e).1;have O:s.1.NoLimit:=Y.mod.nolimit.keeps λb o e=>(Y.bs b o e).1;have l:∀y∈ps.zip us,h.names.lookup y.1=jy .local∨(h.names.lookup y.1=jy .cell/\((c5 (s.1.1.size+1) h.names []).lookup y.1).isSome=jb):=λ#[n,v] hy=>by rcases S.par n (QAW hy).1 with q|q;exact .inl q;exact .inr #[q,QBN _ _ _ (.inl q)]
 refine codeAny_call_function R.depth (KX _ _ lk) rfl S.co S.gen rfl (PySem.W.codeRec_of KX hcd) (hb _ _ _ _ ?_);refine wpAny_newFunctionEnv_cells S.kind l λenv he s1 x=>?_;subst he;refine#[O.keeps x.toInCall.keep,codeAny_func ?_];let#[t,ht,hq]:=m A outer s H vs Q E (R.deeper _) X;have I:Inv (nK C P w K B i N z h f a A outer s H E) [] (GE N vs) H s1:=vZ S R.hd Y hl r x;refine qL (ht [] s1 (GE N vs) H _ I hq) (λfl G p=>?_) λe G p=>p;have fin:∀{j:St}{H':Hp}{v:V}{u:j0},Inv (nK C P w K B i N z h f a A outer s H E) [] j H' G->aA v u->Q v H'->CE outer P w H s Q u G :=
  λ{j H' v u} J L q=>#[v,H',J.os,J.bare,J.base,J.hok,L,q]
 cases fl with|ret u=>let#[v,j,H',J,L,q]:=p;exact fin J L q|next=>let#[j,H',J,q]:=p;exact fin (v:=V.non) (u:=Jz) J rfl q|brk=>let#[_,_,_,q]:=p;exact QT q|cont=>let#[_,_,_,q]:=p;exact QT q
section
variable{X:Cx}{x:Str}{p pos:Pos}{e:Expr}{y:List Expr}{t:TA}{id T:String}{r:LV->Hp->VK->Prop}
noncomputable def Cu(r:LV->Hp->VK->Prop)(t:TA):TE:=λh H Q=>t h H λvs z=>r vs z Q
theorem zJ(hc:YC X (.builtin id) r)(n:Gl X x)(m:X.mg x=jz)(hv:vb x=jy (.builtin id))(q:PA X (e::y) t)(l:autoParam (x≠"__name__") zzd._auto_1)(a:autoParam ((x==("__debug__":Str))=false) zzd._auto_1)
  (o:autoParam (ka (e::y) X.env=(js,vu e X.env)::ka y X.env) zzr._auto_1) (u:autoParam ((x2 pos (ka y X.env)).any (·.1)=false) zzr._auto_1):PE X (.Call (.Name x p) (e::y) [] pos) (Cu r t):=by
 intro z s b H Q I h;refine wG (AF I n m hv ?_ l a);exact W6 (EA (q pos z s b H _ I h) λf g #[vs,Z,Y,i,j]=>hc z g b Z vs f Q Y i j) o u
theorem iY(hc:YC X (.type T) r)(n:Gl X x)(m:X.mg x=jz)(hv:vb x=jy (.type T))(q:PA X (e::y) t)(l:autoParam (x≠"__name__") zzd._auto_1)(a:autoParam ((x==("__debug__":Str))=false) zzd._auto_1)
  (o:autoParam (ka (e::y) X.env=(js,vu e X.env)::ka y X.env) zzr._auto_1) (u:autoParam ((x2 pos (ka y X.env)).any (·.1)=false) zzr._auto_1):PE X (.Call (.Name x p) (e::y) [] pos) (Cu r t):=by
 intro z s b H Q I h;refine wG (AF I n m hv ?_ l a);exact wZ (EA (q pos z s b H _ I h) λf g #[vs,Z,Y,i,j]=>hc z g b Z vs f Q Y i j) o u
end
end L2
namespace HT
open PySem PyProof.Rows
section
open PySem.SeqAt
open PySem.AutoSeq1 (wpAny_loadPart')
open PySem.MeetsSeq PySem.MeetsSeq2 PySem.MeetsSeq3
end
section
variable{prog:Kz}{w:kl}{A:Vy}{E:NB}{s:j3}
theorem cat_tup{t b:j2}{vs ws:LW}{Q:NB}(o:IsTup s.1 t vs.toArray)(p:IsTup s.1 b ws.toArray)(hv:vs≠[])
  (r:ws=[]->Q (.ref t) s) (q:ws≠[]->Q (.ref s.1.1.size) { s with heap:=s.1.push { cls:=.type "tuple",data:=.seq (vs++ws).toArray } })
  (hsz:vs.length+ws.length<=j1):Kx (Ky prog w) A (v5 .Add (.ref t) (.ref b)) Q E s:=by
 let#[#[cls,l,data,i],f,hc,n,hd]:=id o;let#[#[m,u,g,x],h,z,j,y]:=id p;simp only at hc hd z y;subst hc hd z y;have e:vs.toArray++ws.toArray=(vs++ws).toArray:=by simp
 by_cases a:ws=[];exact QCr #[_,f,rfl] #[_,h,rfl] QC0 By QBO QBC (QAz _ _)
  (tuple_addW1 t b vs.toArray ws.toArray n j l u i x (by simpa using hv) (by simp[a])) #[f,h,r a]
 refine QCr #[_,f,rfl] #[_,h,rfl] QC0 By QBO QBC (QAz _ _)
  (tuple_addW2 t b vs.toArray ws.toArray n j l u i x (by simpa using hv) (by simpa using a) (by rw[QM,QM];exact hsz)) #[f,h,?_]
 rw[e];exact q a
noncomputable def sIx(n d:Nat):Option Int->Nat
 |none=>d|some v=>if v<0 then(v+(n:Int)).toNat else min v.toNat n
theorem Ah(n d:Nat)(hd:d<=n)(o:Option Int):sIx n d o<=n:=by
 cases o with|none=>exact hd|some v=>show(if v<0 then(v+(n:Int)).toNat else min v.toNat n)<=n;by_cases hv:v<0;rw[ef hv];omega;rw[eH hv];exact Nat.min_le_right _ _
theorem FX(v:Int)(n d:Nat):(if v<0 then max (v+(n:Int)) 0 else min v (n:Int))=((sIx n d (jy v):Nat):Int):=by show(if v<0 then max (v+(n:Int)) 0 else min v (n:Int))=(((if v<0 then(v+(n:Int)).toNat else min v.toNat n):Nat):Int);by_cases hv:v<0;simp only[ef hv];omega;simp only[eH hv];omega
theorem IV(h x:Option Int)(n:Nat):Wa h x 1 (n:Int)=(((sIx n 0 h:Nat):Int),((sIx n n x:Nat):Int)):=by
 have y:¬ ((1:Int)<0):=()
 unfold Wa;simp only[y,if_false];refine Prod.ext ?_ ?_;cases h with|none=>rfl|some v=>exact FX v n 0
 cases x with|none=>rfl|some v=>exact FX v n n
theorem aU(i j:Nat):wk (i:Int) (j:Int) 1=j - i:=by
 unfold wk;have h:(1:Int) > 0:=()
 simp only[h,if_true,Int.ediv_one];split<;>omega
theorem RL{v:j0}{o:Option Int}{Q:Option Int->j3->Prop}(p:ge v o)(h:Q o s):Kx (Ky prog w) A (Builtin.Slice.slicePartIndex v) Q E s:=by
 cases p with|none=>exact slicePart_none h|int i t=>exact slicePart_int h
theorem sliceApplied_gen{f:j2}{e b:j0}{y u:Option Int}{n:Nat}{Q:Int×Int×Nat->j3->Prop}(i:s.1.IsSliceOf f e b .none)(pl:ge e y)(g:ge b u)
  (h:Q (((sIx n 0 y:Nat):Int),1,sIx n n u - sIx n 0 y) s):Kx (Ky prog w) A (QAd (.ref f) (ez (n:Int))) Q E s:=by
 let#[os,z,j,a]:=id i;unfold QAd Builtin.Slice.sliceFields;refine QE (QE (qA z a (x:=e) rfl (QE (qA z a (x:=b) rfl (QE (qA z a (x:=.none) rfl (QS ?_)))))));refine QE (slicePart_none ?_);show Kx _ _ (if((1:Int)==0)=jb then _ else _) _ _ s;rw[eH (by decide)];refine QE (RL pl (QE (RL g (QE (QS ?_)))));show Kx _ _ (match Wa y u 1 (n:Int) with | (y,u)=>ez (y,(1:Int),wk y u 1)) _ _ s;rw[IV y u n];show Kx _ _ (ez (((sIx n 0 y:Nat):Int),(1:Int),wk ((sIx n 0 y:Nat):Int) ((sIx n n u:Nat):Int) 1)) _ _ s;rw[aU];exact QS h
theorem l4(xs:Array j0)(i k:Nat):((Qe k).filterMap λ(m:Nat)=>xs[((i:Int)+(m:Int) * 1).toNat]?).toArray=((xs.toList.drop i).take k).toArray:=by
 have e:(λ(m:Nat)=>xs[((i:Int)+(m:Int) * 1).toNat]?)=λm=>xs[i+m]?:=by
  funext m;have:((i:Int)+(m:Int) * 1).toNat=i+m:=()
  rw[this]
 rw[e];have:=pick_run xs i k;rw[Qr]at this;have h:((λx=>xs[x]?)∘λx=>i+x)=λm=>xs[i+m]?:=rfl;rw[h]at this;rw[this]
theorem getItem_tuple_cut{t b:j2}{x:Array j0}{l j:j0}{z u:Option Int}{Q:NB}(a:IsTup s.1 t x)(n:s.1.IsSliceOf b l j .none)(pl:ge l z)(o:ge j u)
  (p:¬ (sIx x.size 0 z=0/\sIx x.size x.size u=x.size))
  (h:Q (.ref s.1.1.size) { s with heap:=s.1.push { cls:=.type "tuple",data:=.seq ((x.toList.drop (sIx x.size 0 z)).take (sIx x.size x.size u - sIx x.size 0 z)).toArray } })
  (hsz:x.size<=j1):Kx (Ky prog w) A (Gx (.ref t) (.ref b)) Q E s:=by
 have y:sizeOk (.seq ((x.toList.drop (sIx x.size 0 z)).take (sIx x.size x.size u - sIx x.size 0 z)).toArray):=by show((x.toList.drop (sIx x.size 0 z)).take (sIx x.size x.size u - sIx x.size 0 z)).toArray.size<=j1;rw[QM,wN,qW,Q4];omega
 have Z:sIx x.size x.size u<=x.size:=Ah _ _ (QU _) u;let#[os,e,g,r]:=id n;have i:s.TypeIs (.ref b) "slice":=#[os,e,g]
 unfold Gx
 try with_reducible refine qX ?_
 first|refine QE (QS ?_)|skip
 refine QE (QCT a.typeIs (by decide) ?_);refine QE (qj (name:=QA "__getitem__") a.typeIs wo
  (w8 wo a.typeIs QBl ?_ (QCA _ _)))
 show Kx _ _ (QAe (.ref t) >>= _) _ _ s;refine QE (tupleItemsOf_ a ?_);refine QE (QCs i ?_);rw[ef (by decide)];refine QE (sliceApplied_gen n pl o ?_);have f:¬ ((((sIx x.size 0 z:Nat):Int)==0&&(1:Int)==1&&(sIx x.size x.size u - sIx x.size 0 z)==x.size)=jb):=by intro q;rw[QX,QX]at q;have Y:((sIx x.size 0 z:Nat):Int)=0:=Qi q.1.1;have X:sIx x.size x.size u - sIx x.size 0 z=x.size:=Qi q.2;exact p #[(),()]
 show Kx _ _ (if(((sIx x.size 0 z:Nat):Int)==0&&(1:Int)==1&&(sIx x.size x.size u - sIx x.size 0 z)==x.size)=jb then _ else _) _ _ s;rw[eH f,l4];first
  |exact QE (m:=wq _) (qt (QS #[_,rfl,QS h]) y)
  |exact QE (m:=wq _) (qt (QE (QS (QS #[_,rfl,QS h]))) y)
  |exact QE (QE (m:=wq _) (qt (QS (QS #[_,rfl,QS h])) y))
  |exact QE (QE (m:=wq _) (qt (QS #[_,rfl,QS h]) y))
end
end HT
namespace L2
open PySem PySem.Spec PyProof.Rows
noncomputable abbrev TO:=St->Hp->(Option Int->Hp->Prop)->Prop
def PO(X:Cx)(e:Option Expr)(t:TO):Prop :=
 ∀(h:FB) (s:j3) (x:St) (H:Hp) (Q:Option Int->Hp->Prop),Inv X h x H s->t x H Q ->
  Kx (Ky X.prog X.w) X.A (evalPart e X.env) (λu z=>∃o y,Inv X h x y z/\ge u o/\Q o y) X.xe s
noncomputable def g9:TO:=λ_ H Q=>Q jz H
noncomputable def Jm(t:TE):TO:=λh H Q=>t h H λx y=>∃i,x=.int i/\Q (jy i) y
section
variable{X:Cx}{e:Expr}{te:TE}{k c:Option Expr}{d f:TO}{pos p2:Pos}
theorem xa:PO X jz g9:=by intro x s y H Q I h;rw[Bz];exact QS #[jz,H,I,.none,h]
theorem ya(h:PE X e te):PO X (jy e) (Jm te):=by intro y s z H Q I g;rw[evalPart_some];refine EA (h y s z H _ I g) λu m #[x,l,j,a,b]=>?_;let#[i,rfl,q]:=b;let#[t,rfl]:=a;exact#[jy i,l,j,.int i t,q]
def Ac(X:Cx)(r:V->Option Int->Option Int->Hp->VK->Prop):Prop :=
 ∀(h:FB) (s:j3) (y:St) (H:Hp) (x:V) (v u z:j0) (k c:Option Int) (a:j2) (Q:VK),Inv X h y H s->aA x v->s.1.IsSliceOf a u z .none->ge u k->ge z c->r x k c H Q ->
  ∃T id,fb (.type T) "__getitem__"=ez (jy (.builtin id))/\s.TypeIs v T/\Kx (Ky X.prog X.w) X.A (Gx v (.ref a)) (EP X h y Q) X.xe s
theorem Ac.or{r r':V->Option Int->Option Int->Hp->VK->Prop}(h:Ac X r)(h':Ac X r'):Ac X (λx k c H Q=>r x k c H Q∨r' x k c H Q):=by intro y s z H x v a u k c b Q I g l j i q;rcases q with q|q;exact h y s z H x v a u k c b Q I g l j i q;exact h' y s z H x v a u k c b Q I g l j i q
noncomputable def Jw(r:V->Option Int->Option Int->Hp->VK->Prop)(te:TE)(d f:TO):TE:=λh H Q=>te h H λx a=>d h a λl z=>f h z λu y=>r x l u y Q
theorem K4{r:V->Option Int->Option Int->Hp->VK->Prop}(E:Ac X r)(G:PE X e te)(hl:PO X k d)(B:PO X c f):PE X (.Subscript e (.Slice k c jz p2) pos) (Jw r te d f):=by intro y s a H Q I h;refine QDc (EA (G y s a H _ I h) λv n #[x,R,O,o,Z]=>?_);refine wpAny_Slice (EA (hl y n a R _ O Z) λi m #[l,P,N,K,Y]=>EA (B y m a P _ N Y) λg z #[u,j,M,W,p]=>?_);rw[Bz];refine QS ?_;have L:Inv X y a j { z with heap:=z.1.push { cls:=.type "slice",data:=.fields (List.toArray [i,g,.none]) } }:=M.kept (t':=z.toks) λb S q=>QF _ q;let#[T,id,J,C,F]:=E y { z with heap:=z.1.push { cls:=.type "slice",data:=.fields (List.toArray [i,g,.none]) } } a j x v i g l u z.1.1.size Q L o (Heap.IsSliceOf.new ..) K W p;show Kx (Ky X.prog X.w) X.A (subscriptTail e (.Slice k c jz p2) v (.ref z.1.1.size)) (EP X y a Q) X.xe { z with heap:=z.1.push { cls:=.type "slice",data:=.fields (List.toArray [i,g,.none]) } };exact tail_any (ops:=[.ref z.1.1.size,v]) C J F (by with_unfolding_all rfl)
noncomputable def US(xs:LV)(k c:Option Int):LV:=(xs.drop (HT.sIx xs.length 0 k)).take (HT.sIx xs.length xs.length c - HT.sIx xs.length 0 k)
theorem OK(xs:LV)(k c:Option Int):(US xs k c).length<=xs.length:=by unfold US;rw[wN,qW];omega
noncomputable def yn(K:QC):V->Option Int->Option Int->Hp->VK->Prop:=λx k c H Q=>∃a h,x=.ref a/\oE K H a h /\
 ¬ (HT.sIx h.length 0 k=0/\HT.sIx h.length h.length c=h.length)/\∀p,H p=jz->Q (.ref p) (VA H p (.tup (US h k c)))
theorem Lh:Ac X (yn X.K):=by
 intro g s W H x v B A k c C Q I l Z n m h;let#[a,z,rfl,p,Y,q]:=h;cases l;let#[u,r,j,i]:=I.tuple p;have y:u.toArray.size=z.length:=by rw[QM];exact r.length.symm
 refine#["tuple",_,wo.lookup,j.typeIs,?_];refine HT.getItem_tuple_cut j Z n m (by rw[y];exact Y) ?_ (by rw[y];exact i);rw[y];refine#[.ref s.1.1.size,_,I.laid (t':=s.toks) (o:=.tup (US z k c)) (λb E q=>QF _ q) (QU _) ?_,rfl,q _ (I.hok.fresh (QU _))];exact#[qZ (OK z k c) i,_,(r.drop (HT.sIx z.length 0 k)).take (HT.sIx z.length z.length c - HT.sIx z.length 0 k),QDI _ _]
noncomputable def Sd(K:QC):R2:=λx y H Q=>∃a b z h,x=.ref a/\y=.ref b/\oE K H a z/\oE K H b h/\z≠[]/\z.length+h.length<=j1 /\
 (h=[]->Q (.ref a) H)/\(h≠[]->∀p,H p=jz->Q (.ref p) (VA H p (.tup (z++h))))
theorem iA.nil_iff{xs:LV}{us:LW}(r:iA xs us):us=[]↔xs=[]:=by
 cases r with|nil=>simp|cons _ _=>simp
theorem Sa:pE X (v5 .Add) (Sd X.K):=by intro j s G H x y v u Q I Y r h;let#[a,b,p,n,rfl,rfl,F,E,C,m,W,Z]:=h;cases Y;cases r;let#[B,i,A,_]:=I.tuple F;let#[l,g,p2,_]:=I.tuple E;refine HT.cat_tup A p2 (λz=>C (i.nil_iff.mp z)) (λz=>#[.ref a,H,I,rfl,W (g.nil_iff.mp z)]) (λz=>?_) (by rw[<- i.length,<- g.length];exact m);refine#[.ref s.1.1.size,_,I.laid (t':=s.toks) (o:=.tup (p++n)) (λb J q=>QF _ q) (QU _) ?_,rfl,Z (λw=>z (g.nil_iff.mpr w)) _ (I.hok.fresh (QU _))];exact#[by rw[QL];exact m,_,i.append g,QDI _ _]
end
noncomputable def F6(n:Nat)(i:Int):Option Nat:=if 0<=i then(if i<n then jy i.toNat else jz) else if -(n:Int)<=i then jy (i+n).toNat else jz
noncomputable def zC{α:Type}(xs:List α)(i:Int):Option α:=(F6 xs.length i).bind λj=>xs[j]?
theorem uX{n:Nat}{i:Int}{j:Nat}(h:F6 n i=jy j):seqIndex? i n=jy j/\j<n/\-(n:Int)<=i/\i<n:=by unfold F6 at h;by_cases y:0<=i;rw[ef y]at h;by_cases x:i<n;rw[ef x]at h;have e:i.toNat=j:=QY h;exact#[by rw[QDJ y x,e],(),(),x];rw[eH x]at h;cases h;rw[eH y]at h;by_cases x:-(n:Int)<=i;rw[ef x]at h;have e:(i+n).toNat=j:=QY h;exact#[by rw[QCt () x,e],(),x,()];rw[eH x]at h;cases h
theorem bR{α:Type}{xs:List α}{i:Int}{v:α}(h:zC xs i=jy v):∃j,seqIndex? i xs.length=jy j/\xs[j]?=jy v/\j<xs.length/\-(xs.length:Int)<=i/\i<xs.length:=by
 unfold zC at h;cases e:F6 xs.length i with|none=>rw[e]at h;cases h|some j=>rw[e]at h;let#[u,z,y,x]:=uX e;exact#[j,u,h,z,y,x]
theorem NA{α:Type}{xs:List α}{j:Nat}{v:α}(h:xs[j]?=jy v):zC xs (j:Int)=jy v:=by
 have x:j<xs.length:=(Qa.mp h).1;have e:F6 xs.length (j:Int)=jy j:=by unfold F6;rw[ef (),ef ()];simp
 unfold zC;rw[e];exact h
def MX(b:Expr):Prop:=∀o i,Hy b js o i=operate [o,i] (Gx o i)
def O8(X:Cx)(r:R2):Prop :=
 ∀(a h:Expr) (z:FB) (s:j3) (b:St) (H:Hp) (x y:V) (v u:j0) (Q:VK),Inv X z b H s->aA x v->aA y u->r x y H Q ->
  Hy h js v u=operate [v,u] (Gx v u)->Kx (Ky X.prog X.w) X.A (subscriptTail a h v u) (EP X z b Q) X.xe s
def EZ(X:Cx)(id:String)(r:V->LV->Hp->VK->Prop):Prop :=
 ∀(h:FB) (s:j3) (y:St) (H:Hp) (x:V) (z:LV) (v:j0) (u:LW) (Q:VK),Inv X h y H s->aA x v->iA z u->r x z H Q ->
  Kx (Ky X.prog X.w) X.A (gy (.builtin id) (v::u)) (EP X h y Q) X.xe s
section
variable{X:Cx}{a b:Expr}{ta m:TE}{pos:Pos}
theorem O8.or{r r':R2}(h:O8 X r)(h':O8 X r'):O8 X (λx y H Q=>r x y H Q∨r' x y H Q):=by intro z e f s g H x y v u Q I j i q l;rcases q with q|q;exact h z e f s g H x y v u Q I j i q l;exact h' z e f s g H x y v u Q I j i q l
theorem EZ.or{id:String}{r r':V->LV->Hp->VK->Prop}(h:EZ X id r)(h':EZ X id r'):EZ X id (λx xs H Q=>r x xs H Q∨r' x xs H Q):=by intro y s z H x xs v u Q I e f q;rcases q with q|q;exact h y s z H x xs v u Q I e f q;exact h' y s z H x xs v u Q I e f q
theorem je{r:R2}(l:O8 X r)(o:PE X a ta)(n:PE X b m)(j:MX b):PE X (.Subscript a b pos) (Ym r ta m):=by intro z s e H Q I h;exact QDc (binT o n I h λv u f x y Y p i g q=>l a b z f e Y x y v u Q p i g q (j _ _))
noncomputable def Zn(K:QC):R2:=λx y H Q=>∃p h i v,x=.ref p/\y=.int i/\YD K H p h/\zC h i=jy v/\Q v H
noncomputable def Jn(K:QC):R2:=λx y H Q=>∃p h i v,x=.ref p/\y=.int i/\oE K H p h/\zC h i=jy v/\Q v H
noncomputable def Yn:R2:=λx y H Q=>∃z i c,x=.str z/\y=.int i/\z.length<=j1/\zC z.cps.toList i=jy c/\Q (.str #[(List.toArray [c])]) H
theorem Ab:O8 X (Zn X.K):=by
 intro g l e s W H x y v u Q I G F h A;let#[p,P,i,z,rfl,rfl,J,L,q]:=h;cases G;let#[t,rfl]:=F;let#[Y,r,o,R]:=I.list J;let#[j,f,O,h3,N,M]:=bR L;let#[w,C,n]:=r.get O;have hl:=r.length;have S:=uI;have fin:EP X e W Q w s:=#[z,H,I,n,q]
 by_cases B:0<=i;have Z:i.toNat=j:=by rw[QDJ B M]at f;exact QY f
 exact item_listR o.isList B () (by rw[Z];simpa using C) fin A;have Z:(i+(Y.toArray.size:Int)).toNat=j:=by rw[QCt () N]at f;rw[QM,<- hl];exact QY f
 exact Wv (x:=w) o.isList.typeIs QCU.lookup
  (wpAny_getItem_list_neg (Q:=λr E=>r=w/\EP X e W Q r E) o.isList () (by rw[QM]<;>omega) () (by rw[Z];simpa using C) #[rfl,fin]) A
theorem Lj:O8 X (Jn X.K):=by
 intro f g e s n H x y v u Q I W Z h B;let#[p,L,i,z,rfl,rfl,C,E,q]:=h;cases W;let#[t,rfl]:=Z;let#[A,r,o,M]:=I.tuple C;let#[j,G,F,R,P,O]:=bR E;let#[w,J,l]:=r.get F;have hl:=r.length;have N:=uI;have fin:EP X e n Q w s:=#[z,H,I,l,q]
 exact Wv (x:=w) o.typeIs Wn.lookup
  (getItem_tuple (j:=j) (Q:=λr Y=>r=w/\EP X e n Q r Y) o () () (by rw[QM,<- hl];exact G) (by simpa using J) #[rfl,fin]) B
theorem Mj:O8 X Yn:=by
 intro e f g s B H x y v u Q I o n h p;let#[z,i,c,rfl,rfl,E,r,q]:=h;let#[t,rfl]:=o;let#[C,rfl]:=n;let#[j,l,W,G,Z,Y]:=bR r;have hl:z.cps.toList.length=z.length:=by simp[QCV]
 rw[hl]at l Z Y;have F:=uI;exact tail_any (QA0 s z t) slot_str_getitem.lookup (getItem_str (c:=c) (by have A:decide (i < -(2 ^ 63:Int))=false:=dF ();have K:decide (i ≥ 2 ^ 63)=false:=dF ();rw[A,K,QA9]) (by rw[l];simpa using W) #[.str #[(List.toArray [c])],H,I.tok _,#[_,rfl],q]) p
noncomputable def Uw(K:QC):R2:=λx y H Q=>Zn K x y H Q∨Jn K x y H Q∨Yn x y H Q
theorem Nj:O8 X (Uw X.K):=Ab.or (Lj.or Mj)
theorem zV(its:LW)(n j:Nat)(u:j0):QBc (·.setIfInBounds j u) { cls:=.type "list",data:=.seq its.toArray n }={ cls:=.type "list",data:=.seq (its.set j u).toArray n }:=by simp[QBc]
theorem Inv.lst{x:FB}{σ:St}{H:Hp}{s:j3}{p:j2}{xs:LV}(I:Inv X x σ H s)(h:H p=jy (.lst xs)) :
  ∃(its:LW) (n:Nat),iA xs its/\s.1.get? p=jy { cls:=.type "list",data:=.seq its.toArray n }/\xs.length<=sizeLine:=by
 let#[z,its,n,r,e]:=I.hok p _ h;exact#[its,n,r,e,z]
theorem Inv.lstUpd{y:FB}{σ:St}{H:Hp}{s:j3}{p:j2}{xs ys:LV}{its its':LW}{n z:Nat}{f:Obj->Obj}(I:Inv X y σ H s)(h:H p=jy (.lst xs))
  (j:s.1.get? p=jy { cls:=.type "list",data:=.seq its.toArray n }) (g:f { cls:=.type "list",data:=.seq its.toArray n }={ cls:=.type "list",data:=.seq its'.toArray z }) (r:iA ys its') (i:ys.length<=j1) (t:Nat) :
  Inv X y σ (VA H p (.lst ys)) { s with heap:=s.1.update p f,toks:=t }:=by
 have e:(s.1.update p f).get? p=jy { cls:=.type "list",data:=.seq its'.toArray z }:=by rw[wD f j (by rw[g]<;>rfl),g]
 refine I.write (x:=p) (e:=p) (by rw[h];trivial) (.inl rfl) (λb u l q=>(qR _ _ (Qw l)).trans q) #[_,e] ?_;exact#[i,its',z,r,e]
noncomputable def XW:V->V->V->Hp->(Hp->Prop)->Prop:=λo i v H Q=>∃p h k j,o=.ref p/\i=.int k/\H p=jy (.lst h)/\F6 h.length k=jy j/\Q (VA H p (.lst (h.set j v)))
theorem V2:Kq X XW:=by
 intro x s K H o i v J L u Q I C E B h;let#[p,A,k,j,rfl,rfl,f,G,q]:=h;cases C;let#[t,rfl]:=E;let#[y,n,r,e,F]:=I.lst f;let#[z,N,l,g]:=uX G;have hl:=r.length;have M:=uI;have Z:Inv X x K (VA H p (.lst (A.set j v))) { s with heap:=s.1.update p (QBc (·.setIfInBounds j u)) } :=
  I.lstUpd f e (zV y n j u) (r.set B j) (by rw[wr];exact F) s.toks
 by_cases Y:0<=k;have hk:k.toNat=j:=by rw[QDJ Y g]at z;exact QY z
 exact PySem.W.ki_setAt e Y () (by rw[QM,<- hl];exact g) (by rw[hk];exact#[_,Z,q]);have hk:(k+(y.toArray.size:Int)).toNat=j:=by rw[QCt () l]at z;rw[QM,<- hl];exact QY z
 exact PySem.W.ki_setBack e () (by rw[QM,<- hl];exact l) () (by rw[hk];exact#[_,Z,q])
theorem HP(x y:Option Int)(n:Nat):(zx x y jz n).1=((HT.sIx n 0 x:Nat):Int)/\(zx x y jz n).2.1=((HT.sIx n n y:Nat):Int)/\(zx x y jz n).2.2=1:=by
 refine#[?_,?_,rfl];cases x with|none=>simp[zx,HT.sIx]|some i=>simp only[zx,HT.sIx,QC1,show(1:Int) > 0 by decide,if_true];by_cases h:i<0;simp only[h,if_true]<;>omega;simp only[h,if_false]<;>omega
 cases y with|none=>simp[zx,HT.sIx]|some i=>simp only[zx,HT.sIx,QC1,show(1:Int) > 0 by decide,if_true];by_cases h:i<0;simp only[h,if_true]<;>omega;simp only[h,if_false]<;>omega
theorem GN(its:LW)(h x:Option Int):slicePick its.toArray h x jz=((its.drop (HT.sIx its.length 0 h)).take (HT.sIx its.length its.length x - HT.sIx its.length 0 h)).toArray:=by let#[u,z,y]:=HP h x its.toArray.size;unfold slicePick;rw[u,z,y];simp only[sliceRange_one,pick_run,QM]<;>rfl
noncomputable def zn(K:QC):V->Option Int->Option Int->Hp->VK->Prop:=λx y z H Q=>∃a h,x=.ref a/\YD K H a h/\∀p,H p=jz->Q (.ref p) (VA H p (.lst (US h y z)))
theorem i9:Ac X (zn X.K):=by intro f s W H x v B A u e C Q I i Z l j h;let#[a,y,rfl,Y,q]:=h;cases i;let#[n,r,g,p]:=I.list Y;have z:=r.length;refine#["list",_,QCU.lookup,g.isList.typeIs,?_];refine wpAny_getItem_list_slice g.isList Z l j .none (by simp) ?_ (by rw[QM]<;>omega);rw[GN,<- z];refine#[.ref s.1.1.size,_,I.laid (t':=s.toks) (o:=.lst (US y u e)) (λb E q=>QF _ q) (QU _) ?_,rfl,q _ (I.hok.fresh (QU _))];exact#[qZ (OK y u e) p,_,0,(r.drop (HT.sIx y.length 0 u)).take (HT.sIx y.length y.length e - HT.sIx y.length 0 u),QV _ rfl]
noncomputable def MH:V->Bool
 | .non=>jb|.bl _=>jb|.int _=>jb|.str _=>jb|_=>js
noncomputable def z9:V->V->Bool
 | .non,.non=>jb|.bl a,.bl b=>a==b|.bl a,.int b=>(if a then 1 else 0)==b|.int a,.bl b=>a==(if b then 1 else 0)|.int a,.int b=>a==b|.str a,.str b=>a==b|_,_=>js
theorem fk{A:Vy}{s:j3}{y x:V}{u v:j0}(e:aA y u)(h:aA x v)(f:MH y=jb)(fx:MH x=jb):qu A s u v (z9 y x):=by
 cases y with
 |non =>
  cases e;cases x with|non=>cases h;exact qu.same _|bl b=>cases h;exact qu.none_bool b|int b=>let#[t,rfl]:=h;exact qu.none_int b t|str b=>let#[t,rfl]:=h;exact qu.none_str b t|_=>exact eN (show js=jb from fx) QD
 |bl a =>
  cases e;cases x with|non=>cases h;exact qu.bool_none a|bl b=>cases h;exact qu.bool_bool a b|int b=>let#[t,rfl]:=h;exact qu.bool_int a b t|str b=>let#[t,rfl]:=h;exact qu.bool_str a b t|_=>exact eN (show js=jb from fx) QD
 |int a =>
  let#[z,rfl]:=e;cases x with|non=>cases h;exact qu.int_none a z|bl b=>cases h;exact qu.int_bool a z b|int b=>let#[t,rfl]:=h;exact qu.int_int a z b t|str b=>let#[t,rfl]:=h;exact QB5 a z b t|_=>exact eN (show js=jb from fx) QD
 |str a =>
  let#[z,rfl]:=e;cases x with|non=>cases h;exact qu.str_none a z|bl b=>cases h;exact qu.str_bool a z b|int b=>let#[t,rfl]:=h;exact QB6 a z b t|str b=>let#[t,rfl]:=h;exact qu.str_str a z b t|_=>exact eN (show js=jb from fx) QD
 |_=>exact eN (show js=jb from f) QD
noncomputable def YV(x:V)(u:j0):Bool:=match u with
 | .none=>z9 .non x|.bool b=>z9 (.bl b) x|.int i _=>z9 (.int i) x|.str z _=>z9 (.str z) x|_=>js
theorem V7{x y:V}{u:j0}(r:aA y u)(f:MH y=jb):YV x u=z9 y x:=by
 cases y with|non=>cases r;rfl|bl b=>cases r;rfl|int i=>let#[t,rfl]:=r;rfl|str z=>let#[t,rfl]:=r;rfl|_=>exact eN (show js=jb from f) QD
theorem VJ{x:V}:∀{xs:LV}{us:LW},iA xs us->xs.all MH=jb->us.any (YV x)=xs.any λy=>z9 y x
 |_,_,.nil,_=>rfl|y::xs,u::us,.cons r t,f=>by rw[Q8,QX]at f;rw[qB,qB,V7 r f.1,VJ t f.2]
theorem BG{A:Vy}{s:j3}{x:V}{v:j0}(z:aA x v)(fx:MH x=jb):∀{xs:LV}{us:LW},iA xs us->xs.all MH=jb->∀u∈us,qu A s u v (YV x u)
 |_,_,.nil,_=>λu h=>by cases h|y::xs,u::us,.cons r t,f=>λe h=>by rw[Q8,QX]at f;rcases QR.mp h with rfl|h;rw[V7 r f.1];exact fk r z f.1 fx;exact BG z fx t f.2 e h
noncomputable def inV(x:V)(xs:LV):Bool:=xs.any λy=>z9 y x
noncomputable def Ls(K:QC)(z:Bool):R2:=λx y H Q=>∃p h,y=.ref p/\(YD K H p h∨oE K H p h)/\MH x=jb/\h.all MH=jb/\Q (.bl (if z then !inV x h else inV x h)) H
theorem KY:pE X (Vx .In) (Ls X.K js):=by intro j s o H x y v u Q I i l h;let#[p,Y,rfl,e,fx,fs,q]:=h;cases l;rcases e with e|e;let#[z,r,f,n]:=I.list e;refine SeqAt.in_listAt (YV x) f.isList (λw g=>BG i fx r fs w (by simpa using g)) #[.bl _,H,I,rfl,?_];rw[show z.toArray.any (YV x)=z.any (YV x) by simp,VJ r fs];exact q;let#[z,r,f,n]:=I.tuple e;refine SeqAt.in_tupleAt (YV x) f (λw g=>BG i fx r fs w (by simpa using g)) #[.bl _,H,I,rfl,?_];rw[show z.toArray.any (YV x)=z.any (YV x) by simp,VJ r fs];exact q
theorem dQ:pE X (Vx .NotIn) (Ls X.K jb):=by intro j s o H x y v u Q I i l h;let#[p,Y,rfl,e,fx,fs,q]:=h;cases l;rcases e with e|e;let#[z,r,f,n]:=I.list e;refine SeqAt.notIn_listAt (YV x) f.isList (λw g=>BG i fx r fs w (by simpa using g)) #[.bl _,H,I,rfl,?_];rw[show z.toArray.any (YV x)=z.any (YV x) by simp,VJ r fs];exact q;let#[z,r,f,n]:=I.tuple e;refine SeqAt.notIn_tupleAt (YV x) f (λw g=>BG i fx r fs w (by simpa using g)) #[.bl _,H,I,rfl,?_];rw[show z.toArray.any (YV x)=z.any (YV x) by simp,VJ r fs];exact q
theorem eJ:YC X (.builtin "len") (λxs H Q=>∃p ys,xs=[.ref p]/\(YD X.K H p ys∨oE X.K H p ys)/\Q (.int ys.length) H):=by intro g s l H xs n Q I r h;let#[p,ys,rfl,y,q]:=h;let#[u,rfl,i]:=sF r;cases i;have o:=uI;rcases y with y|y;let#[f,z,e,j]:=I.list y;have x:=z.length;exact Calls.call_len_list e.isList (by simp only[QM]<;>omega) #[.int ys.length,H,I.tok _,#[s.toks+1,by rw[QM,x]],q];let#[f,z,e,j]:=I.tuple y;have x:=z.length;exact len_tuple e (by simp only[QM]<;>omega) #[.int ys.length,H,I.tok _,#[s.toks+1,by rw[QM,x]],q]
theorem zR:YC X (.builtin "len") (λxs H Q=>∃z,xs=[.str z]/\z.length<=j1/\Q (.int z.length) H):=by intro x s y H xs e Q I r h;let#[z,rfl,f,q]:=h;let#[u,rfl,t,rfl]:=sF r;have g:=uI;exact len_str () #[.int z.length,H,I.tok _,#[_,rfl],q]
theorem YC.or{f:j0}{r r':LV->Hp->VK->Prop}(h:YC X f r)(h':YC X f r'):YC X f (λxs H Q=>r xs H Q∨r' xs H Q):=by intro x s y H xs z Q I u q;rcases q with q|q;exact h x s y H xs z Q I u q;exact h' x s y H xs z Q I u q
theorem yR:YC X (.type "list") (λxs H Q=>∃p ys,xs=[.ref p]/\(YD X.K H p ys∨oE X.K H p ys)/\∀l,H l=jz->Q (.ref l) (VA H l (.lst ys))):=by
 intro g s C H xs F Q I r h;let#[p,ys,rfl,Y,q]:=h;let#[u,rfl,E]:=sF r;cases E;have fin:∀(x:LW),iA ys x->ys.length<=j1->∀(y:kt) (f:Nat),(∀b B,s.1.get? b=jy B->y.get? b=jy B) ->
   y.get? s.1.1.size=jy { cls:=.type "list",dict:=jz,data:=.seq x.toArray f,slots:=#[] }->EP X g C Q (.ref s.1.1.size) { s with heap:=y }:=λx z j y f i e =>
  #[.ref s.1.1.size,_,I.laid (t':=s.toks) i (QU _) (show LA X.prog X.w _ y _ (.lst ys) from#[j,x,f,z,e]),rfl,q _ (I.hok.fresh (QU _))]
 rcases Y with Y|Y;let#[x,z,W,j]:=I.list Y;have Z:=z.length;let#[o,A,hc,n,hd]:=W.isList;exact Bn p (.inl rfl) A hc hd (λy f i e=>fin x z j y f i e) (by simp only[QM]<;>omega);let#[x,z,W,j]:=I.tuple Y;have Z:=z.length;let#[o,A,hc,n,hd]:=W;exact Bn p (.inr rfl) A hc hd (λy f i e=>fin x z j y f i e) (by simp only[QM]<;>omega)
theorem zO:YC X (.type "tuple") (λxs H Q=>∃p ys,xs=[.ref p]/\((YD X.K H p ys/\∀l,H l=jz->Q (.ref l) (VA H l (.tup ys)))∨(oE X.K H p ys/\Q (.ref p) H))):=by
 intro x s j H xs C Q I r h;let#[p,ys,rfl,h]:=h;let#[u,rfl,W]:=sF r;cases W;rcases h with⟨i,q⟩| ⟨i,q⟩
 let#[y,f,g,n]:=I.list i;have Y:=f.length;refine call_tuple_list g.isList (λz A=>?_) (by simp only[QM]<;>omega);have Z:Inv X x j H { s with heap:=z }:=I.kept (t':=s.toks) A;have B:Inv X x j (VA H z.1.size (.tup ys)) { s with heap:=z.push { cls:=.type "tuple",data:=.seq y.toArray } } :=
  Z.laid (t':=s.toks) (λb o e=>QF _ e) (QU _) (show LA X.prog X.w _ _ _ (.tup ys) from#[n,y,f,QDI _ _])
 exact#[.ref z.1.size,_,B,rfl,q _ (Z.hok.fresh (QU _))];let#[y,f,g,n]:=I.tuple i;exact call_tuple_same g #[.ref p,H,I,rfl,q]
def SZ(K:QC)(T:String)(x:V)(H:Hp):Prop:=match x with
 | .str _=>T="str"|.int _=>T="int"|.ref p=>(T="list"/\∃y,YD K H p y)∨(T="tuple"/\∃o,K.lookup p=jy o/\o.cls=.type "tuple"/\o.dict=jz) ∨
   (T="dict"/\((∃h,H p=jy (.dK h))∨∃h,H p=jy (.dT h)))∨(T="set"/\∃S n,H p=jy (.set S n))
 |_=>False
theorem K1{y:FB}{σ:St}{H:Hp}{s:j3}{T:String}{x:V}{v:j0}(I:Inv X y σ H s)(r:aA x v)(ty:SZ X.K T x H) :
  s.TypeIs v T/\∀a,v=.ref a->∃j,s.1.get? a=jy j/\j.dict=none:=by
 cases x with
 |str z=>let#[t,rfl]:=r;cases(show T="str" from ty);exact#[QA0 s z t,λ_ e=>nomatch e]
 |int i=>let#[t,rfl]:=r;cases(show T="int" from ty);exact#[QBd s i t,λ_ e=>nomatch e]
 |ref p =>
  cases r;rcases ty with⟨rfl,Y,q⟩| ⟨rfl,o,hk,hc,hd⟩| ⟨rfl,hk⟩| ⟨rfl,S,n,hk⟩
  let#[l,_,g,_]:=I.list q;refine#[g.isList.typeIs,λa e=>?_];cases e;let#[o,n,e,c,hd,_]:=g;exact#[o,e,hd];refine#[#[o,I.kIn p o hk,hc],λa e=>?_];cases e;exact#[o,I.kIn _ o hk,hd];have z:∃o,s.1.get? p=jy o/\o.ExactDict:=by
   rcases hk with⟨u,hk⟩| ⟨u,hk⟩
   let#[_,_,_,_,o,_,_,e,h,_]:=I.hok p _ hk;exact#[o,e,h];let#[_,_,_,_,o,_,_,e,h,_]:=I.hok p _ hk;exact#[o,e,h]
  let#[o,e,h]:=z;refine#[#[o,e,h.1],λa f=>?_];cases f;exact#[o,e,h.2.1];let#[o,_,_,_,e,h,_]:=I.hok p _ hk;refine#[#[o,e,h.1],λa f=>?_];cases f;exact#[o,e,h.2.1]
 |_=>exact QT ty
noncomputable def Ar(K:QC)(T:String)(r:V->LV->Hp->VK->Prop)(d:TE):TE:=λy H Q=>d y H λx h=>SZ K T x h/\r x [] h Q
noncomputable def Kw(K:QC)(T:String)(r:V->LV->Hp->VK->Prop)(d:TE)(t:TA):TE:=λh H Q=>d h H λx y=>SZ K T x y/\t h y λz u=>r x z u Q
variable{o e:Expr}{g:List Expr}{d:TE}{t:TA}{name:Str}{apos cpos:Pos}{T id:String}{r:V->LV->Hp->VK->Prop}
theorem Hi(Y:d7 T)(f:Slot T name id)(i:Ez (.builtin id)=ez (.type "method_descriptor"))(W:EZ X id r)(Z:PE X o d)
  (u:autoParam (Yx o name X.env (vu o X.env)=vu o X.env) zzr._auto_1) (z:autoParam ((apos.endLine==cpos.line)=true) zzr._auto_1):PE X (.Call (.Attribute o name apos) [] [] cpos) (Ar X.K T r d):=by
 intro y s j H Q I h;refine wpAny_Call_method0_late u z (EA (Z y s j H _ I h) λv p #[x,C,n,l,ty,q]=>?_);let#[B,A]:=K1 n l ty;exact#[T,id,Y,f,i,B,A,WA rfl (PySem.evalArgs_none (W y p j C x [] v [] Q n l .nil q))]
theorem Nn(F:d7 T)(i:Slot T name id)(n:Ez (.builtin id)=ez (.type "method_descriptor"))(L:EZ X id r)(J:PE X o d)(M:PA X (e::g) t)
  (f:autoParam (Yx o name X.env (vu o X.env)=vu o X.env) zzr._auto_1)
  (j:autoParam (((x2 cpos (ka (e::g) X.env)).all (λx=>!x.1)&&(gz cpos (zy [] X.env)).all (λx=>x.1.isSome)
   && decide ((e::g).length+([]:List zz).length+(if([]:List zz).isEmpty then 0 else 1)<30))=true) zzr._auto_1)
  (u:autoParam ((apos.endLine==cpos.line)=true) zzr._auto_1) (G:autoParam (ka (e::g) X.env=(js,vu e X.env)::ka g X.env) zzr._auto_1) (z:autoParam ((x2 cpos (ka g X.env)).any (·.1)=false) zzr._auto_1) :
  PE X (.Call (.Attribute o name apos) (e::g) [] cpos) (Kw X.K T r d t):=by
 intro y s l H Q I h;refine Ww f j u rfl (EA (J y s l H _ I h) λv A #[x,S,Y,p,ty,E]=>?_);let#[O,N]:=K1 Y p ty;refine#[T,id,F,i,n,O,N,?_];have q:=M cpos y A l S _ Y E;rw[G]at q ⊢;refine WA (by show(js||(x2 cpos (ka g X.env)).any (·.1))=js;rw[z]<;>rfl) (QAF ?_);exact EA q λZ W #[vs,R,P,B,C]=>L y W l R x vs v Z Q P p B C
end
def Xv(X:Cx)(id:String)(r:V->LV->Hp->VK->Prop):Prop :=
 ∀(h:FB) (s:j3) (y:St) (H:Hp) (x:V) (z:LV) (v:j0) (u:LW) (Q:VK),Inv X h y H s->aA x v->iA z u->r x z H Q ->
  Kx (Ky X.prog X.w) X.A (gy (.builtin id) (v::u)) (EP X h y Q) X.xe s
theorem iA.one:∀{x:V}{us:LW},iA [x] us->∃u,us=[u]/\aA x u
 |_,_,.cons r .nil=>#[_,rfl,r]
theorem iA.rep{xs:LV}{us:LW}(h:iA xs us):∀k:Nat,iA (QI k xs).flatten (QI k us).flatten
 |0=>.nil|k+1=>by rw[Qf,Qf,qF,qF];exact iA.append h (iA.rep h k)
theorem lK(its:LW):∀(k:Nat) (h:LW),
  QAU (λy x=>y++x) h.toArray (QI k its.toArray)=(h++(QI k its).flatten).toArray
 |0,h=>by simp|k+1,h=>by
  have e:h.toArray++its.toArray=(h++its).toArray:=by simp
  have z:(h++its)++(QI k its).flatten=h++(QI (k+1) its).flatten:=by rw[Qf,qF,qd]
  rw[<- z,<- lK its k (h++its),<- e,Qf,WI]
section
variable{X:Cx}{y:FB}{σ:St}{H:Hp}{s:j3}{l b:j2}{xs ys v:LV}
theorem Inv.lset{its its':LW}{n:Nat}{f:Array j0->Array j0}{t':Nat}(I:Inv X y σ H s)(i:H l=jy (.lst xs))
  (e:s.1.get? l=jy { cls:=.type "list",data:=.seq its.toArray n }) (a:f its.toArray=its'.toArray) (hv:iA ys its') (h:ys.length<=j1) :
  Inv X y σ (VA H l (.lst ys)) { s with heap:=s.1.update l (QBc f),toks:=t' }:=by
 have q:=PySem.IsL.update e f;rw[a]at q;refine I.write (x:=l) (e:=l) (by rw[i];exact trivial) (.inl rfl) (λj u g z=>(qR s.1 (QBc f) (Qw g)).trans z) #[_,q] ?_;exact#[h,its',_,hv,q]
theorem Inv.lnew{its:LW}{t':Nat}(I:Inv X y σ H s)(hv:iA ys its)(h:ys.length<=j1) :
  Inv X y σ (VA H s.1.1.size (.lst ys)) { s with heap:=s.1.push { cls:=.type "list",data:=.seq its.toArray },toks:=t' } :=
 I.laid (λ_ _ q=>QF _ q) (QU _) #[h,its,0,hv,QV _ rfl]
theorem Inv.fresh(I:Inv X y σ H s):H s.1.1.size=none:=I.hok.fresh (QU _)
theorem Inv.lstM(I:Inv X y σ H s)(h:H l=jy (.lst xs)):xs.length<=j1/\∃(its:LW) (n:Nat),iA xs its/\xs.length=its.length/\s.1.get? l=jy { cls:=.type "list",data:=.seq its.toArray n }:=by let#[z,its,n,r,e]:=I.hok l _ h;exact#[z,its,n,r,r.length,e]
theorem yS{n:Nat}(h:n<=j1):wH n=false:=by unfold wH;exact dF ()
end
section
variable{X:Cx}
noncomputable def L9:V->LV->Hp->VK->Prop:=λx vs H Q=>∃l h y,x=.ref l/\vs=[y]/\H l=jy (.lst h)/\h.length<j1/\Q .non (VA H l (.lst (h++[y])))
theorem SY:Xv X "list.append" L9:=by intro b s m H x vs v p Q I g i h;let#[l,o,y,rfl,rfl,f,Y,q]:=h;cases g;let#[u,rfl,j]:=i.one;let#[z,a,n,r,hl,e]:=I.lstM f;refine w9 F.slot_list_append #[_,e,rfl] F.entry_list_append (F.args_list_append_2 _ _) (PySem.list_append l a.toArray n u (by rw[QM];omega)) #[e,?_];refine#[.non,_,I.lset (its':=a++[u]) f e (by simp) (r.append (.cons j .nil)) ?_,rfl,q];rw[QL,WJ];omega
noncomputable def G9:V->LV->Hp->VK->Prop:=λx vs H Q=>∃l b y h,x=.ref l/\vs=[.ref b]/\H l=jy (.lst y)/\H b=jy (.lst h)/\y.length+h.length<=j1/\Q .non (VA H l (.lst (y++h)))
theorem RY:Xv X "list.extend" G9:=by
 intro i s B H x vs v J Q I m o h;let#[l,b,G,C,rfl,rfl,j,K,L,q]:=h;cases m;let#[u,rfl,p]:=o.one;cases p;let#[z,a,n,r,hl,e]:=I.lstM j;let#[E,y,Z,Y,W,A]:=I.lstM K;have g:a.toArray.size+y.toArray.size<=sizeLine:=by rw[QM,QM];omega
 have f:¬ (!a.toArray.isEmpty&&wH (a.toArray.size+y.toArray.size))=true:=by rw[yS g,QAn];exact QD
 refine w9 F.slot_list_extend #[_,e,rfl] F.entry_list_extend (F.args_list_extend_2 _ _)
  (AutoSeq1.list_extend_list_list_0 l a.toArray n b y.toArray Z f (by rw[QM];omega) ()) #[e,A,?_]
 refine#[.non,_,I.lset (its':=a++y) j e (by simp) (r.append Y) ?_,rfl,q];rw[QL];omega
theorem aL{α:Type}(xs:List α)(k:Nat):(QI k xs).flatten.length=k * xs.length:=by
 induction k with|zero=>simp|succ k h=>rw[Qf,qF,QL,h,Nat.succ_mul,Nat.add_comm]
end
end L2
namespace Att
open PySem PySem.W PySem.Calls PyProof.Rows
theorem xL{P:Params}{h:kt}:∀(ns:LJ) (vs:LW),WellAll P h vs (ns.map WData.int)->IntsAre vs ns:=by
 intro ns;induction ns with
 |nil=>intro vs w;rw[wx]at w;cases w;exact .nil|cons n ns x =>
  intro vs w;rw[QN]at w;cases w with|cons a b=>cases a;exact .cons _ _ (x _ b)
theorem script_of{l:OpenLaw}{n:Nat}(p:l.most=jy n){P:Params}{h:kt}{args:List WData}{x:LW}
  (y:l.row.toRowW.claim.pre args=jb) (f:WellAll P h x args) :
  ∃a vs ns,x=[jx a]/\args=[WData.list (ns.map WData.int)]/\h.get? a=jy { cls:=.type "list",data:=.seq vs.toArray }/\IntsAre vs ns/\ns.length<=n:=by
 have g:WShape.hasAll [] args [.list .int]=true:=(pre_splitW y).1;have hc:l.pre.holds [] { args:=args }=true:=(pre_splitW y).2;let#[d,r,rfl,Y,X]:=hasAllW_cons g;obtain rfl:=hasAllW_nil X;let#[Z,rfl,s]:=hasW_list Y;let#[ns,rfl]:=items_int s;have z:ns.length<=n:=by
  unfold OpenLaw.pre at hc;have e:(WTm.not (.lt (.lit (.int (n:Int))) (.len (.arg 0)))).holds [] { args:=[.list (ns.map .int)] }=true:=by have e:=(holds_andW hc).1;rw[p]at e;exact e
  have b:=condW_of e (w_not (w_lt w_lit (w_len_list (w_arg rfl))));rw[QG]at b;refine Nat.le_of_not_lt λq=>?_;have m:(n:Int)<((ns.length:Nat):Int):=()
  first
   | (rw[dT m]at b;exact eN b (by decide))
   | (simp at b;omega)
 cases f with
 |cons j i =>
  cases i;cases j with|list o u=>exact#[_,_,ns,rfl,rfl,o,xL ns _ u,z]
theorem post_true(l:OpenLaw)(args:List WData):l.row.toRowW.claim.post args (.bool jb) args=jb :=
 postW_of (r:=l.row.toRowW) (X:=(jb==jb))
  (show WShape.has [] (.bool jb) .bool=jb by first|rfl|decide|simp[WShape.has,WShape.arms,WShape.armsAll])
  (show(WTm.eq .res (.lit (.bool jb))).value [] { args:=args,res:=jy (.bool jb),after:=args }=jy (.bool (jb==jb)) from w_eq_bool (w_res rfl) w_lit) rfl
end Att
namespace L2
open PySem PySem.Spec PyProof.Rows
theorem bO:∀{vs:LW}{ns:LJ},IntsAre vs ns->iA (ns.map V.int) vs
 |_,_,.nil=>.nil|_,_,.cons n t h=>.cons #[t,rfl] (bO h)
def Uq(H:Hp):Prop:=∀b,H b=jz∨∃o h,H b=jy (.frz o (.lst h))
theorem X6{P:Kz}{w:kl}{K:QC}{Y L:Str->Option j0}{CX:AT}{k:Nat}{Q a:j2}{fd:vy}{x:Str}{S:Sp}{y:j3}{vs:LW}{ns:LJ}
  (KX:K.In y.1) (A:y.1.Ns ke Y) (g:y.1.Ns dw L) (N:∀x:Str,x≠"__name__"->L x=vb x) (B:y.1.NoLimit) (hg:y.gens=#[])
  (I:y.1.get? a=jy { cls:=.type "list",data:=.seq vs.toArray }) (hi:IntsAre vs ns) (hl:ns.length<=j1) (hr:Room k fa)
  (F:∀i:kt,K.In i->i.Ns ke Y->FnOk P w K Y i CX k Q fd [x] S) (p:∀(s:j3) (u:j0),hR s fd #[[u],[]] [(x,u)])
  (M:∀H:Hp,Uq H->YD K H a (ns.map V.int)->S [.ref a] H (λv _=>v=.bl jb) λ_ _ _=>False)
  (O:∀H e s',CX [] H y (λ_ _ _=>False) e s'->False) :
  hT (Ky P w) fa (.call (.ref Q) #[[.ref a],[]]) (λr s'=>r=.ok (.ret (.bool jb))/\OldK y.1 s'.1/\s'.os=y.os/\AllBare s'.gens) y:=by
 have rv:=bO hi;have Z:=hi.length;have l:∀H:Hp,Uq H->YD K H a (ns.map V.int)->aH P w H y.1->(∀b,H b≠jz->b=a)->(H a≠jz->K.lookup a=jz) ->
   hT (Ky P w) fa (.call (.ref Q) #[[.ref a],[]]) (λr s'=>r=.ok (.ret (.bool jb))/\OldK y.1 s'.1/\s'.os=y.os/\AllBare s'.gens) y:=by
  intro H hO hS hok hA hK;have f:∀{b:j2}{o:Obj},y.1.get? b=jy o->H b=jz->(GQ y.1 H).get? b=jy o:=λe n=>c7 e n;have J:∀{b:j2}{o:Obj}{E:Array yy}{G:Nat},y.1.get? b=jy o->o.data=.dict E G->H b=none:=λ{b o E G} e d=>by
   cases q:H b with|none=>rfl|some u=>have R:b=a:=hA b (by rw[q];simp);subst R;rw[I]at e;cases e;have d':Data.seq vs.toArray _=Data.dict E G:=d;cases d'
  have j:∀{b:j2}{m:Str->Option j0},y.1.Ns b m->(GQ y.1 H).Ns b m:=λ{b m} #[o,E,G,e,d,r]=>#[o,E,G,f e (J e d),d,r]
  have C:K.In (GQ y.1 H):=λb o e=>f (KX b o e) (by
   cases q:H b with|none=>rfl|some u=>have R:b=a:=hA b (by rw[q];simp);subst R;rw[hK (by rw[q];simp)]at e;cases e)
  have hM:Mod K Y (GQ y.1 H):=#[C,j A,#[L,j g,N],let#[mc,h1,h2]:=B;#[mc,j h1,h2]]
  have e0:Env0 P w K Y (GQ y.1 H) fa [] y H:=#[rfl,hM,λb o e=>Vb e,Nat.le_of_eq (cZ _ _),trivial,λb g=>eN (show b∈([]:List j2) from g) (by simp),hok,.of_eq hg]
  refine WG ((F _ C (j A)).run fa [] y H #[[.ref a],[]] [.ref a] [.ref a] _ _ hr e0 (p y (.ref a)) (.cons rfl .nil) (M H hO hS)) λr s' h=>?_;cases r with
  |error e=>exact(O H e s' h).elim|ok fl =>
   cases fl with
   |next=>exact QT h|brk=>exact QT h|cont=>exact QT h|ret u =>
    let#[v,H',os,bare,un,W,r',q]:=h;have q':v=.bl true:=q;subst q';obtain rfl:u=Value.bool true:=r';refine#[rfl,OldK.of_keep λb o e=>?_,os,bare];cases q:H b with
    |none=>exact un.keep b o e q (by intro z;exact eN (show b∈([]:List j2) from z) (by simp)) (by simp)|some u =>
     rcases hO b with z|⟨ob,xs,z⟩
     rw[q]at z;cases z;have z2:=un.frzs b ob _ z;let#[e1,_]:=hok b _ z;let#[e2,_]:=W b _ z2;rw[e]at e1;cases e1;exact e2
 cases hk:K.lookup a with
 |some o=>have e:=KX a o hk;rw[I]at e;cases e;refine l (λ_=>jz) (λ_=>.inl rfl) (.inr #[_,vs.toArray,_,hk,rfl,rfl,rfl,by rw[QM,Z];exact hl,by simpa using rv]) (λb u z=>by have X:(none:Option HO)=jy u:=z;cases X) (λb z=>eN rfl z) λz=>eN rfl z|none =>
  refine l (λb=>if b=a then jy (.frz { cls:=.type "list",data:=.seq vs.toArray } (.lst (ns.map V.int))) else jz) (λb=>?_) (.inl (.inr #[{ cls:=.type "list",data:=.seq vs.toArray },ef rfl])) (λb u z=>?_) (λb z=>?_) λ_=>hk;by_cases g:b=a
  ·exact .inr #[_,_,ef g]
  exact .inl (eH g);by_cases g:b=a
  ·have X:=(ef g).symm.trans z
   cases X;subst g;exact#[I,by rw[QG];exact hl,vs,_,rv,I]
  have X:=(eH g).symm.trans z;cases X;by_cases g:b=a
  ·exact g
  exact eN (eH g) z
noncomputable def bC(s:vl):Arguments:=match s with
 | .FunctionDef _ a _ _ _ _ _ _ _ _=>a|_=>{ posonlyargs:=[],args:=[],vararg:=jz,kwonlyargs:=[],kw_defaults:=[],kwarg:=jz,defaults:=[] }
noncomputable def VB(s:vl):List Stmt:=match s with
 | .FunctionDef _ _ b _ _ _ _ _ _ _=>b|_=>[]
noncomputable def nA(s:vl):Scope:=match s with
 | .FunctionDef _ _ _ _ _ _ sc _ _ _=>sc|_=>{ kind:=.function,names:=[],isGenerator:=js,isCoroutine:=js }
noncomputable abbrev A8:AT:=λ_ _ _ _ _ _=>False
noncomputable abbrev E0:XK:=λ_ _ _=>False
structure Fun(K:QC)(x qual:Str)(st:vl)(f:j2)(fd:vy):Prop where
 ex:∃(oc:j0) (od:Option j2) (kV doc pm:j0) (an:Option j2) (cdv ct:j0) (osl:Array (Option j0)),
  fd=qP x qual (bC st) (VB st) (nA st) .none kV doc pm an cdv ct/\K.lookup f=jy #[oc,od,.func fd,osl]/\WX K cdv qual=jb
 kp:qe K (.ref f)=jb
section
variable{P:Kz}{w:kl}{K:QC}{mg:Str->Option j0}{base:kt}
theorem Fun.ok{x y:Str}{st:vl}{f:j2}{g:vy}{N ps:LS}{k:Nat}{a:Sp}(F:Fun K x y st f g)(S:FnScope N ps (nA st))(len:∀vs H Q E,a vs H Q E->vs.length=ps.length)
  (u:∀(z:j0) (A:Vy) (outer:List Env) (s:j3) (H:Hp) (vs:LV) (Q:VK) (E:XK),Room k (A.deeper (envOfC y (nA st) s.1.1.size f z))->a vs H Q E ->
   ∃t,OZ (nK A8 P w K mg base N y (nA st) f z A outer s H E).nox (VB st) t/\t { nx:=λ_ H'=>Q .non H',rt:=Q } (GE N vs) H):FnOk P w K mg base A8 (k+1) f g ps a:=by
 let#[p,o,kV,m,n,X,z,r,i,rfl,j,e]:=F.ex;refine Ve j e S len λA outer s H vs Q E l b=>?_;let#[t,h,q]:=u z A outer s H vs Q E l b;exact#[t,h.nox,q]
theorem Fun.binds{x y:Str}{st:vl}{f:j2}{e:vy}{ps:LS}(F:Fun K x y st f e)
  (h:∀(kV z a:j0) (b:Option j2) (u ct:j0) (us:LW),us.length=ps.length->Hx (qP x y (bC st) (VB st) (nA st) .none kV z a b u ct) #[us,[]]=ez (ps.zip us)):KE K e ps []:=by
 let#[l,j,kV,z,a,b,u,ct,g,rfl,m,i]:=F.ex;exact .all (h kV z a b u ct)
theorem Ij{x h:Str}{st:vl}{f:j2}{g:j0}{e b:Option j2}{u:Array (Option j0)}{kV z a y ct:j0}(l:K.lookup f=jy #[g,e,.func (qP x h (bC st) (VB st) (nA st) .none kV z a b y ct),u])
  (c:WX K y h=jb) (k:qe K (.ref f)=jb):Fun K x h st f (qP x h (bC st) (VB st) (nA st) .none kV z a b y ct):=#[#[g,e,kV,z,a,b,y,ct,u,rfl,l,c],k]
end
theorem fF{c A B:Prop}[Decidable c](y:c->A)(x:¬ c->B):if c then A else B:=by by_cases h:c;rw[ef h];exact y h;rw[eH h];exact x h
def Same(H H':Hp):Prop:=∀b o,H b=jy o->H' b=jy o
theorem Same.refl(H:Hp):Same H H:=λ_ _ h=>h
theorem Same.trans{H y x:Hp}(a:Same H y)(b:Same y x):Same H x:=λc o h=>b c o (a c o h)
theorem Same.free{H H':Hp}(e:Same H H'){l:j2}(h:H' l=Option.none):H l=Option.none:=by
 cases q:H l with|none=>rfl|some o=>rw[e l o q]at h;cases h
theorem Same.seq{K:QC}{H H':Hp}{a:j2}{xs:LV}(e:Same H H')(h:YD K H a xs):YD K H' a xs:=by rcases h with(h|⟨o,h⟩)|h;exact .inl (.inl (e _ _ h));exact .inl (.inr #[o,e _ _ h]);exact .inr h
section
variable{x:Type}[DecidableEq x]
noncomputable def UE(h:List (x×V))(k:x):Option V:=(h.find? λy=>decide (y.1=k)).map (·.2)
noncomputable def vF(h:List (x×V))(k:x)(v:V):List (x×V) :=
 if(h.any λy=>decide (y.1=k))=jb then h.map (λy=>if y.1=k then(y.1,v) else y) else h++[(k,v)]
theorem GI{p:x×V}{r:List (x×V)}{k:x}(e:p.1=k):UE (p::r) k=jy p.2:=by simp[UE,WK,e]
theorem HI{p:x×V}{r:List (x×V)}{k:x}(e:¬ p.1=k):UE (p::r) k=UE r k:=by simp[UE,WK,e]
theorem VL(k:x):∀h:List (x×V),(h.any λy=>decide (y.1=k))=(UE h k).isSome
 |[]=>rfl|p::r=>by rw[qB];by_cases e:p.1=k;simp only[GI e,dT e,QCm,Option.isSome_some];rw[HI e,dF e,QBA];exact VL k r
theorem FG(h:List (x×V))(k:x)(v:V):(vF h k v).length<=h.length+1:=by unfold vF;split;rw[QG];omega;rw[QL,QJ,qf];omega
theorem N3{y:List (x×V)}{k:x}(v:V)(h:UE y k=jz):vF y k v=y++[(k,v)]:=by unfold vF;rw[VL,h];exact eH (by decide)
theorem KH.isSome_eq{o:Option V}{u:Option j0}(r:KH o u):o.isSome=u.isSome:=by
 cases o with
 |none=>cases u with|none=>rfl|some _=>exact(show False from r).elim
 |some _=>cases u with|none=>exact(show False from r).elim|some _=>rfl
theorem KV.val{y:List (x×V)}{vs:List (x×j0)}(r:KV y vs)(k:x):KH (UE y k) (yz vs k):=by
 unfold KV at r;induction r with
 |nil=>exact True.intro|@cons p q j u h t g =>
  let#[f,i]:=h;by_cases e:p.1=k;have a:q.1=k:=f.symm.trans e;have b:yz (q::u) k=jy q.2:=by simp[yz,WK,a]
  rw[GI e,b];exact i;have a:¬ q.1=k:=λz=>e (f.trans z);have b:yz (q::u) k=yz u k:=by simp[yz,WK,a]
  rw[HI e,b];exact g
theorem KV.any{y:List (x×V)}{vs:List (x×j0)}(r:KV y vs)(k:x):(y.any λz=>decide (z.1=k))=vs.any λz=>decide (z.1=k):=by
 unfold KV at r;induction r with|nil=>rfl|cons h t u=>rw[qB,qB,u,h.1]
theorem KV.repl{b:List (x×V)}{vs:List (x×j0)}(r:KV b vs)(k:x){y:V}{u:j0}(g:aA y u) :
  KV (b.map λa=>if a.1=k then(a.1,y) else a) (vs.map λa=>if a.1=k then(a.1,u) else a):=by
 unfold KV at r ⊢;induction r with|nil=>exact .nil|@cons p q m l h t i=>rw[QN,QN];refine .cons ?_ i;let#[f,j]:=h;by_cases e:p.1=k;rw[ef e,ef (f.symm.trans e)];exact#[f,g];rw[eH e,eH (λz=>e (f.trans z))];exact#[f,j]
theorem KV.put{h:List (x×V)}{vs:List (x×j0)}(r:KV h vs)(k:x){y:V}{u:j0}(z:aA y u):KV (vF h k y) (stored vs k u):=by unfold vF stored;rw[r.any k];by_cases e:(vs.any λa=>decide (a.1=k))=jb;rw[ef e,ef e];exact r.repl k z;rw[eH e,eH e];exact Paired.snoc r #[rfl,z]
theorem KV.length{h:List (x×V)}{vs:List (x×j0)}(r:KV h vs):h.length=vs.length:=WP r
end
theorem xX{P:Kz}{w:kl}{k:oC}{u:j0}(r:aA (kV k) u):(KB P w).is k u=true:=by
 cases k with|inl i=>let#[t,e]:=(show ∃t,u=Value.int i t from r);subst e;exact dS P w i t|inr x=>let#[t,e]:=(show ∃t,u=Value.str x t from r);subst e;exact cS P w x t
theorem UO{P:Kz}{w:kl}:∀{ks:List oC}{us:LW},iA (ks.map kV) us->ItemsAre (KB P w) ks us
 |[],_,r=>by rw[wx]at r;cases r;exact .nil|k::ks,_,r=>by
  rw[QN]at r;cases r with|cons h t=>exact .cons (xX h) (UO t)
noncomputable abbrev KT(H:Hp):List (List oC×V)->List (List oC×j2×j0)->Prop:=x0 λp q=>p.1=q.1/\H q.2.1=jy (.tup (p.1.map kV))/\aA p.2 q.2.2
theorem KT.val{H:Hp}{x:List (List oC×V)}{xs:List (List oC×j2×j0)}(r:KT H x xs)(k:List oC):KH (UE x k) ((DC xs k).map (·.2)):=by
 induction r with
 |nil=>exact True.intro|@cons p q i y h t f =>
  let#[a,_,g]:=h;by_cases e:p.1=k;have u:q.1=k:=a.symm.trans e;have b:DC (q::y) k=jy q.2:=by simp[DC,WK,u]
  rw[GI e,b];exact g;have u:¬ q.1=k:=λz=>e (a.trans z);have b:DC (q::y) k=DC y k:=by simp[DC,WK,u]
  rw[HI e,b];exact f
theorem KT.repl{H:Hp}{x:List (List oC×V)}{xs:List (List oC×j2×j0)}(r:KT H x xs)(k:List oC){y:V}{u:j0}(g:aA y u) :
  KT H (x.map λb=>if b.1=k then(b.1,y) else b) (xs.map (putAt k u)):=by
 induction r with|nil=>exact .nil|@cons p q m l h t i=>rw[QN,QN];refine .cons ?_ i;let#[a,f,j]:=h;unfold putAt;by_cases e:p.1=k;rw[ef e,ef (a.symm.trans e)];exact#[a,f,g];rw[eH e,eH (λz=>e (a.trans z))];exact#[a,f,j]
theorem KT.put{H:Hp}{h:List (List oC×V)}{xs:List (List oC×j2×j0)}(r:KT H h xs)(k:List oC){b:j2}{y:V}{u:j0}(a:H b=jy (.tup (k.map kV)))(x:aA y u) :
  KT H (vF h k y) (storedH xs k b u):=by
 have e:(h.any λz=>decide (z.1=k))=(DC xs k).isSome:=by rw[VL,(r.val k).isSome_eq,Option.isSome_map]
 unfold vF storedH;rw[e];by_cases q:(DC xs k).isSome=jb;rw[ef q,ef q];exact r.repl k x;rw[eH q,eH q];exact Paired.snoc r #[rfl,a,x]
theorem KT.keeps{H H':Hp}{h:List (List oC×V)}{xs:List (List oC×j2×j0)}(r:KT H h xs)(x:∀b ys,H b=jy (.tup ys)->H' b=jy (.tup ys)):KT H' h xs :=
 Paired.mapP r λ_ _ z=>#[z.1,x _ _ z.2.1,z.2.2]
section
variable{P:Kz}{w:kl}{H:Hp}{h:kt}{a:j2}
theorem Fd{u:HO}(ok:aH P w H h)(e:Rd H a u):LA P w H h a u:=e.ok ok
theorem B7{x:List (oC×V)}(ok:aH P w H h)(e:Rd H a (.dK x)):x.length<=j1/\(a==v6)=js/\∃vs,KV x vs/\h.DictOf (KB P w) a vs :=
 show LA P w H h a (.dK x) from Fd ok e
theorem He{x:List (oC×V)}(ok:aH P w H h)(e:H a=jy (.dK x)):x.length<=j1/\(a==v6)=js/\∃vs,KV x vs/\h.DictOf (KB P w) a vs:=B7 ok (.inl e)
theorem hV{ks:List oC}(ok:aH P w H h)(e:H a=jy (.tup (ks.map kV))):(hB (KB P w)).is h ks a:=by
 let#[_,x,r,o,u,z,n,y]:=(show LA P w H h a (.tup (ks.map kV)) from ok a _ e)
 exact#[o,x.toArray,n,u,z,y,by simpa using UO r]
theorem U7{u:List (List oC×V)}(ok:aH P w H h)(e:Rd H a (.dT u)):u.length<=j1/\(a==v6)=js /\
  ∃xs,KT H u xs/\h.DictOfH (hB (KB P w)) a xs:=by
 let#[z,y,xs,r,o,Y,Z,X,s,n,j,i]:=(show LA P w H h a (.dT u) from Fd ok e)
 refine#[z,y,xs,r,o,Y,Z,X,s,n,j,λx b=>?_,i];have all:∀{l:List (List oC×V)}{m:List (List oC×j2×j0)},KT H l m->∀x∈m,(hB (KB P w)).is h x.1 x.2.1:=by
  intro l m q;induction q with
  |nil=>intro x b;exact nomatch b
  |@cons p q K W f t g=>intro x b;rcases QR.mp b with e|b;subst e;exact hV ok (by rw[<- f.1];exact f.2.1);exact g x b
 exact all r x b
theorem Cp{x:List (List oC×V)}(ok:aH P w H h)(e:H a=jy (.dT x)):x.length<=j1/\(a==v6)=js /\
  ∃xs,KT H x xs/\h.DictOfH (hB (KB P w)) a xs:=U7 ok (.inl e)
end
def MT(H:Hp)(a:j2)(y:V)(r:Option V):Prop :=
 (∃h k,Rd H a (.dK h)/\y=kV k/\r=UE h k)∨∃h k b,Rd H a (.dT h)/\y=.ref b/\H b=jy (.tup (k.map kV))/\r=UE h k
def oR(H:Hp)(a:j2)(y v:V)(H':Hp):Prop :=
 (∃h k,H a=jy (.dK h)/\y=kV k/\h.length<j1/\H'=VA H a (.dK (vF h k v))) ∨
 ∃h k b,H a=jy (.dT h)/\y=.ref b/\H b=jy (.tup (k.map kV))/\h.length<j1/\H'=VA H a (.dT (vF h k v))
theorem MT.k{H:Hp}{a:j2}{h:List (oC×V)}{k:oC}(e:H a=jy (.dK h)):MT H a (kV k) (UE h k):=.inl #[h,k,.inl e,rfl,rfl]
theorem MT.t{H:Hp}{a b:j2}{h:List (List oC×V)}{k:List oC}(e:H a=jy (.dT h))(x:H b=jy (.tup (k.map kV))):MT H a (.ref b) (UE h k):=.inr #[h,k,b,.inl e,rfl,x,rfl]
theorem oR.k{H:Hp}{a:j2}{h:List (oC×V)}{k:oC}{v:V}(e:H a=jy (.dK h))(hl:h.length<j1):oR H a (kV k) v (VA H a (.dK (vF h k v))):=.inl #[h,k,e,rfl,hl,rfl]
theorem oR.t{H:Hp}{a b:j2}{h:List (List oC×V)}{k:List oC}{v:V}(e:H a=jy (.dT h))(x:H b=jy (.tup (k.map kV)))(hl:h.length<j1) :
  oR H a (.ref b) v (VA H a (.dT (vF h k v))):=.inr #[h,k,b,e,rfl,x,hl,rfl]
section
variable{X:Cx}{d:FB}{σ:St}{H:Hp}{s:j3}{a:j2}{y v:V}{u r:j0}{o:Option V}{A:Vy}{E:NB}
theorem Inv.big(I:Inv X d σ H s):v6<s.1.1.size:=by have h:ke<s.1.1.size:=(I.mod.glob.keeps I.bk).lt;exact Nat.lt_trans (by decide) h
theorem KZ{Q:NB}(K:A.units+1<gi)(I:Inv X d σ H s)(g:MT H a y (jy v))(Z:aA y u)(h:∀i s',Inv X d σ H s'->aA v i->Q i s') :
  Kx (Ky X.prog X.w) A (Gx (.ref a) u) Q E s:=by
 rcases g with⟨j,k,e,q,l⟩| ⟨j,k,b,e,q,C,l⟩
 subst q;let#[z,hd,vs,f,Y]:=B7 I.hok e;let#[i,m,x]:=KH.some_of (v:=v) (o:=yz vs k) (by rw[l];exact f.val k);exact QC2 (xX Z) Y.mapOf m (h i _ (I.tok _) x);subst q;cases(show u=jx b from Z);let#[z,hd,W,f,Y]:=U7 I.hok e;let#[i,m,x]:=KH.some_of (v:=v) (o:=(DC W k).map (·.2)) (by rw[l];exact f.val k);let#[p,B,n]:=Option.map_eq_some_iff.mp m;refine wpAny_getItem_heap (QCB K) (hV I.hok C) Y B ?_;rw[n];exact h i _ (I.tok _) x
theorem PQ{h':kt}{t':Nat}{h:HO}(I:Inv X d σ H s)(f:Cq (H a))(g:wB a s.1 h')(i:∃q,h'.get? a=jy q)(new:LA X.prog X.w (VA H a h) h' a h) :
  Inv X d σ (VA H a h) { s with heap:=h',toks:=t' } :=
 I.write (x:=a) (e:=a) f (.inl rfl) (λb q j z=>(g.2 b j).trans z) i new
theorem C7{P:Kz}{w:kl}{H':Hp}{h':kt}{h:List (oC×V)}{vs:List (oC×j0)}(z:h.length<=j1)(hd:(a==v6)=js)(x:KV h vs)(b:h'.DictOf (KB P w) a vs) :
  LA P w H' h' a (.dK h):=#[z,hd,vs,x,b]
theorem ZZ{H':Hp}{Q:Unit->j3->Prop}(J:A.units+1<gi)(I:Inv X d σ H s)(g:oR H a y v H')(W:aA y u)(K:aA v r)(h:∀s',Inv X d σ H' s'->Q Unit.unit s') :
  Kx (Ky X.prog X.w) A (c6 (.ref a) u r) Q E s:=by
 rcases g with⟨f,k,e,p,l,Y⟩| ⟨f,k,b,e,p,F,l,Y⟩
 subst p Y;let#[z,hd,vs,x,Z]:=He I.hok e;have m:vs.length<=sizeLine:=by rw[<- x.length];exact z
 have hl:(vF f k v).length<=sizeLine:=by have:=FG f k v;omega
 refine wpAny_setItem_pairs (hsz:=m) (xX W) Z λB i n=>h _ ?_;have L:∃q,B.get? a=jy q:=let#[q,_,_,j,_]:=i;#[q,j]
 exact PQ I (by rw[e];exact True.intro) n L (C7 hl hd (x.put k K) i);subst p Y;cases(show u=jx b from W);let#[z,hd,G,x,Z]:=Cp I.hok e;have m:G.length<=sizeLine:=by rw[<- WP x];exact z
 have hl:(vF f k v).length<=sizeLine:=by have:=FG f k v;omega
 refine wpAny_setItem_heap (hsz:=m) (QCB J) (hV I.hok F) Z λB i n=>h _ ?_;let#[q,R,S,j,P,O,N,_,M]:=i;refine PQ I (by rw[e];exact True.intro) n #[q,j] #[hl,hd,_,(x.put k F K).keeps λc ys C=>?_,q,R,S,j,P,O,N,M];rw[yA (xo C e (λz=>nomatch z))];exact C
end
def Bq(i:Expr):Prop:=∀h x,Hy i js h x=operate [h,x] (Gx h x)
theorem p9{prog:Kz}{w:kl}{A:Vy}{E:NB}{s:j3}{env:Env}{z y:Expr}{pos:Pos}{T id:String}{Q:NB}
  (hl:fb (.type T) "__getitem__"=ez (jy (.builtin id))) (l:Bq y)
  (h:Kx (Ky prog w) A (vu z env) (λo e=>Kx (Ky prog w) A (vu y env) (λi u=>u.TypeIs o T/\Kx (Ky prog w) A (Gx o i) Q E u) E e) E s) :
  Kx (Ky prog w) A (vu (.Subscript z y pos) env) Q E s:=by
 refine QDc (qL h (λo e g=>qL g (λi u a=>?_) λ_ _ x=>x) λ_ _ x=>x);let#[j,a]:=a;unfold subscriptTail;refine QE ?_;rw[getitemInPython_of_ne j.not_modules];refine QE (db j hl ?_);have fin:Kx (Ky prog w) A (Hy y js o i) (λr b=>Kx (Ky prog w) A (letTemporaryGo z o r >>= λ_=>ez r) Q E b) E u:=by rw[l o i];exact wpAny_operating (qL a (λr b f=>QE (wpAny_letTemporaryGo (QS f))) λ_ _ x=>x)
 first
  |exact QS (QE fin)
  |exact QE (QS (QE fin))
  |exact QE fin
theorem XS{X:Cx}{h:FB}{σ:St}{H:Hp}{s:j3}{a:j2}{y:V}{o:Option V}(I:Inv X h σ H s)(g:MT H a y o):s.TypeIs (.ref a) "dict":=by
 rcases g with⟨x,k,e,_,_⟩| ⟨x,k,b,e,_,_,_⟩
 let#[_,_,vs,_,z]:=B7 I.hok e;exact z.typeIs;let#[_,_,u,_,z]:=U7 I.hok e;exact z.typeIs
noncomputable def Xm(u ty:TE):TE:=λh H Q=>u h H λx b=>ty h b λy z=>∃a v,x=.ref a/\MT z a y (jy v)/\Q v z
noncomputable def Pm(b ty u:TE):TS:=λD h H=>u h H λv g=>b h g λx f=>ty h f λy e=>∃a z,x=.ref a/\oR e a y v z/\D.nx h z
section
variable{X:Cx}{o i e z:Expr}{pos pos' b:Pos}{w ty k:TE}
theorem Va(Z:X.A.units+1<gi)(K:PE X o w)(B:PE X i ty)(W:Bq i):PE X (.Subscript o i pos) (Xm w ty):=by intro f s l H Q I h;refine p9 QAp.lookup W (EA (K f s l H _ I h) λu n #[x,J,F,q,Y]=>EA (B f n l J _ F Y) λO N #[y,G,m,p,a,v,C,g,r]=>?_);subst C;obtain rfl:u=jx a:=q;exact#[XS m g,KZ Z m g p λL M E j=>#[v,G,E,j,r]]
theorem S9(K:X.A.units+1<gi)(C:PE X o w)(E:PE X i ty)(hv:PE X z k)(B:gx z (jy (.Subscript o i pos')) pos.line X.env=ez js) :
  PS X (.Assign [.Subscript o i pos'] z pos) (Pm w ty k):=by
 intro f s j H D I h;refine wpAny_Assign_Subscript (EA (hv f s j H _ I h) λr m #[v,P,M,q,W]=>EA (C f m j P _ M W) λu l #[x,O,L,p,Z]=>EA (E f l j O _ L Z) λS R #[y,H3,J,n,a,N,F,g,Y]=>?_) B;subst F;obtain rfl:u=jx a:=p;exact ZZ K J g n q λQ G=>#[j,N,G,Y]
end
theorem G7{P:Kz}{w:kl}{H:Hp}(h:kt)(x:v6<h.1.size):LA P w H (h.push { cls:=.type "dict",data:=.dict #[] }) h.1.size (.dK []) :=
 #[QBm _,beq_eq_false_iff_ne.mpr (Qw (Qk x)),[],.nil,Heap.DictOf.new h]
noncomputable def HL:List (TE×TE)->St->Hp->(List (V×V)->Hp->Prop)->Prop
 |[],_,H,Q=>Q [] H|(tk,tv)::r,σ,H,Q=>tk σ H λx a=>tv σ a λy u=>HL r σ u λh z=>Q ((x,y)::h) z
noncomputable abbrev VV:List (V×V)->List (j0×j0)->Prop:=x0 λp q=>aA p.1 q.1/\aA p.2 q.2
def Vq(X:Cx)(pos:Pos)(keys:List (Option Expr))(h:List Expr)(trs:List (TE×TE)):Prop :=
 ∀(x:FB) (s:j3) (y:St) (H:Hp) (Q:List (V×V)->Hp->Prop),Inv X x y H s->HL trs y H Q ->
  Kx (Ky X.prog X.w) X.A (evalPairs (pairTrees keys h X.env pos)) (λvs a=>∃z u,Inv X x y u a/\VV z vs/\Q z u) X.xe s
theorem ja{X:Cx}{pos:Pos}:Vq X pos [] [] []:=λx s y H Q I h=>pairTrees_nil_walk #[[],H,I,.nil,h]
theorem x4{X:Cx}{pos:Pos}{k v:Expr}{ks:List (Option Expr)}{vs:List Expr}{f e:TE}{trs:List (TE×TE)}(hk:PE X k f)(hv:PE X v e)(q:Vq X pos ks vs trs) :
  Vq X pos (jy k::ks) (v::vs) ((f,e)::trs):=λz s a H Q I h =>
 pairTrees_cons_walk (EA (hk z s a H _ I h) λu i #[x,A,Z,l,o]=>EA (hv z i a A _ Z o) λC g #[y,K,Y,j,n] =>
  EA (q z g a K _ Y n) λB E #[p,W,r,b,m]=>#[(x,y)::p,W,r,.cons #[l,j] b,m])
noncomputable def UG(x h:List (oC×V)):List (oC×V):=h.foldl (λy z=>vF y z.1 z.2) x
theorem KV.merge:∀{x:List (oC×V)}{z:List (oC×j0)}{y:List (oC×V)}{vs:List (oC×j0)},KV x z->KV y vs->KV (UG y x) (merged vs z):=by
 intro x z y vs r;unfold KV at r;induction r generalizing y vs with
 |nil=>intro q;exact q|@cons p q f b h t a =>
  intro u;have e:KV (vF y p.1 p.2) (stored vs q.1 q.2):=by have:=u.put p.1 h.2;rw[<- h.1];exact this
  exact a e
theorem LH:∀(x h:List (oC×V)),(UG h x).length<=h.length+x.length
 |[],h=>by show h.length<=h.length+0;omega|p::r,h=>by have z:=LH r (vF h p.1 p.2);have y:=FG h p.1 p.2;show(UG (vF h p.1 p.2) r).length<=_;rw[QJ];omega
theorem uN{P:Kz}{w:kl}:∀{x:List (oC×V)}{ws:List (j0×j0)},VV (x.map λz=>(kV z.1,z.2)) ws->∃y,Carries (KB P w) ws y/\KV x y
 |[],_,r=>by rw[wx]at r;cases r;exact#[[],True.intro,.nil]|p::x,_,r=>by
  rw[QN]at r;cases r with|@cons a b f bs h t=>let#[y,c,q]:=uN (P:=P) (w:=w) t;let#[e,u]:=b;exact#[(p.1,u)::y,#[xX h.1,rfl,c],.cons #[rfl,h.2] q]
noncomputable def Vm(trs:List (TE×TE)):TE:=λz H Q=>∀p,H p=jz->HL trs z (VA H p (.dK [])) λu y=>y p=jy (.dK [])/\∃h:List (oC×V),u=h.map (λx=>(kV x.1,x.2))/\h.length<=15/\Q (.ref p) (VA y p (.dK (UG [] h)))
theorem Ka{X:Cx}{pos:Pos}{keys:List (Option Expr)}{x:List Expr}{trs:List (TE×TE)}(h:Vq X pos keys x trs)(b:keys.all (·.isSome)=jb)(hl:keys.length=x.length)(E:keys≠[])
  (i:keys.length<=15):PE X (.Dict keys x pos) (Vm trs):=by
 intro y s l H Q I q;have A:=I.hok.fresh (QU s.1.1.size);have J:=I.laid (a:=s.1.1.size) (o:=.dK []) (h':=s.1.push { cls:=.type "dict",data:=.dict #[] }) (t':=s.toks) (λ_ _ q=>QF _ q) (QU _) (G7 s.1 I.big);refine wpAny_Dict_walk (knd:=KB X.prog X.w) b hl E i (EA (h y _ l _ _ J (q _ A)) λL M #[N,R,j,g,e,u,F,O,Y]=>?_);subst F;let#[n,c,p]:=uN (P:=X.prog) (w:=X.w) g;let#[z,hd,m,r,G]:=He j.hok e;cases r;refine#[n,c,G,λh' f W=>#[.ref s.1.1.size,_,?_,rfl,Y]];have Z:(UG [] u).length<=sizeLine:=by have C:=LH u [];rw[qf]at C;rw[qi];omega
 have B:∃q,h'.get? s.1.1.size=jy q:=let#[q,_,_,K,_]:=f;#[q,K]
 exact PQ j (by rw[e];exact True.intro) W B (C7 Z hd (p.merge .nil) f)
end L2
namespace L2.L3
open PySem PySem.Spec PyProof.Rows
structure Fly(B:kt)(l:List Env)(e:j2)(cls:j0)(dx:j2)(fl:Option j0)(h:kt):Prop where
 stay:B.StaysIn h
 new:B.get? e=jz
 ff:h.FunFrames B l
 obj:∃oe vs,h.get? e=jy oe/\oe.cls=cls/\oe.dict=jy dx/\oe.data=.fields vs/\oe.slots=#[]/\1<vs.size/\match fl with
  |none=>vs[1]?=jy .none|some f=>∃T oT ts,vs[1]?=jy (.ref T)/\B.get? T=jz/\T≠e/\h.get? T=jy oT/\oT.data=.fields ts/\ts[3]?=jy f
def oF(l:List Env)(h h':kt):Prop:=∀b∈LO l,∀o,h.get? b=jy o->∃x,h'.get? b=jy { o with slots:=x }
theorem oF.refl{l:List Env}{h:kt}:oF l h h:=λ_ _ o q=>#[o.slots,q]
theorem oF.trans{l:List Env}{h y x:kt}(a:oF l h y)(b:oF l y x):oF l h x:=λc m o q=>by let#[f,e]:=a c m o q;let#[z,u]:=b c m _ e;exact#[z,u]
section
variable{M:gm}{A:Vy}{E:NB}{s:j3}{B:kt}{env:Env}{outer l:List Env}{L e y:j2}{cls f:j0}{Q:Unit->j3->Prop}
theorem R5{h:kt}{T:j2}{a:Obj}{ts:Array j0}(x:h.FunFrames B l)(b:h.get? T=jy a)(hd:a.data=.fields ts):T∉LO l:=λm=>by let#[_,o,z,u]:=x.mem m;rw[b]at z;injection z with z;subst z;exact u ts hd
theorem nI(fr:Option j2)(x:Fly B l e cls y (jy f) s.1)(N:∀h',Fly B l e cls y (jy (fr.elim Jz λa=>Xy a)) h'->oF l s.1 h'->s.1.1.size<=h'.1.size->Q Unit.unit { s with heap:=h' }) :
  Kx M A (hI (.ref e) fr) Q E s:=by
 let#[G,F,Z,I,vs,K,hc,X,hd,r,p,T,P,W,C,g,i,j,u,O]:=x;have Y:3<W.size:=(QAf.mp O).1;unfold hI;refine QE (qA K hd C ?_);rw[ef (show(jx T != Jz)=jb from by simp)];refine Wz j u Y (N _ ?_ (λb m o q=>?_) (by rw[WB];exact QU _));have h:∀b,b≠T->(s.1.update T (QBD (·.setIfInBounds 3 (fr.elim Jz λa=>Xy a)))).get? b=s.1.get? b:=λb n=>qR _ _ (Qw n);refine#[λb o q=>(h b λz=>by rw[z,g]at q;cases q).trans (G b o q),F,Z.of_keeps λb o q J=>#[o,(h b λz=>?_).trans q,rfl],I,vs,(h e (Qw i)).trans K,hc,X,hd,r,p,?_];rw[z,j]at q;injection q with q;subst q;exact J W u;exact#[T,_,_,C,g,i,wD _ j (W7 (WC u _)),WC u _,by simp[Y]];exact#[o.slots,(qR _ _ λz:T=b=>R5 Z j u (z▸m)).trans q]
theorem MO{j:j0}{u:Bool}{i:Obj}{vs:Array j0}(C:A.frames=jy (env::outer))(hf:env.frame=jy L)(S:B.StaysIn s.1)(J:B.get? e=jz)(Y:s.1.FunFrames B (env::outer))
  (F:s.1.get? e=jy i) (hc:i.cls=cls) (G:i.dict=jy y) (hd:i.data=.fields vs) (W:i.slots=#[]) (hsz:1<vs.size)
  (hQ:∀h',Fly B (env::outer) e cls y (jy (Xy L)) h'->oF (env::outer) s.1 h'->s.1.1.size<=h'.1.size->Q Unit.unit { s with heap:=h' }) :
  Kx M A (do let a <- frameOf env;let pl <- entryPlaceOf L u;let b <- QBn j a .none (Xy L) .none pl;setField (.ref e) 1 b) Q E s:=by
 have r:e∉LO (env::outer):=R5 Y F hd;refine QE (wpAny_frameOf_fun C Y hf λg x=>QE (wpAny_entryPlaceOf λpl K=>?_));have P:g.get? e=jy i:=(x.2.1 e r).trans F;have p:B.StaysIn g:=λb o q=>(x.2.1 b λm=>by rw[(Y.mem m).1]at q;cases q).trans (S b o q);unfold QBn newFields;refine QE (qt ?_ (K.sizeOk5 _ _ _ _ _));generalize hts:([j,jx L,Jz,Xy L,Jz]++(if pl.isEmpty then QI 6 Jz else pl)).toArray=ts;have H:ts[3]?=jy (Xy L):=by rw[<- hts];rfl
 have O:=QF (h:=g) { cls:=.type "traceback",dict:=jz,data:=.fields ts } P;have X:g.1.size≠e:=Wi (QO P);have R:=WC hd (·.setIfInBounds 1 (jx g.1.size));have q3:=wD (QBD (·.setIfInBounds 1 (jx g.1.size))) O (W7 R);have keep:∀b o,b≠e->g.get? b=jy o->((g.push { cls:=.type "traceback",dict:=jz,data:=.fields ts }).update e (QBD (·.setIfInBounds 1 (jx g.1.size)))).get? b=jy o :=
  λb o n q=>(qR _ _ (Qw n)).trans (QF _ q)
 refine Wz O hd hsz (hQ _ #[λb o q=>keep b o (λz=>by rw[z,J]at q;cases q) (p b o q),J,Y.of_keeps λb o q nf=>?_,?_] (λb m o q=>?_) ?_);let#[N,Z]:=x.2.2 b o q;exact#[_,keep b _ (λz=>by rw[z,F]at q;injection q with q;subst q;exact nf vs hd) Z,rfl];refine#[_,_,q3,(QCW _ _).trans hc,?_,R,?_,by rw[Array.size_setIfInBounds];exact hsz,g.1.size,_,_,by simp[hsz],p.fresh,X,(qR _ _ (Qw X)).trans (QV g rfl),rfl,H]
 ·let#[c0,d0,I,s0]:=i
  obtain rfl:I=.fields vs:=hd;exact G
 let#[c0,d0,I,s0]:=i;obtain rfl:I=.fields vs:=hd;exact W;let#[N,Z]:=x.2.2 b o q;exact#[N,keep b _ (λz=>r (z▸m)) Z];rw[WB,qM,x.1];exact QBo _
theorem JS{I:Option j0}(C:A.frames=jy (env::outer))(P:env.frame=jy L)(O:I=jz∨I=jy .none∨I=jy (Xy L))(x:Fly B (env::outer) e cls y I s.1)
  (R:∀h',Fly B (env::outer) e cls y (jy (Xy L)) h'->oF (env::outer) s.1 h'->s.1.1.size<=h'.1.size->Q Unit.unit { s with heap:=h' }):Kx M A (hW (.ref e) env) Q E s:=by
 unfold hW;simp only[P];rcases O with rfl|rfl|rfl;let#[K,W,Y,N,vs,j,hc,i,hd,g,a,Z]:=x;refine QE (qA j hd Z ?_);rw[eH (by decide)];exact MO C P K W Y j hc i hd g a R;let#[K,W,Y,N,vs,j,hc,i,hd,g,a,T,S,J,Z,p,r,X,u,G]:=x;refine QE (qA j hd Z ?_);rw[ef (show(jx T != Jz)=jb from by simp)];refine QE (qA X u G ?_);rw[eH (show ¬ ((Jz==Xy L)=jb) from by simp[Xy])];refine QE (Wz X u (QAf.mp G).1 ?_);have h:∀b,b≠T->(s.1.update T (QBD (·.setIfInBounds 3 Jz))).get? b=s.1.get? b:=λb n=>qR _ _ (Qw n);refine MO (vs:=vs) C P (λb o q=>(h b λz=>by rw[z,p]at q;cases q).trans (K b o q)) W (Y.of_keeps λb o q nf=>#[o,(h b λz=>?_).trans q,rfl]) ((h e (Qw r)).trans j) hc i hd g a λh' F H sz=>R h' F (λb m o q=>H b m o ((h b λz=>R5 Y X u (z▸m)).trans q)) ?_;rw[z,X]at q;injection q with q;subst q;exact nf J u;rw[WB]at sz;exact sz;let#[K,W,Y,N,vs,j,hc,i,hd,g,a,T,S,J,Z,p,r,X,u,G]:=x;refine QE (qA j hd Z ?_);rw[ef (show(jx T != Jz)=jb from by simp)];refine QE (qA X u G ?_);rw[ef (show(Xy L==Xy L)=jb from by simp)];exact QS (R s.1 #[K,W,Y,N,vs,j,hc,i,hd,g,a,T,S,J,Z,p,r,X,u,G] .refl (QU _))
theorem iS{h:Option j0}(u:A.frames=jy (env::outer))(j:env.frame=jy L)(a:h=jz∨h=jy .none∨h=jy (Xy L))(x:Fly B (env::outer) e cls y h s.1)
  (m:∀h',Fly B (env::outer) e cls y (jy .none) h'->oF (env::outer) s.1 h'->s.1.1.size<=h'.1.size->Q Unit.unit { s with heap:=h' }) :
  Kx M A (hW (.ref e) env) (λ_ z=>Kx M A (hI (.ref e) jz) Q E z) E s :=
 JS u j a x λq p i g=>nI jz p λn o z b=>m n o (i.trans z) (qZ g b)
end
open PySem.W
noncomputable def FN:LW:=[.type "ValueError",.type "Exception",.type "BaseException",.type "object"]
noncomputable def IE(W C:j2):LW:=if C=W then FN else .ref W::FN
structure ExK(K:QC)(W C fI:j2):Prop where
 obj:∃nm q N bs sn sub ab col dd k0 k1 k2 k3 k5,K.lookup C=jy (excClassObj nm q C N bs (IE W C) jb sn sub ab col dd k0 k1 k2 k3 k5 "ValueError.__new__")
 init:findIn K (.ref C) "__init__"=jy (jy (.ref fI))
 fn:typeIn K (.ref fI)=jy (.type "function")
 sa:findIn K (.ref C) "__setattr__"=jy (jy (.builtin "object.__setattr__"))
 ga:findIn K (.ref C) "__getattribute__"=jy (jy (.builtin "BaseException.__getattribute__"))
 gh:findIn K (.ref C) "__getattr__"=jy jz
 pl:findIn K (.ref C) "place"=jy jz
 ca:findIn K (.ref C) "__class__"=jy (jy (.builtin "object.__class__"))
 kp:keepIn K (.ref C)=jb
theorem sG{W C:j2}{T:String}{b:Bool}(h:FN.contains (.type T)=b):(jx C::IE W C).contains (.type T)=b:=by unfold IE;split;rw[wI,h];rfl;rw[wI,wI,h];rfl
noncomputable abbrev pG(C t:j2)(d:Option j2):Obj:={ cls:=.ref C,dict:=d,data:=.fields (List.toArray [.ref t,.none,.none,.none,.bool js,.none]) }
section
variable{prog:Kz}{w:kl}{A:Vy}{E:NB}{h:kt}{g:Array gn}{d:Ew}{t:Nat}{y:dt}{K:QC}{W C fI:j2}{rest:LW}
theorem cc{R:Result->j3->Prop}(X:K.In h)(Y:ExK K W C fI)(Z:rest.length<=j1)
  (a:R (.ok (.ret (.ref (h.1.size+1)))) #[(h.push { cls:=.type "tuple",data:=.seq rest.toArray }).push (pG C h.1.size jz),g,d,t,y]) :
  hT (Ky prog w) A (.builtin "ValueError.__new__" #[.ref C::rest,[]]) R #[h,g,d,t,y]:=by
 let#[nm,q,N,bs,l,sub,G,e,B,s,r,o,n,m,hl]:=Y.obj;have z:=X _ _ hl;have F:=WU;have x:=F.ends;have j:=sG (W:=W) (C:=C) (T:="ValueError") (b:=jb) rfl;have i:=sG (W:=W) (C:=C) (T:="AttributeError") (b:=js) rfl;have f:=sG (W:=W) (C:=C) (T:="NameError") (b:=js) rfl;refine codeAny_builtinAt F.entry ?_;unfold Builtin.«BaseException.__new__»;refine QDK ?_;show PySem.wpAt _ _ _ (stack >>= _) _ _ _;refine QDK (PySem.wpAt_stack λp u=>QBp ?_);wp_walk;refine QBp ?_;rw[F.owner]
 repeat (first|with_reducible refine wpAny_madeHere_exc F.canon z ?_|with_reducible refine qG z ?_ | (with_reducible refine We z ?_;first|rw[j]|rw[i]|rw[f])|wp_step)
 show R _ _;rw[qM];exact a
theorem MQ{M:gm}{Q:Unit->j3->Prop}(X:K.In h)(Y:ExK K W C fI)(z:Q Unit.unit #[h,g,d,t,y]):Kx M A (y1 "ValueError.__new__" #[.ref C::rest,[]]) Q E #[h,g,d,t,y]:=by
 let#[nm,q,N,bs,e,sub,p,u,o,m,l,j,i,f,hl]:=Y.obj;have x:=X _ _ hl;have F:=WU;have a:=sG (W:=W) (C:=C) (T:="ValueError") (b:=jb) rfl;have n:=F.noStar;simp only[y1,F.newKind,F.newSplit,F.newRow]
 repeat (first|refine qG x ?_ | (refine We x ?_;rw[a])|refine wpAny_staticBase_exc x ?_|refine QC3 x ?_|simp only[bne_self_eq_false,Qp,if_false]|wp_step)
 exact z
theorem Y7{Q:NB}(X:K.In h)(Y:ExK K W C fI)(j:rest.length<=j1)
  (l:Kx (Ky prog w) (A.under (.builtin "type.__call__" #[.ref C::rest,[]])) (gy (.ref fI) (.ref (h.1.size+1)::rest)) (λr s'=>r=.none/\Q (.ref (h.1.size+1)) s') E
   #[(h.push { cls:=.type "tuple",data:=.seq rest.toArray }).push (pG C h.1.size jz),g,d,t,y]):Kx (Ky prog w) A (gy (.ref C) rest) Q E #[h,g,d,t,y]:=by
 let#[nm,q,N,bs,B,sub,ab,n,H,O,L,J,I,G,hl]:=Y.obj;have a:=X _ _ hl;have S:=tc_lookup;have R:=tc_bind (.ref C);have P:(#[h,g,d,t,y]:j3).TypeIs (.ref C) "type":=#[_,a,rfl]
 have F:=WU;refine QAx (dn ?_);show Kx _ _ (callAny (.ref C) _) _ _ _
 repeat (any_goals (first|assumption|with_reducible refine qG a ?_|wp_step))
 refine#[rfl,codeAny_call_builtin_at (QAh _ (by decide +kernel)) entry_typeCall (wpAny_check_type_call_sub a ?_)]
 repeat (first|with_reducible refine qG a ?_|with_reducible refine QC3 a ?_|wp_step)
 refine codeAny_call_builtin_code (QAh _ F.quiet) (MQ X Y (cc X Y j ?_));show Kx _ _ _ _ _ _;have i:K.In ((h.push { cls:=.type "tuple",data:=.seq rest.toArray }).push (pG C h.1.size jz)):=X.keeps λb o e=>QF _ (QF _ e);have f:=i _ _ hl;have u:((h.push { cls:=.type "tuple",data:=.seq rest.toArray }).push (pG C h.1.size jz)).get? (h.1.size+1)=jy (pG C h.1.size jz):=QA1 (by rw[qM]) rfl;have p:(jx C::IE W C).contains (.ref C)=true:=by simp
 have Z:=looks_findIn (M:=Ky prog w) i Y.init;have s:=bind_fn (M:=Ky prog w) i (.ref (h.1.size+1)) Y.fn;unfold gl
 repeat (first|with_reducible refine qG u ?_ | (refine We f ?_;rw[p])|wp_step)
 show Kx _ _ (fb (.ref C) _) _ _ _;refine Z.at (qX (QE (s.at (QE (qL l (λr s' z=>?_) λ_ _ x=>x)))));let#[rfl,m]:=z;wp_walk;exact m
end
open PySem.Builtin PySem.Builtin.ObjectAttr
section
variable{prog:Kz}{w:kl}{A:Vy}{E:NB}{h:kt}{g:Array gn}{d:Ew}{t:Nat}{y:dt}{K:QC}{W C fI x:j2}{u:Obj}{a:Option Obj}
theorem ExK.sub{M:gm}(X:K.In h)(Y:ExK K W C fI)(T:String){b:Bool}(e:FN.contains (.type T)=b):Looks M h (isSubtype (.ref C) (.type T)) b:=by let#[nm,q,N,bs,f,sub,p,z,o,n,m,l,j,i,hl]:=Y.obj;refine looks_mroIn X ?_;unfold mroIn clsIn;rw[hl];show(if(jx C::IE W C).isEmpty=jb then jz else jy ((jx C::IE W C).contains (.type T)))=jy b;rw[eH (by simp),sG e]
theorem ExK.subR{M:gm}(X:K.In h)(Y:ExK K W C fI)(D:j2):Looks M h (isSubtype (.ref C) (.ref D)) (decide (D=C∨D=W)):=by let#[nm,q,N,bs,b,sub,o,z,n,m,l,j,i,f,hl]:=Y.obj;refine looks_mroIn X ?_;unfold mroIn clsIn;rw[hl];show(if(jx C::IE W C).isEmpty=jb then jz else jy ((jx C::IE W C).contains (.ref D)))=_;rw[eH (by simp)];congr 1;unfold IE FN;by_cases e:C=W;rw[ef e];simp[wI,e];rw[eH e];simp[wI]
theorem rZ{name:Str}{z:Tok}{R:Result->j3->Prop}{v:j0}(X:K.In h)(Y:ExK K W C fI)(I:InstAt h x u C a)(l:findObj K C a name=jy (Found.value v))(j:R (.ok (.ret v)) #[h,g,d,t,y]) :
  hT (Ky prog w) A (.call (.builtin "BaseException.__getattribute__") #[[.ref x,.str name z],[]]) R #[h,g,d,t,y]:=by
 have o:=QA2;have b:=I.type (M:=Ky prog w);have n:=looks_find (M:=Ky prog w) X I l;have m:Looks (Ky prog w) h (gl (.ref x) (.type "BaseException")) true:=b.andThen (Y.sub X "BaseException" rfl);have i:builtinKind "BaseException.__getattribute__"=jy .slot:=by decide +kernel
 have f:splitId "BaseException.__getattribute__"=jy ("BaseException","__getattribute__"):=by decide +kernel
 have e:=F.args_bexc_ga (.ref x) (.str name z);refine wO o.ga.plain QDL (@check_slot (Ky prog w) _ _ #[h,g,d,t,y] "BaseException.__getattribute__" "BaseException" "__getattribute__" (.ref x) [.str name z] [] _ i f m e ?_)
 repeat (first|with_reducible refine Looks.at b ?_|with_reducible refine Looks.at n ?_|wp_step)
 exact j
theorem pZ{name:Str}{f:Tok}{b z:Bool}{Q:NB}{v:j0}(X:K.In h)(Y:ExK K W C fI)(I:InstAt h x u C a)(n:findObj K C a name=jy (Found.value v))(m:handedIn v=jb)
  (s:Q v #[h,g,d,t,y]):Kx (Ky prog w) A (getAttrBy (.ref x) (.str name f) b z) Q E #[h,g,d,t,y]:=by
 have r:=QA2;have Z:=r.ga.bind (.ref x);have q:=I.type (M:=Ky prog w);have p:=looks_findIn (M:=Ky prog w) X Y.ga;have o:=looks_findIn (M:=Ky prog w) X Y.gh;have j:(z&&Dz (Value.builtin "BaseException.__getattribute__"))=false:=by cases z<;>rfl
 have e:(Value.builtin "BaseException.__getattribute__" == Value.builtin "object.__getattribute__")=false:=by decide +kernel
 have i:(Dz (jx C)&&Value.builtin "BaseException.__getattribute__" == Value.builtin "object.__getattribute__")=false:=by rw[e];rfl
 have l:=handedOut_of m
 repeat (any_goals (first|assumption|with_reducible refine Looks.at q ?_|with_reducible refine Looks.at p ?_|with_reducible refine Looks.at o ?_|wp_step))
 refine rZ X Y I n ?_
 repeat (any_goals (first|assumption|wp_step))
theorem sZ{Q:Option j0->j3->Prop}{m:Obj}(X:K.In h)(Y:ExK K W C fI)(I:InstAt h x u C (jy m))(hq:Q (jy (.ref C)) #[h,g,d,t+1,y]):Kx (Ky prog w) A (getAttr? (.ref x) "__class__") Q E #[h,g,d,t,y]:=by
 have n:=QA2;have f3:=n.ga.bind (.ref x);have l:=I.type (M:=Ky prog w);have L1:=looks_findIn (M:=Ky prog w) X Y.ga;have H:=looks_findIn (M:=Ky prog w) X Y.gh;have hc:(clsIn K C).isSome=true:=by let#[nm,q,N,bs,o,sub,P,j,O,r,f,e,z,p,hl]:=Y.obj;unfold clsIn;rw[hl];rfl
 have L:findObj K C (jy m) "__class__"=jy (.bind (.builtin "getset_descriptor.__get__") (.builtin "object.__class__")):=findObj_data hc Y.ca (by kernel_rfl) (by kernel_rfl);have R:=looks_find (M:=Ky prog w) X I L;have S:Looks (Ky prog w) h (gl (.ref x) (.type "BaseException")) true:=l.andThen (Y.sub X "BaseException" rfl);have J:mroIn K C (.type "object")=jy true:=by let#[nm,q,N,bs,o,sub,P,j,O,r,f,e,z,p,hl]:=Y.obj;unfold mroIn clsIn;rw[hl];show(if(jx C::IE W C).isEmpty=jb then jz else jy ((jx C::IE W C).contains (.type "object")))=_;rw[eH (by simp),sG (b:=jb) rfl]
 have B:(js&&Dz (Value.builtin "BaseException.__getattribute__"))=false:=rfl;have i:(Value.builtin "BaseException.__getattribute__" == Value.builtin "object.__getattribute__")=false:=by decide +kernel
 have Z:(Dz (jx C)&&Value.builtin "BaseException.__getattribute__" == Value.builtin "object.__getattribute__")=false:=by rw[i];rfl
 have f:builtinKind "BaseException.__getattribute__"=jy .slot:=by decide +kernel
 have e:splitId "BaseException.__getattribute__"=jy ("BaseException","__getattribute__"):=by decide +kernel
 have z:=F.args_bexc_ga (.ref x) (.str "__class__" t);have G:=handedOut_of (v:=.ref C) rfl
 repeat (any_goals (first|assumption|with_reducible refine Looks.at l ?_|with_reducible refine Looks.at L1 ?_|with_reducible refine Looks.at H ?_|wp_step))
 refine wO n.ga.plain QDL (@check_slot (Ky prog w) _ _ #[h,g,d,t+1,y] "BaseException.__getattribute__" "BaseException" "__getattribute__" (.ref x) [.str "__class__" t] [] _ f e S z ?_)
 repeat (first|with_reducible refine Looks.at l ?_|with_reducible refine Looks.at R ?_|wp_step)
 refine class_get (s:=#[h,g,d,t+1,y]) X I J ?_
 repeat (any_goals (first|assumption|wp_step))
theorem U6{j:Obj}(Y:ExK K W C fI):KitX K (.ref x) (.ref C) (λh=>InstAt h x u C (jy j)) where
 ty:=λ_ _ _ I=>I.type
 it:=λ_ _ X _=>by let#[nm,q,N,bs,i,sub,F,e,f,r,p,o,m,l,hl]:=Y.obj;intro S Q R L k q;unfold isType loadHead;exact QE (wpAny_loadPart (k _ _ (X _ _ hl)) (QS q))
 ne:=λh tp f Z n J X b=>by let#[nm,q,N,bs,i,sub,F,e,B,r,p,o,m,l,hl]:=Y.obj;refine Bool.eq_false_iff.mpr λq=>?_;obtain rfl:C=tp:=Value.ref.inj (beq_iff_eq.mp q);have z:=e6 Obj.data (QY ((X _ _ hl).symm.trans b));exact nomatch z
 ca:=λ{_ _ _ _ _ s} X I k=>by let#[O,P,f,G,M]:=s;exact sZ X Y I k
end
section
variable{prog:Kz}{w:kl}{A:Vy}{E:NB}{h:kt}{g:Array gn}{d:Ew}{t:Nat}{z:dt}{K:QC}{W C fI x ta:j2}
theorem ExK.mro{M:gm}(X:K.In h)(Y:ExK K W C fI):Looks M h (mroOf (.ref C)) (.ref C::IE W C):=by let#[nm,q,N,bs,u,sub,a,y,l,j,i,f,e,b,hl]:=Y.obj;exact(looks_clsIn (cd:={ name:=nm,bases:=bs,mro:=.ref C::IE W C,ns:=N,qualname:=q,hasDict:=jb,slotNames:=u,subclasses:=sub,abstract:=a,collection:=y,hasDel:=js }) X (by unfold clsIn;rw[hl])).andThen .now
theorem uY(y:j0)(W C:j2):refuseLoop y "__setattr__" (.ref C::IE W C)=ez Unit.unit:=by have p:=QCC.passes y;unfold IE;split;rw[QBi];exact p;rw[QBi,QBi];exact p
theorem oZ{v:j0}{Q:Unit->j3->Prop}(X:K.In h)(Y:ExK K W C fI)(l:h.get? x=jy (pG C ta jz))
  (G:∀h' F,h'.get? x=jy (pG C ta (jy h.1.size))->h'.Ns1 h.1.size (λy=>if y="place" then jy v else jz)->(∀b o,b≠x->h.get? b=jy o->h'.get? b=jy o)->h.1.size<h'.1.size->Q Unit.unit #[h',g,d,F,z]) :
  Kx (Ky prog w) A (setAttr (.ref x) "place" v) Q E #[h,g,d,t,z]:=by
 have u:=QCC;have j:Looks (Ky prog w) h (Ez (.ref x)) (.ref C):=(Looks.ld l).andThen .now;have L1:=looks_findIn (M:=Ky prog w) X Y.sa;have H:=looks_findIn (M:=Ky prog w) X Y.pl;have S:Looks (Ky prog w) h (gl (.ref x) (.type "object")) true:=j.andThen (Y.sub X "object" rfl);have R:=Y.mro (M:=Ky prog w) X;have f3:=u.slot.bind (.ref x);unfold setAttr callSpecial? specialOf
 repeat (any_goals (first|assumption|with_reducible refine Looks.at j ?_|with_reducible refine Looks.at L1 ?_|wp_step))
 have J:=u.args (.ref x) (.str "place" t) v;refine wO u.slot.plain u.entry (@check_slot (Ky prog w) _ _ #[h,g,d,t+1,z] "object.__setattr__" "object" "__setattr__" (.ref x) [.str "place" t,v] [] _ u.kind u.split S J ?_);show Kx _ _ («object.__setattr__» #[[.ref x,.str "place" t,v],[]]) _ _ _;rw[osa_eq,refuse_eq];refine QE (QE (j.at (QE (R.at ?_))));rw[uY];refine QS (QE (j.at (QE (H.at (QE (QS ?_))))));show Kx _ _ (storeInOwnDict _ _ _ _ _ _) _ _ _;unfold storeInOwnDict;have Z:x≠h.1.size:=Qk (QO l);have a:(h.push { cls:=.type "dict",data:=.dict #[] }).get? x=jy (pG C ta jz):=QF _ l;have r:((h.push { cls:=.type "dict",data:=.dict #[] }).update x λo=>{ o with dict:=jy h.1.size }).get? h.1.size=jy { cls:=.type "dict",data:=.dict #[] } :=
  (QBq _ _ _ _ Z.symm).trans (QA1 rfl rfl)
 repeat (first|with_reducible refine Looks.at j ?_|with_reducible refine qG l ?_|wp_step)
 let#[nm,q,N,bs,sn,sub,ab,P,dd,k0,k1,k2,k3,k5,hl]:=Y.obj;refine QDb (X _ _ hl) (QS ?_);show Kx _ _ (alloc _ >>= _) _ _ _;refine QE (wpAny_alloc' (QE (wpAny_update' a (QS ?_))));have m:((h.push { cls:=.type "dict",data:=.dict #[] }).update x λo=>{ cls:=o.cls,dict:=jy h.1.size,data:=o.data,slots:=o.slots }).Ns h.1.size (λ_=>jz) :=
  #[_,#[],_,r,rfl,λe I=>eN I (by simp),λ_=>rfl]
 show Kx _ _ (storeInDict h.1.size (.str "place" t) "place" v) _ _ _;unfold storeInDict newKeyGuard;refine QE (QS (QE (wpAny_nsSet1 (Heap.Ns1.of_empty m) λh' i B=>?_)));let#[oD,L,O,f,p,s]:=i.count (Within.cons "place" v Within.nil);refine QE (wpAny_lookBehind f (by rw[p];exact pastItsLine_dict (qZ s (by rw[QJ,qf,qi];omega))) ?_);wp_walk;refine G h' _ ((B.2 x Z).trans (wD _ a rfl)) i (λb o n q=>(B.2 b (Qk (QO q))).trans ((QBq _ _ _ _ n).trans (QF _ q))) ?_;exact QO f
theorem J7{v:j0}{Q:NB}(X:K.In h)(Y:ExK K W C fI)(y:h.get? x=jy (pG C ta jz))
  (e:∀h',h'.get? x=jy (pG C h.1.size jz)->(∀b o,b≠x->h.get? b=jy o->h'.get? b=jy o)->h.1.size<=h'.1.size->Q .none #[h',g,d,t,z]) :
  Kx (Ky prog w) A (gy (.builtin "ValueError.__init__") [.ref x,v]) Q E #[h,g,d,t,z]:=by
 have F:=WU;have a:Looks (Ky prog w) h (Ez (.ref x)) (.ref C):=(Looks.ld y).andThen .now;have i:Looks (Ky prog w) h (gl (.ref x) (.type "ValueError")) true:=a.andThen (Y.sub X "ValueError" rfl);have Z:=F.noStar;refine QAx (wO F.init.plain F.initEntry ?_);simp only[y1,F.initKind,F.initSplit,F.initRow];refine QE (i.at ?_);let#[nm,q,N,bs,j,sub,G,f,B,s,r,p,m,l,hl]:=Y.obj;have u:=X _ _ hl
 repeat (first|with_reducible refine qG y ?_|with_reducible refine qG u ?_|with_reducible refine QDb u ?_|with_reducible refine Looks.at a ?_|wp_step)
 refine e _ ?_ (λb o n q=>?_) ?_;rw[wD _ (QF _ y) rfl];rfl;rw[qR _ _ (Qw n)];exact QF _ q;rw[WB,qM];exact QBo _
end
noncomputable def AM(C e:j2):kt->Prop:=λh=>∃t,h.get? e=jy (pG C t jz)
noncomputable def LG(C e x:j2):kt->Prop:=λh=>∃vs,h.get? e=jy { cls:=.ref C,dict:=jy x,data:=.fields vs }
noncomputable def bL(C e x:j2):kt->Prop:=λh=>∃t,h.get? e=jy (pG C t (jy x))
noncomputable def EH(p:Int):List (Str×V):=[("place",.int p)]
section
variable{X:Cx}{g:FB}{σ:St}{H:Hp}{s:j3}{W C fI e l:j2}
theorem tX{P:Kz}{w:kl}{h:kt}{t:j2}(q:h.get? e=jy (pG C t jz)):LA P w H h e (.ext (AM C e)) :=
 #[#[t,q],#[_,q],λ_ _ #[t,q] k=>#[t,k _ q]]
theorem sX{P:Kz}{w:kl}{h:kt}{vs:Array j0}(q:h.get? e=jy { cls:=.ref C,dict:=jy l,data:=.fields vs }):LA P w H h e (.ext (LG C e l)) :=
 #[#[vs,q],#[_,q],λ_ _ #[t,q] k=>#[t,k _ q]]
theorem fc{P:Kz}{w:kl}{h:kt}{t:j2}(q:h.get? e=jy (pG C t (jy l))):LA P w H h e (.ext (bL C e l)) :=
 #[#[t,q],#[_,q],λ_ _ #[t,q] k=>#[t,k _ q]]
noncomputable def Nr(K:QC)(W fI:j2)(i j:Nat):TE:=λσ H Q=>∃e C v,σ[i]?=jy (jy (.ref e))/\σ[j]?=jy (jy v)/\H e=jy (.ext (AM C e))/\ExK K W C fI/\Q .non H
theorem Di{i j:Nat}{x y:Str}{n p2 p ap pos:Pos}(P:Gl X "ValueError")(O:X.mg "ValueError"=jz)(S:PE X (.Name x p2) (BP i))(R:PE X (.Name y p) (BP j))(M:(ap.endLine==pos.line)=jb) :
  PE X (.Call (.Attribute (.Name "ValueError" n) "__init__" ap) [.Name x p2,.Name y p] [] pos) (Nr X.K W fI i j):=by
 intro g s σ H Q I h;let#[e,C,v,e1,e2,Z,Y,q]:=h;let#[m,F]:=I.fr;have hv:vb "ValueError"=jy (.type "ValueError"):=by decide +kernel
 refine PySem.W.methodCall_KW (pl:=do return(<- importBound (.Name "ValueError" n) X.env).getD jb) (AF I P O hv ?_) ?_;refine PySem.W.method_type (v:=.builtin "ValueError.__init__") F I.ok.mod.kin (by kernel_rfl) (by decide +kernel) (by kernel_rfl) rfl ?_;have I0:=I.tok (s.toks+1);refine W6 (EA ((mD S (mD R kK)) pos g _ σ H (λvs u=>vs=[.ref e,v]/\u=H) I0 #[_,e1,_,e2,rfl,rfl]) λus B #[vs,u,A,r,ev,eh]=>?_) rfl rfl;subst ev eh;cases r with
 |cons L r=>cases r with
  |cons r2 r=>cases r with
   |nil =>
    cases(show _=jx e from L);let#[t,N]:=(show LA X.prog X.w u B.1 e (.ext (AM C e)) from A.hok e _ Z).1;let#[hh,gg,dd,G,oo]:=B;refine J7 A.kIn Y N λh' a b _=>?_;have J:=A.write (x:=e) (e:=e) (o:=.ext (AM C e)) (h':=h') (t':=G) (by rw[Z];exact True.intro) (.inl rfl) b #[_,a] (tX a);have eu:VA u e (.ext (AM C e))=u:=by funext b;unfold VA;split;rename_i z;rw[z,Z];rfl
    rw[eu]at J;exact#[.non,u,J,rfl,q]
 show(do
  let E <- vu (.Name "ValueError" n) X.env
  Ex ap.atName
  let(f,first) <- gV [E] (getMethod E "__init__" (do return(<- importBound (.Name "ValueError" n) X.env).getD jb))
  let cp <- (if(!jb||ap.endLine==pos.line)=jb then(ez pos:Sem Pos) else _)
  ej cp f first (x2 pos (ka [.Name x p2,.Name y p] X.env)) (gz pos (zy [] X.env)):Sem j0)=_
 rw[M];rfl
noncomputable def Gs(K:QC)(W fI:j2)(i j:Nat):TS:=λD σ H=>∃e C p,σ[i]?=jy (jy (.ref e))/\σ[j]?=jy (jy (.int p))/\H e=jy (.ext (AM C e))/\ExK K W C fI/\∀l,H l=jz->D.nx σ (VA (VA H l (.xd (EH p))) e (.ext (bL C e l)))
theorem di{i j:Nat}{x y:Str}{N p2 pos' pos:Pos}(h1:PE X (.Name x N) (BP i))(h2:PE X (.Name y p2) (BP j)):PS X (.Assign [.Attribute (.Name x N) "place" pos'] (.Name y p2) pos) (Gs X.K W fI i j):=by
 intro g s σ H D I h;let#[e,C,p,e1,e2,Q,Y,q]:=h;refine plainObj_wpAny_Assign_Attribute (EA (h2 g s σ H (λv J=>v=.int p/\J=H) I #[_,e2,rfl,rfl]) λu s1 #[v,J,I1,rv,ev,P]=>EA (h1 g s1 σ J (λv Z=>v=.ref e/\Z=H) I1 #[_,e1,rfl,P]) λov M #[v2,Z,r,A,F,G]=>?_) rfl;subst ev F P G;cases(show ov=jx e from A);let#[t,O]:=(show LA X.prog X.w Z M.1 e (.ext (AM C e)) from r.hok e _ Q).1;let#[m,gg,dd,tt,oo]:=M;refine oZ r.kIn Y O λh' L a b c d=>?_;have hn:Z m.1.size=none:=r.hok.fresh (QU _);have ne:e≠m.1.size:=Qk (QO O);let#[B,es,ep,R,b2,b3,b4,b5]:=b;have E:B.isFreed=false:=(Heap.get?_some_iff.mp R).2;have J1:=r.laid (a:=m.1.size) (o:=.xd (EH p)) (h':=m.push B) (t':=L) (λb u q=>QF _ q) (QU _)
  #[_,#[B,es,ep,QV _ E,b2,b3,b4,b5],λf=>by unfold EH;by_cases z:f="place";subst z;rw[ef rfl];exact rv;rw[eH z,Qg];have z':(f==("place":Str))=false:=beq_eq_false_iff_ne.mpr z;rw[z'];trivial]
 have J2:=J1.write (x:=e) (e:=e) (o:=.ext (bL C e m.1.size)) (h':=h') (t':=L) (by rw[yA ne,Q];exact True.intro) (.inl rfl) (λb u n q=>by rcases QAG q with⟨z1,S⟩| z;rw[z1,S];exact R;exact c b u n z) #[_,a] (fc a);exact#[σ,_,J2,q _ hn]
end
noncomputable def dO(K:QC)(W fI:j2):Sp:=λvs H Q _=>∃e v p C,vs=[.ref e,v,.int p]/\H e=jy (.ext (AM C e))/\ExK K W C fI/\∀h,H h=jz->Q .non (VA (VA H h (.xd (EH p))) e (.ext (bL C e h)))
structure IniB(st:vl):Prop where
 body:∃p1 ap p2 p3 pos p4 p5 p6 p7 p8,VB st=[.Expr (.Call (.Attribute (.Name "ValueError" p1) "__init__" ap) [.Name "self" p2,.Name "words" p3] [] pos) p4,.Assign [.Attribute (.Name "self" p5) "place" p6] (.Name "place" p7) p8]/\(ap.endLine==pos.line)=jb
 sc:FnScope ["self","words","place"] ["self","words","place"] (nA st)
 l1:(nA st).names.lookup ("self":Str)=jy .local
 l2:(nA st).names.lookup ("words":Str)=jy .local
 l3:(nA st).names.lookup ("place":Str)=jy .local
 g:(nA st).names.lookup ("ValueError":Str)=jy .globalImplicit
section
variable{P:Kz}{w:kl}{K:QC}{mg:Str->Option j0}{base:kt}{W fI:j2}
theorem uk{st:vl}{u:vy}{k:Nat}(F:Fun K "__init__" "WorldError.__init__" st fI u)(B:IniB st)(r:mg "ValueError"=jz):FnOk P w K mg base A8 (k+1) fI u ["self","words","place"] (dO K W fI):=by refine F.ok B.sc (λvs H Q E h=>?_) λy A x s H vs Q E L h=>?_;let#[e,v,p,C,rfl,_]:=h;rfl;let#[J,M,n,m,i,p4,l,I,j,G,X,o]:=B.body;rw[X];have z:∀p,PE (nK A8 P w K mg base ["self","words","place"] "WorldError.__init__" (nA st) fI y A x s H E).nox (.Name "self" p) (BP 0):=λp=>jK rfl (.inl B.l1);have f:∀p,PE (nK A8 P w K mg base ["self","words","place"] "WorldError.__init__" (nA st) fI y A x s H E).nox (.Name "words" p) (BP 1):=λp=>jK rfl (.inl B.l2);have b:∀p,PE (nK A8 P w K mg base ["self","words","place"] "WorldError.__init__" (nA st) fI y A x s H E).nox (.Name "place" p) (BP 2):=λp=>jK rfl (.inl B.l3);refine#[_,JG (OP (Di (W:=W) (fI:=fI) B.g r (z n) (f m) o)) (JG (di (W:=W) (fI:=fI) (z l) (b j)) UW),?_];let#[e,v,p,C,rfl,a,Y,q]:=h;exact#[e,C,v,rfl,rfl,a,Y,e,C,p,rfl,rfl,a,Y,λZ hd=>q Z hd]
end
section
variable{X:Cx}{x:FB}{σ:St}{H:Hp}{s:j3}{W C fI:j2}{y:vy}{k:Nat}
theorem V9{Q:VK}{us:LW}{v:V}{p:Int}(Y:ExK X.K W C fI)(F:FnOk X.prog X.w X.K X.mg X.base A8 k fI y ["self","words","place"] (dO X.K W fI))(G:Room (k+1) X.A)(L:KE X.K y ["self","words","place"] [])
  (I:Inv X x σ H s) (r:iA [v,.int p] us) (h:∀e g,H e=jz->H g=jz->g≠e->Q (.ref e) (VA (VA H g (.xd (EH p))) e (.ext (bL C e g)))) :
  Kx (Ky X.prog X.w) X.A (gy (.ref C) us) (EP X x σ Q) X.xe s:=by
 let#[f,gg,dd,n,oo]:=s;have hl:us.length=2:=r.length.symm;refine Y7 I.kIn Y (by rw[hl,qi];decide) ?_;have R:=I.kept (h':=f.push { cls:=.type "tuple",data:=.seq us.toArray }) (t':=n) λb u e=>QF _ e;have m:(f.push { cls:=.type "tuple",data:=.seq us.toArray }).1.size=f.1.size+1:=qM ..;have M:((f.push { cls:=.type "tuple",data:=.seq us.toArray }).push (pG C f.1.size jz)).get? (f.1.size+1)=jy (pG C f.1.size jz):=QA1 m.symm rfl;have l:=R.laid (a:=f.1.size+1) (o:=.ext (AM C (f.1.size+1))) (h':=(f.push { cls:=.type "tuple",data:=.seq us.toArray }).push (pG C f.1.size jz)) (t':=n) (λb u e=>QF _ e) (by rw[m];exact QU _) (tX M);have E:H (f.1.size+1)=none:=I.hok.fresh (QBo _);have J:dO X.K W fI [.ref (f.1.size+1),v,.int p] (VA H (f.1.size+1) (.ext (AM C (f.1.size+1)))) (λv S=>v=.non/\Q (.ref (f.1.size+1)) S) E0:=by
  refine#[_,v,p,C,rfl,vA,Y,λg hd=>#[rfl,?_]];have q:g≠f.1.size+1:=λz=>by rw[z,vA]at hd;cases hd
  rw[yA q]at hd;have e:VA (VA (VA H (f.1.size+1) (.ext (AM C (f.1.size+1)))) g (.xd (EH p))) (f.1.size+1) (.ext (bL C (f.1.size+1) g))=VA (VA H g (.xd (EH p))) (f.1.size+1) (.ext (bL C (f.1.size+1) g)):=by funext b;by_cases z:b=f.1.size+1;rw[z,vA,vA];rw[yA z,yA z];by_cases j:b=g;rw[j,vA,vA];rw[yA j,yA j,yA z]
  rw[e];exact h _ g E hd q
 refine QAx (WG (F.run _ X.stack _ _ #[jx (f.1.size+1)::us,[]] (jx (f.1.size+1)::us) _ _ E0 (G.make C us []) (l.env0.make C us []) ?_ (.cons (show aA (.ref (f.1.size+1)) (jx (f.1.size+1)) from rfl) r) J) λr s' i=>?_);have b:=L _ (jx (f.1.size+1)::us) l.kIn (by rw[Qd,QJ,hl];rfl);rw[Qd]at b;exact b;cases r with
 |error e=>exact i.elim|ok N =>
  cases N with|ret u=>let#[v,H',P,Z,O,B]:=l.after i;subst O;exact#[Z,#[V.ref (f.1.size+1),H',P,rfl,B]]|next=>exact QT i|brk=>exact QT i|cont=>exact QT i
end
section
variable{M:gm}{A:Vy}{E:NB}{s:j3}{env:Env}{K:QC}
theorem rU{x:Sem j0}{Q:Flow->j3->Prop}(a:A.handled=jz)
  (h:Kx M A x (λv y=>∃e W C fI t u,v=.ref e/\K.In y.1/\ExK K W C fI/\y.1.get? e=jy (pG C t (jy u))/\E (.ref e) y) E s):Kx M A (raiseStmt env (jy x) jz) Q E s:=by
 unfold raiseStmt;refine QE (qL h (λv y j=>?_) λ_ _ x=>x);let#[e,W,C,fI,t,u,rfl,X,Y,f,i]:=j;let#[G,g,d,n,os]:=y;let#[nm,q,N,bs,o,sub,J,l,I,F,B,Z,r,p,hl]:=Y.obj;have z:=X _ _ hl;have m:=sG (W:=W) (C:=C) (T:="BaseException") (b:=jb) rfl
 repeat (first|with_reducible refine qG f ?_|with_reducible refine qG z ?_ | (refine We z ?_;rw[m])|wp_step)
 exact wpAny_raiseNew_none a i
end
section
variable{X:Cx}{W C fI:j2}{y:vy}{k:Nat}
noncomputable def Zh(C:j2)(t:TA):TE:=λz H Q=>t z H λvs x=>∃v p,vs=[v,.int p]/\∀e h,x e=jz->x h=jz->h≠e->Q (.ref e) (VA (VA x h (.xd (EH p))) e (.ext (bL C e h)))
theorem Gi{x:Str}{p pos:Pos}{e:Expr}{u:List Expr}{t:TA}(Y:ExK X.K W C fI)(F:FnOk X.prog X.w X.K X.mg X.base A8 k fI y ["self","words","place"] (dO X.K W fI))(i:Room (k+1) X.A)(n:KE X.K y ["self","words","place"] [])
  (l:Gl X x) (j:X.mg x=jy (.ref C)) (o:PA X (e::u) t) (b:(x==("__debug__":Str))=js) (m:ka (e::u) X.env=(js,vu e X.env)::ka u X.env) (a:(x2 pos (ka u X.env)).any (·.1)=js) :
  PE X (.Call (.Name x p) (e::u) [] pos) (Zh C t):=by
 intro z s g H Q I h;refine wG (gJ I l j ?_ b);refine QAg (h₀:=X.base) I.ok.mod.kin Y.kp (EA (o pos z s g H _ I h) λZ B #[vs,E,f,r,q]=>#[f.kIn,?_]) m a;let#[v,p,rfl,q]:=q;exact V9 Y F i n f r q
def jW(X:Cx)(W fI:j2)(EK:XK):Prop:=∀(h:FB) (z:St) (H:Hp) (s:j3) (e C x:j2),Inv X h z H s->H e=jy (.ext (bL C e x))->(∃fs,H x=jy (.xd fs))->ExK X.K W C fI ->
 EK .none (jy e) (VA H e (.ext (LG C e x)))->X.xe (.ref e) s
noncomputable def Dr(K:QC)(W fI C:j2)(EK:XK)(t:TA):TS:=λD z H=>Zh C t z H λv x=>∃e h,v=.ref e/\x e=jy (.ext (bL C e h))/\(∃fs,x h=jy (.xd fs))/\EK .none (jy e) (VA x e (.ext (LG C e h)))
theorem ui{EK:XK}{x:Str}{p cpos pos:Pos}{e:Expr}{j:List Expr}{t:TA}(Y:ExK X.K W C fI)(r:jW X W fI EK)(hc:X.calm=jb)(A:PE X (.Call (.Name x p) (e::j) [] cpos) (Zh C t)) :
  PS X (.Raise (jy (.Call (.Name x p) (e::j) [] cpos)) jz pos) (Dr X.K W fI C EK t):=by
 intro z s f H D I h;rw[arm_exec_Raise];refine QE (WQ (rU (K:=X.K) (I.ok.hd hc) ?_));refine QE (qL (A z s f H _ I h) (λv g B=>QE (WQ (QS ?_))) λ_ _ x=>x);let#[v,l,b,n,u,a,E,i,q,o]:=B;subst E;cases(show _=jx u from n);let#[m,Z]:=(show LA X.prog X.w l g.1 u (.ext (bL C u a)) from b.hok u _ i).1;exact#[u,W,C,fI,m,a,rfl,b.kIn,Y,Z,r z f l g u C a b i q Y o]
end
structure Exc(K:QC)(W fI:j2)(l:List Env)(H':Hp)(e:j2)(fl:Option j0)(B h:kt):Prop where
 obj:∃C dx,H' e=jy (.ext (LG C e dx))/\(∃fs,H' dx=jy (.xd fs))/\ExK K W C fI/\Fly B l e (.ref C) dx fl h
 inB:∀b o,H' b=jy o->b≠e->∃ob,B.get? b=jy ob
def Pu(P:Kz)(w:kl)(K:QC)(W fI:j2)(fs:List j2)(l:List Env)(H:Hp)(y:kt)(os:dt)(EK:XK)(x:Option j0->Prop)(v:j0)(s':j3):Prop :=
 ∃e h B z,v=.ref e/\x z/\s'.os=os/\AllBare s'.gens/\Un fs [] H h y s'.1/\aH P w h s'.1/\(∀b o,y.get? b=jy o->b∉fs->b=e∨∃u,B.get? b=jy u)/\Exc K W fI l h e z B s'.1/\EK .none (jy e) h
def Nt(X:Cx)(h:Option j0):Prop:=h=jz∨h=jy .none∨h=jy (Xy X.env.locals)
noncomputable def vd(P:Kz)(w:kl)(K:QC)(W fI:j2):AT:=λh H s z v x=>Pu P w K W fI (LO h) h H s.1 s.os z (λy=>y=jy .none) v x
def SX(X:Cx)(W fI:j2)(EK:XK)(v:j0)(s':j3):Prop:=Pu X.prog X.w X.K W fI X.fs X.stack X.H₀ X.s₀.1 X.s₀.os EK (Nt X) v s'
theorem vj{P:Kz}{w:kl}{H:Hp}{h:kt}{a:j2}{o:HO}(x:LA P w H h a o):∃b,h.get? a=jy b:=by
 cases o with|lst g=>let#[_,_,_,_,e]:=x;exact#[_,e]|tup g=>let#[_,_,_,_,e,_]:=x;exact#[_,e]|dK z=>let#[_,_,_,_,_,_,_,e,_]:=x;exact#[_,e]|dT z=>let#[_,_,_,_,_,_,_,e,_]:=x;exact#[_,e]|set S n=>let#[_,_,_,_,e,_]:=x;exact#[_,e]|ins C p fs=>let#[_,_,_,e,_]:=x;exact#[_,e]|own y=>exact x|xd fs=>let#[_,#[_,_,_,e,_],_]:=x;exact#[_,e]|rng l m=>let#[_,_,_,e]:=x;exact#[_,e]|frz b u=>let#[e,_]:=x;exact#[_,e]|tbl j=>exact#[_,x]|met f y=>exact#[_,x]|ext i=>exact x.2.1
section
variable{P:Kz}{w:kl}{K:QC}{W fI:j2}{d:List j2}{l:List Env}{H H':Hp}{f h h' B:kt}{e C y:j2}{c v:Option j0}
theorem Exc.hok(x:Exc K W fI l H' e c B h)(ok:aH P w H' h)(q:∀C y,Fly B l e (.ref C) y c h->Fly B l e (.ref C) y v h'):aH P w H' h':=λa o j=>by
 let#[C,y,Z,O,Y,F]:=x.obj;have A:=q C y F;by_cases z:a=e;subst z;rw[Z]at j;cases j;let#[G,vs,J,hc,hd,s,p,_]:=A.obj;let#[N,M,L,E]:=G;obtain rfl:N=.ref C:=hc;obtain rfl:M=jy y:=hd;obtain rfl:L=.fields vs:=s;obtain rfl:E=#[]:=p;exact sX J;refine(ok a o j).stay (λb u i X=>?_) (λ_ q=>q) λ_ _ q=>q;have n:b≠e/\∃m,H' b=jy m:=by rcases i with rfl|i;exact#[z,o,j];exact#[λz=>(by rw[z,Z]at i;cases i),_,i]
 let#[n,m,r]:=n;let#[I,g]:=x.inB b m r n;rw[F.stay b I g]at X;cases X;exact A.stay b _ g
theorem Exc.un(x:Exc K W fI l H' e c B h)(u:Un d [] H H' f h)(E:∀b o,f.get? b=jy o->b∉d->b=e∨∃i,B.get? b=jy i)(q:∀C y,Fly B l e (.ref C) y c h->Fly B l e (.ref C) y v h')(Z:∀b∈d,∀o,h.get? b=jy o->∃r,h'.get? b=jy { o with slots:=r }):Un d [] H H' f h':=by
 let#[C,y,J,M,Y,F]:=x.obj;have X:=q C y F;refine#[λb o g n A j=>?_,λb o g n m j=>?_,u.free,λb o g j=>?_,u.tups,u.frzs,u.tbls];rcases E b o g A with z|⟨i,a⟩
 ·have:=u.free b o g n j
  rw[z,J]at this;cases this
 have k:=u.keep b o g n A j;rw[F.stay b i a]at k;cases k;exact X.stay b _ a;let#[r,k]:=u.slot b o g n m j;let#[p,s]:=Z b m _ k;exact#[p,s];by_cases m:b∈d
 ·let#[L,k]:=u.there b o g j
  let#[r,s]:=Z b m _ k;exact#[_,s]
 rcases E b o g m with z|⟨i,a⟩
 ·let#[G,_,I,_]:=X.obj
  exact#[G,by rw[z];exact I]
 exact#[i,X.stay b i a]
theorem Exc.to(x:Exc K W fI l H' e c B h){z:List Env}(q:∀C y,Fly B l e (.ref C) y c h->Fly B z e (.ref C) y v h'):Exc K W fI z H' e v B h':=by let#[C,y,a,u,Y,F]:=x.obj;exact#[#[C,y,a,u,Y,q C y F],x.inB]
theorem Fly.tail{env:Env}{cls:j0}(x:Fly B (env::l) e cls y c h):Fly B l e cls y c h:=#[x.stay,x.new,x.ff.2.2,x.obj]
end
section
variable{P:Kz}{w:kl}{K:QC}{mg:Str->Option j0}{base:kt}{W fI:j2}
theorem EY{N:LS}{z:Str}{y:Xz}{f:j2}{cd:j0}{A:Vy}{outer:List Env}{s:j3}{H:Hp}{E EK:XK}{v:j0}{s':j3}(j:(A.deeper (envOfC z y s.1.1.size f cd)).frames=jy (envOfC z y s.1.1.size f cd::outer))(I:∀a H,EK .none a H->E .none a H)
  (h:SX (nK (vd P w K W fI) P w K mg base N z y f cd A outer s H E) W fI EK v s'):(nK (vd P w K W fI) P w K mg base N z y f cd A outer s H E).xe v s':=by
 let#[e,H',B,M,rfl,Z,os,O,un,ok,l,x,q]:=h;show Kx _ _ (leaving _ _) _ _ _;unfold leaving;refine QE ?_;let#[C,dx,h1,h2,Y,F]:=id x.obj;refine iS (L:=s.1.1.size) j rfl Z F λJ F' X sz=>?_;have i:∀g u,Fly B (envOfC z y s.1.1.size f cd::outer) e (.ref g) u M s'.1->Fly B (envOfC z y s.1.1.size f cd::outer) e (.ref g) u (jy .none) J:=λg u G=>by let#[o1,_,S,R,Q,_]:=G.obj;let#[o2,_,r,p,n,_]:=F.obj;rw[S]at r;cases r;rw[R]at p;rw[Q]at n;cases p;cases n;exact F'
 exact#[e,H',B,jy .none,rfl,rfl,os,O,x.un un l i λb m o q=>X b (by unfold LO at m ⊢;rw[wX];exact QH _ m) o q,x.hok ok i,l,x.to λg u G=>(i g u G).tail,I _ _ q]
end
section
variable{X:Cx}{W fI:j2}{EK:XK}
theorem O4(i:X.ex=[])(u:∀v s',SX X W fI EK v s'->X.xe v s'):aN (vd X.prog X.w X.K W fI) X EK:=λf Y H s v s' I h=>by refine u v s' ?_;let#[e,r,B,Z,rfl,rfl,os,j,un,ok,p,x,q]:=h;have J:=I.call' os un ok j (λb z=>eN z (by simp));have g:=J.base;rw[i]at g;refine#[e,r,B,_,rfl,.inr (.inl rfl),J.os,j,g,ok,λb o a n=>?_,x,q];have y:=I.base;rw[i]at y;let#[l,k]:=y.there b o a (by simp);refine p b l k λm=>?_;rcases QR.mp (I.stkSub b m) with z|z;exact eN (QO a) (by rw[z];exact QCX.mpr I.ok.above);exact n z
theorem sY(F:X.ex=[])(i:∀v s',SX X W fI EK v s'->X.xe v s'):jW X W fI EK:=λu Z H s e C h I p f Y q=>by
 refine i _ s ?_;let#[t,l]:=(show LA X.prog X.w H s.1 e (.ext (bL C e h)) from I.hok e _ p).1;have J:=I.write (x:=e) (e:=e) (o:=.ext (LG C e h)) (h':=s.1) (t':=s.toks) (by rw[p];exact True.intro) (.inl rfl) (λ_ _ _ q=>q) #[_,l] (sX l);have J:Inv X u Z (VA H e (.ext (LG C e h))) s:=J;have g:=J.base;rw[F]at g;have E:∃fs,(VA H e (.ext (LG C e h))) h=jy (.xd fs):=by let#[fs,f]:=f;exact#[fs,by rw[yA (λz=>by rw[z,p]at f;cases f)];exact f]
 refine#[e,_,QDG s.1 (e::LO X.stack),jz,rfl,.inl rfl,J.os,J.bare,g,J.hok,λb o y B=>?_,#[#[C,h,vA,E,Y,?_],λb o y n=>?_],q];by_cases z:b=e
 ·exact .inl z
 let#[A,k]:=g.there b o y (by simp);refine .inr #[A,QAV _ k λm=>?_];rcases QR.mp m with m|m;exact z m;rcases QR.mp (J.stkSub b m) with z|z
 ·exact eN (QO y) (by rw[z];exact QCX.mpr I.ok.above)
 exact B z;refine#[λb o k=>QB7 _ k,QBe _ QK,PySem.W.funFrames_hide J.stack λr m a G=>QH _ (wf.mpr #[r,m,G]),_,_,l,rfl,rfl,rfl,rfl,(show 1<6 by decide),rfl];have ok:=J.hok b o y;let#[K,j]:=vj ok;refine#[K,QAV _ j λm=>?_];rcases QR.mp m with m|m;exact n m;have:=J.stkFree b m;rw[y]at this;cases this
theorem Ha(f:X.stack=X.env::X.outer)(l:X.env.frame=jy X.env.locals)(a:X.A.frames=jy X.stack)(i:X.xe=SX X W fI EK):cz (Ky X.prog X.w) X.A X.env X.xe:=λv s' h=>by
 rw[i]at h ⊢;let#[e,H',B,fl,rfl,j,os,br,un,ok,s,x,q]:=h;let#[C,J,h1,h2,Y,F]:=id x.obj;rw[f]at F;rw[f]at a;have same:∀{I E:Option j0}{K Z:kt},Fly B X.stack e (.ref C) J I K->Fly B X.stack e (.ref C) J E Z->∀r y,Fly B X.stack e (.ref r) y I K->Fly B X.stack e (.ref r) y E Z:=λF F' r y G=>by let#[o1,_,a1,a2,a3,_]:=G.obj;let#[o2,_,O,N,M,_]:=F.obj;rw[a1]at O;cases O;rw[a2]at N;rw[a3]at M;cases N;cases M;exact F'
 refine JS (L:=X.env.locals) a l j F λh1' p u z1=>?_;let#[oe,vs,S,hc,hd,n,R,Q,T,oT,ts,e1,e2]:=id p.obj;show Kx _ _ (do
  if(<- dy (.ref e) 1)==.none then unsupported "frame.own-activation:exception-without-traceback"
  hI (.ref e) X.env.frame) _ _ _
 refine QE (qA S n e1 ?_);rw[eH (by simp)];rw[l];refine nI (jy X.env.locals) p λH P z z2=>?_;rw[<- f]at F p P u z;have g:=same F P;exact#[e,H',B,_,rfl,.inr (.inr rfl),os,br,x.un un s g λb m o q=>(u.trans z) b (by rw[f];unfold LO;rw[wX,l];exact QH _ m) o q,x.hok ok g,s,x.to g,q]
end
section
variable{X:Cx}
noncomputable def Rr(j:Nat):TE:=λh H Q=>∃p,h[j]?=jy (jy (.int p))/\p.natAbs.log2<1920/\∀z,Q (.str z) H
theorem Fi{j:Nat}{a b y:Str}{k1 k2:Nat}{Z p2 g l pos:Pos}(M:PE X (.Name y p2) (BP j))(ha:a.length<=1000)(hb:b.length<=1000) :
  PE X (.JoinedStr [.Constant (.str a) k1 Z,.FormattedValue (.Name y p2) (-1) jz l,.Constant (.str b) k2 g] pos) (Rr j):=by
 intro x s f H Q I h;let#[p,P,W,q]:=h;have zl:j1=16777216:=qi;have i:∀z:Str,(QDg++z).length=z.length:=λz=>by rw[Wo];exact W5 _
 have lt:(QA (eg p)).length<=1921:=by rw[PySem.ofString_length];exact int_text_length_le (k:=1920) (by decide) W
 refine wpAny_JoinedStr ?_;show Joins _ _ _ (vu (.Constant (.str a) k1 Z) X.env::evalEach [.FormattedValue (.Name y p2) (-1) jz l,.Constant (.str b) k2 g] X.env) _ _ _;refine EA (fM x s f H (λv e=>v=.str a/\e=H) I #[rfl,rfl]) λB F #[v0,K,I0,L,n,r]=>?_;subst n r;let#[E,rfl]:=(show ∃t,B=Value.str a t from L)
 refine#[a,E,rfl,by rw[i];omega,?_];show Joins _ _ _ (vu (.FormattedValue (.Name y p2) (-1) jz l) X.env::evalEach [.Constant (.str b) k2 g] X.env) _ _ _;refine wpAny_FormattedValue_plain (EA (M x F f K (λv e=>v=.int p/\e=K) I0 #[_,P,rfl,rfl]) λu s1 #[v,e,S,G,N,O]=>?_);subst N O;let#[t,rfl]:=(show ∃t,u=Value.int p t from G)
 refine wpAny_formatField_int W #[_,_,rfl,by rw[Wo,i];omega,?_];show Joins _ _ _ [vu (.Constant (.str b) k2 g) X.env] _ _ _;refine EA (fM x _ f e (λv Y=>v=.str b/\Y=e) (S.tok _) #[rfl,rfl]) λA s2 #[v2,Y,R,J,m,o]=>?_;subst m o;let#[C,rfl]:=(show ∃t,A=Value.str b t from J)
 refine#[b,C,rfl,by rw[Wo,Wo,i];omega,?_];show _/\EP X x f Q _ _;exact#[by rw[Wo,Wo,i];omega,.str (QDg++a++QA (eg p)++b),Y,R.tok _,#[_,rfl],q _]
end
section
variable{X:Cx}{x:FB}{σ:St}{H:Hp}{s:j3}
theorem GY{A:Vy}{E:NB}{M:gm}{k:Nat}{n:Str}{pos:Pos}{Q:Unit->j3->Prop}(I:Inv X x σ H s)(hN:X.N.Nodup)(L:X.N[k]?=jy n)(hk:X.env.scope.names.lookup n=jy .local)
  (h:∀s',Inv X x (σ.set k jz) H s'->Q Unit.unit s'):Kx M A (do bindName X.env n .none;unbindBehindTheSuite X.env n pos) Q E s:=by
 let#[m,J,hl]:=id I.loc;have hc:(X.env.scope.kind==.class||(X.env.scope.kind==.module&&X.env.locals != X.env.globals))=false:=by rw[I.ok.kind];rfl
 have hz:k<σ.length:=by rw[I.len];exact(Qa.mp L).1
 have cne:=I.cne;let#[oL,_,_,hoL,_]:=id J;refine wpAny_nameGoes_keeps hk J hc λh' v K i=>h _ ?_;have a:∀b o,X.s₀.1.get? b=jy o->h'.get? b=s.1.get? b:=λb o e=>i.2 b (Qk (Qh (QO e) I.ok.above));refine#[I.ok,I.os,I.bare,#[λb o e n C g=>(a b o e).trans (I.base.keep b o e n C g),λb o e n C g=>?_,I.base.free,λb o e g=>?_,I.base.tups,I.base.frzs,I.base.tbls],#[_,K,λj y w f Z e3=>?_],λy c e=>?_,I.free,I.freeC,λp hp=>?_,λb P e=>?_,by simpa using I.len];let#[O,f]:=I.base.slot b o e n C g;exact#[O,(a b o e).trans f];let#[R,f]:=I.base.there b o e g;exact#[R,(a b o e).trans f];have F:j≠k:=λz=>by rw[z,Q3 hz]at Z;cases Z
 rw[Ql (Qw F)]at Z;let#[u,r,q]:=hl j y w f Z e3;refine#[u,r,?_];rcases q with⟨W,Y⟩| ⟨W,c,Y,z⟩
 have S:y≠n:=λz=>F (tM hN f (z▸L));exact .inl #[W,by simp[S,Y]];exact .inr #[W,c,Y,z.sameBut i (cne y c Y)];let#[w,z]:=I.cell y c e;exact#[w,z.sameBut i (cne y c e)];let#[e,n,G,nf,d]:=I.pin p hp;exact#[(i.2 p.1 G).trans e,n,G,nf,d];refine(I.hok b P e).stay (λc w B q=>(i.2 c λz=>?_).trans q) (λ_ q=>q) λ_ _ q=>q;rcases B with l|l;rw[<- l,z,I.free]at e;cases e;rw[z,I.free]at l;cases l
noncomputable abbrev iL(X:Cx)(v:j0):Cx:={ X with A:=X.A.mark (jy v),calm:=js,xe:=λ_ _=>False }
theorem G1(I:Inv X x σ H s)(v:j0):Inv (iL X v) x σ H s :=
 #[#[I.ok.mod,I.ok.kind,I.ok.glob,I.ok.blt,I.ok.above,I.ok.inj,I.ok.has,I.ok.cab,(λz=>nomatch z),I.ok.frames,I.ok.stk,I.ok.exf,I.ok.bs,I.ok.bsz,I.ok.noex,I.ok.exfs,I.ok.funs,I.ok.frf],I.os,I.bare,I.base,I.loc,I.cell,I.free,I.freeC,I.pin,I.hok,I.len]
theorem L5{v:j0}(h:Inv X x σ H s){σ':St}{H':Hp}{s':j3}(I:Inv (iL X v) x σ' H' s'):Inv X x σ' H' s':=#[h.ok,I.os,I.bare,I.base,I.loc,I.cell,I.free,I.freeC,I.pin,I.hok,I.len]
end
section
variable{M:gm}{A:Vy}{E:NB}{h:kt}{g:Array gn}{d:Ew}{t:Nat}{x:dt}{K:QC}{W C fI e y:j2}{Q:Bool->j3->Prop}
theorem YS{z:Obj}(X:K.In h)(Y:ExK K W C fI)(Z:ExK K W W fI)(i:h.get? e=jy z)(hc:z.cls=.ref C)(a:Q jb #[h,g,d,t,x]):Kx M A (excMatches (.ref e) (.ref W)) Q E #[h,g,d,t,x]:=by
 let#[nm,q,N,bs,o,sub,I,m,G,F,B,s,r,p,hl]:=Z.obj;have j:=X _ _ hl;have u:=Y.subR (M:=M) X W;have l:decide (W=C∨W=W)=true:=dT (.inr rfl);rw[l]at u;have n:=Z.sub (M:=M) X "BaseException" (b:=jb) rfl;have f:=tc_notTuple;unfold excMatches
 repeat (first | (with_reducible refine qG i ?_;rw[hc])|with_reducible refine qG j ?_|refine u.at ?_|refine n.at ?_|wp_step)
 exact a
end
section
variable{X:Cx}{a:FB}{σ:St}{H:Hp}{s:j3}{W fI:j2}{D:Ends}{EK:XK}{s':j3}{v:j0}
theorem im{x y n:Str}{i k:Nat}{np yp ep ap hpos:Pos}{rest:List Yy}(I:Inv X a σ H s)(h:vd X.prog X.w X.K W fI X.stack H s EK v s')(Q:X.stack=X.env::X.outer)(hf:X.env.frame=jy X.env.locals)(hN:X.N.Nodup)(Z:ExK X.K W W fI)
  (hg:Gl X x) (hm:X.mg x=jy (.ref W)) (hdb:(x==("__debug__":Str))=js) (hi:X.N[i]?=jy y) (J:X.env.scope.names.lookup y=jy .local) (hk:X.N[k]?=jy n) (j:X.env.scope.names.lookup n=jy .local)
  (S:(n==("__debug__":Str))=js) (R:(n==("__classdict__":Str))=js) (hik:i≠k) (q:∀e H',EK .none (jy e) H'->D.nx ((σ.set i (jy (.ref e))).set k jz) H') :
  Kx (Ky X.prog X.w) X.A (hW v X.env) (λ_ s2=>Kx (Ky X.prog X.w) X.A (hI v jz) (λ_ s3=>Kx (Ky X.prog X.w) X.A (handleBy v X.env (.ExceptHandler (jy (.Name x np)) (jy n) [.Assign [.Name y yp] (.Name n ep) ap] hpos::rest)) (SP X a D) X.xe s3) X.xe s2) X.xe s':=by
 let#[e,H',B,fl,rfl,rfl,os,br,un,ok,ib,r,qE]:=h;let#[C,dx,h1,h2,Y,F]:=id r.obj;have M:=I.ok.frames;rw[Q]at F M;have same:∀{f1 f2:Option j0}{g1 g2:kt},Fly B X.stack e (.ref C) dx f1 g1->Fly B X.stack e (.ref C) dx f2 g2->∀C' l,Fly B X.stack e (.ref C') l f1 g1->Fly B X.stack e (.ref C') l f2 g2:=λF F' C' l G=>by let#[o1,_,a1,a2,a3,_]:=G.obj;let#[o2,_,b1,b2,b3,_]:=F.obj;rw[a1]at b1;cases b1;rw[a2]at b2;rw[a3]at b3;cases b2;cases b3;exact F'
 refine iS (L:=X.env.locals) M hf (.inr (.inl rfl)) F λh3 O g _=>?_;have I3:Inv X a σ H' { s' with heap:=h3 }:=by rw[<- Q]at F O g;exact I.call' os (r.un un ib (same F O) λb m o q=>g b m o q) (r.hok ok (same F O)) br (λb z=>eN z (by simp))
 refine wpAny_handleBy_cons (codeAny_handlers_test ?_) (by intro q;cases q);refine WS I.ok.kind hg (QBB (by rw[I.ok.glob];exact I3.mod.glob.keeps I3.bk) hm ?_) hdb;let#[oe,vs,he,hc,hd,hdt,_]:=id O.obj;refine YS I3.kIn Y Z he hc (codeAny_handlers_suite_as ?_);refine nI jz O λh4 F4 E _=>?_;have I4:Inv X a σ H' { s' with heap:=h4 }:=by rw[<- Q]at F F4 g E;exact I.call' os (r.un un ib (same F F4) λb m o q=>(g.trans E) b m o q) (r.hok ok (same F F4)) br (λb z=>eN z (by simp))
 refine LL (X:=iL X (.ref e)) (v:=.ref e) (G1 I4 (.ref e)) hN hk (.inl j) rfl (λs5 I5=>?_) (.inr j);have hkz:k<σ.length:=by rw[I.len];exact(Qa.mp hk).1
 have ps:=R3 (X:=iL X (.ref e)) (pos:=ap) (pos':=yp) hN hi (.inl J) (jK (i:=k) (pos:=ep) hk (.inl j) S R) rfl (.inr J);refine QAB (qL (ps a s5 _ H' { nx:=λp H2=>p=(σ.set k (jy (.ref e))).set i (jy (.ref e))/\H2=H',rt:=λ_ _=>False } I5 #[.ref e,Q3 hkz,rfl,rfl]) (λf s6 P=>?_) λ_ _ z=>z.elim);cases f with
 |next =>
  let#[p,H2,I6,rfl,rfl]:=P;refine WF ?_;refine GY (L5 I4 I6) hN hk j λs7 I7=>?_;refine#[_,_,I7,?_];have es:((σ.set k (jy (V.ref e))).set i (jy (.ref e))).set k jz=(σ.set i (jy (.ref e))).set k none:=by rw[List.set_comm _ _ (Qw hik),List.set_set]
  rw[es];exact q e _ qE
 |brk=>let#[_,_,_,z]:=P;exact QT z|cont=>let#[_,_,_,z]:=P;exact QT z|ret u=>let#[_,_,_,_,_,z]:=P;exact z.elim
end
noncomputable def clsNm(x:Str)(o:Obj):Bool:=match o.data with
 | .cls h=>h.name==x|_=>js
noncomputable def clsAt(K:QC)(x:Str):Option Addr:=(K.find? λp=>clsNm x p.2).map (·.1)
noncomputable def wOf(K:QC):Addr:=(clsAt K "WorldError").getD 0
noncomputable def iOf(K:QC):Addr:=match qz K (.ref (wOf K)) "__init__" with
 |some (jy (.ref f))=>f|_=>0
structure ExC(K:QC)(C:j2)(x:Str):Prop where
 ex:ExK K (wOf K) C (iOf K)
 at_:clsAt K x=jy C
 nm:(K.lookup C).any (clsNm x)=jb
 wn:(K.lookup (wOf K)).any (clsNm "WorldError")=jb
theorem ExC.inj{K:QC}{C D:j2}{x y:Str}(a:ExC K C x)(b:ExC K D y):D=C↔y=x:=by constructor;rintro rfl;have z:=a.nm;have h:=b.nm;let#[nm,q,N,bs,f,sub,o,u,n,m,l,j,i,g,hl]:=a.ex.obj;rw[hl]at z h;have z:(nm==x)=true:=z;have h:(nm==y)=true:=h;rw[<- Qi z,<- Qi h];intro e;rw[e]at b;exact QY (b.at_.symm.trans a.at_)
theorem ExC.w{K:QC}{C:j2}(a:ExC K C "WorldError"):C=wOf K:=by unfold wOf;rw[a.at_];rfl
theorem ExC.isW{K:QC}{C:j2}{x:Str}(a:ExC K C x):C=wOf K↔x="WorldError":=by constructor;intro e;have y:=a.nm;have h:=a.wn;rw[<- e]at h;let#[nm,q,N,bs,u,sub,m,z,l,j,i,g,f,b,hl]:=a.ex.obj;rw[hl]at y h;have y:(nm==x)=true:=y;have h:(nm==("WorldError":Str))=true:=h;rw[<- Qi y,Qi h];intro e;subst e;exact a.w
noncomputable def OB(ks:LS)(xs:LV):List (oC×V):=(ks.map λz=>(Sum.inr z:oC)).zip xs
noncomputable def OG(ks:LS)(h:List Vz):List (Vz×Vz):=(ks.map Jx).zip h
end L2.L3
namespace L2
open PySem PySem.Spec PyProof.Rows
noncomputable def AN(env:Env):List (Str×z0)->List (Str×j2)->List (Str×j2)
 |[],cs=>cs|(n,k)::r,cs=>AN env r (if k==.free then(n,(env.cells.lookup n).getD 0)::cs else cs)
theorem CV{u:Xz}{env:Env}(h:∀y∈u.names,y.2=.free->∃c,env.cells.lookup y.1=jy c):closureFor u env=ez (AN env u.names []):=by
 have b:∀(l:List (Str×z0)) (a:List (Str×j2)),(∀y∈l,y.2=.free->∃c,env.cells.lookup y.1=jy c) ->
   (forIn l a λ(x:Str×z0) (r:List (Str×j2))=>(if(x.2==NameKind.free)=jb then(do let c <- cellOf env x.1;ez (ForInStep.yield ((x.1,c)::r))) else ez (ForInStep.yield r):Sem (ForInStep (List (Str×j2)))))=ez (AN env l a):=by
  intro l;induction l with
  |nil=>intro a _;rfl|cons y l g =>
   intro a hl;let#[n,k]:=y;rw[QAX];by_cases hk:k=.free;subst hk;let#[c,hc]:=hl (n,.free) QK rfl;have hc:env.cells.lookup n=jy c:=hc;simp only[beq_self_eq_true,if_true,cellOf,hc,pure_bind,AN,QC4];exact g _ λz f=>hl z (QH _ f);have i:(k==NameKind.free)=false:=by simpa using hk
   simp only[i,Qp,if_false,pure_bind,AN];exact g _ λz f=>hl z (QH _ f)
 have e:=b u.names [] h;unfold closureFor;exact(e6 (· >>= ez) e).trans (pure_bind _ _)
theorem zP{env:Env}{x:Str}{c:j2}:∀(l:List (Str×z0)) (a:List (Str×j2)),(∀y∈l,y.2=.free->∃c,env.cells.lookup y.1=jy c)->(∀c,a.lookup x=jy c->env.cells.lookup x=jy c) ->
  (AN env l a).lookup x=jy c->env.cells.lookup x=jy c
 |[],a,_,hc,h=>hc c h|(n,k)::r,a,hl,hc,h=>by
  refine zP r _ (λz f=>hl z (QH _ f)) (λd hd=>?_) h;by_cases hk:k=.free;subst hk;let#[e,u]:=hl (n,.free) QK rfl;have u:env.cells.lookup n=jy e:=u;simp only[beq_self_eq_true,if_true,u,QC4,Qg]at hd;cases b:x==n with|true=>rw[b]at hd;cases hd;rw[Qi b];exact u|false=>rw[b]at hd;exact hc d hd
  have g:(k==NameKind.free)=false:=by simpa using hk
  simp only[g,Qp,if_false]at hd;exact hc d hd
theorem vN{env:Env}{x:Str}:∀(l:List (Str×z0)) (y:List (Str×j2)),((∃c,y.lookup x=jy c)∨(x,NameKind.free)∈l)->∃c,(AN env l y).lookup x=jy c
 |[],y,h=>by rcases h with h|h;exact h;cases h
 | (n,k)::r,y,h=>by
  refine vN r _ ?_;rcases h with⟨c,h⟩| h;refine .inl ?_;split;rw[Qg];split;exact#[_,rfl];exact#[c,h];exact#[c,h];rcases QR.mp h with h|h
  ·cases h
   refine .inl ?_;simp
  exact .inr h
noncomputable def IB:List Bool->Nat->LS->LS
 |b::m,j,x::N=>(if b then#[(List.toArray [46,j])] else x)::IB m (j+1) N|_,_,N=>N
noncomputable def AC:List Bool->St->St
 |b::m,v::σ=>(if b then jz else v)::AC m σ|_,σ=>σ
theorem gK:∀(m:List Bool) (σ:St),(AC m σ).length=σ.length
 |[],σ=>by unfold AC;rfl|_::_,[]=>by unfold AC;rfl|b::m,v::σ=>by unfold AC;rw[QJ,QJ,gK m σ]
theorem GO:∀(m:List Bool) (j:Nat) (N:LS),(IB m j N).length=N.length
 |[],_,N=>by unfold IB;rfl|_::_,_,[]=>by unfold IB;rfl|b::m,j,x::N=>by unfold IB;rw[QJ,QJ,GO m (j+1) N]
theorem VM:∀(m:List Bool) (j:Nat) (N:LS) (σ:St) (i:Nat) (v:V),(AC m σ)[i]?=jy (jy v)->σ[i]?=jy (jy v)/\(IB m j N)[i]?=N[i]?
 |[],_,N,σ,i,v,h=>by unfold AC at h;unfold IB;exact#[h,rfl]|_::_,_,N,[],i,v,h=>by unfold AC at h;simp at h|b::m,j,[],w::σ,i,v,h=>by
  unfold AC at h;cases i with
  |zero =>
   cases b with|true=>simp at h|false=>simp at h;subst h;exact#[by simp,by unfold IB;rfl]
  |succ i=>have q:=(VM m (j+1) [] σ i v (by simpa using h)).1;exact#[by simpa using q,by unfold IB;rfl]
 |b::m,j,x::N,w::σ,0,v,h=>by
  unfold AC at h;cases b with|true=>simp at h|false=>simp at h;subst h;exact#[by simp,by unfold IB;simp]
 |b::m,j,x::N,w::σ,i+1,v,h=>by unfold AC at h;have q:=VM m (j+1) N σ i v (by simpa using h);unfold IB;exact#[by simpa using q.1,by simpa using q.2]
noncomputable def EL(h sc:Xz):Xz :=
  { h with names:=h.names.map λ(n,k)=>if(k==.free&&sc.kind==.function&&sc.names.lookup n==jy .cell) then(n,.cell) else(n,k) }
theorem lD(sc:Xz)(x:Str):∀(l:List (Str×z0)),
  (l.map λ(n,k)=>if(k==NameKind.free&&sc.kind==.function&&sc.names.lookup n==jy .cell) then(n,NameKind.cell) else(n,k)).lookup x =
   (l.lookup x).map λk=>if(k==NameKind.free&&sc.kind==.function&&sc.names.lookup x==jy .cell) then NameKind.cell else k
 |[]=>rfl|(n,k)::r=>by
  rw[QN];have e:(if(k==NameKind.free&&sc.kind==.function&&sc.names.lookup n==jy .cell)=jb then(n,NameKind.cell) else(n,k)) =
    (n,if(k==NameKind.free&&sc.kind==.function&&sc.names.lookup n==jy .cell)=jb then NameKind.cell else k):=by split<;>rfl
  show wa x ((if(k==NameKind.free&&sc.kind==.function&&sc.names.lookup n==jy .cell)=jb then(n,NameKind.cell) else(n,k))::_)=_;rw[e,Qg,Qg];cases h:x==n with|true=>rw[Qi h];simp|false=>exact lD sc x r
structure CompSt(N:LS)(sc scope:Xz)(tgs:LS)(mask:List Bool):Prop where
 kind:scope.kind=.function
 nocell:∀y∈scope.names,y.2≠.cell
 names:∀y∈scope.names,y.2=.local->scope.names.lookup y.1=jy .local
 free:∀y∈scope.names,y.2=.free->sc.names.lookup y.1=jy .cell∨sc.names.lookup y.1=jy .free
 loc:∀y∈scope.names,y.2=.local->y.1∈tgs∨y.1=(".0":Str)
 nd:(tgs++IB mask 0 N).Nodup
 no0:(".0":Str)∉tgs++IB mask 0 N
noncomputable def jB(X:Cx)(h:Xz)(y:LS)(x:List Bool)(s:j3)(H:Hp)(ex:List j2):Cx :=
  { X with N:=y++IB x 0 X.N,s₀:=s,H₀:=H,env:=compEnvC h (AN X.env h.names []) s.1.1.size X.env,outer:=X.stack,stack:=X.stack,ex:=ex,fn:=λ_=>js,pn:=[],xe:=λ_ _=>False }
noncomputable def IF(k:Nat)(h:List Bool)(σ:St):St:=QI k jz++AC h σ
section
variable{X:Cx}{f:FB}{σ:St}{H:Hp}{s:j3}{w:Xz}{d:LS}{a:List Bool}{ex:List j2}
theorem CompSt.cells(C:CompSt X.N X.env.scope w d a)(ok:X.Ok):∀y∈w.names,y.2=.free->∃c,X.env.cells.lookup y.1=jy c:=λy h x =>
 ok.has y.1 (C.free y h x)
theorem CompSt.kindCF(C:CompSt X.N X.env.scope w d a){x:Str}(h:(Fx w X.env).names.lookup x=jy .cell∨(Fx w X.env).names.lookup x=jy .free):(x,NameKind.free)∈w.names:=by
 have e:=lD X.env.scope x w.names;have u:(Fx w X.env).names.lookup x=(w.names.lookup x).map λk=>if(k==NameKind.free&&X.env.scope.kind==.function&&X.env.scope.names.lookup x==jy .cell) then NameKind.cell else k:=e
 rw[u]at h;cases q:w.names.lookup x with
 |none=>rw[q]at h;simp at h|some k =>
  have y:=qJ q;have z:=C.nocell _ y;cases k with|free=>exact y|cell=>exact eN rfl z|«local»=>rw[q]at h;simp at h|_=>rw[q]at h;simp at h
theorem XV(I:Inv X f σ H s)(C:CompSt X.N X.env.scope w d a)(n:∀b∈ex,iK X f H b/\b<s.1.1.size){h':kt}{t':Nat}
  (hn:h'.Ns s.1.1.size (λ_=>jz)) (hs:wB s.1.1.size (s.1.push { cls:=.type "dict",data:=.dict #[] }) h') :
  Inv (jB X w d a s H ex) [] (IF d.length a σ) H { s with heap:=h',toks:=t' }:=by
 have kept:∀b u,s.1.get? b=jy u->h'.get? b=jy u:=λb u e=>hs.extBut b u (Qk (QO e)) (QF _ e);have look:∀x c,(AN X.env w.names []).lookup x=jy c->X.env.cells.lookup x=jy c:=λx c e=>zP w.names [] (C.cells I.ok) (λc z=>by simp at z) e;have nofs:∀b∈ex,b∉LO X.stack:=λb E z=>by let#[#[_,f1,f2,_],_]:=n b E;rcases QR.mp (I.stkSub b z) with e|e;exact f1 e;exact f2 e
 refine#[#[I.ok.mod,C.kind,I.ok.glob,I.ok.blt,QU _,λx y c F j=>I.ok.inj x y c (look x c F) (look y c j),λx hx=>?_,λx c hf _=>eN (show js=jb from hf) QD,I.ok.hd,I.ok.frames,.inl rfl,λb E=>?_,I.bs,qZ I.ok.bsz I.sz,λb o e E=>?_,nofs,I.stack,I.stkFree],
  rfl,I.bare,Un.kept kept,#[_,hn,λi x v F j h3=>?_],λx c h=>?_,I.hok.fresh (QU _),λx c h=>I.freeC x c (look x c h),λp hp=>eN (show p∈([]:FB) from hp) (by simp),I.hok.kept kept,?_]
 exact vN w.names [] (.inr (C.kindCF hx));let#[#[_,_,_,_,f4,_],lt]:=n b E;exact#[Qk lt,λx c e=>f4 x c (look x c e)];let#[#[_,_,_,f3,_],_]:=n b E;rcases f3 with z|z;exact I.ok.noex b o e z;exact eN (Qh (QO (I.ok.bs b o e).1) z) (wA _)
 ·
  have hi:d.length<=i:=by rcases QAi i d.length with z|z;unfold IF at j;rw[Q9 (by simpa using z),wT]at j;split at j<;>cases j;exact z
  have Z:(IB a 0 X.N)[i - d.length]?=jy x:=by have:(d++IB a 0 X.N)[i]?=jy x:=F;rw[Q5 hi]at this;exact this
  have O:(AC a σ)[i - d.length]?=jy (jy v):=by unfold IF at j;rw[Q5 (by simpa using hi)]at j;simpa using j
  let#[g1,g2]:=VM a 0 X.N σ _ v O;rw[g2]at Z;have A:x∈d++IB a 0 X.N:=qm (show(d++IB a 0 X.N)[i]?=jy x from F);have K:x∉d:=λz=>by have S:=C.nd;rw[Wx]at S;exact S.2.2 x z x (qm (by rw[g2];exact Z)) rfl
  have g:(x,NameKind.free)∈w.names:=by
   rcases h3 with z|z|z;exfalso;have e:(Fx w X.env).names.lookup x=jy .local:=z;have Q:=lD X.env.scope x w.names;have P:(Fx w X.env).names.lookup x=(w.names.lookup x).map λk=>if(k==NameKind.free&&X.env.scope.kind==.function&&X.env.scope.names.lookup x==jy .cell) then NameKind.cell else k:=Q
   rw[P]at e;cases q:w.names.lookup x with
   |none=>rw[q]at e;cases e|some k =>
    rw[q]at e;have M:=qJ q;have J:k=.local:=by
     cases k with|«local»=>rfl|free=>simp at e;split at e<;>cases e|_=>simp at e
    subst J;rcases C.loc _ M rfl with z|z;exact K z;exact C.no0 (z▸A)
   exact C.kindCF (.inl z);exact C.kindCF (.inr z)
  let#[m,hnm,hl]:=I.loc;have G:lq X.env.scope x:=.inr (C.free _ g rfl);let#[u,r,l]:=hl _ x v Z g1 G;refine#[u,r,?_];rcases l with⟨k,_⟩| ⟨_,c,hc,Y⟩
  exfalso;have k':X.env.scope.names.lookup x=jy .local:=k;rcases C.free _ g rfl with z|z;have W:X.env.scope.names.lookup x=jy .cell:=z;rw[k']at W;cases W;have W:X.env.scope.names.lookup x=jy .free:=z;rw[k']at W;cases W;let#[R,B]:=vN (env:=X.env) w.names [] (.inr g);have:R=c:=by have:=look x R B;rw[hc]at this;exact(QY this).symm
  subst this;refine .inr #[?_,R,B,?_];rcases h3 with z|z|z
  ·exfalso
   have e:(Fx w X.env).names.lookup x=jy .local:=z;have Q:=lD X.env.scope x w.names;have P:(Fx w X.env).names.lookup x=(w.names.lookup x).map λk=>if(k==NameKind.free&&X.env.scope.kind==.function&&X.env.scope.names.lookup x==jy .cell) then NameKind.cell else k:=Q
   rw[P]at e;cases q:w.names.lookup x with
   |none=>rw[q]at e;cases e|some k =>
    rw[q]at e;have M:=qJ q;have J:k=.local:=by
     cases k with|«local»=>rfl|free=>simp at e;split at e<;>cases e|_=>simp at e
    subst J;rcases C.loc _ M rfl with z|z;exact K z;exact C.no0 (z▸A)
  exact .inl z;exact .inr z;let#[o,L,hd]:=Y;exact#[o,kept _ _ L,hd]
 let#[v,o,L,hd]:=I.cell x c (look x c h);exact#[v,o,kept _ _ L,hd];show(IF d.length a σ).length=(d++IB a 0 X.N).length;unfold IF;rw[QL,QL,Q7,gK,GO,I.len]
end
section
variable{X:Cx}{h:FB}{σ σ':St}{H H':Hp}{s s':j3}{x:Xz}{k:LS}{w:List Bool}{ex:List j2}{D:j2}{y:LV}{its:LW}
theorem UV(I:Inv X h σ H s)(m:∀b∈ex,iK X h H b/\b<s.1.1.size)(W:D∈ex)(J:Inv (jB X x k w s H ex) [] σ' H' s')(a:H' D=jz)(hv:iA y its)(C:y.length<=j1)
  (hl:s'.1.PlainList D its.toArray) {f:kt}(E:wB s.1.1.size s'.1 f):Inv X h σ (VA H' D (.lst y)) { s' with heap:=f }:=by
 have un:Un (LO X.stack) ex H H' s.1 s'.heap:=J.base;have j:∀b o,s.1.get? b=jy o->b≠s.1.1.size:=λb o e=>Qk (QO e);have F:=m D W;have Z:H' s.1.1.size=none:=J.free;have O:D≠s.1.1.size:=Qk F.2;have p:∀b u,b≠s.1.1.size->s'.1.get? b=jy u->f.get? b=jy u:=λb u B e=>E.extBut b u B e;refine I.call' (s':={ s' with heap:=f }) (ch:=ex) J.os #[λb o e n i g=>?_,λb o e n i g=>?_,λb o e n g=>?_,λb o e g=>?_,λb r e=>?_,λb o u e=>?_,λb A e=>?_] ?_ J.bare λb i=>?_;exact p b o (j b o e) (un.keep b o e n i g);let#[K,q]:=un.slot b o e n i g;exact#[K,p b _ (j b o e) q];have q:=un.free b o e n g;rw[yA (λ(z:b=D)=>g (by rw[z];exact W))];exact q;let#[Y,q]:=un.there b o e g;exact#[Y,p b Y (j b o e) q];rw[yA (ZA (un.tups b r e) a)];exact un.tups b r e;rw[yA (ZA (un.frzs b o u e) a)];exact un.frzs b o u e;let#[l,q]:=un.tbls b A e;exact#[l,by rw[yA (ZA q a)];exact q];intro b u e;by_cases i:b=D;subst i;rw[vA]at e;cases e;let#[n,q]:=hl;exact#[C,its,n,hv,p _ _ O q];rw[yA i]at e;refine(J.hok b u e).stay (λc v hc q=>p c v ?_ q) (λc q=>?_) λc r q=>?_;rintro rfl;rcases hc with z|z;subst z;rw[Z]at e;cases e;rw[Z]at z;cases z;rw[yA (ZA q a)];exact q;rw[yA (ZA q a)];exact q;let#[#[Q,N,P,M,L,G],_]:=m b i;exact#[M,N,L,G]
end
def Xq(X:Cx)(y:List Expr)(t:TT):Prop:=∀(h:FB) (s:j3) (x:St) (H:Hp) (Q:Bool->Hp->Prop),Inv X h x H s->t x H Q ->
 Kx (Ky X.prog X.w) X.A (forIn y jb λc r=>if r=jb then do let ok <- isTrue c X.env (vu c X.env);ez (ForInStep.yield ok) else ez (ForInStep.yield r)) (TP X h x Q) X.xe s
theorem CW{X:Cx}:Xq X [] (λ_ H Q=>Q jb H):=λx s y H Q I h=>by rw[QAq];exact QS #[H,I,h]
theorem BW{X:Cx}{c:Expr}{t:TT}(hc:PT X c t):Xq X [c] t:=λx s y H Q I h=>by rw[QAX];simp only[if_true];refine QE (QE (EA (hc x s y H Q I h) λb z q=>QS ?_));dsimp only;rw[QAq];exact QS q
theorem JH{prog:Kz}{w:kl}{A:Vy}{R:Result->j3->Prop}{s:j3}{X y j:Expr}{p:List Expr}{b:Xz}{pos:Pos}{it Y:j0}{env:Env}(I:Nat->j3->Prop)
  (Z:∀n s,I n s->Kx (Ky prog w) A (Dy it) (λr a=>match r with
   |none=>R (.ok .next) a|some v=>Kx (Ky prog w) A (Zz y it v) (λ_ u=>Kx (Ky prog w) A (Gz y env v) (λ_ i =>
     Kx (Ky prog w) A (forIn p jb λc r=>if r=jb then do let ok <- isTrue c env (vu c env);ez (ForInStep.yield ok) else ez (ForInStep.yield r)) (λok z =>
      if ok=jb then Kx (Ky prog w) A (vu X env) (λx g =>
       Kx (Ky prog w) A (gy (.builtin "list.append") [Y,x]) (λ_ f=>∃m,m<n/\I m f) (λ_ _=>False) g) (λ_ _=>False) z
      else ∃m,m<n/\I m z) (λ_ _=>False) i) (λ_ _=>False) u) (λ_ _=>False) a) (λ_ _=>False) s)
  (n:Nat) (h:I n s) :
  hT (Ky prog w) A (.compLoop (.ListComp X [#[y,j,p,0]] b pos) 0 it Y env) R s:=by
 refine codeAny_loop rfl I (λn s C=>?_) n h;show Kx _ A ((compTurn (.ListComp X [#[y,j,p,0]] b pos) 0 it Y env).onRaise (λx=>do hW x env;theTreesLotGoes x)) _ _ s;refine wpAny_noted ?_;rw[compTurn_list];refine QE (WQ (QE (qL (Z n s C) (λr a o=>?_) λ_ _ e=>e.elim)));cases r with
 |none=>exact QS o|some v =>
  refine QE (qL o (λ_ u q=>?_) λ_ _ e=>e.elim);refine QE (qL q (λ_ i B=>QE (qL B (λok z l=>?_) λ_ _ e=>e.elim)) λ_ _ e=>e.elim);cases ok with|false=>exact QS #[rfl,l]|true=>exact QE (QE (qL l (λx g K=>QE (qL K (λ_ f W=>QS (QS #[rfl,W])) λ_ _ e=>e.elim)) λ_ _ e=>e.elim))
noncomputable def M1(o:TI)(g:TG)(tc:TT)(te:TE)(k:Nat)(e:List Bool):TE:=λj H Q=>o j H λJ s=>∃W:Nat->Nat->LV->St->Hp->Prop,(∃m,W 0 m [] (IF k e j) s) /\
 ∀i m h a u,W i m h a u->(J.stop i u/\h.length<=j1/\∀p,u p=jz->Q (.ref p) (VA u p (.lst h))) ∨
  (J.go i u/\∀x n,J.yld i u x n->g x a n λz r=>tc z r λb l=>if b=jb then te z l λy q=>h.length<j1/\∃f,f < m/\W (i+1) f (h++[y]) z q else ∃f,f < m/\W (i+1) f h z l)
def Hq(X:Cx)(h:FB)(H:Hp)(s:j3)(C:j2):Prop :=
 H C=jz/\C≠X.env.locals/\X.s₀.1.1.size<=C/\(∀x c,X.env.cells.lookup x=jy c->c≠C)/\(∀p∈X.pn++h,p.1≠C)/\∃m,s.1.Ns C m
theorem BS{X:Cx}{elt tg B:Expr}{ifs:List Expr}{a:Xz}{pos pos':Pos}{wi:TI}{g:TG}{tc:TT}{te:TE}{j:LS}{f:List Bool}{use:Option (j0->Sem Unit)}(hc:X.calm=jb)(hi:PI X tg B wi)(C:CompSt X.N X.env.scope a j f)
  (inner:∀s H ex,PG (jB X a j f s H ex) tg g/\Xq (jB X a j f s H ex) ifs tc/\PE (jB X a j f s H ex) elt te)
  (hs:∀x,Yz B X.env x=ez x) {m:FB}{s:j3}{σ:St}{H:Hp}{Q:VK}{QQ:NB}(I:Inv X m σ H s) (h:M1 wi g tc te j.length f σ H Q)
  (fin:∀(D:j2) (H':Hp) (s6:j3) (F:j2),Inv X m σ H' s6->Hq X m H' s6 F->Q (.ref D) H'->compPost (Ky X.prog X.w) X.A X.xe use QQ (.ref D) F (.ok .next) s6) :
  Kx (Ky X.prog X.w) X.A (bx (.ListComp elt [#[tg,B,ifs,0]] a pos) a X.env pos' (newList []) js (vu B X.env) use) QQ X.xe s:=by
 refine wpAny_comprehension_free (use:=use) rfl hs (CV (C.cells I.ok)) C.kind C.names (EA (hi m s σ H _ I h) λv s1 h1=>EA h1 λitv s2 h2=>?_);let#[it,Z,tn,J,E,e,I2,T,st2,f2,W,#[m0,w0],turn]:=h2;subst e;refine qt ?_;have I3:Inv X m σ E { s2 with heap:=s2.1.push { cls:=.type "list",data:=.seq ([]:LW).toArray } }:=I2.kept (t':=s2.toks) λb o e=>QF _ e;generalize hS:({ s2 with heap:=s2.1.push { cls:=.type "list",data:=.seq ([]:LW).toArray } }:j3)=s3 at I3;have sz3:s3.1.1.size=s2.1.1.size+1:=by rw[<- hS];exact qM ..
 have lst3:s3.1.PlainList s2.1.1.size ([]:LW).toArray:=#[0,by rw[<- hS];exact QV _ rfl]
 have old3:∀b o,s2.1.get? b=jy o->s3.1.get? b=jy o:=λb o e=>by rw[<- hS];exact QF _ e
 generalize hDd:s2.1.1.size=D at sz3 lst3;have fD:iK X m E D:=by rw[<- hDd];exact I2.fpOk (QU _) (I2.hok.fresh (QU _))
 have fpl:∀b∈Z,b<D:=λb Y=>by let#[o,e,_]:=T.obj _ _ st2 b Y;rw[<- hDd];exact QO e
 have hex:∀b∈D::Z,iK X m E b/\b<s3.1.1.size:=λb Y=>by rcases QR.mp Y with z|z;subst z;exact#[fD,by rw[sz3];exact Nat.lt_succ_self _];exact#[f2 b z,by rw[sz3];exact QCY (fpl b z)]
 refine wpAny_newFunctionEnv C.nocell (by intro y hy;simp at hy) (λh' hn hsb=>?_) C.kind;have J0:Inv (jB X a j f s3 E (D::Z)) [] (IF j.length f σ) E { s3 with heap:=h',toks:=s3.toks+([]:List (Str×j0)).length }:=XV I3 C hex hn hsb;have kept:∀b u,s3.1.get? b=jy u->h'.get? b=jy u:=λb u e=>hsb.extBut b u (Qk (QO e)) (QF _ e);let#[pg,pf,pl]:=inner s3 E (D::Z);have loop:∀s4:j3,s4={ s3 with heap:=h',toks:=s3.toks+([]:List (Str×j0)).length } ->
   hT (Ky X.prog X.w) X.A (.compLoop (.ListComp elt [#[tg,B,ifs,0]] a pos) 0 (.ref it) (.ref D) (compEnvC a (AN X.env a.names []) s3.1.1.size X.env))
    (compPost (Ky X.prog X.w) X.A X.xe use QQ (.ref D) s3.1.1.size) s4:=by
  rintro s4 rfl;have exok:∀{H':Hp},(∀b∈D::Z,H' b=jz)->∀(pp:FB),(∀p∈pp,p.1∉Z)->∀b∈Z,iK (jB X a j f s3 E (D::Z)) pp H' b:=λ{H'} hn pp hpp b Y=>by have g:=J0.ok.exf b (QH _ Y);exact#[hn b (QH _ Y),g.1,J0.ok.exfs b (QH _ Y),.inl (QH _ Y),g.2,λp G z=>hpp p (by simpa[jB]using G) (z▸Y)]
  have DX:=J0.ok.exf D QK;have Dfp:D∉Z:=λz=>wA _ (fpl D z);refine JH (λn M=>∃i K H' L l,Inv (jB X a j f s3 E (D::Z)) [] K H' M/\tn i M.1/\(∀b∈D::Z,H' b=jz)/\iA L l/\M.1.PlainList D l.toArray/\W i n L K H') ?_ m0
   #[0,_,E,[],[],J0,T.keep _ _ _ (T.keep _ _ _ st2 λb Y o e=>old3 b o e) λb Y o e=>kept b o e,λb Y=>((hex b Y).1).1,.nil,lst3.at λo e=>kept _ _ e,w0]
  rintro n s5 ⟨i,P,H5,L,l,I5,st5,fr5,va5,ls5,w5⟩;let#[R,lo]:=id ls5;have pinD:∀{K:St}{H':Hp}{M:j3},Inv (jB X a j f s3 E (D::Z)) [] K H' M->(∀b∈D::Z,H' b=jz)->M.1.get? D=jy { cls:=.type "list",dict:=jz,data:=.seq l.toArray R } ->
    Inv (jB X a j f s3 E (D::Z)) [(D,{ cls:=.type "list",dict:=jz,data:=.seq l.toArray R })] K H' M:=λ{K H' M} I' fr' e' =>
   I'.pins_of λp G=>by
    have e:p=(D,{ cls:=.type "list",dict:=jz,data:=.seq l.toArray R }):=by simpa using G
    subst e;exact#[e',fr' D QK,DX.1,J0.ok.exfs D QK,λv z=>by cases z]
  have S:∀p∈[(D,({ cls:=.type "list",dict:=jz,data:=.seq l.toArray R }:Obj))],p.1∉Z:=λp G=>by
   have e:p=(D,{ cls:=.type "list",dict:=jz,data:=.seq l.toArray R }):=by simpa using G
   subst e;exact Dfp
  have I5':=pinD I5 fr5 lo;rcases turn i n L P H5 w5 with⟨stop,hz,qn⟩| ⟨go,step⟩
  refine EA (T.done (jB X a j f s3 E (D::Z)) rfl rfl rfl hc i _ s5 P H5 (λ_ _=>False) I5' (exok fr5 _ S) st5 stop) λr s6 #[hr,I6]=>?_;subst hr;let#[m6,hn6,_]:=I6.loc;have l6:s6.1.PlainList D l.toArray:=#[R,(I6.pin _ (Qc _ (qH.mpr rfl))).1]
  have I6':Inv (jB X a j f s3 E (D::Z)) [] P H5 s6:=I6.pins_of λp G=>by simp at G
  have Iout:Inv X m σ (VA H5 D (.lst L)) s6:=UV I3 hex QK I6' (fr5 D QK) va5 hz l6 (wB.refl _ _);have lC:H5 s3.1.1.size=none:=I6'.free;refine fin D _ s6 s3.1.1.size Iout #[?_,Wi I3.lt,I3.sz,λx c e z=>?_,λp G z=>?_,m6,hn6] (qn D (fr5 D QK));rw[yA (λ(z:s3.1.1.size=D)=>eN (hex D QK).2 (by rw[z];exact wA _))];exact lC;let#[v,q]:=I3.cell x c e;exact eN q.lt (by rw[z];exact wA _);exact eN (QO (I3.pin p G).1) (by rw[z];exact wA _);refine EA (T.item (jB X a j f s3 E (D::Z)) rfl rfl rfl hc i _ s5 P H5 (λ_ _=>False) I5' (exok fr5 _ S) st5 go) λr s6 #[u,hr,h6]=>?_;subst hr;refine EA h6 λ_ s7 #[x,H7,I7,r7,y7,st7,fr7]=>?_;have hD7:=(I7.pin _ (Qc _ (qH.mpr rfl)))
  have fr7':∀b∈D::Z,H7 b=none:=λb Y=>by rcases QR.mp Y with z|z;subst z;exact hD7.2.1;exact fr7 b z
  have I7':=I7.pinned (exok fr7' _ S) (T.obj _ _ st7);have bk:∀{K:St}{H':Hp}{M:j3},Inv (jB X a j f s3 E (D::Z)) ([(D,{ cls:=.type "list",dict:=jz,data:=.seq l.toArray R })]++dM Z s7.1) K H' M ->
    M.1.get? D=jy { cls:=.type "list",dict:=jz,data:=.seq l.toArray R }/\tn (i+1) M.1/\(∀b∈D::Z,H' b=jz):=λ{K H' M} I'=>by
   have hD:=I'.pin (D,{ cls:=.type "list",dict:=jz,data:=.seq l.toArray R }) (Qc _ (qQ _ (qH.mpr rfl)));refine#[hD.1,T.keep _ _ _ st7 λb Y o e=>(I'.pin (b,o) (Qc _ (Qc _ (RF Y e)))).1,λb Y=>?_];rcases QR.mp Y with z|z;subst z;exact hD.2.1;let#[o,e,_]:=T.obj _ _ st7 b z;exact(I'.pin (b,o) (Qc _ (Qc _ (RF z e)))).2.1
  refine EA (pg _ s7 P H7 x u _ I7' r7 (step x H7 y7)) λ_ s8 #[O,H8,I8,q8]=>?_;refine EA (pf _ s8 O H8 _ I8 q8) λok s9 #[H9,I9,q9]=>?_;cases ok with
  |false=>let#[m',hm,w']:=q9;let#[b1,b2,b3]:=bk I9;exact#[m',hm,i+1,O,H9,L,l,I9.pins_of λp G=>by simp at G,b2,b3,va5,#[R,b1],w']|true =>
   refine EA (pl _ s9 O H9 _ I9 q9) λy s10 #[yv,H10,I10,r10,hz,m',hm,w']=>?_;let#[b1,b2,b3]:=bk I10;have hlen:=va5.length;refine wpAny_list_append_plain (hsz:=by rw[QM];omega) (show s10.1.PlainList D l.toArray from#[R,b1]) λh11 hl11 hs11=>?_;refine#[m',hm,i+1,O,H10,L++[yv],l++[y],?_,T.keep _ _ _ b2 λb Y o e=>(hs11.2 b (λz=>Dfp (z▸Y))).trans e,b3,va5.append (.cons r10 .nil),by simpa using hl11,w'];have I10':Inv (jB X a j f s3 E (D::Z)) [] O H10 s10:=I10.pins_of λp G=>by simp at G
   exact I10'.turned (t':=s10.toks) (λb o Y e=>(hs11.2 b Y).trans e) (b3 D QK) DX.1 (.inl QK) DX.2 λp G=>by simp[jB]at G
 refine codeAny_compStart_list (loop _ rfl) (T.self X.A 0 _ _ _ (T.keep _ _ _ (T.keep _ _ _ st2 λb Y o e=>old3 b o e) λb Y o e=>kept b o e) (loop _ rfl))
theorem MM{X:Cx}{h:FB}{σ:St}{H:Hp}{s:j3}{F:j2}(I:Inv X h σ H s)(f:Hq X h H s F){h':kt}(x:wB F s.1 h'):Inv X h σ H { s with heap:=h' }:=by let#[i,g,a,u,z,_]:=f;exact I.turned (t':=s.toks) (λb o y e=>(x.2 b y).trans e) i g (.inr a) u z
theorem Xa{X:Cx}{i j a:Expr}{e:List Expr}{y:Xz}{pos:Pos}{n:TI}{g:TG}{tc:TT}{te:TE}{u:LS}{z:List Bool}(hc:X.calm=jb)(Y:PI X j a n)(C:CompSt X.N X.env.scope y u z)
  (b:∀s H ex,PG (jB X y u z s H ex) j g/\Xq (jB X y u z s H ex) e tc/\PE (jB X y u z s H ex) i te)
  (p:autoParam (∀x,Yz a X.env x=ez x) zzi._auto_1):PE X (.ListComp i [#[j,a,e,0]] y pos) (M1 n g tc te u.length z):=by
 intro o s K H Q I h;rw[eval_ListComp];refine BS hc Y C b p I h λD W A F Z f q=>?_;let#[m,r]:=f.2.2.2.2.2;exact#[m,r,λB l=>#[.ref D,W,MM Z f l,rfl,q]]
theorem R9{X:Cx}{n p u:Expr}{l:List Expr}{y:Xz}{cpos pos r:Pos}{E:TI}{g:TG}{tc:TT}{te:TE}{j:LS}{b:List Bool}{i:Nat}{x:Str}(hc:X.calm=jb)(hN:X.N.Nodup)(B:X.N[i]?=jy x)(J:X.env.scope.names.lookup x=jy .local)
  (hi:PI X p u E) (C:CompSt X.N X.env.scope y j b)
  (o:∀s H ex,PG (jB X y j b s H ex) p g/\Xq (jB X y j b s H ex) l tc/\PE (jB X y j b s H ex) n te)
  (S:∀x,Yz u X.env x=ez x) (W:gx (.ListComp n [#[p,u,l,0]] y cpos) (jy (.Name x r)) pos.line X.env=ez jb) :
  PS X (.Assign [.Name x r] (.ListComp n [#[p,u,l,0]] y cpos) pos) (Kh (M1 E g tc te j.length b) (mX i)):=by
 intro Y s σ H D0 I h;rw[exec_Assign_Name_used _ _ _ _ W];refine QE (WQ (QE ?_));show Kx _ X.A (do let _ <- bx (.ListComp n [#[p,u,l,0]] y cpos) y X.env _ (newList []) js (vu u X.env) (jy (Gz (.Name x r) X.env))) _ _ s;refine QE (qL (BS (use:=jy (Gz (.Name x r) X.env)) (QQ:=λ_ G=>SP X Y D0 .next G) hc hi C o S I h λD H' Q F I6 f q=>?_) (λ_ G hq=>QS (QS hq)) λ_ _ e=>e);show Kx _ X.A (Gz (.Name x r) X.env (.ref D)) _ _ Q;refine QCR (cO I6 hN B (.inl J) (v:=.ref D) rfl (λP I7 #[a,O,ha]=>?_) (.inr J));let#[f0,M,f2,L,f4,m,hn]:=f;have R:F≠a:=by rcases ha with z|z;rw[z];exact M;exact λe=>L x a z e.symm
 have Z:P.1.Ns F m:=hn.sameBut O R;exact#[m,Z,λh' K=>#[_,H',MM I7 #[f0,M,f2,L,f4,m,Z] K,q]]
end L2
namespace L2.L3
open PySem PySem.Spec PyProof.Rows
noncomputable def Cn(K:QC):R2:=λx y H Q=>match x,y with
 | .int i,.int j=>Q (.int (i+j)) H|.str a,.str b=>a.length+b.length<=j1/\Q (.str (a++b)) H|.ref a,.ref b=>(∃z h,YD K H a z/\YD K H b h/\z.length+h.length<=j1/\∀p,H p=jz->Q (.ref p) (VA H p (.lst (z++h))))∨Sd K (.ref a) (.ref b) H Q|_,_=>False
noncomputable def Em:R2:=λx y H Q=>match x,y with
 | .int i,.int j=>Q (.int (i - j)) H|_,_=>False
noncomputable def TH(x:Str)(n:Int):Str:=Txt.mul x n
noncomputable def bn(K:QC):R2:=λx y H Q=>match x,y with
 | .int i,.int j=>ft i j/\Q (.int (i * j)) H|.str a,.int k=>(-(2 ^ 31)<=k/\k<2 ^ 31/\a.length * k.toNat<=j1)/\Q (.str (TH a k)) H|.ref a,.int k=>∃h,YD K H a h/\(-(2 ^ 31)<=k/\k<2 ^ 31/\h.length * k.toNat<=j1)/\∀p,H p=jz->Q (.ref p) (VA H p (.lst (QI k.toNat h).flatten))|_,_=>False
noncomputable def Od:R2:=λx y H Q=>match x,y with
 | .int i,.int j=>(0<j/\j<2 ^ 200)/\Q (.int (i / j)) H|_,_=>False
noncomputable def cn:R2:=λx y H Q=>match x,y with
 | .int i,.int j=>0<j/\Q (.int (i % j)) H|_,_=>False
noncomputable def vn:R2:=λx y H Q=>match x,y with
 | .int i,.int j=>E8 i j/\Q (.int (i ^ j.toNat)) H|_,_=>False
section
variable{X:Cx}
theorem op_add:pE X (v5 .Add) (Cn X.K):=by
 intro z s m H x y v u Q I l g h;cases x with
 |int i =>
  cases y with|int j=>exact _root_.L2.op_add z s m H _ _ v u Q I l g #[i,j,rfl,rfl,h]|_=>exact QT h
 |str a =>
  cases y with|str b=>exact JU z s m H _ _ v u Q I l g #[a,b,rfl,rfl,h.1,h.2]|_=>exact QT h
 |ref a =>
  cases y with
  |ref b =>
   rcases h with⟨xs,ys,P,O,hz,q⟩| h;cases l;cases g;let#[f,r,#[#[cls,dd,C,L],N,B,J,d1,Z],z1]:=I.list P;let#[e,W,#[#[E,o,p,n],M,A,G,d2,Y],z2]:=I.list O;simp only at J Z G Y;subst J Z G Y;have hl:=r.length;have R:=W.length;refine QCr #[_,B,rfl] #[_,A,rfl] noFill_list_add seq_list_add PySem.F.slot_list_add PySem.F.entry_list_add (PySem.F.args_list_add_2 _ _) (list_addW a b f.toArray e.toArray N M dd o L n (by simp;omega)) #[B,A,?_];have S:f.toArray++e.toArray=(f++e).toArray:=by simp
   rw[S];exact#[.ref _,_,I.lnew (t':=s.toks) (r.append W) (by rw[QL];omega),rfl,q _ I.fresh];exact Sa z s m H _ _ v u Q I l g h
  |_=>exact QT h
 |_=>exact QT h
theorem op_sub:pE X (v5 .Sub) Em:=by
 intro z s a H x y v u Q I e b h;cases x with
 |int i =>
  cases y with|int j=>exact _root_.L2.op_sub z s a H _ _ v u Q I e b #[i,j,rfl,rfl,h]|_=>exact QT h
 |_=>exact QT h
theorem Ra:pE X (v5 .FloorDiv) Od:=by
 intro z s e H x y v u Q I b a h;cases x with
 |int i =>
  cases y with
  |int j =>
   let#[t,rfl]:=b;let#[f,rfl]:=a;let#[#[l,g],q]:=h;refine floordiv_int () ?_ (.inl (PyProof.noPylong_of_log2 ?_));rw[Int.fdiv_eq_ediv_of_nonneg i ()];exact#[.int _,H,I.tok _,#[_,rfl],q];have:j.natAbs<2 ^ 200:=()
   have:=(QBE (show j.natAbs≠0 by omega)).mpr this;omega
  |_=>exact QT h
 |_=>exact QT h
theorem op_mod:pE X (v5 .Mod) cn:=by
 intro z s a H x y v u Q I e b h;cases x with
 |int i =>
  cases y with|int j=>exact _root_.L2.op_mod z s a H _ _ v u Q I e b #[i,j,rfl,rfl,h.1,h.2]|_=>exact QT h
 |_=>exact QT h
theorem op_pow:pE X (v5 .Pow) vn:=by
 intro z s a H x y v u Q I e b h;cases x with
 |int i =>
  cases y with|int j=>exact _root_.L2.op_pow z s a H _ _ v u Q I e b #[i,j,rfl,rfl,h.1,h.2]|_=>exact QT h
 |_=>exact QT h
theorem kc(i:Int)(t:Tok)(l:j2)(x:Array j0)(n:Nat)(z:Array (Option j0)) :
  fy (Builtin.«int.__rmul__» #[[.int i t,.ref l],[]]) (λ_ R s=>s.1.get? l=jy #[.type "list",jz,.seq x n,z]/\R (.ok (.ret Value.notImplemented)) s) :=
 .of_wp λy w A R s h=>by let#[a,g,d,u,os]:=s;let#[hl,h]:=h;wp_walk;exact#[_,rfl,h]
theorem Yj(l:j2)(y:Array j0)(n:Nat)(i:Array (Option j0))(x:Int)(u:Tok)(m:¬(!Builtin.List.listFitsIndex x)=jb)(j:¬y.size * x.toNat > (2 ^ 63 - 1) / 8)(a:¬wH (y.size * x.toNat)=jb) :
  fy (Builtin.«list.__mul__» #[[.ref l,.int x u],[]]) (λ_ R s=>s.1.get? l=jy #[.type "list",jz,.seq y n,i]/\R (.ok (.ret (jx s.1.1.size))) { s with heap:=s.1.push { cls:=Value.type "list",data:=Data.seq (QAU (λf e=>f++e) #[] (QI (if y.isEmpty=jb then 0 else x.toNat) y)) },toks:=s.toks }) :=
 .of_wp λb w A R s h=>by let#[p,g,d,o,os]:=s;let#[hl,h]:=h;have z:=AutoListH.joined_fits a;wp_walk;refine wpAny_ite_false (dF (QCX.mpr z)) ?_;wp_walk;exact#[_,rfl,h]
theorem Pa{x:FB}{s:j3}{σ:St}{H:Hp}{l:j2}{k:Int}{t:Tok}{xs:LV}{Q:VK}(I:Inv X x σ H s)(Z:YD X.K H l xs)(G:-(2 ^ 31)<=k)(E:k<2 ^ 31)(o:xs.length * k.toNat<=j1)(q:∀p,H p=jz->Q (.ref p) (VA H p (.lst (QI k.toNat xs).flatten))) :
  Kx (Ky X.prog X.w) X.A (v5 .Mult (.ref l) (.int k t)) (EP X x σ Q) X.xe s:=by
 let#[h,r,#[#[L,C,J,j],n,e,rfl,rfl,rfl],_]:=I.list Z;have hl:=r.length;have u:h.toArray.size * k.toNat<=sizeLine:=by rw[QM,<- hl];exact o
 have f:¬ h.toArray.size * k.toNat > (2 ^ 63 - 1) / 8:=by
  have:(j1:Nat)<=(2 ^ 63 - 1) / 8:=by decide
  omega
 have b:¬ (!Builtin.List.listFitsIndex k)=true:=by rw[fitsIndex_both () ()];exact QD
 have y:¬ wH (h.toArray.size * k.toNat)=true:=by rw[yS u];exact QD
 have z:QAU (λi g=>i++g) #[] (QI (if h.toArray.isEmpty=jb then 0 else k.toNat) h.toArray)=(QI k.toNat h).flatten.toArray:=by
  have W:∀m:Nat,QAU (λi g=>i++g) #[] (QI m h.toArray)=(QI m h).flatten.toArray:=λm=>by have:=lK h m [];rw[Qt]at this;exact this
  rw[W];cases h with|nil=>simp|cons a B=>rw[eH (by simp)]
 refine QAr (T:="list") (U:="int") (by decide) #[_,e,rfl] (λY=>QBd Y k t) noFill_list_mul QDM QAY repeat_list QC5.lookup
  (w9 QAY (QBd s k t) QC6 (QCZ _ _) (kc k t l h.toArray n j)
   #[e,rfl,#[_,e,rfl],w9 F.slot_list_mul #[_,e,rfl] F.entry_list_mul (F.args_list_mul_2 _ _) (Yj l h.toArray n j k t b f y) #[e,?_]])
 rw[z];exact#[.ref _,_,I.lnew (t':=s.toks) (r.rep k.toNat) (by rw[aL,QCu];exact o),rfl,q _ I.fresh]
theorem Pi:pE X (v5 .Mult) (bn X.K):=by
 intro l s Z H x y v u Q I f z h;cases x with
 |int i =>
  cases y with|int j=>let#[t,rfl]:=f;let#[g,rfl]:=z;exact mul_int #[.int _,H,I.tok _,#[_,rfl],h.2] h.1|_=>exact QT h
 |str a =>
  cases y with
  |int k =>
   let#[t,rfl]:=f;let#[g,rfl]:=z;let#[#[o,n,m],q]:=h;refine SB.mul #[?_,λ_ _=>?_,λ_ _=>?_] λg A=>#[.str (TH a k),H,I.tok _,#[_,rfl],q]
   have Y:decide (k < -(2 ^ 63:Int))=false:=dF ();have r:decide (k ≥ 2 ^ 63)=false:=dF ();rw[Y,r];rfl;have e:(a.length:Int) * k=((a.length * k.toNat:Nat):Int):=by rw[QDN,QBr ()]
   have:=Int.le_ediv_of_mul_le (a:=(a.length:Int)) (b:=2 ^ 63 - 1) (c:=k) () (by rw[e];omega);omega;unfold Builtin.Str.tooLong;exact dF ()
  |_=>exact QT h
 |ref a =>
  cases y with|int k=>let#[W,p,#[o,n,m],q]:=h;cases f;let#[t,rfl]:=z;exact Pa I p o n m q|_=>exact QT h
 |_=>exact QT h
end
mutual
inductive Rep(K:QC)(H:Hp):V->Vz->Prop where
 |non:Rep K H .non .none
 |bl (b:Bool):Rep K H (.bl b) (.bool b)
 |int (i:Int):Rep K H (.int i) (.int i)
 |str (x:Str):Rep K H (.str x) (.str x)
 |lst {a:j2}{xs:LV}{ds:List Vz}:YD K H a xs->Reps K H xs ds->Rep K H (.ref a) (.list ds)
 |tup {a:j2}{xs:LV}{ds:List Vz}:oE K H a xs->Reps K H xs ds->Rep K H (.ref a) (.tuple ds)
 |exc {a C dx:j2}{x:Str}{p:Int}:H a=jy (.ext (LG C a dx))->H dx=jy (.xd (EH p))->ExC K C x->Rep K H (.ref a) (.dict [(.none,.list [.str x,.int p])])
 |cls {C:j2}{x:Str}:ExC K C x->Rep K H (.ref C) (.dict [(.none,.str x)])
 |dct {a:j2}{ks:LS}{xs:LV}{ds:List Vz}:H a=jy (.dK (OB ks xs))->ks.length=xs.length->Reps K H xs ds->Rep K H (.ref a) (.dict (OG ks ds))
inductive Reps(K:QC)(H:Hp):LV->List Vz->Prop where
 |nil:Reps K H [] []
 |cons {x:V}{d:Vz}{xs:LV}{ds:List Vz}:Rep K H x d->Reps K H xs ds->Reps K H (x::xs) (d::ds)
end
theorem Rep.ind{K:QC}{H:Hp}{P:V->Vz->Prop}{Q:LV->List Vz->Prop}(a:P .non .none)(b:∀x,P (.bl x) (.bool x))(c:∀i,P (.int i) (.int i))(d:∀x,P (.str x) (.str x))
  (l:∀{a:j2}{xs:LV}{h:List Vz},YD K H a xs->Reps K H xs h->Q xs h->P (.ref a) (.list h)) (t:∀{a:j2}{xs:LV}{h:List Vz},oE K H a xs->Reps K H xs h->Q xs h->P (.ref a) (.tuple h))
  (x:∀{a C z:j2}{x:Str}{p:Int},H a=jy (.ext (LG C a z))->H z=jy (.xd (EH p))->ExC K C x->P (.ref a) (.dict [(.none,.list [.str x,.int p])])) (y:∀{C:j2}{x:Str},ExC K C x->P (.ref C) (.dict [(.none,.str x)]))
  (k:∀{a:j2}{ks:LS}{xs:LV}{h:List Vz},H a=jy (.dK (OB ks xs))->ks.length=xs.length->Reps K H xs h->Q xs h->P (.ref a) (.dict (OG ks h))) (n:Q [] [])
  (s:∀{x:V}{d:Vz}{xs:LV}{h:List Vz},Rep K H x d->Reps K H xs h->P x d->Q xs h->Q (x::xs) (d::h)):(∀{x:V}{d:Vz},Rep K H x d->P x d)/\∀{xs:LV}{h:List Vz},Reps K H xs h->Q xs h :=
 #[Rep.rec (motive_1:=λx d _=>P x d) (motive_2:=λxs h _=>Q xs h) a b c d l t x y k n s,Reps.rec (motive_1:=λx d _=>P x d) (motive_2:=λxs h _=>Q xs h) a b c d l t x y k n s]
theorem Rep.inv{K:QC}{H:Hp}{v:V}{x:Vz}(h:Rep K H v x):match x with
  | .none=>v=.non|.bool b=>v=.bl b|.int i=>v=.int i|.str z=>v=.str z|.list u=>∃a y,v=.ref a/\YD K H a y/\Reps K H y u|.tuple u=>∃a y,v=.ref a/\oE K H a y/\Reps K H y u|_=>True:=by
 cases h<;>first|rfl|trivial|exact#[_,_,rfl,by assumption,by assumption]
theorem Reps.inv{K:QC}{H:Hp}{vs:LV}{y:List Vz}(h:Reps K H vs y):match y with
  |[]=>vs=[]|d::r=>∃v x,vs=v::x/\Rep K H v d/\Reps K H x r:=by
 cases h with|nil=>rfl|cons a b=>exact#[_,_,rfl,a,b]
theorem Reps.length{K:QC}{H:Hp}:∀{xs:LV}{h:List Vz},Reps K H xs h->xs.length=h.length
 |_,_,.nil=>rfl|_,_,.cons _ t=>by rw[QJ,QJ,Reps.length t]
section
variable{X:Cx}{k:FB}{σ:St}{H:Hp}{s:j3}
theorem Rep.readsB(I:Inv X k σ H s):(∀{x:V}{d:Vz},Rep X.K H x d->∀{u:j0},d.canLay0=jb->aA x u->∃y,Reads s.1 u d y)/\∀{xs:LV}{j:List Vz},Reps X.K H xs j->∀{us:LW},qw j=jb->iA xs us->∃y,ReadsAll s.1 us j y:=by
 refine Rep.ind (λ_ r=>by cases r;exact#[_,.none]) (λb _ _ r=>by cases r;exact#[_,.bool b]) (λi _ _ r=>by let#[t,rfl]:=r;exact#[_,.int i t]) (λx _ _ r=>by let#[t,rfl]:=r;exact#[_,.str x t]) (λh _ q _ z r=>?_) (λh _ q _ z r=>?_) (λ_ _ _ _ z _=>(QD z).elim) (λ_ _ z _=>(QD z).elim) (λ_ _ _ _ _ z _=>(QD z).elim) (λ_ r=>by cases r;exact#[_,.nil]) (λ_ _ p q _ z r=>?_);cases r;let#[g,f,#[o,n,e,c,_,d],_]:=I.list h;let#[y,a]:=q z f;exact#[_,.list e c d (by simpa using a)];cases r;let#[g,f,#[o,e,c,n,d],_]:=I.tuple h;let#[y,a]:=q z f;exact#[_,.tuple e c d (by simpa using a)];cases r with|cons r l=>have z:=(QX _ _).mp z;let#[y,a]:=p z.1 r;let#[bs,m]:=q z.2 l;exact#[_,.cons a m]
theorem Rep.reads(I:Inv X k σ H s){x:V}{d:Vz}{u:j0}(h:Rep X.K H x d)(z:d.canLay0=jb)(r:aA x u):∃y,Reads s.1 u d y:=(Rep.readsB I).1 h z r
def oG(d:Vz):Prop:=d.canLay0=jb/\d.depth<=64
noncomputable def rEq(K:QC)(h:Bool):R2:=λx y H Q=>match x,y with
 | .int i,.int j=>Q (.bl (if h then !decide (i=j) else decide (i=j))) H|.str a,.str b=>Q (.bl (if h then !decide (a=b) else decide (a=b))) H|.bl a,.bl b=>Q (.bl (if h then !decide (a=b) else decide (a=b))) H|x,y=>∃u z,Rep K H x u/\Rep K H y z/\oG u/\oG z/\Q (.bl (if h then !PyData.eqv u z else Qz u z)) H
theorem op_eq(B:X.A.units+64<gi):pE X (Vx .Eq) (rEq X.K js):=by
 intro k s σ H x y v u Q I n m h;have z:(∃f e,Rep X.K H x f/\Rep X.K H y e/\oG f/\oG e/\Q (.bl (if js=jb then !PyData.eqv f e else Qz f e)) H)->Kx (Ky X.prog X.w) X.A (Vx .Eq v u) (EP X k σ Q) X.xe s:=by rintro⟨f,e,l,g,⟨p,W⟩,⟨o,Z⟩,q⟩;let#[C,Y]:=l.reads I p n;let#[bs,r]:=g.reads I o m;exact SeqAt.compareEq_reads Y r p o () #[.bl _,H,I,rfl,q]
 have sc:Z9 x y=jb->Q (.bl (decide (x=y))) H->Kx (Ky X.prog X.w) X.A (Vx .Eq v u) (EP X k σ Q) X.xe s:=λl g=>_root_.L2.op_eq k s σ H x y v u Q I n m #[l,g];cases x with
 |int i =>
  cases y with|int j=>exact sc rfl (by simpa[rEq]using h)|_=>exact z h
 |str a =>
  cases y with|str b=>exact sc rfl (by simpa[rEq]using h)|_=>exact z h
 |bl a =>
  cases y with|bl b=>exact sc rfl (by simpa[rEq]using h)|_=>exact z h
 |_=>exact z h
theorem op_ne(B:X.A.units+64<gi):pE X (Vx .NotEq) (rEq X.K jb):=by
 intro k s σ H x y v u Q I n m h;have z:(∃f e,Rep X.K H x f/\Rep X.K H y e/\oG f/\oG e/\Q (.bl (if jb=jb then !PyData.eqv f e else Qz f e)) H)->Kx (Ky X.prog X.w) X.A (Vx .NotEq v u) (EP X k σ Q) X.xe s:=by rintro⟨f,e,l,g,⟨p,W⟩,⟨o,Z⟩,q⟩;let#[C,Y]:=l.reads I p n;let#[bs,r]:=g.reads I o m;exact SeqAt.compareNe_reads Y r p o () #[.bl _,H,I,rfl,q]
 have sc:Z9 x y=jb->Q (.bl (!decide (x=y))) H->Kx (Ky X.prog X.w) X.A (Vx .NotEq v u) (EP X k σ Q) X.xe s:=λl g=>_root_.L2.op_ne k s σ H x y v u Q I n m #[l,g];cases x with
 |int i =>
  cases y with|int j=>exact sc rfl (by simpa[rEq]using h)|_=>exact z h
 |str a =>
  cases y with|str b=>exact sc rfl (by simpa[rEq]using h)|_=>exact z h
 |bl a =>
  cases y with|bl b=>exact sc rfl (by simpa[rEq]using h)|_=>exact z h
 |_=>exact z h
noncomputable def tY(f:Int->Int->Bool):R2:=λx y H Q=>match x,y with
 | .int i,.int j=>Q (.bl (f i j)) H|_,_=>False
theorem bQ{z:Z1}{f:Int->Int->Bool}(e:pE X (Vx z) (F9 λi j=>.bl (f i j))):pE X (Vx z) (tY f):=by
 intro k s σ H x y v u Q I b a h;cases x with
 |int i =>
  cases y with|int j=>exact e k s σ H _ _ v u Q I b a #[i,j,rfl,rfl,h]|_=>exact QT h
 |_=>exact QT h
noncomputable def inStr(b a:Str):Bool:=match a.cps.toList with
 |[c]=>decide (c∈b.cps.toList)|_=>!(qh b a 0 b.length 1).isEmpty
theorem aS(b a:Str):inStr b a=!(qh b a 0 b.length 1).isEmpty:=by
 unfold inStr;split;rename_i c e;have x:a=#[(List.toArray [c])]:=by
  let#[h]:=a;have:h=(List.toArray [c]):=by apply QBJ.mp;simpa using e
  rw[this]
 rw[x];exact(StrLaws.found_one b c).symm;rfl
noncomputable def sU(K:QC)(h:Bool):R2:=λx y H Q=>match y with
 | .str b=>match x with
  | .str a=>Q (.bl (if h then !inStr b a else inStr b a)) H|_=>False
 | .ref p=>Ls K h x (.ref p) H Q∨(∃d z,Rep K H x d/\(Rep K H (.ref p) (.list z)∨Rep K H (.ref p) (.tuple z))/\oG d/\oG (.list z)/\Q (.bl (if h then !(z.any λy=>Qz y d) else z.any λy=>Qz y d)) H)|_=>False
theorem sO{x:List Vz}(h:oG (.list x)):qw x=jb/\wE x<=63:=by let#[y,z]:=h;simp only[W0]at y;simp only[WL]at z;exact#[y,()]
theorem yo(o:X.A.units+66<gi):pE X (Vx .In) (sU X.K js):=by
 intro k s σ H x y v u Q I g e h;cases y with
 |str b =>
  cases x with|str a=>refine ZY k s σ H _ _ v u Q I g e #[a,b,rfl,rfl,?_];rw[<- aS];simpa[sU]using h|_=>exact QT h
 |ref p =>
  rcases h with h|⟨d,r,n,z,j,m,q⟩
  exact KY k s σ H _ _ v u Q I g e h;let#[Z,l]:=n.reads I j.1 g;let#[f,Y]:=sO m;rcases z with z|z;let#[bs,i]:=z.reads I f e;exact SeqAt.in_list_reads i l f j.1 () #[.bl _,H,I,rfl,q];let#[bs,i]:=z.reads I f e;exact SeqAt.in_tuple_reads i l f j.1 () #[.bl _,H,I,rfl,q]
 |_=>exact QT h
theorem x5(o:X.A.units+66<gi):pE X (Vx .NotIn) (sU X.K jb):=by
 intro k s σ H x y v u Q I g e h;cases y with
 |str b =>
  cases x with|str a=>refine cQ k s σ H _ _ v u Q I g e #[a,b,rfl,rfl,?_];rw[<- aS];simpa[sU]using h|_=>exact QT h
 |ref p =>
  rcases h with h|⟨d,r,n,z,j,m,q⟩
  exact dQ k s σ H _ _ v u Q I g e h;let#[Z,l]:=n.reads I j.1 g;let#[f,Y]:=sO m;rcases z with z|z;let#[bs,i]:=z.reads I f e;exact SeqAt.notIn_list_reads i l f j.1 () #[.bl _,H,I,rfl,q];let#[bs,i]:=z.reads I f e;exact SeqAt.notIn_tuple_reads i l f j.1 () #[.bl _,H,I,rfl,q]
 |_=>exact QT h
end
noncomputable def Ju(z:Str):It:=#[λi _=>i<z.cps.size,λi H x h=>h=H/\∃c,z.cps[i]?=jy c/\x=.str #[(List.toArray [c])],λi _=>z.cps.size<=i]
theorem B1{P:Kz}{w:kl}{K:QC}{tg:Expr}(it:j2)(z:Str)(t:Tok):Turn P w K tg (Ju z) [it] it (λi h=>h.IsStrIter it (vz z) z t i) where
 mem:=by simp
 obj:=λi h st b j=>by
  have e:b=it:=by simpa using j
  subst e;let#[o,e,c,d]:=st;exact#[o,e,λv z=>by rw[d]at z;cases z]
 keep:=λi h a st k=>by let#[o,e,r]:=st;exact#[o,k it (by simp) o e,r]
 item:=by
  intro X O L R hc i g s J H E I Y st N;subst O L R;let#[F,C,f2,B,W,Z]:=Y it (by simp);have M:i<z.cps.size:=N;obtain⟨G,m⟩:∃G,z.cps[i]?=jy G:=#[_,Array.getElem?_eq_getElem M]
  have q:∀a,a.IsStrIter it (vz z) z t (i+1)->wB it s.1 a->∃u,jy (Value.str #[(List.toArray [G])] s.toks)=jy u /\
    Kx (Ky X.prog X.w) X.A (Zz tg (.ref it) u) (λ_ s2=>∃x H',Inv X g J H' s2/\aA x u/\(Ju z).yld i H x H'/\s2.1.IsStrIter it (vz z) z t (i+1)/\∀b∈[it],H' b=jz) E { s with heap:=a,toks:=s.toks+1 }:=λa y p=>by
   have I1:Inv X g J H { s with heap:=a,toks:=s.toks+1 }:=I.turned (λb o j e=>(p.2 b j).trans e) F C B W Z;let#[o,e,c,d]:=id y;refine#[_,rfl,lX (s:={ s with heap:=a,toks:=s.toks+1 }) (n:=vz z) e c d ?_ #[.str #[(List.toArray [G])],H,I1,#[_,rfl],#[rfl,_,m,rfl],y,λb j=>(Y b j).1]];unfold vz;split<;>decide
  cases l:z.cps.all (· < 128) with
  |false =>
   have f:vz z="str_iterator":=by simp[vz,l]
   exact wpAny_pyNext_wide_item (by rw[<- f];exact st) m λa y p=>q a (by rw[f];exact y) p
  |true =>
   have f:vz z="str_ascii_iterator":=by simp[vz,l]
   exact wpAny_pyNext_ascii_item (by rw[<- f];exact st) m λa y p=>q a (by rw[f];exact y) p
 done:=by
  intro X O L R hc i g s J H E I Y st N;subst O L R;let#[F,C,f2,B,W,Z]:=Y it (by simp);have m:z.cps[i]?=none:=by rw[Array.getElem?_eq_none_iff];exact N
  cases l:z.cps.all (· < 128) with
  |false =>
   have f:vz z="str_iterator":=by simp[vz,l]
   rw[f]at st;exact wpAny_pyNext_wide_end (I.ok.hd hc) st m λa S=>#[rfl,I.turned (t':=s.toks) (λb o j e=>S b o j e) F C B W Z]
  |true =>
   have f:vz z="str_ascii_iterator":=by simp[vz,l]
   rw[f]at st;exact wpAny_pyNext_ascii_end (I.ok.hd hc) st m λa S=>#[rfl,I.turned (t':=s.toks) (λb o j e=>S b o j e) F C B W Z]
 self:=by
  intro A i s Q E st h;cases l:z.cps.all (· < 128) with
  |false =>
   have f:vz z="str_iterator":=by simp[vz,l]
   rw[f]at st;exact wpAny_pyIter_striter_wide st h
  |true =>
   have f:vz z="str_ascii_iterator":=by simp[vz,l]
   rw[f]at st;exact wpAny_pyIter_striter_ascii st h
section
variable{X:Cx}
theorem bN:∀{bs:List Bool}{us:LW},iA (bs.map V.bl) us->∀(i:Nat) (v:j0),us[i]?=jy v->∃b,bs[i]?=jy b/\v=Value.bool b
 |[],_,.nil,i,v,h=>by simp at h|b::bs,_,.cons r t,0,v,h=>by simp at h;subst h;exact#[b,by simp,r]|b::bs,_,.cons r t,i+1,v,h=>by let#[c,y,x]:=bN (bs:=bs) t i v (by simpa using h);exact#[c,by simpa using y,x]
theorem rY(bs:List Bool):(Qe bs.length).all (λi=>bs.getD i jb)=bs.all id:=by
 rw[wY,Qo,Qo];constructor;intro h b z;let#[i,y,e]:=QBs z;have:=h i (by simpa using y);simp[QBY,y,e]at this;simpa using this;intro h i y;have x:i<bs.length:=by simpa using y
 have:=h bs[i] (QBK x);simpa[QBY,x]using this
theorem pY(bs:List Bool):(Qe bs.length).any (λi=>bs.getD i js)=bs.any id:=by
 rw[wY,QAC,QAC];constructor;rintro⟨i,x,e⟩;have h:i<bs.length:=by simpa using x
 exact#[bs[i],QBK h,by simpa[QBY,h]using e];rintro⟨b,y,e⟩;let#[i,x,z]:=QBs y;exact#[i,by simpa using x,by simp[QBY,x,z];simpa using e]
noncomputable def Xn(K:QC):LV->Hp->VK->Prop:=λvs H Q=>match vs with
 |[.ref a]=>∃bs:List Bool,YD K H a (bs.map V.bl)/\Q (.bl (bs.all id)) H|_=>False
noncomputable def Vn(K:QC):LV->Hp->VK->Prop:=λvs H Q=>match vs with
 |[.ref a]=>∃bs:List Bool,YD K H a (bs.map V.bl)/\Q (.bl (bs.any id)) H|_=>False
theorem v8(Y:X.calm=jb):YC X (.builtin "all") (Xn X.K):=by
 intro g s C H j E Q I r h
 match j,h with
 |[.ref a],#[bs,hq,q] =>
  let#[u,rfl,m]:=sF r;cases m;let#[x,f,p,G]:=I.list hq;have hl:=f.length;rw[QG]at hl;refine call_all_walk (WR p.isList ?_);have y:a<s.1.1.size:=by let#[o,n,e,_]:=p;exact QO e
  refine#[s.1.1.size,_,_,_,_,_,λi=>bs.getD i jb,rfl,Walks.list (A:=X.A.in1) (I.ok.hd Y) s.1.1.size a (Qk y) x.toArray,#[#[_,QV _ rfl,rfl,rfl],?_],?_,?_];let#[o,n,e,c,d,sq]:=p;exact#[o,QF _ e,c,n,sq];intro i v F L M W z;let#[b,Z,rfl]:=bN f i v (by simpa using W);refine qa ?_;have:bs.getD i jb=b:=by simp[QBY,Z]
  rw[<- this];exact z;intro J l hk;have B:(Qe x.toArray.size).all (λi=>bs.getD i jb)=bs.all id:=by rw[QM,<- hl,rY]
  rw[B];exact#[.bl _,H,I.kept (t':=l) (λb o e=>hk b o (by simp;exact Qk (QO e)) (QF _ e)),rfl,q]
theorem z8(Y:X.calm=jb):YC X (.builtin "any") (Vn X.K):=by
 intro g s C H j E Q I r h
 match j,h with
 |[.ref a],#[bs,hq,q] =>
  let#[u,rfl,m]:=sF r;cases m;let#[x,f,p,G]:=I.list hq;have hl:=f.length;rw[QG]at hl;refine call_any_walk (WR p.isList ?_);have y:a<s.1.1.size:=by let#[o,n,e,_]:=p;exact QO e
  refine#[s.1.1.size,_,_,_,_,_,λi=>bs.getD i js,rfl,Walks.list (A:=X.A.in1) (I.ok.hd Y) s.1.1.size a (Qk y) x.toArray,#[#[_,QV _ rfl,rfl,rfl],?_],?_,?_];let#[o,n,e,c,d,sq]:=p;exact#[o,QF _ e,c,n,sq];intro i v F L M W z;let#[b,Z,rfl]:=bN f i v (by simpa using W);refine qa ?_;have:bs.getD i js=b:=by simp[QBY,Z]
  rw[<- this];exact z;intro J l hk;have B:(Qe x.toArray.size).any (λi=>bs.getD i js)=bs.any id:=by rw[QM,<- hl,pY]
  rw[B];exact#[.bl _,H,I.kept (t':=l) (λb o e=>hk b o (by simp;exact Qk (QO e)) (QF _ e)),rfl,q]
noncomputable def on(K:QC):LV->Hp->VK->Prop:=λvs H Q=>match vs with
 |[.str z]=>z.length<=j1/\Q (.int z.length) H|[.ref a]=>(∃h,YD K H a h/\Q (.int h.length) H)∨(∃h,oE K H a h/\Q (.int h.length) H)|_=>False
theorem j8:YC X (.builtin "len") (on X.K):=by
 intro x s u H y b Q I r h
 match y,h with
 |[.str z],h=>exact zR x s u H _ b Q I r #[z,rfl,h]|[.ref a],.inl #[y,hq,q]=>exact eJ x s u H _ b Q I r #[a,y,rfl,.inl hq,q]|[.ref a],.inr #[y,hq,q]=>exact eJ x s u H _ b Q I r #[a,y,rfl,.inr hq,q]
noncomputable def cV:V->Option j0
 | .ty n=>jy (.type n)|.ref C=>jy (.ref C)|_=>jz
def Ru(K:QC)(H:Hp)(x:V)(t:j0):Prop:=(∃a h,x=.ref a/\YD K H a h/\t=.type "list")∨∃a h,x=.ref a/\oE K H a h/\t=.type "tuple"
noncomputable def D9(K:QC):LV->Hp->VK->Prop:=λvs H Q=>match vs with
 |[x,c]=>∃t h b,(TyOf K H x t∨Ru K H x t)/\cV c=jy h/\WZ K t h=jy b/\Q (.bl b) H|_=>False
theorem yT:YC X (.builtin "isinstance") (D9 X.K):=by
 intro Z s A H g B Q I r h
 match g,h with
 |[x,c],#[t,cv,b,ty,hc,hk,q] =>
  let#[u,i,rfl,j,f]:=P0 r;have e:i=cv:=by
   cases c with|ty n=>have Y:i=Value.type n:=f;have p:jy (Value.type n)=jy cv:=hc;rw[Y];exact QY p|ref C=>have Y:i=jx C:=f;have p:jy (jx C)=jy cv:=hc;rw[Y];exact QY p|_=>cases hc
  subst e;rcases ty with ty|⟨a,g,rfl,m,rfl⟩| ⟨a,g,rfl,m,rfl⟩
  exact zZ I j ty hk λy=>#[.bl b,H,I.tok y,rfl,q]
  cases j;let#[l,W,#[o,n,e,c,_,d],_]:=I.list m;exact qD QAv I.kIn #[o,e,c] hk (λz=>nomatch z) λy=>#[.bl b,H,I.tok y,rfl,q]
  cases j;let#[l,W,#[o,e,c,n,d],_]:=I.tuple m;exact qD QB9 I.kIn #[o,e,c] hk (λz=>nomatch z) λy=>#[.bl b,H,I.tok y,rfl,q]
noncomputable def jn(K:QC):V->Option Int->Option Int->Hp->VK->Prop:=λx y z H Q=>∃a h,x=.ref a/\oE K H a h/\(HT.sIx h.length 0 y=0/\HT.sIx h.length h.length z=h.length)/\Q (.ref a) H
theorem yY{P:Kz}{w:kl}{A:Vy}{E:NB}{z:j3}{b u:j2}{h:Array j0}{e a:j0}{g i:Option Int}{C:NB}(x:IsTup z.1 b h)(f:z.1.IsSliceOf u e a .none)(m:ge e g)(l:ge a i)
  (all:HT.sIx h.size 0 g=0/\HT.sIx h.size h.size i=h.size) (c:C (.ref b) z):Kx (Ky P w) A (Gx (.ref b) (.ref u)) C E z:=by
 let#[o,j,n,_]:=id f;have ty:z.TypeIs (.ref u) "slice":=#[o,j,n]
 unfold Gx
 try with_reducible refine qX ?_
 first|refine QE (QS ?_)|skip
 refine QE (QCT x.typeIs (by decide) (QE (qj (name:=QA "__getitem__") x.typeIs Wn (w8 Wn x.typeIs QBl ?_ (QCA _ _)))));show Kx _ _ (QAe (.ref b) >>= _) _ _ z;refine QE (tupleItemsOf_ x (QE (QCs ty ?_)));rw[ef (by decide)];refine QE (HT.sliceApplied_gen f m l ?_);rw[all.1,all.2];have y:((((0:Nat):Int)==0&&(1:Int)==1&&(h.size - 0)==h.size)=jb):=by simp
 show Kx _ _ (if(((0:Nat):Int)==0&&(1:Int)==1&&(h.size - 0)==h.size)=jb then _ else _) _ _ z;rw[ef y];unfold Builtin.Tuple.tupleIsExact;refine QE (QE (QCs x.typeIs (QS ?_)));rw[ef (by decide)];exact QE (QCa (QS #[_,rfl,QS c]))
theorem Y2:Ac X (jn X.K):=by
 rintro o z i H _ u l j p s m Q I b y g f ⟨a,x,rfl,sq,all,q⟩;cases b;let#[e,r,h,_]:=I.tuple sq;have n:e.toArray.size=x.length:=by rw[QM];exact r.length.symm
 exact#["tuple",_,Wn.lookup,h.typeIs,yY h y g f (by rw[n];exact all) #[.ref a,H,I,rfl,q]]
noncomputable def ur(K:QC):V->Option Int->Option Int->Hp->VK->Prop:=λx h y H Q=>match x with
 | .str z=>z.length<=j1/\Q (.str (W8 z h y)) H|.ref a=>zn K (.ref a) h y H Q∨yn K (.ref a) h y H Q∨jn K (.ref a) h y H Q|_=>False
theorem Mh:Ac X (ur X.K):=by
 intro y s f H x v W Z n Y b Q I g p m e h;cases x with
 |str z =>
  let#[t,rfl]:=g;let#[G,q]:=h;refine#["str",_,F.slot_str_getitem.lookup,QA0 _ _ _,?_];have fin:∀l u:Option (Int×Tok),l.map (·.1)=n->u.map (·.1)=Y->s.1.IsSlice b l u jz->Kx (Ky X.prog X.w) X.A (Gx (.str z t) (.ref b)) (EP X y f Q) X.xe s:=λl u L J C=>by refine wpAny_getItem_str_slice C rfl ?_;subst L J;exact post_val_or_str #[qZ (QCv z _ _) G,λM k=>#[.str (W8 z _ _),H,I.tok k,#[_,rfl],q]]
  let#[o,r,hc,hd]:=p;cases m with
  |none =>
   cases e with|none=>exact fin jz jz rfl rfl #[o,r,hc,hd]|int j B=>exact fin jz (jy (j,B)) rfl rfl #[o,r,hc,hd]
  |int i E =>
   cases e with|none=>exact fin (jy (i,E)) jz rfl rfl #[o,r,hc,hd]|int j B=>exact fin (jy (i,E)) (jy (j,B)) rfl rfl #[o,r,hc,hd]
 |ref a =>
  rcases h with h|h|h
  rotate_left 2
  exact Y2 y s f H _ v W Z n Y b Q I g p m e h;exact i9 y s f H _ v W Z n Y b Q I g p m e h;exact Lh y s f H _ v W Z n Y b Q I g p m e h
 |_=>exact QT h
theorem uO:∀{l:List (Str×Tok)},iA (l.map λp=>V.str p.1) (strValues l)
 |[]=>.nil|p::r=>.cons #[p.2,rfl] uO
theorem yU{l:List (Str×Tok)}{ts:LS}(e:l.map (·.1)=ts):iA (ts.map V.str) (strValues l):=by subst e;rw[wF];exact uO
noncomputable def B3:V->LV->Hp->VK->Prop:=λx vs H Q=>match x,vs with
 | .str z,[.str y]=>z.length<=j1/\0<y.length/\(qS z y).length<=j1/\∀p,H p=jz->Q (.ref p) (VA H p (.lst ((qS z y).map V.str)))|_,_=>False
theorem u6:EZ X "str.split" B3:=by
 intro g s m H x i v n Q I j l h
 match x,i,h with
 | .str z,[.str y],#[hz,hy,hn,q] =>
  let#[t,rfl]:=j;let#[u,rfl,t',rfl]:=sF l;have b:(y.length==0)=false:=by simp;omega
  cases a:(decide (z.length<y.length)||decide (QBt z<QBt y));cases f:(qh z y 0 z.length (z.length+1)).isEmpty
  ·have e:qS z y=Builtin.Str.partsBetween z (qh z y 0 z.length (z.length+1)) y.length:=(eH (ne_true_of_eq_false a)).trans (eH (ne_true_of_eq_false f))
   rw[e]at hn q;refine w9 QBL (QA0 s z t) QA3 (QAj _ _) (meets_str_split_sep z y t t' a b f hz hn) ?_;rw[strsFrom_eq];exact#[.ref _,_,I.lnew (t':=_) (yU (numbered_texts _ _)) (by rw[QG];exact hn),rfl,q _ I.fresh]
  have e:qS z y=[z]:=(eH (ne_true_of_eq_false a)).trans (ef f);rw[e]at hn q;refine w9 QBL (QA0 s z t) QA3 (QAj _ _) (meets_str_split_not_found z y t t' a b f) ?_;exact#[.ref _,_,I.lnew (t':=s.toks) (ys:=[V.str z]) (its:=[.str z t]) (.cons #[t,rfl] .nil) hn,rfl,q _ I.fresh];have e:qS z y=[z]:=ef a;rw[e]at hn q;refine w9 QBL (QA0 s z t) QA3 (QAj _ _) (meets_str_split_cannot_occur z y t t' a) ?_;exact#[.ref _,_,I.lnew (t':=s.toks) (ys:=[V.str z]) (its:=[.str z t]) (.cons #[t,rfl] .nil) hn,rfl,q _ I.fresh]
end
inductive Src where
 |l (a:j2)|t (a:j2)|s (x:Str) (t:Tok)
noncomputable def Src.adr:Src->j2
 | .l a=>a|.t a=>a|.s _ _=>0
noncomputable def Src.val:Src->j0
 | .l a=>.ref a|.t a=>.ref a|.s x q=>.str x q
noncomputable def aW(x:Str):Array Value:=x.cps.map λc=>.str #[(List.toArray [c])] 0
def Lk(x u:j0):Prop:=u=x∨∃z t h,x=.str z t/\u=.str z h
noncomputable def HA(h:kt)(j:j2):Src->Nat->Prop
 | .l a,k=>h.IsListIter j a k|.t a,k=>h.IsTupleIter j a k|.s x t,k=>h.IsStrIter j "str_ascii_iterator" x t k
noncomputable def JA(h:kt):Src->Array j0->Prop
 | .l a,xs=>h.IsList a xs|.t a,xs=>h.IsTuple a xs|.s x _,xs=>x.cps.all (· < 128)=jb/\xs=aW x
theorem HA.ext{h h':kt}{j b:j2}{z:Src}{k:Nat}(x:HA h j z k)(e:QAZ b h h')(n:j≠b):HA h' j z k:=by
 cases z with|l a=>exact QDO.extBut x e n|t a=>exact Heap.IsTupleIter.extBut x e n|s y t=>exact Heap.IsStrIter.extBut x e n
theorem HA.keep{h h':kt}{j:j2}{z:Src}{k:Nat}(x:HA h j z k)(e:∀o,h.get? j=jy o->h'.get? j=jy o):HA h' j z k:=by
 cases z with|l a=>let#[o,b,u]:=x;exact#[o,e o b,u]|t a=>let#[o,b,u]:=x;exact#[o,e o b,u]|s y t=>let#[o,b,u]:=x;exact#[o,e o b,u]
theorem HA.obj{h:kt}{j:j2}{z:Src}{k:Nat}(x:HA h j z k):∃o,h.get? j=jy o/\∀v,o.data≠.cell v:=by
 cases z with|l a=>let#[o,b,e,u]:=x;exact#[o,b,λv q=>by rw[u]at q;cases q]|t a=>let#[o,b,e,u]:=x;exact#[o,b,λv q=>by rw[u]at q;cases q]|s y t=>let#[o,b,e,u]:=x;exact#[o,b,λv q=>by rw[u]at q;cases q]
theorem JA.ext{h h':kt}{b:j2}{z:Src}{xs:Array j0}(x:JA h z xs)(e:QAZ b h h')(n:z.adr≠b):JA h' z xs:=by
 cases z with|l a=>exact QBu.extBut x e n|t a=>exact Heap.IsTuple.extBut x e n|s y t=>exact x
theorem JA.lt{h:kt}{z:Src}{xs:Array j0}(x:JA h z xs)(b:0<h.1.size):z.adr<h.1.size:=by
 cases z with|l a=>let#[o,u,_]:=x;exact QO u|t a=>let#[o,u,_]:=x;exact QO u|s y t=>exact b
theorem HA.lt{h:kt}{j:j2}{z:Src}{k:Nat}(x:HA h j z k):j<h.1.size:=by let#[o,y,_]:=x.obj;exact QO y
section
variable{prog:Kz}{w:kl}{A:Vy}{E:NB}{s:j3}
theorem bj{j t:j2}{k:Nat}{xs:Array j0}{x:j0}{Q:NB}(p:s.1.IsTupleIter j t k)(pt:s.1.IsTuple t xs)(a:xs[k]?=jy x)
  (q:∀h',h'.IsTupleIter j t (k+1)->wB j s.1 h'->Q x { s with heap:=h' }):Kx (Ky prog w) A (Q2 (.ref j)) Q E s:=by
 let#[f,y,b,h]:=id p;let#[e,u,_,g,z]:=pt;unfold Q2;refine QE (qj (name:=QA "__next__") p.typeIs qq (w8 qq p.typeIs Wp ?_ (Wk _)));show Kx _ _ (dy (.ref j) 0 >>= _) _ _ _;refine QE (qA y h (x:=.ref t) rfl ?_);show Kx _ _ (if(jx t==Jz)=jb then _ else _) _ _ _;rw[eH (show ¬ (jx t==Jz)=jb from QD)];show Kx _ _ (dy (.ref j) 1 >>= _) _ _ _;refine QE (qA y h (x:=.int k 0) rfl ?_);show Kx _ _ (seqItems? (.ref t) >>= _) _ _ _;refine QE (wm u z ?_);simp only[QA4,a];refine QE (Wz y h (by simp) (QS #[x,rfl,QS (q _ ?_ (QBv ..))]));refine#[_,wD _ y (W7 (WC h _)),(QCW ..).trans b,?_];rw[WC h];simp[Xy]
theorem DU{j t:j2}{k:Nat}{xs:Array j0}{Q:NB}(z:A.handled=jz)(p:s.1.IsTupleIter j t k)(pt:s.1.IsTuple t xs)(f:xs[k]?=jz)
  (q:∀h' e,QAZ j s.1 h'->(∃o,h'.get? e=jy o/\o.cls=.type "StopIteration")->E (.ref e) { s with heap:=h' }):Kx (Ky prog w) A (Q2 (.ref j)) Q E s:=by
 let#[i,y,n,h]:=id p;let#[g,b,_,l,u]:=pt;unfold Q2;refine QE (qj (name:=QA "__next__") p.typeIs qq (w8 qq p.typeIs Wp ?_ (Wk _)));show Kx _ _ (dy (.ref j) 0 >>= _) _ _ _;refine QE (qA y h (x:=.ref t) rfl ?_);show Kx _ _ (if(jx t==Jz)=jb then _ else _) _ _ _;rw[eH (show ¬ (jx t==Jz)=jb from QD)];show Kx _ _ (dy (.ref j) 1 >>= _) _ _ _;refine QE (qA y h (x:=.int k 0) rfl ?_);show Kx _ _ (seqItems? (.ref t) >>= _) _ _ _;refine QE (wm b u ?_);simp only[QA4,f];refine QE (QCa (QE (Wz y h (by simp) ?_)));refine QE (m:=newExc (.type "StopIteration") []) ?_;simp only[newExc,newTuple];refine QE (qt ?made (by size_fits));refine QE (m:=d8 _ _) (wpAny_of_eq (a:=Jz) (by first|rfl | (rw[d8];rfl)) ?arg);refine qt ?made2 (by size_fits);simp only[raiseNew];refine QE (wpAny_handled ?_);first|rw[show A.in1.handled=jz from z]|rw[z]
 refine QE (QS (wpAny_throw (q _ _ (((QBv ..).extBut.push _).push _) #[_,QV _ rfl,rfl])))
theorem tL{j:j2}{z:Src}{k:Nat}{xs:Array j0}{x:j0}{Q:NB}(p:HA s.1 j z k)(pt:JA s.1 z xs)(h:xs[k]?=jy x)
  (q:∀h' u f,Lk x u->HA h' j z (k+1)->wB j s.1 h'->Q u { s with heap:=h',toks:=f }):Kx (Ky prog w) A (Q2 (.ref j)) Q E s:=by
 cases z with
 |l a=>exact wpAny_nextOf_list_item p pt h λh' a b=>q h' x s.toks (.inl rfl) a b|t a=>exact bj p pt h λh' a b=>q h' x s.toks (.inl rfl) a b|s y t =>
  let#[_,rfl]:=pt;obtain⟨c,hc,rfl⟩:∃c,y.cps[k]?=jy c/\x=.str ⟨(List.toArray [c])⟩ 0:=by
   rw[aW,QCD]at h;cases e:y.cps[k]? with|none=>rw[e]at h;cases h|some c=>rw[e]at h;exact#[c,rfl,(QY h).symm]
  exact wpAny_nextOf_ascii_item p hc λh' a b=>q h' _ _ (.inr #[_,_,_,rfl,rfl]) a b
theorem aQ{j:j2}{z:Src}{k:Nat}{xs:Array j0}{Q:NB}(x:A.handled=jz)(p:HA s.1 j z k)(pt:JA s.1 z xs)(h:xs[k]?=jz)
  (q:∀h' e,QAZ j s.1 h'->(∃o,h'.get? e=jy o/\o.cls=.type "StopIteration")->E (.ref e) { s with heap:=h' }):Kx (Ky prog w) A (Q2 (.ref j)) Q E s:=by
 cases z with
 |l a=>exact wpAny_nextOf_list_end x p pt h q|t a=>exact DU x p pt h q|s y t =>
  let#[_,rfl]:=pt;refine wpAny_nextOf_ascii_end x p ?_ q;rw[aW,QCD]at h;cases e:y.cps[k]? with|none=>rfl|some c=>rw[e]at h;cases h
noncomputable def Src.it:Src->Obj
 | .l a=>{ cls:=.type "list_iterator",data:=.fields (List.toArray [.ref a,.int 0 0]) }|.t a=>{ cls:=.type "tuple_iterator",data:=.fields (List.toArray [.ref a,.int 0 0]) }|.s x q=>{ cls:=.type "str_ascii_iterator",data:=.fields (List.toArray [.str x q,.int 0 0]) }
theorem ZD{z:Src}{xs:Array j0}{Q:NB}(pt:JA s.1 z xs)(q:Q (.ref s.1.1.size) { s with heap:=s.1.push z.it }):Kx (Ky prog w) A (Ey z.val) Q E s:=by
 cases z with|l a=>exact WR pt q|t a=>exact QCE pt q|s y t=>exact wpAny_pyIter_ascii pt.1 q
theorem pL(h:kt)(z:Src):HA (h.push z.it) h.1.size z 0:=by
 cases z with|l a=>exact#[_,QV _ rfl,rfl,rfl]|t a=>exact#[_,QV _ rfl,rfl,rfl]|s y t=>exact#[_,QV _ rfl,rfl,rfl]
theorem tF{h h':kt}{j b:j2}{z:Src}{k:Nat}(x:HA h j z k)(e:wB b h h')(n:j≠b):HA h' j z k:=x.ext e.extBut n
theorem kF{h h':kt}{b:j2}{z:Src}{xs:Array j0}(x:JA h z xs)(e:wB b h h')(n:z.adr≠b):JA h' z xs:=x.ext e.extBut n
theorem EX{z TI TO X r:j2}{I G:Src}{k1 k2:Nat}{xs ys:Array j0}{x y a b:j0}{Q:NB}(D:Hz z TI TO X r I.adr G.adr)
  (N:Gy s.1 z TI TO .none) (pI:x3 s.1 TI (.ref X) (.ref r)) (pO:x3 s.1 TO a b) (p1:HA s.1 X I k1) (p2:HA s.1 r G k2) (q1:JA s.1 I xs) (q2:JA s.1 G ys)
  (ex:xs[k1]?=jy x) (ey:ys[k2]?=jy y)
  (q:∀h' u v tk,Lk x u->Lk y v->Gy h' z TI TO (Xy s.1.1.size)->x3 h' TO u v->HA h' X I (k1+1)->HA h' r G (k2+1)->x3 h' s.1.1.size u v->h'.1.size=s.1.1.size+1 ->
   (∀c o,c≠z->c≠TO->c≠X->c≠r->s.1.get? c=jy o->h'.get? c=jy o)->Q (.ref s.1.1.size) { s with heap:=h',toks:=tk }) :
  Kx (Ky prog w) A (Builtin.«zip.__next__» #[[.ref z],[]]) (λfin s'=>∃v,fin=.done (.ret v)/\Q v s') E s:=by
 show Kx (Ky prog w) A (dy (.ref z) 2 >>= _) _ _ _;refine QE (qA N rfl (x:=.bool js) rfl ?f2);show Kx (Ky prog w) A (dy (.ref z) 3 >>= _) _ _ _;refine QE (qA N rfl (x:=.ref TI) rfl ?f3);refine QE (wm pI rfl ?fi);show Kx (Ky prog w) A (qY (.ref z) >>= _) _ _ _;refine QE ?free;unfold qY;refine QE (qA N rfl (x:=.none) rfl (QS ?f0));simp only[if_true];refine QE (QCa ?ru);refine QE (qA N rfl (x:=.ref TO) rfl ?fo);refine QE (wg N (by simp) λha W h=>?_);replace W:Gy ha z TI TO .ellipsis:=W;refine QE ?lp;simp only[QAD,QBZ,QAX,QAq];refine QE (QE (QBF ?r1));show Kx (Ky prog w) A (Q2 (.ref X) >>= _) _ _ _;refine QE (tL (tF p1 h D.i1z) (kF q1 h D.l1z) ex λhb u tk1 lu p1b i=>QS ?_);have L:x3 hb TO a b:=i.extBut _ _ D.TOi1 (h.extBut _ _ D.TOz pO);refine QE (wm L rfl ?sb);refine QE (QAH L λhc Y g=>?_);replace Y:x3 hc TO u b:=Y;refine QE (QDP (QS ?g1));refine QE (QE (QBF ?r2));show Kx (Ky prog w) A (Q2 (.ref r) >>= _) _ _ _;refine QE (tL (tF (tF (tF p2 h D.i2z) i D.i12.symm) g D.TOi2.symm) (kF (kF (kF q2 h D.l2z) i D.l2i1) g D.l2TO) ey λhd v tk2 lv H m=>QS ?_);have J:x3 hd TO u b:=m.extBut _ _ D.TOi2 Y;refine QE (wm J rfl ?sd);refine QE (QAH J λf n l=>?_);replace n:x3 f TO u v:=n;refine QE (QDP (QS (QS ?g2)));refine QE (wm n rfl ?se);refine QE (wpAny_newTuple ?nt);have size:f.1.size=s.1.1.size:=by rw[l.1,m.1,g.1,i.1,h.1]
 have M:Gy f z TI TO .ellipsis:=l.extBut _ _ D.TOz.symm (m.extBut _ _ D.i2z.symm (g.extBut _ _ D.TOz.symm (i.extBut _ _ D.i1z.symm W)));have kept:∀c o,c≠z->c≠TO->c≠X->c≠r->s.1.get? c=jy o->f.get? c=jy o:=λc o C R c3 c4 e=>l.extBut _ _ R (m.extBut _ _ c4 (g.extBut _ _ R (i.extBut _ _ c3 (h.extBut _ _ C e))));have p1e:HA f X I (k1+1):=tF (tF (tF p1b g D.TOi1.symm) m D.i12) l D.TOi1.symm;have S:HA f r G (k2+1):=tF H l D.TOi2.symm;have F:z<f.1.size:=QO M;show Kx (Ky prog w) A (Wb (.ref z) (.ref f.1.size) >>= _) _ _ _;refine QE ?ho;unfold Wb;have hzf:Gy (f.push { cls:=.type "tuple",data:=.seq (List.toArray [u,v]) }) z TI TO .ellipsis:=QF _ M;refine QE (wg hzf (by simp) λhg Z B=>?_);replace Z:Gy hg z TI TO (Xy f.1.size):=Z;refine wg Z (by simp) λO p K=>?_;replace p:Gy O z TI TO (Xy f.1.size):=p;have P:∀c o,c≠z->f.get? c=jy o->O.get? c=jy o:=λc o C e=>K.extBut _ _ C (B.extBut _ _ C (QF _ e));have pT:x3 O f.1.size u v:=K.extBut _ _ (Wi F) (B.extBut _ _ (Wi F) (QV _ rfl));have j:O.1.size=f.1.size+1:=by rw[K.1,B.1,qM]
 rw[size]at p pT j;refine QS #[_,rfl,?_];show Q (.ref f.1.size) _;rw[size];exact q O u v _ lu lv p (P _ _ D.TOz n) (p1e.keep λo e=>P _ o D.i1z e) (S.keep λo e=>P _ o D.i2z e) pT j λc o C R c3 c4 e=>P c o C (kept c o C R c3 c4 e)
theorem K0{z TI TO n m:j2}{B K:Src}{k1 k2:Nat}{xs ys:Array j0}{a b:j0}{Q:PySem.Fin->j3->Prop}(P:A.handled=jz)(D:Hz z TI TO n m B.adr K.adr)
  (r:Gy s.1 z TI TO .none) (pI:x3 s.1 TI (.ref n) (.ref m)) (pO:x3 s.1 TO a b) (O:HA s.1 n B k1) (p2:HA s.1 m K k2) (N:JA s.1 B xs) (H:JA s.1 K ys)
  (en:xs[k1]?=jz∨ys[k2]?=jz)
  (M:∀h' e S,(∀c o,c≠z->c≠TO->c≠n->c≠m->s.1.get? c=jy o->h'.get? c=jy o)->(∃o,h'.get? e=jy o/\o.cls=.type "StopIteration")->E (.ref e) { s with heap:=h',toks:=S }) :
  Kx (Ky prog w) A (Builtin.«zip.__next__» #[[.ref z],[]]) Q E s:=by
 show Kx (Ky prog w) A (dy (.ref z) 2 >>= _) _ _ _;refine QE (qA r rfl (x:=.bool js) rfl ?f2);show Kx (Ky prog w) A (dy (.ref z) 3 >>= _) _ _ _;refine QE (qA r rfl (x:=.ref TI) rfl ?f3);refine QE (wm pI rfl ?fi);show Kx (Ky prog w) A (qY (.ref z) >>= _) _ _ _;refine QE ?free;unfold qY;refine QE (qA r rfl (x:=.none) rfl (QS ?f0));simp only[if_true];refine QE (QCa ?ru);refine QE (qA r rfl (x:=.ref TO) rfl ?fo);refine QE (wg r (by simp) λha i y=>?_);replace i:Gy ha z TI TO .ellipsis:=i;refine QE ?lp;simp only[QAD,QBZ,QAX,QAq];refine QE (QE (QBF ?r1));show Kx (Ky prog w) A (Q2 (.ref n) >>= _) _ _ _;cases J:xs[k1]? with
 |none =>
  refine QE (aQ P (tF O y D.i1z) (kF N y D.l1z) J λI e f G=>?_);let#[C,j,Z]:=G;have q:Gy I z TI TO .ellipsis:=f _ _ D.i1z.symm i;have F:e≠z:=λx=>by subst x;rw[q]at j;cases j;simp at Z
  refine wg q (by simp) λhc _ g=>M hc e _ (λc o W _ L _ x=>g.extBut _ _ W (f _ _ L (y.extBut _ _ W x))) #[C,g.extBut _ _ F j,Z]
 |some x =>
  have ey:ys[k2]?=none:=by rcases en with h|h;rw[J]at h;cases h;exact h
  refine QE (tL (tF O y D.i1z) (kF N y D.l1z) J λI u R lu p1b f=>QS ?_);have l:x3 I TO a b:=f.extBut _ _ D.TOi1 (y.extBut _ _ D.TOz pO);refine QE (wm l rfl ?sb);refine QE (QAH l λhc pOc g=>?_);refine QE (QDP (QS ?g1));refine QE (QE (QBF ?r2));show Kx (Ky prog w) A (Q2 (.ref m) >>= _) _ _ _;refine QE (aQ P (tF (tF (tF p2 y D.i2z) f D.i12.symm) g D.TOi2.symm) (kF (kF (kF H y D.l2z) f D.l2i1) g D.l2TO) ey λhd e Y G=>?_);let#[C,j,Z]:=G;have p:Gy hd z TI TO .ellipsis:=Y _ _ D.i2z.symm (g.extBut _ _ D.TOz.symm (f.extBut _ _ D.i1z.symm i));have F:e≠z:=λx=>by subst x;rw[p]at j;cases j;simp at Z
  refine wg p (by simp) λhf _ X=>M hf e _ (λc o W c2 L c4 x=>X.extBut _ _ W (Y _ _ c4 (g.extBut _ _ c2 (f.extBut _ _ L (y.extBut _ _ W x))))) #[C,X.extBut _ _ F j,Z]
theorem AX{z TI TO e h:j2}{g f:Src}{k1 k2:Nat}{xs ys:Array j0}{x y a b:j0}{Q:Option j0->j3->Prop}(D:Hz z TI TO e h g.adr f.adr)
  (j:Gy s.1 z TI TO .none) (r:x3 s.1 TI (.ref e) (.ref h)) (p:x3 s.1 TO a b) (X:HA s.1 e g k1) (p2:HA s.1 h f k2) (n:JA s.1 g xs) (m:JA s.1 f ys)
  (ex:xs[k1]?=jy x) (W:ys[k2]?=jy y)
  (q:∀h' u v i,Lk x u->Lk y v->Gy h' z TI TO (Xy s.1.1.size)->x3 h' TO u v->HA h' e g (k1+1)->HA h' h f (k2+1)->x3 h' s.1.1.size u v->h'.1.size=s.1.1.size+1 ->
   (∀c o,c≠z->c≠TO->c≠e->c≠h->s.1.get? c=jy o->h'.get? c=jy o)->Q (jy (.ref s.1.1.size)) { s with heap:=h',toks:=i }):Kx (Ky prog w) A (Dy (.ref z)) Q E s:=by
 have l:s.TypeIs (.ref z) "zip":=#[_,j,rfl]
 unfold Dy;exact QE (bz (qj (name:=QA "__next__") l WM (w8 WM l QBP
  (EX D j r p X p2 n m ex W λh' u v i Z Y J I G F C B K=>QS (q h' u v i Z Y J I G F C B K)) (QBG _))))
theorem IX{z TI TO x h:j2}{u y:Src}{k1 k2:Nat}{xs ys:Array j0}{a b:j0}{Q:Option j0->j3->Prop}(Z:A.handled=jz)(D:Hz z TI TO x h u.adr y.adr)
  (g:Gy s.1 z TI TO .none) (n:x3 s.1 TI (.ref x) (.ref h)) (m:x3 s.1 TO a b) (p:HA s.1 x u k1) (p2:HA s.1 h y k2) (l:JA s.1 u xs) (j:JA s.1 y ys)
  (Y:xs[k1]?=jz∨ys[k2]?=jz) (q:∀h' f,(∀c o,c≠z->c≠TO->c≠x->c≠h->s.1.get? c=jy o->h'.get? c=jy o)->Q jz { s with heap:=h',toks:=f }):Kx (Ky prog w) A (Dy (.ref z)) Q E s:=by
 have i:s.TypeIs (.ref z) "zip":=#[_,g,rfl]
 unfold Dy;refine QE (bz (qj (name:=QA "__next__") i WM (w8 WM i QBP
  (K0 Z D g n m p p2 l j Y λh' e f hk X=>?_) (QBG _))))
 let#[o,r,hc]:=X;exact QE (wpAny_isInstance (T:="StopIteration") (b:=jb) #[o,r,hc] isSubtype_stop (QS (q _ _ hk)))
end
noncomputable abbrev Ol(h:kt)(x:Src):Heap:=h.push x.it
noncomputable abbrev Pq(h:kt)(y x:Src):Heap:=(Ol h y).push x.it
noncomputable abbrev Oq(h:kt)(x y:Src):Heap:=(Pq h x y).push { cls:=.type "tuple",data:=.seq (List.toArray [.ref h.1.size,.ref (Ol h x).1.size]) }
noncomputable abbrev Nq(h:kt)(y x:Src):Heap:=(Oq h y x).push { cls:=.type "tuple",data:=.seq (List.toArray [.none,.none]) }
noncomputable abbrev Bl(h:kt)(y x:Src):Heap:=(Nq h y x).push { cls:=.type "zip",data:=.fields (List.toArray [.none,.bool js,.bool js,.ref (Pq h y x).1.size,.ref (Oq h y x).1.size]) }
theorem JA.push{h:kt}{z:Src}{xs:Array j0}(x:JA h z xs)(o:Obj):JA (h.push o) z xs:=by
 cases z with|l a=>exact QBu.push x o|t a=>exact Heap.IsTuple.push x o|s y t=>exact x
theorem Z0(x y:Src)(xs ys:Array j0):fy (Builtin.«zip.__new__» #[[.type "zip",x.val,y.val],[]]) (λ_ R s=>JA s.1 x xs/\JA s.1 y ys /\
   R (.ok (.ret (.ref (Nq s.1 x y).1.size))) { s with heap:=Bl s.1 x y }) :=
 .of_wp λb w A R s h=>by let#[f,g,d,a,os]:=s;let#[j,i,h]:=h;have e:=sub_zip;have u:JA (QBw #[f,g,d,a,os]) x xs:=j;have z:JA (QBw #[f.push x.it,g,d,a,os]) y ys:=JA.push i _;wp_walk using ZD u,ZD z;exact#[_,rfl,h]
section
variable{X:Cx}{w:FB}{σ:St}{H:Hp}{s:j3}{h':kt}
theorem _root_.L2.Inv.turnedL{t':Nat}{ch:List j2}(I:Inv X w σ H s)(k:∀b o,b∉ch->s.1.get? b=jy o->h'.get? b=jy o)(f:∀b∈ch,iK X w H b):Inv X w σ H { s with heap:=h',toks:=t' }:=by
 have h:∀b u,H b=jy u->b∉ch:=λb u e z=>by rw[(f b z).1]at e;cases e
 have g:X.env.locals∉ch:=λz=>(f _ z).2.1 rfl;refine I.step (g':=s.gens) (d':=s.drawn) (ch:=ch) (λb a=>?_) (λb o _ _ hc e _=>k b o hc e) (λb o _ _ hc e _=>#[o.slots,k b o hc e]) (λ_ _ _ _ n=>n)
  (λb o hc e=>#[o,k b o hc e]) (λ_ _ e=>e) (λ_ _ _ e=>e) (λb W e=>#[#[],by rw[e];simp]) (λm y=>?_) (λb u e=>?_) I.bare
 let#[_,p,_,l,j,i]:=f b a;exact#[l,p,j,i];let#[o,Y,Z,x,r]:=y;exact#[o,Y,Z,k _ o g x,r];refine(I.hok b u e).stay (λc v hc q=>k c v ?_ q) (λ_ q=>q) λ_ _ q=>q;rcases hc with z|z;rw[z];exact h b u e;exact h c _ z
noncomputable def HJ(K:QC)(H:Hp):Src->LV->Prop
 | .l a,xs=>YD K H a xs|.t a,xs=>oE K H a xs|.s x _,xs=>x.cps.all (· < 128)=jb/\xs=x.cps.toList.map λc=>.str #[(List.toArray [c])]
noncomputable def Src.v:Src->V
 | .l a=>.ref a|.t a=>.ref a|.s x _=>.str x
theorem sW{z:Src}{u:j0}(r:aA z.v u):∃h:Src,h.val=u/\∀K H xs,HJ K H h xs=HJ K H z xs:=by
 cases z with|l a=>cases r;exact#[.l a,rfl,λ_ _ _=>rfl]|t a=>cases r;exact#[.t a,rfl,λ_ _ _=>rfl]|s x t=>let#[y,rfl]:=r;exact#[.s x y,rfl,λ_ _ _=>rfl]
theorem oU{x:V}{u h:j0}(r:aA x u)(l:Lk u h):aA x h:=by
 rcases l with rfl|⟨z,t,a,rfl,rfl⟩
 exact r;cases x with|str y=>let#[_,e]:=r;cases e;exact#[_,rfl]|int i=>let#[_,e]:=r;cases e|byt i=>let#[_,e]:=r;cases e|flt i=>let#[_,e]:=r;cases e|_=>cases r
theorem vW:∀h:LN,iA (h.map λc=>V.str #[(List.toArray [c])]) (h.map λc=>Value.str #[(List.toArray [c])] 0)
 |[]=>.nil|_::h=>.cons #[_,rfl] (vW h)
theorem _root_.L2.Inv.src(I:Inv X w σ H s){z:Src}{xs:LV}(h:HJ X.K H z xs):∃its:LW,iA xs its/\JA s.1 z its.toArray:=by
 cases z with|l a=>let#[its,y,p,u]:=I.list h;exact#[its,y,p.isList]|t a=>let#[its,y,p,u]:=I.tuple h;exact#[its,y,p]|s x t=>let#[b,rfl]:=h;exact#[_,vW x.cps.toList,b,by rw[aW,<- List.map_toArray,Array.toArray_toList]]
theorem _root_.L2.Inv.src_inj(I:Inv X w σ H s){z:Src}{xs ys:LV}(h:HJ X.K H z xs)(h':HJ X.K H z ys):xs=ys:=by
 cases z with|l a=>exact I.list_inj h h'|t a=>exact I.tuple_inj h h'|s x t=>exact h.2.trans h'.2.symm
theorem _root_.L2.Inv.pair{p:j2}{a b:j0}{x y:V}{t':Nat}(I:Inv X w σ H s)(k:∀b u,s.1.get? b=jy u->h'.get? b=jy u)(e:s.1.1.size<=p)(f:h'.get? p=jy { cls:=.type "tuple",data:=.seq (List.toArray [a,b]) })(z:aA x a)(h:aA y b) :
  Inv X w σ (VA H p (.tup [x,y])) { s with heap:=h',toks:=t' } :=
 I.laid k e #[by rw[qi];show 2<=_;decide,[a,b],.cons z (.cons h .nil),_,f,rfl,_,rfl]
end
noncomputable def Hv(K:QC)(a u:Src):It :=
  #[λi H=>∃z h x y,HJ K H a z/\HJ K H u h/\z[i]?=jy x/\h[i]?=jy y,
   λi H v b=>∃p x y,H p=jz/\v=.ref p/\b=VA H p (.tup [x,y])/\∀z h,HJ K H a z->HJ K H u h->z[i]?=jy x/\h[i]?=jy y,
   λi H=>∃z h,HJ K H a z/\HJ K H u h/\(z.length<=i∨h.length<=i)]
def eT(z TI TO y x:j2)(e u:Src)(f:j0)(i:Nat)(h:kt):Prop:=Gy h z TI TO f/\x3 h TI (.ref y) (.ref x)/\(∃a b,x3 h TO a b)/\HA h y e i/\HA h x u i
theorem eT.keep{z TI TO y x:j2}{f a:Src}{g:j0}{i:Nat}{h h':kt}(st:eT z TI TO y x f a g i h)(k:∀b∈[z,TI,TO,y,x],∀o,h.get? b=jy o->h'.get? b=jy o):eT z TI TO y x f a g i h':=by let#[p,n,#[u,v,m],l,j]:=st;exact#[k z (by simp) _ p,k TI (by simp) _ n,#[u,v,k TO (by simp) _ m],l.keep λo e=>k y (by simp) o e,j.keep λo e=>k x (by simp) o e]
theorem U1{P:Kz}{w:kl}{K:QC}{es:List Expr}{kk:Nat}{pp:Pos}{z TI TO p n:j2}{S R:Src}(D:Hz z TI TO p n S.adr R.adr) :
  Turn P w K (.Tuple es kk pp) (Hv K S R) [z,TI,TO,p,n] z (eT z TI TO p n S R .none) where
 mem:=by simp
 obj:=λi h st b a=>by let#[C,Y,#[u,v,B],A,W]:=st;simp only[QR,qK,or_false]at a;rcases a with rfl|rfl|rfl|rfl|rfl;exact#[_,C,λv q=>by cases(show Data.fields _=Data.cell v from q)];exact#[_,Y,λv q=>by cases(show Data.seq _ _=Data.cell v from q)];exact#[_,B,λv q=>by cases(show Data.seq _ _=Data.cell v from q)];exact A.obj;exact W.obj
 keep:=λi h h' st k=>st.keep k
 item:=by
  intro X hP hw hK hc i G s σ H E I N st hg;subst hP hw hK;let#[xs,ys,x,y,Q,O,ex,ey]:=hg;let#[M,rv,j]:=I.src Q;let#[L,l,g]:=I.src O;let#[u,hu,ru]:=rv.get ex;let#[v,hv,m]:=l.get ey;let#[C,Y,#[c,d,B],A,W]:=st;refine AX D C Y B A W j g (x:=u) (y:=v) (by simpa using hu) (by simpa using hv) λh' u' v' tk lu lv b1 b2 b3 b4 b5 b6 b7=>?_;replace ru:=oU ru lu;replace m:=oU m lv;refine#[_,rfl,wpAny_letOwnedTupleGo_zip b1 λr c1 Z=>?_];have kept:∀b o,b∉[z,TI,TO,p,n]->s.1.get? b=jy o->r.get? b=jy o:=λb o a e=>by simp only[QR,qK,or_false,not_or]at a;exact(Z.2 b a.1).trans (b7 b o a.1 a.2.2.1 a.2.2.2.1 a.2.2.2.2 e)
  have hp:=I.hok.fresh (QU s.1.1.size);have F:z<s.1.1.size:=QO C;have f:r.get? s.1.1.size=jy { cls:=.type "tuple",data:=.seq (List.toArray [u',v']) }:=(Z.2 _ (Wi F)).trans b5;have J:∀b∈[z,TI,TO,p,n],b<s.1.1.size:=λb a=>by simp only[QR,qK,or_false]at a;rcases a with rfl|rfl|rfl|rfl|rfl;exact F;exact QO Y;exact QO B;exact A.lt;exact W.lt
  have I1:=I.pair (h':=s.1.push { cls:=.type "tuple",data:=.seq (List.toArray [u',v']) }) (t':=s.toks) (λb o e=>QF _ e) (QU _) (QV _ rfl) ru m;have I2:=I1.turnedL (h':=r) (t':=tk) (ch:=[z,TI,TO,p,n]) (λb o a e=>by
   rcases QAG e with⟨q1,q2⟩| q;subst q1 q2;exact f;exact kept b o a q) λb a=>by
   let#[f0,f1,f2,f3,f4,f5]:=N b a;exact#[by rw[yA (Qk (J b a))];exact f0,f1,f2,f3,f4,f5]
  refine#[.ref s.1.1.size,_,I2,rfl,#[s.1.1.size,x,y,hp,rfl,rfl,λxs' ys' g1 g2=>?_],#[c1,?_,#[_,_,(Z.2 _ D.TOz).trans b2],b3.keep λo e=>(Z.2 _ D.i1z).trans e,b4.keep λo e=>(Z.2 _ D.i2z).trans e],λb a=>?_];rw[I.src_inj g1 Q,I.src_inj g2 O];exact#[ex,ey];exact(Z.2 _ D.TIz).trans (b7 _ _ D.TIz D.TITO D.TIi1 D.TIi2 Y);rw[yA (Qk (J b a))];exact(N b a).1
 done:=by
  intro X hP hw hK hc i G s σ H E I N st hg;subst hP hw hK;let#[xs,ys,Q,O,en]:=hg;let#[M,rv,j]:=I.src Q;let#[L,l,g]:=I.src O;let#[C,Y,#[c,d,B],A,W]:=st;have l1:=rv.length;have l2:=l.length;have en':M.toArray[i]?=jz∨L.toArray[i]?=none:=by rcases en with q|q;exact .inl (by simp;omega);exact .inr (by simp;omega)
  refine IX (I.ok.hd hc) D C Y B A W j g en' λh' tk kp=>#[rfl,I.turnedL (t':=tk) (ch:=[z,TI,TO,p,n]) (λb o a e=>?_) N]
  simp only[QR,qK,or_false,not_or]at a;exact kp b o a.1 a.2.2.1 a.2.2.2.1 a.2.2.2.2 e
 self:=λ_ _ _ _ _ st h=>QC7 st.1 h
theorem nk{prog:Kz}{w:kl}{A:Vy}(C:A.handled=jz)(j:j2)(z:Src)(X:z.adr≠j)(b:Array j0)(c:Nat) :
  Draws prog w A j [j,z.adr] (c+b.size) (λi v=>∃k u,i=c+k/\b[k]?=jy u/\Lk u v) (λi h=>∃k,i=c+k/\HA h j z k/\JA h z b) where
 live:=λ_ _ #[_,_,p,_]=>let#[o,e,_]:=p.obj;#[o,e]
 frame:=λ_ h m #[k,e,p,q] f=>#[k,e,p.keep λo x=>f j (by simp) o x,by
  cases z with|l a=>exact QBu.at q λo x=>f a (by simp[Src.adr]) o x|t a=>let#[o,B,K]:=q;exact#[o,f a (by simp[Src.adr]) o B,K]|s y t=>exact q]
 item:=λi s Q E F #[k,e,p,q] Z=>by
  have hk:k<b.size:=()
  exact tL p q (x:=b[k]) (by simp[hk]) λm u n Y r g=>Z _ m n #[k,_,e,by simp[hk],Y] #[k+1,(),r,kF q g X] g
 done:=λs Q E #[k,e,p,q] W=>by
  have hk:k=b.size:=()
  exact aQ C p q (by simp[hk]) W
theorem ak{prog:Kz}{w:kl}{A:Vy}(Y:A.handled=jz)(j:j2)(z:Src)(u:Array j0)(n k:Nat)(f:u[k]?=jz) :
  Draws prog w A j [j,z.adr] n (λ_ _=>False) (λi h=>i=n/\HA h j z k/\JA h z u) where
 live:=λ_ _ #[_,p,_]=>let#[o,e,_]:=p.obj;#[o,e]
 frame:=λ_ h W #[e,p,q] b=>#[e,p.keep λo x=>b j (by simp) o x,by
  cases z with|l a=>exact QBu.at q λo x=>b a (by simp[Src.adr]) o x|t a=>let#[o,X,r]:=q;exact#[o,b a (by simp[Src.adr]) o X,r]|s y t=>exact q]
 item:=λi s Q E g #[e,_,_] Z=>eN g ()
 done:=λs Q E #[_,p,q] m=>aQ Y p q f m
noncomputable def Nv(K:QC)(z:Src)(c:Nat):It :=
  #[λi H=>∃h x,HJ K H z h/\h[i]?=jy x,
   λi H v y=>∃p x,H p=jz/\v=.ref p/\y=VA H p (.tup [.int ((c+i:Nat):Int),x])/\∀h,HJ K H z h->h[i]?=jy x,
   λi H=>∃h,HJ K H z h/\h.length<=i]
def mR(e j:j2)(z:Src)(c i:Nat)(h:kt):Prop:=(∃x,IsEnum h e j ((c+i:Nat):Int) x)/\HA h j z i
theorem vY{P:Kz}{w:kl}{K:QC}{es:List Expr}{kk:Nat}{pp:Pos}{e j:j2}{z:Src}{c:Nat}(N:e≠j)(n2:z.adr≠e)(n3:z.adr≠j) :
  Turn P w K (.Tuple es kk pp) (Nv K z c) [e,j] e (mR e j z c) where
 mem:=by simp
 obj:=λi h st b a=>by let#[#[f,l],p]:=st;simp only[QR,qK,or_false]at a;rcases a with rfl|rfl;exact#[_,l,λv q=>by cases(show Data.fields _=Data.cell v from q)];exact p.obj
 keep:=λi h h' st k=>by let#[#[f,l],p]:=st;exact#[#[f,k e (by simp) _ l],p.keep λo x=>k j (by simp) o x]
 item:=by
  intro X R O S hc i Y s σ H E I C st Q;subst R O S;let#[xs,x,F,ex]:=Q;let#[g,L,G]:=I.src F;let#[u,hu,M]:=L.get ex;let#[#[f,l],p]:=st;have hi:i<g.toArray.size:=by have:=(Qa.mp hu).1;simpa using this
  refine wpAny_pyNext_enum_itemD (nk (show X.A.in1.handled=jz from I.ok.hd hc) j z n3 g.toArray c) l #[i,rfl,p,G] () N (by simp[N,Qw n2]) λy h' B #[k,y0,ek,hy,ly] b1 b2 b3 b4 b5=>?_;have ek:k=i:=()
  subst ek;have ey:y0=u:=by
   have:g.toArray[k]?=jy u:=by simpa using hu
   rw[this]at hy;exact(QY hy).symm
  subst ey;replace M:=oU M ly;refine#[_,rfl,wpAny_letOwnedTupleGo_enum b1 λr c1 J=>?_];let#[k2,W,b2,b2']:=b2;have W:k2=k+1:=()
  subst W;have hp:=I.hok.fresh (QU s.1.1.size);have Z:e<s.1.1.size:=QO l;have n:∀b∈[e,j],b<s.1.1.size:=λb a=>by simp only[QR,qK,or_false]at a;rcases a with rfl|rfl;exact Z;exact p.lt
  have kept:∀b o,b∉[e,j]->s.1.get? b=jy o->r.get? b=jy o:=λb o a q=>by simp only[QR,qK,or_false,not_or]at a;exact(J.2 b a.1).trans (b5 b o a.1 a.2 q)
  have m:r.get? s.1.1.size=jy { cls:=.type "tuple",data:=.seq (List.toArray [.int ((c+k:Nat):Int) B,y]) }:=(J.2 _ (Wi Z)).trans b3;have I1:=I.pair (x:=.int ((c+k:Nat):Int)) (h':=s.1.push { cls:=.type "tuple",data:=.seq (List.toArray [.int ((c+k:Nat):Int) B,y]) }) (t':=B+1) (λb o e=>QF _ e) (QU _) (QV _ rfl) #[_,rfl] M;have I2:=I1.turnedL (h':=r) (t':=B+1) (ch:=[e,j]) (λb o a e=>by
   rcases QAG e with⟨q1,q2⟩| q;subst q1 q2;exact m;exact kept b o a q) λb a=>by
   let#[f0,f1,f2,f3,f4,f5]:=C b a;exact#[by rw[yA (Qk (n b a))];exact f0,f1,f2,f3,f4,f5]
  refine#[.ref s.1.1.size,_,I2,rfl,#[s.1.1.size,x,hp,rfl,rfl,λxs' g1=>?_],#[#[y,?_],b2.keep λo q=>(J.2 _ (Qw N)).trans q],λb a=>?_];rw[I.src_inj g1 F];exact ex;have:(((c+(k+1):Nat)):Int)=((c+k:Nat):Int)+1:=()
  rw[this];exact c1;rw[yA (Qk (n b a))];exact(C b a).1
 done:=by intro X R O S hc i Y s σ H E I C st Q;subst R O S;let#[xs,F,en]:=Q;let#[g,L,G]:=I.src F;let#[#[f,l],p]:=st;have l1:=L.length;let#[f0,f1,f2,f3,f4,f5]:=C j (by simp);exact wpAny_pyNext_enum_endD (ak (show X.A.in1.handled=jz from I.ok.hd hc) j z g.toArray 0 i (by simp;omega)) l #[rfl,p,G] λh' eb=>#[rfl,I.turned (t':=s.toks) (λb o a e=>eb b o a e) f0 f1 f3 f4 f5]
 self:=λ_ _ _ _ _ st h=>by let#[#[f,l],_]:=st;exact QCb l h
section
variable{prog:Kz}{w:kl}{A:Vy}{E:NB}{s:j3}
theorem CZ{y z:Src}{xs ys:Array j0}{Q:NB}(n:JA s.1 y xs)(m:JA s.1 z ys)
  (h:∀h',eT (s.1.1.size+4) (s.1.1.size+2) (s.1.1.size+3) s.1.1.size (s.1.1.size+1) y z .none 0 h'->(∀c o,s.1.get? c=jy o->h'.get? c=jy o)->Q (.ref (s.1.1.size+4)) { s with heap:=h' }) :
  Kx (Ky prog w) A (gy (.type "zip") [y.val,z.val]) Q E s:=by
 refine callType_new PySem.F.called_zip (by decide) (PySem.F.typeCall_zip_2 _ _) (PySem.F.newCall_zip_2 _ _) (λobj=>PySem.F.args_object_init_3 obj _ _) PySem.F.entry_zip_new (Z0 y z xs ys) #[n,m,?_];have b:(Ol s.1 y).1.size=s.1.1.size+1:=qM ..;have a:(Pq s.1 y z).1.size=s.1.1.size+2:=by rw[qM,b]
 have u:(Oq s.1 y z).1.size=s.1.1.size+3:=by rw[qM,a]
 have g:(Nq s.1 y z).1.size=s.1.1.size+4:=by rw[qM,u]
 have f:(Bl s.1 y z).get? (Nq s.1 y z).1.size=jy _:=QV _ rfl;have i:(Bl s.1 y z).get? (Oq s.1 y z).1.size=jy _:=QF _ (QV _ rfl);have j:(Bl s.1 y z).get? (Pq s.1 y z).1.size=jy _:=QF _ (QF _ (QV _ rfl));have l:HA (Bl s.1 y z) (Ol s.1 y).1.size z 0:=(pL (Ol s.1 y) z).keep λo e=>QF _ (QF _ (QF _ e));have p:HA (Bl s.1 y z) s.1.1.size y 0:=(pL s.1 y).keep λo e=>QF _ (QF _ (QF _ (QF _ e)));show _/\_;rw[a,u,g]at f;rw[b,a]at j;rw[u]at i;rw[b]at l;rw[g];exact#[#[_,f,rfl],h _ #[f,j,#[_,_,i],p,l] λc o x=>QF _ (QF _ (QF _ (QF _ (QF _ x))))]
end
theorem aZ(z:Src)(xs:Array j0):fy (Builtin.«enumerate.__new__» #[[.type "enumerate",z.val],[]]) (λ_ R s=>JA s.1 z xs /\
   R (.ok (.ret (.ref (s.1.push z.it).1.size))) { s with heap:=(s.1.push z.it).push { cls:=.type "enumerate",data:=.fields (List.toArray [.none,.bool js,.ref s.1.1.size,Xy 0,.none,.none]) } }) :=
 .of_wp λy w A R s h=>by
  let#[e,g,d,a,os]:=s;let#[b,h]:=h;have u:=Cy;have x:JA (QBw #[e,g,d,a,os]) z xs:=b;wp_walk;refine dr λst=>QS ?_;split;rename_i cl _ _ _ _ _;cases(cl==Value.type "enumerate")<;>(wp_walk using ZD x;exact#[_,rfl,h])
  wp_walk using ZD x;exact#[_,rfl,h]
theorem ZV(z:Src)(xs:Array j0)(n:Int)(t:Tok)(a:wU n=jb):fy (Builtin.«enumerate.__new__» #[[.type "enumerate",z.val],[("start",.int n t)]]) (λ_ R s=>JA s.1 z xs /\
   R (.ok (.ret (.ref (s.1.push z.it).1.size))) { s with heap:=(s.1.push z.it).push { cls:=.type "enumerate",data:=.fields (List.toArray [.none,.bool js,.ref s.1.1.size,Xy n,.none,.none]) } }) :=
 .of_wp λy w A R s h=>by
  let#[f,g,d,b,os]:=s;let#[e,h]:=h;have u:=Cy;have x:JA (QBw #[f,g,d,b,os]) z xs:=e;wp_walk;refine dr λst=>QS ?_;split;rename_i cl _ _ _ _ _;cases(cl==Value.type "enumerate")<;>(wp_walk using ZD x;(try simp only[a,wz,Qp,if_false]);wp_walk using ZD x;exact#[_,rfl,h])
  wp_walk using ZD x;(try simp only[a,wz,Qp,if_false]);wp_walk using ZD x;exact#[_,rfl,h]
section
variable{prog:Kz}{w:kl}{A:Vy}{E:NB}{s:j3}
theorem Zk{T z x:String}{Y Bi:Builtin}{args:LW}{a:List (Str×j0)}{S:ql}{Q Q₁:NB}(u:TypeCalled T z x)(K:Cz T #[args,a]=ez Unit.unit)(n:y1 z #[.type T::args,a]=ez Unit.unit)
  (J:entryFor table z=jy Y) (L:entryFor table x=jy Bi) (g:fy (Y #[.type T::args,a]) S) (h:S A.in1 (wants Q₁ E) s)
  (l:∀obj y,Q₁ obj y->y.TypeIs obj T/\argsOk x #[obj::args,a]/\∃p,fy (Bi #[obj::args,a]) p/\p A.in1 (wants (λr f=>r=.none/\Q obj f) E) y):Kx (Ky prog w) A (gy (.type T) args a) Q E s:=by
 let#[c,M,X]:=u.mro;have m:=u.made;have q:=u.sub;refine QAx (dn ?tr);show Kx _ _ (callAny (.type T) #[args,a]) _ _ _;refine QS #[QAh _ (by decide +kernel),codeAny_builtin PySem.F.entry_type_call ?bt];rw[Around.under_plain (weight_type_call_type T args a) (units_type_call_type T args a)];have R:=u.notType;have P:=u.canCreate
 repeat any_goals (first|assumption|wp_step)
 refine WG (wO u.plain J (wpAny_of_eq n (g prog w A.in1 _ s h))) λr y j=>?_;cases r with
 |error e=>exact j|ok I =>
  cases I with
  |ret obj =>
   let#[C,hok,p,G,i]:=l _ _ j;have W:=u.init.lookup;have B:=u.init.bind obj
   repeat any_goals (first|assumption|wp_step)
   refine WG (wO u.init.plain L (u.init.check _ _ _ _ _ _ _ _ C hok (G prog w A.in1 _ y i))) λZ N b=>?_;cases Z with
   |error e=>exact b|ok o =>
    cases o with
    |ret r =>
     let#[rfl,O]:=b
     repeat any_goals (first|assumption|wp_step)
    |_=>exact b.elim
  |_=>exact j.elim
end
theorem N7(a v:j0):Cz "enumerate" #[[a],[("start",v)]]=ez Unit.unit:=by kernel_rfl
theorem S7(a v:j0):y1 "enumerate.__new__" #[[.type "enumerate",a],[("start",v)]]=ez Unit.unit:=by kernel_rfl
theorem bq(a b v:j0):argsOk "object.__init__" #[[a,b],[("start",v)]]:=by unfold argsOk;rw[signature?_of (id:="object.__init__") (n:="__init__".toList.reverse) (o:="object".toList.reverse) (by kernel_rfl) PySem.F.owner_object];kernel_rfl
theorem vo{T h:String}{x a:j0}{z:List (Str×j0)}(hl:fb (.type T) "__init__"=ez (jy (.builtin "object.__init__")))(f:Bind.madeBy (.type T)=ez (jy h))(e:(jy h != jy "object.__new__")=jb) :
  fy (Builtin.«object.__init__» #[[x,a],z]) (λ_ R s=>s.TypeIs x T/\R (.ok (.ret .none)) s):=by
 refine Meets.of_wp λy w A R s u=>?_;let#[g,b]:=u
 repeat any_goals (first|assumption|wp_step)
 exact#[_,rfl,b]
section
variable{prog:Kz}{w:kl}{A:Vy}{E:NB}{s:j3}
theorem YL{h:kt}{z:Src}{n:Int}:IsEnum ((h.push z.it).push { cls:=.type "enumerate",data:=.fields (List.toArray [.none,.bool js,.ref h.1.size,Xy n,.none,.none]) }) (h.1.size+1) h.1.size n .none:=by have:=QV (h.push z.it) (o:={ cls:=.type "enumerate",data:=.fields (List.toArray [.none,.bool js,.ref h.1.size,Xy n,.none,.none]) }) rfl;rw[qM]at this;exact this
theorem PV{z:Src}{xs:Array j0}{Q:NB}(y:JA s.1 z xs)
  (h:∀h',mR (s.1.1.size+1) s.1.1.size z 0 0 h'->(∀c o,s.1.get? c=jy o->h'.get? c=jy o)->Q (.ref (s.1.1.size+1)) { s with heap:=h' }):Kx (Ky prog w) A (gy (.type "enumerate") [z.val]) Q E s:=by
 refine callType_new wt (by decide) (PySem.F.typeCall_enumerate_1 _) (PySem.F.newCall_enumerate_1 _) (λobj=>PySem.F.args_object_init_2 obj _) QAa (aZ z xs) #[y,?_];show _/\_;rw[qM];exact#[#[_,YL,rfl],h _ #[#[.none,YL],(pL s.1 z).keep λo e=>QF _ e] λc o x=>QF _ (QF _ x)]
theorem zT{z:Src}{xs:Array j0}{n:Nat}{t:Tok}{Q:NB}(b:wU (n:Int)=jb)(a:JA s.1 z xs)
  (h:∀h',mR (s.1.1.size+1) s.1.1.size z n 0 h'->(∀c o,s.1.get? c=jy o->h'.get? c=jy o)->Q (.ref (s.1.1.size+1)) { s with heap:=h' }):Kx (Ky prog w) A (gy (.type "enumerate") [z.val] [("start",.int n t)]) Q E s:=by
 refine Zk (Q₁:=λobj y=>y.TypeIs obj "enumerate"/\Q obj y) wt (N7 _ _) (S7 _ _) QAa PySem.F.entry_object_init (ZV z xs n t b) #[a,?_] λobj _ u=>#[u.1,bq _ _ _,_,vo wt.init.lookup wt.made (by decide),u.1,rfl,u.2]
 show _/\_;rw[qM];exact#[#[_,YL,rfl],h _ #[#[.none,YL],(pL s.1 z).keep λo e=>QF _ e] λc o x=>QF _ (QF _ x)]
theorem kO{M:gm}{A:Vy}{E:NB}{s:j3}{env:Env}{pos:Pos}{T:String}{e v:Expr}{nm:Str}{g:Pos}{Q:NB}
  (j:ka [e] env=[(js,vu e env)])
  (h:Kx M A (spliced (x2 pos (ka [e] env))) (λvs y=>Kx M A (vu v env) (λi z=>Kx M A (gy (.type T) vs [(nm,i)]) Q E z) E y) E s) :
  Kx M A (ej pos (.type T) [] (x2 pos (ka [e] env)) (gz pos (zy [#[jy nm,v,g]] env))) Q E s:=by
 unfold ej;have m:Kx M A (evalArgs (.type T) jb (x2 pos (ka [e] env)) (gz pos (zy [#[jy nm,v,g]] env))) (λa y=>Kx M A (gy (.type T) ([]++a.pos) a.kw) Q E y) E s:=by rw[j]at h ⊢;refine evalArgs_kwB (by rfl) (qL h (λvs y u=>?_) λ_ _ x=>x);exact kws_cons (qL u (λi z b=>kws_nil b) λ_ _ x=>x)
 refine QE (qX (qL m (λa y u=>QE (WQ ?st)) λ_ _ x=>x));have f:((x2 pos (ka [e] env)).any (·.1)||(gz pos (zy [#[jy nm,v,g]] env)).any (·.1.isNone))=false:=by rw[j];rfl
 simp only[wP]at f;simp only[f.1,f.2,QA9];refine QE (QS ?pr);exact QE (qL u (λr z l=>QE (qX (wpAny_point (QS l)))) λ_ _ x=>x)
end
theorem Hu{a b:Nat}(h:a≠b):((a:j2)≠(b:j2)):=h
theorem sR{n x h:Nat}(z:x<n)(y:h<n):Hz ((n+4:Nat):j2) ((n+2:Nat):j2) ((n+3:Nat):j2) (n:j2) ((n+1:Nat):j2) (x:j2) (h:j2):=by constructor<;>(apply Hu;omega)
def S8(P:Kz)(w:kl)(K:QC)(a:j2)(x:List (Str×V)):Prop :=
 (a==v6)=js/\∃y:List (Str×j0),KV x y/\∀h:kt,K.In h->h.DictOf (Wq P w) a y
theorem DQ{u:List (Str×V)}{us:List (Str×j0)}(r:KV u us)(x:Str):KH (u.lookup x) (yz us x):=by
 unfold KV at r;induction r with
 |nil=>exact True.intro|@cons p q f a h t n =>
  let#[i,o]:=h;let#[y,g]:=p;let#[j,b]:=q;have i:y=j:=i;subst i;by_cases e:y=x;subst e;have l:yz ((y,b)::a) y=jy b:=by simp[yz]
  have m:wa y ((y,g)::f)=jy g:=by simp
  rw[l,m];exact o;have l:yz ((y,b)::a) x=yz a x:=by simp[yz,e]
  have s:(x==y)=false:=by simpa using λz=>e z.symm
  have m:wa x ((y,g)::f)=wa x f:=by rw[Qg,s]
  rw[l,m];exact n
theorem ji{o:Option V}{u:Option j0}(r:KH o u):aA (o.getD .non) (u.getD .none):=by
 cases o with
 |none=>cases u with|none=>rfl|some _=>exact(show False from r).elim
 |some _=>cases u with|none=>exact(show False from r).elim|some _=>exact r
section
variable{X:Cx}{a:j2}{k:List (Str×V)}
theorem D6(D:S8 X.prog X.w X.K a k):O8 X (λx y H Q=>∃z v,x=.ref a/\y=.str z/\k.lookup z=jy v/\Q v H):=by
 intro f g b s n H x y v u Q I Z Y h W;let#[z,r,rfl,rfl,l,q]:=h;cases Z;let#[t,rfl]:=Y;let#[hd,o,i,e]:=D;have e:=e _ I.kIn;have rl:=DQ i z;rw[l]at rl;cases j:yz o z with
 |none=>rw[j]at rl;exact(show False from rl).elim|some m =>
  rw[j]at rl;exact Wv (x:=m) e.typeIs QAp.lookup
   (QC2 (Q:=λr p=>r=m/\EP X b n Q r p) (QDd X.prog X.w z t) e.mapOf j #[rfl,r,H,I.tok _,rl,q]) W
theorem Ba{o e:Expr}{ty:TE}{apos cpos:Pos}(D:S8 X.prog X.w X.K a k)(L:PE X o λ_ H Q=>Q (.ref a) H)(M:PE X e ty)
  (g:Yx o "get" X.env (vu o X.env)=vu o X.env)
  (i:((x2 cpos (ka [e] X.env)).all (λx=>!x.1)&&(gz cpos (zy [] X.env)).all (λx=>x.1.isSome)
   && decide (([e]:List Expr).length+([]:List zz).length+(if([]:List zz).isEmpty then 0 else 1)<30))=jb)
  (f:(apos.endLine==cpos.line)=jb) (J:ka [e] X.env=[(js,vu e X.env)]) :
  PE X (.Call (.Attribute o "get" apos) [e] [] cpos) (λσ H Q=>ty σ H λy l=>∃z,y=.str z/\Q ((k.lookup z).getD .non) l):=by
 intro u s σ H Q I h;refine Ww g i f rfl (EA (L u s σ H (λx l=>x=.ref a/\ty σ l λy n=>∃z,y=.str z/\Q ((k.lookup z).getD .non) n) I #[rfl,h]) λv W #[x,l,Z,B,R,E]=>?_);subst R;obtain rfl:v=jx a:=B;let#[hd,S,m,j]:=D;have r:=j _ Z.kIn;refine#["dict",_,QBH,WN,QBa,r.typeIs,λb q=>?_,?_];cases q;let#[G,_,_,O,N,_]:=r;exact#[G,O,N.2.1];rw[J];refine WA rfl (QAF (Wm (EA (M u W σ l _ Z E) λiv s2 #[y,n,Y,A,z,P,C]=>QAw ?_)));subst P;let#[t,rfl]:=A;have p:=j _ Y.kIn;refine call_meetsIn WN p.typeIs QBQ (PySem.F.args_dict_get_2 _ _) (meets_dict_get (Wq X.prog X.w) a (QDd X.prog X.w z t) hd) #[_,p.mapOf,_,n,Y.tok _,?_,C];exact ji (DQ m z)
theorem B9{o:Option V}{u:Option j0}{d:V}{w:j0}(r:KH o u)(rd:aA d w):aA (o.getD d) (u.getD w):=by
 cases o with
 |none=>cases u with|none=>exact rd|some _=>exact(show False from r).elim
 |some _=>cases u with|none=>exact(show False from r).elim|some _=>exact r
theorem G4{o e j:Expr}{ty f:TE}{apos cpos:Pos}(D:S8 X.prog X.w X.K a k)(S:PE X o λ_ H Q=>Q (.ref a) H)(he:PE X e ty)(Y:PE X j f)
  (i:Yx o "get" X.env (vu o X.env)=vu o X.env)
  (l:((x2 cpos (ka [e,j] X.env)).all (λx=>!x.1)&&(gz cpos (zy [] X.env)).all (λx=>x.1.isSome)
   && decide (([e,j]:List Expr).length+([]:List zz).length+(if([]:List zz).isEmpty then 0 else 1)<30))=jb)
  (g:(apos.endLine==cpos.line)=jb) (R:ka [e,j] X.env=[(js,vu e X.env),(js,vu j X.env)]) :
  PE X (.Call (.Attribute o "get" apos) [e,j] [] cpos) (λσ H Q=>ty σ H λy p=>f σ p λd n=>∃z,y=.str z/\Q ((k.lookup z).getD d) n):=by
 intro u s σ H Q I h;refine Ww i l g rfl (EA (S u s σ H (λx p=>x=.ref a/\ty σ p λy n=>f σ n λd Z=>∃z,y=.str z/\Q ((k.lookup z).getD d) Z) I #[rfl,h]) λv G #[x,p,C,L,ex,O]=>?_);subst ex;obtain rfl:v=jx a:=L;let#[hd,us,r,m]:=D;have A:=m _ C.kIn;refine#["dict",_,QBH,WN,QBa,A.typeIs,λb q=>?_,?_];cases q;let#[P,_,_,g1,g2,_]:=A;exact#[P,g1,g2.2.1];rw[R];refine WA rfl (QAF (Wm (EA (he u G σ p _ C O) λiv E #[y,n,I2,J,N]=>Wm (EA (Y u E σ n _ I2 N) λdv s3 #[d,Z,B,rd,z,ey,M]=>QAw ?_))));subst ey;let#[t,rfl]:=J;have W:=m _ B.kIn;refine call_meetsIn WN W.typeIs QBQ (PySem.F.args_dict_get_3 _ _ _) (meets_dict_get_default (Wq X.prog X.w) a (QDd X.prog X.w z t) hd dv) #[_,W.mapOf,_,Z,B.tok _,?_,M];exact B9 (DQ r z) rd
end
theorem MU:fillsNumberSlot (.type "tuple") "mul"=ez js :=
 PySem.fillsNumberSlot_seq (id:="tuple.__mul__") (r:=jy (.builtin "tuple.__rmul__")) QAE.lookup (by decide +kernel) QCc.lookup (by decide +kernel)
theorem U9:seqRepeat? (.type "tuple")=ez (jy (.builtin "tuple.__mul__")):=by unfold seqRepeat?;rw[QC8 (T:="tuple") (name:="__mul__") (id:="tuple.__mul__") QAE.lookup (by decide +kernel),QC8 (T:="tuple") (name:="__rmul__") (id:="tuple.__rmul__") QCc.lookup (by decide +kernel)];rfl
theorem zc(i:Int)(t:Tok)(l:j2)(o:Obj)(x:Array j0)(n:Nat)(hc:o.cls=.type "tuple")(hd:o.data=.seq x n) :
  fy (Builtin.«int.__rmul__» #[[.int i t,.ref l],[]]) (λ_ R s=>s.1.get? l=jy o/\R (.ok (.ret Value.notImplemented)) s) :=
 .of_wp λy w A R s h=>by let#[b,g,d,z,os]:=s;let#[hl,h]:=h;let#[f,a,e,u]:=o;simp only at hc hd;subst hc hd;wp_walk;exact#[_,rfl,h]
theorem rh(l:j2)(o:Obj)(x:Array j0)(n:Nat)(t:Tok)(hc:o.cls=.type "tuple")(hd:o.data=.seq x n) :
  fy (Builtin.«tuple.__mul__» #[[.ref l,.int 1 t],[]]) (λ_ R s=>s.1.get? l=jy o/\R (.ok (.ret (.ref l))) s) :=
 .of_wp λy w A R s h=>by let#[b,g,d,z,os]:=s;let#[hl,h]:=h;let#[f,a,e,u]:=o;simp only at hc hd;subst hc hd;wp_walk;exact#[_,rfl,h]
theorem ph(l:j2)(o:Obj)(x:Array j0)(n:Nat)(k:Int)(t:Tok)(hc:o.cls=.type "tuple")(hd:o.data=.seq x n)(u:x.isEmpty=js)(X:2<=k)(r:k<2 ^ 31)(q:x.size * k.toNat<=j1)(b:(QAU (λz y=>z++y) #[] (QI k.toNat x)).size<=j1) :
  fy (Builtin.«tuple.__mul__» #[[.ref l,.int k t],[]]) (λ_ R s=>s.1.get? l=jy o/\R (.ok (.ret (.ref s.1.1.size))) { s with heap:=s.1.push { cls:=Value.type "tuple",data:=Data.seq (QAU (λz y=>z++y) #[] (QI k.toNat x)) },toks:=s.toks }) :=
 .of_wp λa w A R s h=>by
  let#[E,g,d,K,os]:=s;let#[hl,h]:=h;let#[G,C,F,B]:=o;simp only at hc hd;subst hc hd;have m:decide (k < -(2 ^ 63:Int))=false:=dF ();have j:decide (k ≥ 2 ^ 63)=false:=dF ();have i:(k==1)=false:=by simp;omega
  have f:decide (k<=0)=false:=dF ();have e:((x.size * k.toNat:Nat):Int)=(x.size:Int) * k:=by rw[QDN,QBr ()]
  have p:j1=16777216:=qi;have Z:¬ ((x.size:Int) * k > (2 ^ 63 - 1) / 8):=()
  have J:¬ WT ((x.size:Int) * k)=true:=by
   have Y:WT ((x.size:Int) * k)=false:=by unfold WT;exact dF ()
   rw[Y];exact QD
  have W:¬ (decide (k < -2 ^ 63)||decide (k ≥ 2 ^ 63))=true:=by rw[m,j];exact QD
  have M:¬ (x.isEmpty||k==1)=true:=by rw[u,i];exact QD
  have L:¬ (decide (k<=0)||x.isEmpty)=true:=by rw[u,f];exact QD
  have I:=QCX.mpr b;clear m j i f u X r q b e p;wp_walk;rw[eH W];wp_walk;rw[eH Z];wp_walk;exact#[_,rfl,h]
section
variable{X:Cx}
noncomputable def Hd(K:QC):R2:=λx y H Q=>match x,y with
 | .ref a,.int k=>∃h,oE K H a h/\h≠[]/\(1<=k/\k<2 ^ 31/\h.length * k.toNat<=j1)/\(k=1->Q (.ref a) H)/\(k≠1->∀p,H p=jz->Q (.ref p) (VA H p (.tup (QI k.toNat h).flatten)))|_,_=>False
theorem Na:pE X (v5 .Mult) (Hd X.K):=by
 intro m s N H x y v u Q I B W h;cases x with
 |ref a =>
  cases y with
  |int k =>
   let#[l,F,G,#[P,L,i],E,C]:=h;cases B;let#[t,rfl]:=W;let#[z,r,#[o,e,hc,n,hd],O]:=I.tuple F;have hl:=r.length;have M:∀{j:NB},Kx (Ky X.prog X.w) X.A (gy (.builtin "tuple.__mul__") [.ref a,.int k t]) j X.xe s->Kx (Ky X.prog X.w) X.A (v5 .Mult (.ref a) (.int k t)) j X.xe s:=λ{j} J =>
    QAr (T:="tuple") (U:="int") (by decide) #[_,e,hc] (λZ=>QBd Z k t) MU QDM QAY U9 QC5.lookup
     (w9 QAY (QBd s k t) QC6 (QCZ _ _) (zc k t a o z.toArray n hc hd) #[e,rfl,#[_,e,hc],J])
   refine M ?_;by_cases hk:k=1;subst hk;exact w9 QAE #[_,e,hc] QCd (QCF _ _) (rh a o z.toArray n t hc hd) #[e,.ref a,H,I,rfl,E rfl];have b:QAU (λY p=>Y++p) #[] (QI k.toNat z.toArray)=(QI k.toNat z).flatten.toArray:=by have:=lK z k.toNat [];rw[Qt]at this;exact this
   have g:z.toArray.isEmpty=false:=by
    cases z with
    |nil=>cases l with|nil=>exact eN rfl G|cons _ _=>simp at hl
    |cons _ _=>rfl
   have f:(QI k.toNat z).flatten.length<=sizeLine:=by rw[aL,QCu,<- hl];exact i
   refine w9 QAE #[_,e,hc] QCd (QCF _ _) (ph a o z.toArray n k t hc hd g () L (by rw[QM,<- hl];exact i) (by rw[b,QM];exact f)) #[e,?_];rw[b];refine#[.ref s.1.1.size,_,I.laid (t':=s.toks) (o:=.tup (QI k.toNat l).flatten) (λ_ _ q=>QF _ q) (QU _) ?_,rfl,C hk _ I.fresh];exact#[by rw[aL,QCu];exact i,_,r.rep k.toNat,QDI _ _]
  |_=>exact QT h
 |_=>exact QT h
end
noncomputable def zi(K:QC):LV->Hp->VK->Prop:=λvs H Q=>D9 K vs H Q∨∃a C h c b,vs=[.ref a,c]/\H a=jy (.ext (LG C a h))/\(∃fs,H h=jy (.xd fs))/\ExK K (wOf K) C (iOf K) /\
 ((∃D,c=.ref D/\ExK K (wOf K) D (iOf K)/\b=decide (D=C∨D=wOf K))∨∃n,c=.ty n/\QDQ n=jb/\b=FN.contains (.type n))/\Q (.bl b) H
section
variable{X:Cx}{y:FB}{σ:St}{H:Hp}{s:j3}{a C k:j2}
theorem ZS{h:kt}{fs:List (Str×V)}(ok:aH X.prog X.w H h)(i:H a=jy (.ext (LG C a k)))(g:H k=jy (.xd fs)):∃(b x:Obj) (z:Str->Option j0),PySem.W.InstAt h a b C (jy x)/\(∀n,QAo n x=jy (z n))/\∀f,KH (fs.lookup f) (z f):=by
 let#[vs,e]:=(show LA X.prog X.w H h a (.ext (LG C a k)) from ok a _ i).1;let#[z,n,r]:=(show LA X.prog X.w H h k (.xd fs) from ok k _ g)
 let#[x,u,hl]:=YO n;exact#[_,x,z,#[e,rfl,rfl,u],hl,r]
theorem jT:YC X (.builtin "isinstance") (zi X.K):=by
 intro y s σ H W B Q I r h;rcases h with h|⟨a,C,k,c,b,rfl,h1,⟨fs,h2⟩,Y,h3,q⟩
 exact yT y s σ H W B Q I r h;let#[u,j,rfl,M,x]:=P0 r;cases(show u=jx a from M);let#[ox,od,mA,J,_,_]:=ZS I.hok h1 h2;have o:∀i,WZ X.K (.ref C) i=jy b->Kx (Ky X.prog X.w) X.A (gy (.builtin "isinstance") [.ref a,i]) (EP X y σ Q) X.xe s:=λi hk =>
  qD (U6 Y) I.kIn J hk (λz=>nomatch z) λE=>#[.bl b,H,I.tok E,rfl,q]
 let#[nm,q0,N,bs,sn,sub,ab,col,dd,k0,k1,k2,k3,k5,hl]:=Y.obj;have m:∀t:j0,QAO X.K C t=jy ((jx C::IE (wOf X.K) C).contains t):=λt=>by unfold QAO QAP;rw[hl];show(if(jx C::IE (wOf X.K) C).isEmpty=jb then jz else jy _)=_;rw[eH (by simp)]
 rcases h3 with⟨D,rfl,Z,rfl⟩| ⟨n,rfl,hn,rfl⟩
 cases(show j=jx D from x);refine o _ ?_;unfold WZ;by_cases e:C=D;subst e;rw[ef (by simp)];rw[dT (.inl rfl)];rw[eH (by simpa using e)];let#[P,O,N',bs',L,l,ab',p,dd',k0',k1',k2',S,R,f]:=Z.obj;show(if((QAP X.K D).isSome&&QBh X.K (.ref D)==jy (.type "type"))=jb then QAO X.K C (.ref D) else jz)=_;have F:QBh X.K (.ref D)=jy (.type "type"):=by show(X.K.lookup D).map (·.cls)=_;rw[f];rfl
 have G:(QAP X.K D).isSome=true:=by unfold QAP;rw[f];rfl
 rw[G,F,ef (by decide)];rw[m];congr 1;unfold IE FN;by_cases g:C=wOf X.K;rw[ef g];simp[wI,g];rw[eH g];simp[wI];cases(show j=Value.type n from x);refine o _ ?_;unfold WZ;rw[eH (by simp)];show(if QDQ n=jb then QAO X.K C (.type n) else jz)=_;rw[ef hn,m,sG rfl]
noncomputable def xn(K:QC):LV->Hp->VK->Prop:=λvs H Q=>∃a C k p,vs=[.ref a]/\H a=jy (.ext (LG C a k))/\H k=jy (.xd (EH p))/\ExK K (wOf K) C (iOf K)/\Q (.int p) H
theorem Ui{e:Expr}{te:TE}{pos:Pos}(m:PE X e te)(n:Yx e "place" X.env (vu e X.env)=vu e X.env):PE X (.Attribute e "place" pos) (λσ H Q=>te σ H λv b=>xn X.K [v] b Q):=by
 intro y s σ H Q I h;refine Lc n (EA (m y s σ H _ I h) λu g #[x,b,z,i,a,C,k,p,B,A,Z,Y,q]=>?_);obtain rfl:x=.ref a:=(QAQ B).1;obtain rfl:u=jx a:=i;let#[O,R,j,J,hl,r]:=ZS z.hok A Z;let#[u,l,f]:=KH.some_of (v:=.int p) (o:=j "place") (r "place");let#[hh,gg,E,G,P]:=g;have hd:QAu X.K C=true:=by let#[nm,M,N,bs,L,sub,ab,F,E,k0,k1,k2,k3,S,hl]:=Y.obj;unfold QAu QAP;rw[hl];rfl
 unfold getAttr;refine QE (wpAny_mkText ?_);exact pZ z.kIn Y J (PySem.W.findObj_own hd Y.pl rfl (by rw[hl,l])) (fZ f) #[.int p,b,z.tok _,f,q]
end
end L2.L3
namespace L2
open PySem PySem.Spec PyProof.Rows
section
variable{prog:Kz}{w:kl}{A:Vy}{E:NB}{s:j3}{l:j2}{u v:j0}
theorem UP{Q:LW->j3->Prop}(X:A.handled=jz)(j:s.1.IsList l (List.toArray [u,v]))(h:∀h',QAZ s.1.1.size s.1 h'->Q [u,v] { s with heap:=h' }):Kx (Ky prog w) A (unpackItems (.ref l) 2 jz) Q E s:=by
 let#[o,e,c,n,d]:=id j;have hl:l≠s.1.1.size:=Qk (QO e);unfold unpackItems;refine QE ?_;unfold notIterableAtAll;refine QE (db #[o,e,c] PySem.F.slot_list_iter.lookup ?_);refine QS ?_;refine QE (qX (WR j ?_));have p:=QF { cls:=.type "list_iterator",data:=.fields (List.toArray [.ref l,.int 0 0]) } e;have g:QDO (s.1.push { cls:=.type "list_iterator",data:=.fields (List.toArray [.ref l,.int 0 0]) }) s.1.1.size l 0:=#[_,QV _ rfl,rfl,rfl]
 refine QE (qX ?_);refine QE (Wu g #[o,p,c,n,d] (x:=u) rfl λB f z=>?_);have m:=(z.2 l hl).trans p;refine QE (qX ?_);refine QE (Wu f #[o,m,c,n,d] (x:=v) rfl λK a y=>?_);have W:=(y.2 l hl).trans m;refine QE (qX ?_);refine QS (QS (QS ?_));refine QE (qX (QBX X a #[o,W,c,n,d] rfl λY Z=>?_));exact QS (h Y λb q i r=>Z b q i ((y.2 b i).trans ((z.2 b i).trans (QF _ r))))
theorem KI{env:Env}{y:List Expr}{a:Nat}{pos:Pos}{Q:Unit->j3->Prop}(e:A.handled=jz)(b:s.1.IsList l (List.toArray [u,v]))(hl:(Xx y env).length=2)(z:(Xx y env).findIdx? (λx=>x.1)=jz)
  (h:∀h',QAZ s.1.1.size s.1 h'->Kx (Ky prog w) A (Fy ((Xx y env).map λx=>x.2) [u,v]) Q E { s with heap:=h' }):Kx (Ky prog w) A (Gz (.Tuple y a pos) env (.ref l)) Q E s:=by
 rw[arm_assign_Tuple];refine QE (WQ ?_);unfold unpack;refine QE (qX ?_);rw[hl,z];exact UP e b h
end
end L2
namespace L2.L3
open PySem PySem.Spec PyProof.Rows
inductive Bi where
 |len|all|any|int|str|list|tuple
 deriving DecidableEq
inductive Mt where
 |split|append|join|extend|insert
 deriving DecidableEq
inductive Prm where
 |dget (x:Str)|dix (x:Str)|tmul|dgetD (x:Str)|plc|isC|isT (x:Str) (m:String)|dgt
 deriving DecidableEq
inductive ItK where
 |val|rng1|zip2|enumA|enum
 deriving DecidableEq
inductive Tg where
 |nm (i:Nat)|tp (is:LN)
 deriving DecidableEq
set_option genSizeOf false in
set_option genInjectivity false in
inductive PX where
 |vx (i:Nat)|int (i:Int)|str (x:Str)|bl (b:Bool)|non
 |glo (x:Str)|bty (x:Str) (n:String)
 |bin (op:yx) (a b:PX)
 |cmp (op:Z1) (a b:PX)|chn (o p:Z1) (a b c:PX)
 |and (a b:PX)|or (a b:PX)|not (a:PX)|ife (c a b:PX)
 |call (f:Str) (as:PX)
 |bi (f:Bi) (as:PX)|isi (a c:PX)|prm (o:Prm) (as:PX)
 |mt (m:Mt) (o as:PX)
 |idx (a b:PX)|slc (a lo hi:PX)|nop
 |lst (as:PX)|tup (as:PX)
 |comp (mask:List Bool) (tgs:LS) (tg:Tg) (ik:ItK) (its cond elt:PX)
 |kz|nz (a as:PX)|eff (a:PX)|dsp (ks:LS) (vs:PX)
structure Ev where
 sp:Str->Sp
 va:Str->V
 dc:Str->Option (List (Str×V))
structure W3 where
 e:TE
 t:TT
 a:TA
noncomputable def never:W3:=#[λ_ _ _=>False,λ_ _ _=>False,λ_ _ _=>False]
def UF(K:QC)(x:V)(H:Hp)(Q:Bool->Hp->Prop):Prop:=match x with
 | .bl b=>Q b H|.int i=>Q (i != 0) H|.non=>Q js H|.str z=>z.length<=j1/\Q ((z.length:Int) != 0) H|x=>∃k,ol K x H k/\Q k H
def rR(x:V)(H:Hp)(Q:Bool->Hp->Prop):Prop:=match x with
 | .bl b=>Q b H|_=>False
noncomputable def Gc(K:QC):yx->R2
 | .Add=>Cn K|.Sub=>Em|.Mult=>bn K|.FloorDiv=>Od|.Mod=>cn|.Pow=>vn|_=>λ_ _ _ _=>False
noncomputable def cX(h:Bool):R2:=λx y H Q=>match y with
 | .non=>Q (.bl (if h then !decide (x=.non) else decide (x=.non))) H|_=>False
noncomputable def YH(K:QC):Z1->R2
 | .Eq=>rEq K js|.NotEq=>rEq K jb|.Lt=>tY λi j=>decide (i<j)|.LtE=>tY λi j=>decide (i<=j)|.Gt=>tY λi j=>decide (j<i)|.GtE=>tY λi j=>decide (j<=i)|.In=>sU K js|.NotIn=>sU K jb|.Is=>cX js|.IsNot=>cX jb
noncomputable def C3(K:QC):R2:=λx y H Q=>match x,y with
 | .str z,.int i=>z.length<=j1/\∃c,zC z.cps.toList i=jy c/\Q (.str #[(List.toArray [c])]) H|.ref a,.int i=>∃h v,(YD K H a h∨oE K H a h)/\zC h i=jy v/\Q v H|_,_=>False
noncomputable def Kn:LV->Hp->VK->Prop:=λvs H Q=>match vs with
 |[.int i]=>Q (.int i) H|[.bl b]=>Q (.int (if b then 1 else 0)) H|[.str z]=>z.length<=640/\∃n,intText? z=jy n/\Q (.int n) H|_=>False
noncomputable def Im:LV->Hp->VK->Prop:=λvs H Q=>match vs with
 |[.int i]=>i.natAbs.log2<1920/\Q (.str (eg i)) H|[.str z]=>Q (.str z) H|_=>False
noncomputable def C9(K:QC):LV->Hp->VK->Prop:=λvs H Q=>∃p h,vs=[.ref p]/\(YD K H p h∨oE K H p h)/\∀l,H l=jz->Q (.ref l) (VA H l (.lst h))
noncomputable def yi(K:QC):LV->Hp->VK->Prop:=λvs H Q=>∃p h,vs=[.ref p]/\((YD K H p h/\∀l,H l=jz->Q (.ref l) (VA H l (.tup h)))∨(oE K H p h/\Q (.ref p) H))
noncomputable def xq(K:QC):Bi->LV->Hp->VK->Prop
 | .len=>on K|.all=>Xn K|.int=>Kn|.str=>Im|.any=>Vn K|.list=>C9 K|.tuple=>yi K
noncomputable def G3:V->LV->Hp->VK->Prop:=λx vs H Q=>match x,vs with
 | .ref l,[y]=>∃h,H l=jy (.lst h)/\h.length<j1/\Q .non (VA H l (.lst (h++[y])))|_,_=>False
noncomputable def Pd:V->LV->Hp->VK->Prop:=λx vs H Q=>∃l b y h,x=.ref l/\vs=[.ref b]/\H l=jy (.lst y)/\H b=jy (.lst h)/\y.length+h.length<=j1/\Q .non (VA H l (.lst (y++h)))
noncomputable def SD{α:Type}(xs:List α)(k:Nat)(y:α):List α:=xs.take k++y::xs.drop k
noncomputable def Nd:V->LV->Hp->VK->Prop:=λx vs H Q=>∃l i y h,x=.ref l/\vs=[.int i,y]/\H l=jy (.lst h)/\(0<=i/\i<=h.length)/\h.length<j1/\Q .non (VA H l (.lst (SD h i.toNat y)))
noncomputable def Ld(K:QC):V->LV->Hp->VK->Prop:=λx vs H Q=>∃z b,∃h:LS,x=.str z/\vs=[.ref b]/\YD K H b (h.map V.str)/\(h.map (·.length)).sum+h.length * z.length<=16777216/\Q (.str (we z h)) H
noncomputable def Lb(K:QC):Mt->V->LV->Hp->VK->Prop
 | .split=>B3|.append=>G3|.join=>Ld K|.extend=>Pd|.insert=>Nd
noncomputable def Mt.ty:Mt->String
 | .split=>"str"|.join=>"str"|.extend=>"list"|.insert=>"list"|.append=>"list"
def gM(x:V)(H:Hp)(Q:Option Int->Hp->Prop):Prop:=match x with
 | .int i=>Q (jy i) H|_=>False
inductive Item where
 |one (v:V)|tup (vs:LV)
noncomputable def JB(K:QC):ItK->LV->Hp->(List Item->(Hp->Prop)->Hp->Prop)->Prop
 | .val,[.str z],H,R=>R (z.cps.toList.map λc=>.one (.str #[(List.toArray [c])])) (λ_=>True) H|.val,[.ref a],H,R=>(∃h,YD K H a h/\R (h.map .one) (λH=>YD K H a h) H)∨(∃h,oE K H a h/\R (h.map .one) (λH=>oE K H a h) H)|.rng1,[.int j],H,R=>(-(2 ^ 62)<=j/\j<2 ^ 62)/\R ((Qe j.toNat).map λ(i:Nat)=>.one (.int (i:Int))) (λ_=>True) H|.zip2,[u,v],H,R=>∃y x h b,Src.v y=u/\Src.v x=v/\HJ K H y h/\HJ K H x b/\R ((h.zip b).map λp=>.tup [p.1,p.2]) (λH=>HJ K H y h/\HJ K H x b) H|.enum,[u],H,R=>∃z h,Src.v z=u/\HJ K H z h/\R (h.zipIdx.map λp=>.tup [.int (p.2:Int),p.1]) (λH=>HJ K H z h) H|.enumA,[u,.int n],H,R=>∃z h,Src.v z=u/\HJ K H z h/\(0<=n/\n<2 ^ 62)/\R (h.zipIdx.map λp=>.tup [.int (((n.toNat+p.2:Nat)):Int),p.1]) (λH=>HJ K H z h) H|_,_,_,_=>False
noncomputable def xB:LN->LV->St->Option St
 |[],[],σ=>jy σ|i::is,v::vs,σ=>xB is vs (σ.set i (jy v))|_,_,_=>jz
noncomputable def EG(K:QC):Tg->TG
 | .nm i=>λv x H Q=>Q (x.set i (jy v)) H|.tp z=>λv x H Q=>match v with
  | .ref p=>∃y h,oE K H p y/\xB z y x=jy h/\Q h H|_=>False
noncomputable def bindL(K:QC)(z:LN):TG:=λv y H Q=>match v with
 | .ref p=>∃x h,YD K H p x/\x.length=2/\xB z x y=jy h/\Q h H|_=>False
noncomputable def bindI(K:QC)(y:Tg):Item->St->Hp->(St->Hp->Prop)->Prop
 | .one v=>EG K y v|.tup vs=>λx H Q=>match y with
  | .tp u=>∀z,Same H z->∃h,xB u vs x=jy h/\Q h z|.nm i=>∀p,H p=jz->Q (x.set i (jy (.ref p))) (VA H p (.tup vs))
def Fp(K:QC)(xs:List Item)(st:Hp->Prop)(bind:Item->St->Hp->(St->Hp->Prop)->Prop)(tc:TT)(te:TE)(σ:St)(H:Hp)(Q:VK):Prop :=
 ∃W:Nat->LV->Hp->Prop,W 0 [] H/\(∀i h H,i<=xs.length->W i h H->st H) /\
  (∀i x h H,xs[i]?=jy x->W i h H->bind x σ H λz u=>tc z u λb a=>if b=jb then te z a λy e=>h.length<j1/\W (i+1) (h++[y]) e else W (i+1) h a) /\
  ∀h u,W xs.length h u->h.length<=j1/\∀p,u p=jz->Q (.ref p) (VA u p (.lst h))
structure Yields(J:It)(xs:List Item)(st:Hp->Prop):Prop where
 go:∀i H,st H->i<xs.length->J.go i H
 yld:∀i H x H',st H->i<xs.length->J.yld i H x H'->∃it,xs[i]?=jy it/\match it with
  | .one v=>x=v/\H'=H|.tup vs=>∃p,H p=jz/\x=.ref p/\H'=VA H p (.tup vs)
 stop:∀i H,st H->xs.length<=i->J.stop i H
def Gp(J:It)(g:TG)(tc:TT)(te:TE)(f:St)(q:Hp)(Q:VK):Prop:=∃W:Nat->Nat->LV->St->Hp->Prop,(∃m,W 0 m [] f q) /\
 ∀i m h a u,W i m h a u->(J.stop i u/\h.length<=j1/\∀p,u p=jz->Q (.ref p) (VA u p (.lst h))) ∨
  (J.go i u/\∀x l,J.yld i u x l->g x a l λz o=>tc z o λb j=>if b=jb then te z j λy n=>h.length<j1/\∃e,e < m/\W (i+1) e (h++[y]) z n else ∃e,e < m/\W (i+1) e h z j)
def iP(K:QC)(xs:List Item)(st:Hp->Prop)(x:Tg)(tc:TT)(te:TE)(h:St)(H:Hp)(Q:VK):Prop:=∀J,Yields J xs st->Gp J (EG K x) tc te h H Q
noncomputable def Ms:V->V->Hp->VK->Prop:=λx y H Q=>∃a v,x=.ref a/\MT H a y (jy v)/\Q v H
noncomputable def eY(K:QC)(Γ:Ev):Prm->LV->Hp->VK->Prop
 | .dget x,[.str z],H,Q=>∃h,Γ.dc x=jy h/\Q ((h.lookup z).getD .non) H|.dix x,[.str z],H,Q=>∃h v,Γ.dc x=jy h/\h.lookup z=jy v/\Q v H|.tmul,[x,y],H,Q=>Hd K x y H Q|.plc,[x],H,Q=>xn K [x] H Q|.isC,[x,y],H,Q=>zi K [x,y] H Q|.dgt,[x,y],H,Q=>Ms x y H Q|.isT _ m,[x],H,Q=>zi K [x,.ty m] H Q|.dgetD x,[.str z,d],H,Q=>∃h,Γ.dc x=jy h/\Q ((h.lookup z).getD d) H|_,_,_,_=>False
noncomputable def isNop:PX->Bool
 | .nop=>jb|_=>js
noncomputable def wp(K:QC)(Γ:Ev):PX->XK->W3
 | .vx i,E=>let e:TE:=λh H Q=>match h[i]? with
   |some (jy v)=>Q v H|_=>False
  #[e,λh H Q=>e h H λx g=>UF K x g Q,never.a]
 | .int i,E=>#[λ_ H Q=>Q (.int i) H,λ_ H Q=>Q (i != 0) H,never.a]|.str x,E=>#[λ_ H Q=>Q (.str x) H,never.t,never.a]|.bl b,E=>#[λ_ H Q=>Q (.bl b) H,λ_ H Q=>Q b H,never.a]|.non,E=>#[λ_ H Q=>Q .non H,λ_ H Q=>Q js H,never.a]|.glo x,E=>#[λ_ H Q=>Q (Γ.va x) H,λ_ H Q=>UF K (Γ.va x) H Q,never.a]|.bty _ n,E=>#[λ_ H Q=>Q (.ty n) H,never.t,never.a]|.bin op a b,E=>let e:TE:=λh H Q=>(wp K Γ a E).e h H λx g=>(wp K Γ b E).e h g λy j=>Gc K op x y j Q
  #[e,λh H Q=>e h H λx g=>UF K x g Q,never.a]
 | .cmp op a b,E=>let e:TE:=λh H Q=>(wp K Γ a E).e h H λx g=>(wp K Γ b E).e h g λy j=>YH K op x y j Q
  #[e,λh H Q=>e h H λx g=>rR x g Q,never.a]
 | .chn o p a b c,E=>let e:TE:=λh H Q=>(wp K Γ a E).e h H λx g=>(wp K Γ b E).e h g λy j=>YH K o x y j λz s=>rR z s λk Y=>if k=jb then(wp K Γ c E).e h Y λZ W=>YH K p y Z W Q else Q (.bl js) Y
  #[e,λh H Q=>e h H λx g=>rR x g Q,never.a]
 | .and a b,E=>#[λh H Q=>(wp K Γ a E).e h H λx g=>rR x g λc j=>if c=jb then(wp K Γ b E).e h j Q else Q (.bl js) j,
   λh H Q=>(wp K Γ a E).t h H λc g=>if c=jb then(wp K Γ b E).t h g Q else Q js g,never.a]
 | .or a b,E=>#[λh H Q=>(wp K Γ a E).e h H λx g=>rR x g λc j=>if c=jb then Q (.bl jb) j else(wp K Γ b E).e h j Q,
   λh H Q=>(wp K Γ a E).t h H λc g=>if c=jb then Q jb g else(wp K Γ b E).t h g Q,never.a]
 | .not a,E=>#[λh H Q=>(wp K Γ a E).e h H λx g=>UF K x g λc j=>Q (.bl (!c)) j,λh H Q=>(wp K Γ a E).t h H λc g=>Q (!c) g,never.a]|.ife c a b,E=>#[λh H Q=>(wp K Γ c E).t h H λk g=>if k=jb then(wp K Γ a E).e h g Q else(wp K Γ b E).e h g Q,never.t,never.a]|.call f as,E=>let e:TE:=λh H Q=>(wp K Γ as E).a h H λvs g=>Γ.sp f vs g Q E
  #[e,λh H Q=>e h H λx g=>UF K x g Q,never.a]
 | .bi f as,E=>let e:TE:=λh H Q=>(wp K Γ as E).a h H λvs g=>xq K f vs g Q
  #[e,λh H Q=>e h H λx g=>UF K x g Q,never.a]
 | .prm o as,E=>let e:TE:=λh H Q=>(wp K Γ as E).a h H λvs g=>eY K Γ o vs g Q
  #[e,λh H Q=>e h H λx g=>UF K x g Q,never.a]
 | .isi a c,E=>let e:TE:=λh H Q=>(wp K Γ a E).e h H λx g=>(wp K Γ c E).e h g λy j=>D9 K [x,y] j Q
  #[e,λh H Q=>e h H λx g=>UF K x g Q,never.a]
 | .mt m o as,E=>let e:TE:=λh H Q=>(wp K Γ o E).e h H λx g=>SZ K m.ty x g/\(wp K Γ as E).a h g λvs j=>Lb K m x vs j Q
  #[e,λh H Q=>e h H λx g=>UF K x g Q,never.a]
 | .idx a b,E=>let e:TE:=λh H Q=>(wp K Γ a E).e h H λx g=>(wp K Γ b E).e h g λy j=>C3 K x y j Q
  #[e,λh H Q=>e h H λx g=>UF K x g Q,never.a]
 | .slc a lo hi,E=>#[λh H Q=>(wp K Γ a E).e h H λx g =>
   (if isNop lo=jb then λ(R:Option Int->Hp->Prop)=>R jz g else λR=>(wp K Γ lo E).e h g λl j=>gM l j R) λl j =>
   (if isNop hi=jb then λ(R:Option Int->Hp->Prop)=>R jz j else λR=>(wp K Γ hi E).e h j λu s=>gM u s R) λu s=>ur K x l u s Q,never.t,never.a]
 | .nop,E=>never|.lst as,E=>#[λh H Q=>(wp K Γ as E).a h H λq g=>q.length<=j1/\∀p,g p=jz->Q (.ref p) (VA g p (.lst q)),never.t,never.a]|.tup as,E=>#[λh H Q=>(wp K Γ as E).a h H λq g=>q.length<=j1/\∀p,g p=jz->Q (.ref p) (VA g p (.tup q)),never.t,never.a]|.comp mask tgs tg ik its cond elt,E=>#[λh H Q=>(wp K Γ its E).a h H λvs g=>JB K ik vs g λq st j =>
   iP K q st tg (if isNop cond=jb then λ_ H Q=>Q jb H else(wp K Γ cond (λ_ _ _=>False)).t) (wp K Γ elt (λ_ _ _=>False)).e (IF tgs.length mask h) j Q,never.t,never.a]
 | .eff a,E=>#[(wp K Γ a E).e,never.t,never.a]|.dsp ks vs,E=>#[λh H Q=>∀p,H p=jz->(wp K Γ vs E).a h (VA H p (.dK [])) λq j=>j p=jy (.dK [])/\∃r:List (oC×V),(ks.map V.str).zip q=r.map (λX=>(kV X.1,X.2))/\r.length<=15/\Q (.ref p) (VA j p (.dK (UG [] r))),never.t,never.a]|.kz,E=>#[never.e,never.t,λ_ H Q=>Q [] H]|.nz a as,E=>#[never.e,never.t,λh H Q=>(wp K Γ a E).e h H λx g=>(wp K Γ as E).a h g λq j=>Q (x::q) j]
structure Glob where
 ev:Ev
 fn:Str->Prop
 val:Str->Prop
 no:Str->Prop
 dc:Str->Prop
noncomputable def Bi.nm:Bi->Str
 | .len=>"len"|.all=>"all"|.int=>"int"|.str=>"str"|.any=>"any"|.list=>"list"|.tuple=>"tuple"
noncomputable def Mt.nm:Mt->Str
 | .split=>"split"|.append=>"append"|.join=>"join"|.extend=>"extend"|.insert=>"insert"
noncomputable def lr(G:Glob):ItK->Prop
 | .val=>True|.rng1=>G.no "range"|.zip2=>G.no "zip"|.enum | .enumA=>G.no "enumerate"
noncomputable def Hn(G:Glob):Prm->Prop
 | .dget x | .dix x | .dgetD x=>G.dc x
 | .tmul=>True|.plc=>True|.dgt=>True|.isC=>G.no "isinstance"|.isT x m=>G.no "isinstance"/\G.no x/\vb x=jy (.type m)
noncomputable def MA(G:Glob):PX->Prop
 | .glo x=>G.val x|.bty x n=>G.no x/\vb x=jy (.type n)|.bin _ a b | .cmp _ a b | .and a b | .or a b | .idx a b | .nz a b=>MA G a/\MA G b
 | .not a | .lst a | .tup a | .eff a | .dsp _ a=>MA G a
 | .chn _ _ a b c | .ife a b c | .slc a b c=>MA G a/\MA G b/\MA G c
 | .call f h=>G.fn f/\MA G h|.bi f h=>G.no f.nm/\MA G h|.prm o h=>Hn G o/\MA G h|.isi a c=>G.no "isinstance"/\MA G a/\MA G c|.mt _ o h=>MA G o/\MA G h|.comp _ _ _ e z y u=>lr G e/\MA G z/\MA G y/\MA G u|_=>True
structure SC where
 N:LS
 sc:Xz
noncomputable def sB(e:Expr):Bool:=e.ctorIdx != 22
noncomputable def O0(S:SC)(i:Nat)(x:Str):Bool :=
 S.N[i]?==jy x&&(S.sc.names.lookup x==jy .local||S.sc.names.lookup x==jy .cell||S.sc.names.lookup x==jy .free)&&x != "__debug__" && x != "__classdict__"
noncomputable def BQ(S:SC)(i:Nat)(x:Str):Bool:=S.N[i]?==jy x&&S.sc.names.lookup x==jy .local
noncomputable def pJ(S:SC)(x:Str):Bool:=S.sc.names.lookup x==jy .globalImplicit&&x != "__debug__" && x != "__name__"
noncomputable def BX(S:SC)(h:Xz)(y:LS)(x:List Bool):SC:=#[y++IB x 0 S.N,EL h S.sc]
noncomputable def VG:LS->Bool
 |[]=>jb|x::r=>!r.contains x&&VG r
noncomputable def R7(S:SC)(h:Xz)(z:LS)(x:List Bool):Bool :=
 h.kind==.function&&h.names.all (λy=>y.2 != .cell&&(y.2 != .local||(h.names.lookup y.1==jy .local&&(z.contains y.1||y.1==(".0":Str)))) &&
  (y.2 != .free||S.sc.names.lookup y.1==jy .cell||S.sc.names.lookup y.1==jy .free))&&VG (z++IB x 0 S.N)&&!(z++IB x 0 S.N).contains (".0":Str)
noncomputable def iQ:Expr->Bool
 | .Call (.Name _ _) [] [] _=>js|_=>jb
noncomputable def tO(e:Expr):Bool:=e.ctorIdx != 7
noncomputable def lH(e:Expr):Bool:=e.ctorIdx != 26
noncomputable def BC:PX->Bool
 | .kz=>jb|.nz _ r=>BC r|_=>js
noncomputable def GM(e:Expr):Bool:=e.ctorIdx==25
section
variable{α:Type}
noncomputable def iB(e:Expr)(f:Str->Pos->Bool):Bool:=if k:e.ctorIdx=23 then @Expr.Name.elim (λ_=>Bool) e k λx p=>f x p else js
noncomputable def SE(e:Expr)(f:Dx->Bool):Bool:=if k:e.ctorIdx=19 then @QCG (λ_=>Bool) e k λc _ _=>f c else js
noncomputable def RW(e:Expr)(f:Expr->yx->Expr->Pos->Bool):Bool:=if k:e.ctorIdx=2 then @QDR (λ_=>Bool) e k λl o r p=>f l o r p else js
noncomputable def Ei(e:Expr)(f:UnaryOp->Expr->Bool):Bool:=if k:e.ctorIdx=3 then @QCe (λ_=>Bool) e k λo x _=>f o x else js
noncomputable def NW(e:Expr)(f:Expr->List Z1->List Expr->Bool):Bool:=if k:e.ctorIdx=15 then @QCf (λ_=>Bool) e k λl os h _=>f l os h else js
noncomputable def mQ(e:Expr)(f:BoolOp->List Expr->Pos->Bool):Bool:=if k:e.ctorIdx=0 then @QC9 (λ_=>Bool) e k λo h p=>f o h p else js
noncomputable def yj(e:Expr)(f:Expr->Expr->Expr->Bool):Bool:=if k:e.ctorIdx=5 then @QDS (λ_=>Bool) e k λt l r _=>f t l r else js
noncomputable def xK(e:Expr)(f:Expr->List Expr->List zz->Pos->Bool):Bool:=if k:e.ctorIdx=16 then @Expr.Call.elim (λ_=>Bool) e k λg x h p=>f g x h p else js
noncomputable def nQ(e:Expr)(f:Expr->Str->Pos->Bool):Bool:=if k:e.ctorIdx=20 then @QBx (λ_=>Bool) e k λv n p=>f v n p else js
noncomputable def GH(e:Expr)(f:Expr->Expr->Pos->Bool):Bool:=if k:e.ctorIdx=21 then @QBy (λ_=>Bool) e k λv i p=>f v i p else js
noncomputable def gQ(e:Expr)(f:Option Expr->Option Expr->Option Expr->Bool):Bool:=if k:e.ctorIdx=26 then @QDT (λ_=>Bool) e k λl h s _=>f l h s else js
noncomputable def rM(e:Expr)(f:List Expr->Pos->Bool):Bool:=if k:e.ctorIdx=24 then @Expr.List.elim (λ_=>Bool) e k λh p=>f h p else js
noncomputable def GW(e:Expr)(f:List Expr->Nat->Pos->Bool):Bool:=if k:e.ctorIdx=25 then @QDU (λ_=>Bool) e k λh k p=>f h k p else js
noncomputable def J5(e:Expr)(f:Expr->List cy->Xz->Pos->Bool):Bool:=if k:e.ctorIdx=8 then @QCH (λ_=>Bool) e k λx h sc p=>f x h sc p else js
noncomputable def uJ(l:List α)(f:α->Bool):Bool:=match l with | [x]=>f x|_=>js
noncomputable def gb(l:List α)(f:α->α->Bool):Bool:=match l with | [x,y]=>f x y|_=>js
noncomputable def Gu(l:List α)(f:α->α->α->Bool):Bool:=match l with | [x,y,z]=>f x y z|_=>js
noncomputable def AZ(l:List α)(f:α->List α->Bool):Bool:=match l with|x::r=>f x r|_=>js
noncomputable def cr(o:Option α)(n:Bool)(f:α->Bool):Bool:=match o with|none=>n|some x=>f x
theorem IA{c:Prop}[Decidable c]{a:c->Bool}(h:(if k:c then a k else js)=jb):∃k,a k=true:=by by_cases k:c;rw[dif_pos k]at h;exact#[k,h];rw[dif_neg k]at h;cases h
theorem GA{e:Expr}{f:Str->Pos->Bool}(h:iB e f=jb):∃x p,e=.Name x p/\f x p=jb :=
 let#[k,_]:=IA h
 @Expr.Name.elim (λe=>iB e f=jb->∃x p,e=.Name x p/\f x p=jb) e k (λx p h=>#[x,p,rfl,h]) h
theorem lE{e:Expr}{f:Dx->Bool}(h:SE e f=jb):∃c k p,e=.Constant c k p/\f c=jb :=
 let#[k,_]:=IA h
 @QCG (λe=>SE e f=jb->∃c k p,e=.Constant c k p/\f c=jb) e k (λc k p h=>#[c,k,p,rfl,h]) h
theorem OW{e:Expr}{f:Expr->yx->Expr->Pos->Bool}(h:RW e f=jb):∃l o r p,e=.BinOp l o r p/\f l o r p=jb :=
 let#[k,_]:=IA h
 @QDR (λe=>RW e f=jb->∃l o r p,e=.BinOp l o r p/\f l o r p=jb) e k (λl o r p h=>#[l,o,r,p,rfl,h]) h
theorem Ai{e:Expr}{f:UnaryOp->Expr->Bool}(h:Ei e f=jb):∃o x p,e=.UnaryOp o x p/\f o x=jb :=
 let#[k,_]:=IA h
 @QCe (λe=>Ei e f=jb->∃o x p,e=.UnaryOp o x p/\f o x=jb) e k (λo x p h=>#[o,x,p,rfl,h]) h
theorem MW{e:Expr}{f:Expr->List Z1->List Expr->Bool}(h:NW e f=jb):∃l os x p,e=.Compare l os x p/\f l os x=jb :=
 let#[k,_]:=IA h
 @QCf (λe=>NW e f=jb->∃l os x p,e=.Compare l os x p/\f l os x=jb) e k (λl os x p h=>#[l,os,x,p,rfl,h]) h
theorem GR{e:Expr}{f:BoolOp->List Expr->Pos->Bool}(h:mQ e f=jb):∃o x p,e=.BoolOp o x p/\f o x p=jb :=
 let#[k,_]:=IA h
 @QC9 (λe=>mQ e f=jb->∃o x p,e=.BoolOp o x p/\f o x p=jb) e k (λo x p h=>#[o,x,p,rfl,h]) h
theorem Ii{e:Expr}{f:Expr->Expr->Expr->Bool}(h:yj e f=jb):∃t l r p,e=.IfExp t l r p/\f t l r=jb :=
 let#[k,_]:=IA h
 @QDS (λe=>yj e f=jb->∃t l r p,e=.IfExp t l r p/\f t l r=jb) e k (λt l r p h=>#[t,l,r,p,rfl,h]) h
theorem vJ{e:Expr}{f:Expr->List Expr->List zz->Pos->Bool}(h:xK e f=jb):∃g x ks p,e=.Call g x ks p/\f g x ks p=jb :=
 let#[k,_]:=IA h
 @Expr.Call.elim (λe=>xK e f=jb->∃g x ks p,e=.Call g x ks p/\f g x ks p=jb) e k (λg x ks p h=>#[g,x,ks,p,rfl,h]) h
theorem HR{e:Expr}{f:Expr->Str->Pos->Bool}(h:nQ e f=jb):∃v n p,e=.Attribute v n p/\f v n p=jb :=
 let#[k,_]:=IA h
 @QBx (λe=>nQ e f=jb->∃v n p,e=.Attribute v n p/\f v n p=jb) e k (λv n p h=>#[v,n,p,rfl,h]) h
theorem RE{e:Expr}{f:Expr->Expr->Pos->Bool}(h:GH e f=jb):∃v i p,e=.Subscript v i p/\f v i p=jb :=
 let#[k,_]:=IA h
 @QBy (λe=>GH e f=jb->∃v i p,e=.Subscript v i p/\f v i p=jb) e k (λv i p h=>#[v,i,p,rfl,h]) h
theorem VY{e:Expr}{f:Option Expr->Option Expr->Option Expr->Bool}(h:gQ e f=jb):∃l u s p,e=.Slice l u s p/\f l u s=jb :=
 let#[k,_]:=IA h
 @QDT (λe=>gQ e f=jb->∃l u s p,e=.Slice l u s p/\f l u s=jb) e k (λl u s p h=>#[l,u,s,p,rfl,h]) h
theorem pM{e:Expr}{f:List Expr->Pos->Bool}(h:rM e f=jb):∃x p,e=.List x p/\f x p=jb :=
 let#[k,_]:=IA h
 @Expr.List.elim (λe=>rM e f=jb->∃x p,e=.List x p/\f x p=jb) e k (λx p h=>#[x,p,rfl,h]) h
theorem fQ{e:Expr}{f:List Expr->Nat->Pos->Bool}(h:GW e f=jb):∃x k p,e=.Tuple x k p/\f x k p=jb :=
 let#[k,_]:=IA h
 @QDU (λe=>GW e f=jb->∃x k p,e=.Tuple x k p/\f x k p=jb) e k (λx k p h=>#[x,k,p,rfl,h]) h
theorem lQ{e:Expr}{f:Expr->List cy->Xz->Pos->Bool}(h:J5 e f=jb):∃x y sc p,e=.ListComp x y sc p/\f x y sc p=jb :=
 let#[k,_]:=IA h
 @QCH (λe=>J5 e f=jb->∃x y sc p,e=.ListComp x y sc p/\f x y sc p=jb) e k (λx y sc p h=>#[x,y,sc,p,rfl,h]) h
theorem YG{l:List α}{f:α->List α->Bool}(h:AZ l f=jb):∃x r,l=x::r/\f x r=true:=by
 cases l with|nil=>exact(QD h).elim|cons x r=>exact#[x,r,rfl,h]
theorem lB{l:List α}{f:α->Bool}(h:uJ l f=jb):∃x,l=[x]/\f x=true:=by
 cases l with
 |nil=>exact(QD h).elim|cons x r =>
  cases r with|nil=>exact#[x,rfl,h]|cons _ _=>exact(QD h).elim
theorem xJ{l:List α}{f:α->α->Bool}(h:gb l f=jb):∃x y,l=[x,y]/\f x y=true:=by
 cases l with
 |nil=>exact(QD h).elim|cons x r =>
  let#[y,e,h]:=lB (l:=r) (f:=f x) (by
   cases r with|nil=>exact h|cons y r=>cases r<;>exact h)
  exact#[x,y,by rw[e],h]
theorem ko{l:List α}{f:α->α->α->Bool}(h:Gu l f=jb):∃x y z,l=[x,y,z]/\f x y z=true:=by
 cases l with
 |nil=>exact(QD h).elim|cons x r =>
  let#[y,z,e,h]:=xJ (l:=r) (f:=f x) (by
   cases r with
   |nil=>exact h|cons y r=>cases r with|nil=>exact h|cons z r=>cases r<;>exact h)
  exact#[x,y,z,by rw[e],h]
end
noncomputable def am(S:SC):Tg->Expr->Bool
 | .nm i,e=>iB e λx _=>BQ S i x|.tp is,e=>GW e λh _ _=>is.length==h.length&&(is.zip h).all λp=>iB p.2 λx _=>BQ S p.1 x
noncomputable def Rp(c:Dx)(f:Int->Bool):Bool:=match c with | .int i=>f i|_=>js
noncomputable def Xc(c:Dx)(f:Str->Bool):Bool:=match c with | .str i=>f i|_=>js
noncomputable def cf(c:Dx)(f:Bool->Bool):Bool:=match c with | .bool i=>f i|_=>js
noncomputable def bf(c:Dx):Bool:=match c with | .none=>jb|_=>js
theorem Vk{c:Dx}{f:Int->Bool}(h:Rp c f=jb):∃i,c=.int i/\f i=true:=by
 cases c with|int i=>exact#[i,rfl,h]|_=>exact(QD h).elim
theorem RV{c:Dx}{f:Str->Bool}(h:Xc c f=jb):∃i,c=.str i/\f i=true:=by
 cases c with|str i=>exact#[i,rfl,h]|_=>exact(QD h).elim
theorem Bc{c:Dx}{f:Bool->Bool}(h:cf c f=jb):∃i,c=.bool i/\f i=true:=by
 cases c with|bool i=>exact#[i,rfl,h]|_=>exact(QD h).elim
theorem Uc{c:Dx}(h:bf c=jb):c=.none:=by
 cases c with|none=>rfl|_=>exact(QD h).elim
theorem jA{a b:Bool}(h:(a&&b)=jb):a=jb/\b=true:=by cases a<;>cases b<;>first|exact#[rfl,rfl]| exact(QD h).elim
noncomputable def SG(S:SC)(n:Str)(e:Expr)(f:List Expr->List zz->Pos->Bool):Bool:=xK e λg y h p=>iB g λx _=>n==x&&(pJ S x&&f y h p)
theorem EC{S:SC}{n:Str}{e:Expr}{f:List Expr->List zz->Pos->Bool}(h:SG S n e f=jb):∃z y ks p,e=.Call (.Name n z) y ks p/\pJ S n=jb/\f y ks p=true:=by let#[g,y,ks,p,rfl,i]:=vJ h;let#[x,z,rfl,b]:=GA i;have a:=jA b;have u:=jA a.2;have e:=Qi a.1;exact#[z,y,ks,p,by rw[e],by rw[e];exact u.1,u.2]
noncomputable def jX(n:Str)(e:Expr)(f:Expr->List Expr->Pos->Pos->Bool):Bool:=xK e λg z y p=>nQ g λv x h=>n==x&&(y.isEmpty&&(h.endLine==p.line&&f v z h p))
theorem UQ{n:Str}{e:Expr}{f:Expr->List Expr->Pos->Pos->Bool}(h:jX n e f=jb):∃v ap y p,e=.Call (.Attribute v n ap) y [] p/\(ap.endLine==p.line)=jb/\f v y ap p=true:=by let#[g,y,l,p,rfl,i]:=vJ h;let#[v,x,ap,rfl,b]:=HR i;have a:=jA b;have u:=jA a.2;have z:=jA u.2;have e:=Qi a.1;have j:=Q0.mp u.1;exact#[v,ap,y,p,by rw[e,j],z.1,z.2]
noncomputable def Ye(h:BoolOp)(r:Expr)(rest:List Expr)(pos:Pos):Expr:=match rest with
 |[]=>r|q::t=>.BoolOp h (r::q::t) pos
noncomputable def gt(y:Bool)(S:SC)(z:ItK)(c:List Expr->Pos->Bool)(t it:Expr)(pos:Pos):Bool:=match z with
 | .val=>y&&c [it] pos|.rng1=>SG S "range" it λx h p=>h.isEmpty&&uJ x λa=>c [a] p|.zip2=>GM t&&SG S "zip" it λx h p=>h.isEmpty&&gb x λa b=>c [a,b] p|.enum=>GM t&&SG S "enumerate" it λx h p=>h.isEmpty&&uJ x λa=>c [a] p|.enumA=>GM t&&(y&&SG S "enumerate" it λx h p=>uJ x λa=>uJ h λk=>k.arg==jy ("start":Str)&&c [a,k.value] p)
noncomputable def KU(e:Expr)(f:List (Option Expr)->List Expr->Pos->Bool):Bool:=if k:e.ctorIdx=6 then @Expr.Dict.elim (λ_=>Bool) e k λh vs p=>f h vs p else js
theorem U5{e:Expr}{f:List (Option Expr)->List Expr->Pos->Bool}(h:KU e f=jb):∃ks vs p,e=.Dict ks vs p/\f ks vs p=jb :=
 let#[k,_]:=IA h
 @Expr.Dict.elim (λe=>KU e f=jb->∃ks vs p,e=.Dict ks vs p/\f ks vs p=jb) e k (λks vs p h=>#[ks,vs,p,rfl,h]) h
noncomputable def Yr:LS->List (Option Expr)->Bool
 |[],[]=>jb|k::ks,jy e::es=>(SE e λc=>Xc c λz=>k==z)&&Yr ks es|_,_=>js
noncomputable def Os(S:SC)(c:List Expr->Pos->Bool)(e:Expr):Prm->Bool
 | .dget y=>jX "get" e λv h _ p=>iB v λx _=>y==x&&(pJ S x&&uJ h λa=>c [a] p)|.dgetD y=>jX "get" e λv h _ p=>iB v λx _=>y==x&&(pJ S x&&gb h λa b=>c [a,b] p)|.dix y=>GH e λv i p=>iB v λx _=>y==x&&(pJ S x&&(lH i&&c [i] p))|.tmul=>RW e λl o r p=>o==.Mult&&c [l,r] p|.plc=>nQ e λv n p=>("place":Str)==n&&(iQ v&&(sB v&&c [v] p))|.dgt=>GH e λv i p=>lH i&&c [v,i] p|.isC=>SG S "isinstance" e λh z p=>z.isEmpty&&gb h λa b=>c [a,b] p|.isT x _=>SG S "isinstance" e λh z p=>z.isEmpty&&gb h λa b=>sB b&&(iB b (λy _=>x==y&&pJ S y)&&c [a] p)
noncomputable def Yt(h:List Expr)(n:Bool)(f:Expr->Bool):Bool:=match h with
 |[]=>n|c::r=>r.isEmpty&&(!n&&f c)
noncomputable def ZB:PX->SC->Expr->Bool
 | .vx i,S,e=>iB e λx _=>O0 S i x|.int i,_,e=>SE e λc=>Rp c λj=>i==j|.str x,_,e=>SE e λc=>Xc c λy=>x==y|.bl b,_,e=>SE e λc=>cf c λk=>b==k|.non,_,e=>SE e bf|.glo x,S,e=>iB e λy _=>x==y&&pJ S x|.bty x _,S,e=>iB e λy _=>x==y&&pJ S x|.bin op a b,S,e=>RW e λl o r _=>op==o&&(ZB a S l&&ZB b S r)|.cmp op a b,S,e=>NW e λl os Z=>uJ os λo=>uJ Z λr=>op==o&&(tO r&&(ZB a S l&&ZB b S r))|.chn o p a b c,S,e=>NW e λl os Z=>gb os λA K=>gb Z λr q=>o==A&&(p==K&&(tO q&&(ZB a S l&&(ZB b S r&&ZB c S q))))|.and a b,S,e=>mQ e λo u p=>o==.And&&AZ u λl t=>AZ t λr t=>ZB a S l&&ZB b S (Ye .And r t p)|.or a b,S,e=>mQ e λo u p=>o==.Or&&AZ u λl t=>AZ t λr t=>ZB a S l&&ZB b S (Ye .Or r t p)|.not a,S,e=>Ei e λo x=>o==.Not&&ZB a S x|.ife c a b,S,e=>yj e λt l r=>ZB c S t&&(ZB a S l&&ZB b S r)|.call f as,S,e=>SG S f e λu X p=>X.isEmpty&&ZB as S (.List u p)|.bi f as,S,e=>SG S f.nm e λu X p=>X.isEmpty&&AZ u λx t=>ZB as S (.List (x::t) p)|.prm o as,S,e=>BC as&&Os S (λu p=>ZB as S (.List u p)) e o|.isi a c,S,e=>SG S "isinstance" e λu X _=>X.isEmpty&&gb u λl r=>sB l&&(sB r&&(ZB a S l&&ZB c S r))|.mt m o as,S,e=>jX m.nm e λv u _ p=>BC as&&(iQ v&&(decide (u.length<20)&&(ZB o S v&&ZB as S (.List u p))))|.idx a b,S,e=>GH e λv i _=>lH i&&(ZB a S v&&ZB b S i)|.slc a lo hi,S,e=>GH e λv W _=>gQ W λl h s=>s.isNone&&(ZB a S v&&(cr l (isNop lo) (λe=>!isNop lo&&ZB lo S e)&&cr h (isNop hi) λe=>!isNop hi&&ZB hi S e))|.nop,_,_=>js|.lst as,S,e=>rM e λu p=>ZB as S (.List u p)|.tup as,S,e=>GW e λu _ p=>ZB as S (.List u p)|.comp mask tgs tg ik its cond elt,S,e=>J5 e λC B n p=>uJ B λg=>g.is_async==0&&(R7 S n tgs mask&&(am (BX S n tgs mask) tg g.target&&(tO g.iter &&
   (gt (BC its) S ik (λu p=>ZB its S (.List u p)) g.target g.iter p&&(Yt g.ifs (isNop cond) (λc=>ZB cond (BX S n tgs mask) c)&&ZB elt (BX S n tgs mask) C)))))
 | .eff a,S,e=>(J5 e λx y z w=>ZB a S (.ListComp x y z w))||GH e λx y z=>ZB a S (.Subscript x y z)
 | .dsp X vs,S,e=>KU e λkeys Y p=>decide (0<X.length/\X.length<=15)&&(Yr X keys&&(decide (keys.length=Y.length)&&(BC vs&&ZB vs S (.List Y p))))|.kz,_,e=>rM e λu _=>u.isEmpty|.nz a as,S,e=>rM e λu p=>AZ u λx t=>sB x&&(ZB a S x&&ZB as S (.List t p))
variable{Γ:Ev}
theorem Ak(x:V)(H:Hp)(Q:Bool->Hp->Prop):rR x H Q=∃k,x=.bl k/\Q k H:=by
 apply eI;cases x with|bl b=>exact#[λh=>#[b,rfl,h],λ#[k,e,h]=>by cases e;exact h]|_=>exact#[λh=>QT h,λ#[k,e,h]=>by cases e]
theorem R4(x:V)(H:Hp)(Q:Option Int->Hp->Prop):gM x H Q=∃i,x=.int i/\Q (jy i) H:=by
 apply eI;cases x with|int b=>exact#[λh=>#[b,rfl,h],λ#[k,e,h]=>by cases e;exact h]|_=>exact#[λh=>QT h,λ#[k,e,h]=>by cases e]
theorem gW(K:QC)(x:V)(H:Hp)(Q:Bool->Hp->Prop):UF K x H Q=∃k,ol K x H k/\Q k H:=by
 apply eI;cases x with|bl b=>exact#[λh=>#[b,rfl,h],λ#[k,(e:k=b),h]=>by subst e;exact h]|int i=>exact#[λh=>#[i != 0,rfl,h],λ#[k,(e:k=(i != 0)),h]=>by subst e;exact h]|non=>exact#[λh=>#[js,rfl,h],λ#[k,(e:k=js),h]=>by subst e;exact h]|str z=>exact#[λh=>#[_,#[h.1,rfl],h.2],λ#[k,#[u,y],h]=>by subst y;exact#[u,h]]|_=>exact Wy
section
variable{X:Cx}
theorem U4{e:Expr}:PE X e never.e:=λ_ _ _ _ _ _ h=>QT h
theorem zM{e:Expr}:PT X e never.t:=λ_ _ _ _ _ _ h=>QT h
theorem DR{x:List Expr}:PA X x never.a:=λ_ _ _ _ _ _ _ h=>QT h
theorem HB{a:Expr}{ta:TE}(i:PE X a ta)(g:∀y,isTrue a X.env y=(do let v <- y;Ex a.pos;gV [v] (truthy v))) :
  PT X a (λσ H Q=>ta σ H λx H'=>UF X.K x H' Q):=by
 intro z s σ H Q I h;refine isTrue_plain (EA (i z s σ H _ I h) λv e #[x,b,j,f,u]=>?_) (g _);have u:UF X.K x b Q:=u;rw[gW]at u;exact C1 z e σ b x v Q j f u
theorem d5{f:j0->j0->Sem j0}:pE X f (λ_ _ _ _=>False):=λ_ _ _ _ _ _ _ _ _ _ _ _ h=>h.elim
theorem Ti(h:yx):pE X (v5 h) (Gc X.K h):=by
 cases h with|Add=>exact op_add|Sub=>exact op_sub|Mult=>exact Pi|FloorDiv=>exact Ra|Mod=>exact op_mod|Pow=>exact op_pow|_=>exact d5
theorem vK(g:X.A.units+66<gi)(f:Z1):pE X (Vx f) (YH X.K f):=by
 cases f with
 |Eq=>exact op_eq ()|NotEq=>exact op_ne ()|Lt=>exact bQ _root_.L2.op_lt|LtE=>exact bQ _root_.L2.op_le|Gt=>exact bQ _root_.L2.op_gt|GtE=>exact bQ _root_.L2.op_ge|In=>exact yo g|NotIn=>exact x5 g|Is =>
  intro z s a H x y v u Q I e b h;cases y with|non=>exact Ri z s a H x _ v u Q I e b #[rfl,h]|_=>exact QT h
 |IsNot =>
  intro z s a H x y v u Q I e b h;cases y with|non=>exact Oa z s a H x _ v u Q I e b #[rfl,h]|_=>exact QT h
theorem Pj:O8 X (C3 X.K):=by
 intro b e f s n H x y v u Q I p o h r;refine Nj b e f s n H x y v u Q I p o ?_ r;cases x with
 |str z =>
  cases y with|int i=>let#[Y,c,j,q]:=h;exact .inr (.inr #[z,i,c,rfl,rfl,Y,j,q])|_=>exact QT h
 |ref a =>
  cases y with
  |int i=>let#[l,m,g,j,q]:=h;rcases g with g|g;exact .inl #[a,l,i,m,rfl,rfl,g,j,q];exact .inr (.inl #[a,l,i,m,rfl,rfl,g,j,q])
  |_=>exact QT h
 |_=>exact QT h
theorem HU{x:Z1}{b:Expr}(h:tO b=jb):Fz x b=false:=by cases b<;>first|rfl|cases h
theorem IP{b:Expr}(h:lH b=jb):MX b:=by intro o i;cases b<;>first|rfl|cases h
theorem bA{e:Expr}{x:List Expr}(env:Env)(h:sB e=jb):ka (e::x) env=(js,vu e env)::ka x env:=by cases e<;>first|rfl|cases h
theorem LU{e:Expr}{env:Env}(h:tO e=jb)(x:j0):Yz e env x=ez x:=by cases e<;>first|rfl|cases h
theorem O5{o:Expr}{n:Str}{env:Env}(h:iQ o=jb):Yx o n env (vu o env)=vu o env:=by
 cases o with
 |Call f z y p =>
  cases f with
  |Name x q=>cases z with
   |nil=>cases y with|nil=>cases h|cons _ _=>rfl
   |cons _ _=>rfl
  |_=>rfl
 |_=>rfl
theorem Hb:EZ X "list.append" G3:=by
 intro z s a H x u v b Q I e f h
 match x,u,h with
 | .ref l,[y],#[u,hH,hz,q]=>exact SY z s a H _ _ v b Q I e f #[l,u,y,rfl,rfl,hH,hz,q]
theorem y8:YC X (.type "int") Kn:=by
 intro x s y H e a Q I r h
 match e,h with
 |[.int i],h=>exact vP x s y H _ a Q I r (.inl #[i,rfl,h])|[.bl b],h=>exact vP x s y H _ a Q I r (.inr #[b,rfl,h])|[.str z],#[hl,n,hn,q]=>let#[u,rfl,t,rfl]:=sF r;exact PySem.W.KIN.call_text hn hl #[.int n,H,I.tok _,#[_,rfl],q]
theorem A7:YC X (.type "str") Im:=by
 intro x s y H a b Q I r h
 match a,h with
 |[.int i],h=>exact jR x s y H _ b Q I r #[i,rfl,h]|[.str z],h=>let#[u,rfl,t,rfl]:=sF r;exact PySem.P.str_of_str #[.str z,H,I,#[_,rfl],h]
theorem Gb:EZ X "list.extend" Pd:=by intro y s u H x z v e Q I f g h;let#[l,b,z,a,rfl,rfl,h]:=h;exact RY y s u H _ _ v e Q I f g #[l,b,z,a,rfl,rfl,h]
theorem Fb:EZ X "list.insert" Nd:=by
 intro f s A H x m v B Q I o Y h;let#[l,i,y,m,rfl,rfl,j,E,C,q]:=h;cases o;let#[u,w,rfl,p,b]:=P0 Y;let#[t,rfl]:=p;let#[z,a,n,r,hl,e]:=I.lstM j;have Z:j1=16777216:=qi;have g:=r.length;refine w9 F.slot_list_insert #[_,e,rfl] F.entry_list_insert (F.args_list_insert_3 _ _ _) (PySem.AutoSeq1.list_insert_list_int_val_1 l a.toArray n i t w (by unfold Builtin.List.listFitsIndex;simp;omega) (by rw[QM];omega)) #[e,?_];refine#[.non,_,I.lset (its':=SD a i.toNat w) j e ?_ ((r.take _).append (.cons b (r.drop _))) ?_,rfl,q];have K:¬ i<0:=()
 have W:min i.toNat a.toArray.size=i.toNat:=by rw[QM];omega
 simp only[K,if_false,W];unfold SD;simp;exact qr (by simp);simp;omega
theorem N1{ys:LS}{its:LW}(h:iA (ys.map V.str) its):StrsAre its ys:=by
 induction ys generalizing its with
 |nil=>cases h;exact .nil|cons y ys x =>
  cases h with|cons h t=>let#[k,rfl]:=h;exact .cons _ _ (x t)
theorem Db:EZ X "str.join" (Ld X.K):=by intro y s m H x o v r Q I a g h;let#[z,b,n,rfl,rfl,l,j,q]:=h;let#[t,rfl]:=a;let#[u,rfl,f]:=sF g;cases f;let#[i,e,p,_]:=I.list l;exact join_list p.isList (by simpa using N1 e) j λY k=>#[.str _,H,I.tok _,#[_,rfl],q]
theorem Ap(hc:X.calm=jb)(f:Bi):(∃id,vb f.nm=jy (.builtin id)/\YC X (.builtin id) (xq X.K f))∨∃T,vb f.nm=jy (.type T)/\YC X (.type T) (xq X.K f):=by
 cases f with|len=>exact .inl #[_,PySem.boot_len,j8]|all=>exact .inl #[_,PyProof.Rows.boot_all,v8 hc]|int=>exact .inr #[_,PyProof.Rows.boot_int,y8]|str=>exact .inr #[_,PyProof.Rows.boot_str,A7]|any=>exact .inl #[_,PyProof.Rows.boot_any,z8 hc]|list=>exact .inr #[_,PyProof.Rows.boot_list,yR]|tuple=>exact .inr #[_,by kernel_rfl,zO]
end
end L2.L3
namespace L2.L3
open PySem PySem.Spec PyProof.Rows
structure OkX(X:Cx)(S:SC)(G:Glob)(E:XK):Prop where
 N:X.N=S.N
 sc:X.env.scope=S.sc
 calm:X.calm=jb
 un:X.A.units+66<gi
 fn:∀f,G.fn f->∃(CX:AT) (k:Nat) (a:j2) (fd:vy) (ps:LS),FnOk X.prog X.w X.K X.mg X.base CX k a fd ps (G.ev.sp f)/\Room k X.A/\X.mg f=jy (.ref a)/\qe X.K (.ref a)=jb/\KE X.K fd ps [] /\
  aN CX X E/\∀l H s e s',CX l H s (λ_ _ _=>False) e s'->False
 val:∀x,G.val x->∃u,X.mg x=jy u/\aA (G.ev.va x) u
 no:∀x,G.no x->X.mg x=jz
 dic:∀x,G.dc x->∃a kvs,X.mg x=jy (.ref a)/\G.ev.dc x=jy kvs/\S8 X.prog X.w X.K a kvs
noncomputable def CN(X:Cx)(Γ:Ev)(E:XK):PX->List Expr->Prop
 | .nz a as,e::es=>PE X e (wp X.K Γ a E).e/\CN X Γ E as es|_,_=>True
structure Snd(X:Cx)(Γ:Ev)(E:XK)(p:PX)(e:Expr):Prop where
 pe:PE X e (wp X.K Γ p E).e
 pt:PT X e (wp X.K Γ p E).t
 pw:∀op es pos,e=.BoolOp op es pos->PW X e (wp X.K Γ p E).t
 pa:∀es pos,e=.List es pos->PA X es (wp X.K Γ p E).a
 pas:∀es pos,e=.List es pos->CN X Γ E p es
theorem VP{S:SC}{i:Nat}{x:Str}(h:O0 S i x=jb):S.N[i]?=jy x/\lq S.sc x/\(x==("__debug__":Str))=js/\(x==("__classdict__":Str))=false:=by simp only[O0,QX,qk,beq_iff_eq,bne_iff_ne,ne_eq]at h;let#[#[#[a,y],u],z]:=h;refine#[a,?_,by simpa using u,by simpa using z];rcases y with(y|y)|y;exact .inl y;exact .inr (.inl y);exact .inr (.inr y)
theorem fJ{S:SC}{i:Nat}{x:Str}(h:BQ S i x=jb):S.N[i]?=jy x/\S.sc.names.lookup x=jy .local:=by simp only[BQ,QX,beq_iff_eq]at h;exact h
theorem VC{S:SC}{x:Str}(h:pJ S x=jb):S.sc.names.lookup x=jy .globalImplicit/\(x==("__debug__":Str))=js/\x≠"__name__":=by simp only[pJ,QX,beq_iff_eq,bne_iff_ne,ne_eq]at h;exact#[h.1.1,by simpa using h.1.2,h.2]
theorem vD:∀{l:LS},VG l=jb->l.Nodup
 |[],_=>QBj|x::r,h=>by simp only[VG,QX,wu]at h;exact wC.mpr #[by simpa using h.1,vD h.2]
theorem CS{S:SC}{x:Xz}{a:LS}{z:List Bool}(h:R7 S x a z=jb):CompSt S.N S.sc x a z:=by simp only[R7,QX,Qo,beq_iff_eq,wu]at h;let#[#[#[i,b],g],f]:=h;refine#[i,λy u e=>?_,λy u e=>?_,λy u e=>?_,λy u e=>?_,vD g,by simpa using f];have:=(b y u).1.1;rw[e]at this;exact eN this (by decide);have:=(b y u).1.2;rw[e]at this;simp at this;exact this.1;have:=(b y u).2;rw[e]at this;simp at this;exact this;have:=(b y u).1.2;rw[e]at this;simp at this;exact this.2
theorem OkX.comp{X:Cx}{S:SC}{G:Glob}{E:XK}(ok:OkX X S G E)(x:Xz)(u:LS)(y:List Bool)(s:j3)(H:Hp)(ex:List j2):OkX (jB X x u y s H ex) (BX S x u y) G (λ_ _ _=>False) where
 N:=by show u++IB y 0 X.N=u++IB y 0 S.N;rw[ok.N]
 sc:=by show EL x X.env.scope=EL x S.sc;rw[ok.sc]
 calm:=ok.calm
 un:=ok.un
 fn:=λf h=>by let#[o,k,a,n,e,m,l,j,i,g,p,b]:=ok.fn f h;exact#[o,k,a,n,e,m,l,j,i,g,λ_ _ _ _ _ _ _ z=>(b _ _ _ _ _ z).elim,b]
 val:=ok.val
 no:=ok.no
 dic:=ok.dic
section
variable{X:Cx}
theorem PJ{S:SC}(m:X.N=S.N)(b:X.env.scope=S.sc)(l:X.N.Nodup):∀(a:LN) (z:List Expr),a.length=z.length->((a.zip z).all λp=>iB p.2 λx _=>BQ S p.1 x)=jb ->
  uv X z (λvs σ H Q=>∃σ',xB a vs σ=jy σ'/\Q σ' H)
 |[],[],_,_=>by
  intro y s σ H vs o Q I r h;let#[σ',e,q]:=h;cases vs with|nil=>cases r;simp only[xB]at e;cases e;exact assignInOrder_nil #[σ,H,I,q]|cons _ _=>simp[xB]at e
 |[],_::_,h,_=>by cases h|_::_,[],h,_=>by cases h|i::a,e::z,hl,hz=>by
  simp only[Wr,Q8,QX]at hz;let#[g,K]:=hz;let#[x,pos,rfl,g]:=GA g;let#[B,A]:=fJ g;have j:X.N[i]?=jy x:=by rw[m];exact B
  have f:X.env.scope.names.lookup x=jy .local:=by rw[b];exact A
  have W:=PJ m b l a z (by simpa using hl) K;intro y s σ H vs o Q I r h;let#[σ',e,q]:=h;cases vs with
  |nil=>simp[xB]at e|cons v vs =>
   simp only[xB]at e;cases r with|cons r Z=>show Kx _ _ (Fy (Gz (.Name x pos) X.env::(Xx z X.env).map (·.2)) _) _ _ _;refine assignInOrder_cons (EA (DW (pos:=pos) l j (.inl f) (.inr f) y s σ H v _ _ I r (show mX i v σ H (λu n=>u=σ.set i (jy v)/\n=H) from#[rfl,rfl])) λ_ Y #[u,n,F,E,C]=>?_);subst E C;exact W y Y _ _ vs _ Q F Z #[σ',e,q]
theorem BM:∀(u:LN) (y:List Expr) (S:SC),u.length=y.length->((u.zip y).all λp=>iB p.2 λx _=>BQ S p.1 x)=jb->(Xx y X.env).length=y.length/\(Xx y X.env).findIdx? (·.1)=jz
 |[],[],_,_,_=>#[rfl,rfl]|[],_::_,_,h,_=>by cases h|_::_,[],_,h,_=>by cases h|i::u,e::y,S,hl,hz=>by simp only[Wr,Q8,QX]at hz;let#[b,f]:=hz;let#[x,z,rfl,b]:=GA b;have a:=BM u y S (by simpa using hl) f;have g:Xx (.Name x z::y) X.env=(js,Gz (.Name x z) X.env)::Xx y X.env:=rfl;rw[g];refine#[by rw[QJ,QJ,a.1],?_];rw[List.findIdx?_cons];simp[a.2]
theorem SL:∀{x:LN}{vs:LV}{σ σ':St},xB x vs σ=jy σ'->vs.length=x.length
 |[],[],_,_,_=>rfl|[],_::_,_,_,h=>by simp[xB]at h|_::_,[],_,_,h=>by simp[xB]at h|_::x,_::vs,σ,σ',h=>by simp only[xB]at h;rw[QJ,QJ,SL h]
theorem i4{S:SC}{G:Glob}{E:XK}(ok:OkX X S G E)(m:X.N.Nodup){f:Tg}{e:Expr}(h:am S f e=jb):PG X e (EG X.K f):=by
 cases f with
 |nm i =>
  let#[x,pos,rfl,h]:=GA h;let#[L,J]:=fJ h;have j:X.N[i]?=jy x:=by rw[ok.N];exact L
  have z:X.env.scope.names.lookup x=jy .local:=by rw[ok.sc];exact J
  exact DW m j (.inl z) (.inr z)
 |tp o =>
  let#[l,k,pos,rfl,h]:=fQ h;have h:=(QX _ _).mp h;have h:=And.intro (Qi h.1) h.2;let#[g,Z]:=h;let#[C,B]:=BM (X:=X) o l S g Z;have a:=Ki (pos:=pos) (k:=k) (n:=l.length) ok.calm (PJ ok.N ok.sc m o l g Z) C B;intro y s W H v u Q I r Y;refine a y s W H v u Q I r ?_;cases v with|ref p=>let#[A,b,F,e,q]:=Y;exact#[p,A,rfl,F,by rw[SL e,g],b,e,q]|_=>exact QT Y
theorem aa{S:SC}{G:Glob}{E:XK}(ok:OkX X S G E)(C:X.N.Nodup){i j:Nat}{e:Expr}(h:am S (.tp [i,j]) e=jb):PG X e (bindL X.K [i,j]):=by
 let#[W,k,B,rfl,h]:=fQ h;have h:=(QX _ _).mp h;have h:=And.intro (Qi h.1) h.2;let#[m,Z]:=h;let#[J,F]:=BM (X:=X) [i,j] W S m Z;intro x s n H v u Q I r Y;cases v with
 |ref p =>
  let#[A,f,M,hl,e,q]:=Y;cases r;let#[g,y,l,hz]:=I.list M;have O:=y.length
  match g,y,l,O with
  |[a,b],y,l,_=>refine KI (I.ok.hd ok.calm) l.isList (J.trans m.symm) F λP L=>?_;have R:Inv X x n H { s with heap:=P }:=I.kept (t':=s.toks) λb o e=>L b o (Qk (QO e)) e;exact PJ ok.N ok.sc C [i,j] W m Z x _ n H A _ Q R y #[f,e,q]|[],_,_,z=>rw[hl]at z;cases z|[_],_,_,z=>rw[hl]at z;cases z|_::_::_::_,_,_,z=>rw[hl,QJ,QJ,QJ]at z;omega
 |_=>exact QT Y
end
variable{Γ:Ev}
theorem x9(K:QC)(a:j2)(xs:LV):Yields (Mv K a) (xs.map .one) (λH=>YD K H a xs) :=
  { go:=λi H h u=>by
      have z:i<xs.length:=by simpa using u
      exact#[xs,xs[i],h,by simp[z]]
    yld:=λi H x b h _ #[e,y]=>#[.one x,by rw[Qj,y xs h];rfl,rfl,e]
    stop:=λi H h u=>#[xs,h,by simpa using u] }
theorem yh(K:QC)(a:j2)(xs:LV):Yields (Lv K a) (xs.map .one) (λH=>oE K H a xs) :=
  { go:=λi H h u=>by
      have z:i<xs.length:=by simpa using u
      exact#[xs,xs[i],h,by simp[z]]
    yld:=λi H x b h _ #[e,y]=>#[.one x,by rw[Qj,y xs h];rfl,rfl,e]
    stop:=λi H h u=>#[xs,h,by simpa using u] }
theorem zh(z:Str):Yields (Ju z) (z.cps.toList.map λc=>.one (.str #[(List.toArray [c])])) (λ_=>True) :=
  { go:=λi H h u=>by
      have y:i<z.cps.size:=by simpa using u
      exact y
    yld:=λi H x b h _ #[e,c,hc,a]=>#[.one x,by rw[Qj,Array.getElem?_toList,hc,a];rfl,rfl,e]
    stop:=λi H h u=>by
      have y:z.cps.size<=i:=by simpa using u
      exact y }
theorem kh(u:Int)(n:Nat):Yields (Yu u n) ((Qe n).map λ(k:Nat)=>.one (.int (u+(k:Int)))) (λ_=>True) :=
  { go:=λi H h z=>by
      have y:i<n:=by simpa using z
      exact y
    yld:=λi H x b h z #[e,a]=>by
      have y:i<n:=by simpa using z
      exact#[.one x,by rw[Qj,Wf y,a];rfl,rfl,e]
    stop:=λi H h z=>by
      have y:n<=i:=by simpa using z
      exact y }
theorem jh(K:QC)(g f:Src)(xs ys:LV):Yields (Hv K g f) ((xs.zip ys).map λp=>.tup [p.1,p.2]) (λH=>HJ K H g xs/\HJ K H f ys) :=
  { go:=λi H h u=>by
      have y:i<xs.length/\i<ys.length:=by simp only[QG,QBb]at u;omega
      exact#[xs,ys,xs[i],ys[i],h.1,h.2,by simp[y.1],by simp[y.2]]
    yld:=λi H x o h u #[p,a,b,j,e,l,k]=>by let#[n,m]:=k xs ys h.1 h.2;refine#[.tup [a,b],?_,p,j,e,l];rw[Qj,(List.getElem?_zip_eq_some (z:=(a,b))).mpr #[n,m]];rfl
    stop:=λi H h u=>#[xs,ys,h.1,h.2,by simp only[QG,QBb]at u;omega] }
theorem u9(K:QC)(z:Src)(c:Nat)(xs:LV):Yields (Nv K z c) (xs.zipIdx.map λp=>.tup [.int ((c+p.2:Nat):Int),p.1]) (λH=>HJ K H z xs) :=
  { go:=λi H h u=>by
      have y:i<xs.length:=by simpa using u
      exact#[xs,xs[i],h,by simp[y]]
    yld:=λi H x l h u #[p,a,b,e,f,k]=>by
      have y:i<xs.length:=by simpa using u
      have j:=k xs h;refine#[.tup [.int ((c+i:Nat):Int),a],?_,p,b,e,f];have g:xs.zipIdx[i]?=jy (a,i):=by rw[List.getElem?_zipIdx,j];simp
      rw[Qj,g];rfl
    stop:=λi H h u=>#[xs,h,by simpa using u] }
noncomputable def IT(h:St->Hp->(List Item->(Hp->Prop)->Hp->Prop)->Prop):TI:=λx H R=>h x H λy st z=>∀J,Yields J y st->R J z
section
variable{X:Cx}{d:Expr}
theorem ua{l:Expr}{t:TE}(hl:PE X l t):PI X d l (IT λσ H R=>t σ H λv i=>JB X.K .val [v] i R):=by
 intro u s σ H R I h;refine EA (hl u s σ H _ I h) λv y #[x,i,g,Y,n]=>?_;have f:∀b∈[y.1.1.size],iK X u i b:=λb A=>by
  have e:b=y.1.1.size:=by simpa using A
  subst e;exact g.fpOk (QU _) (g.hok.fresh (QU _))
 cases x with
 |str z=>let#[t,rfl]:=Y;refine wpAny_pyIter_strU ?_;exact#[y.1.1.size,[y.1.1.size],_,_,i,rfl,g.kept (t':=y.toks) λb o e=>QF _ e,B1 _ z t,#[_,QV _ rfl,rfl,rfl],f,n _ (zh z)]|ref a =>
  cases Y;rcases n with⟨m,r,q⟩| ⟨m,r,q⟩
  let#[j,Z,p,W]:=g.list r;refine WR p.isList ?_;exact#[y.1.1.size,[y.1.1.size],_,_,i,rfl,g.kept (t':=y.toks) λb o e=>QF _ e,kY a _,#[_,QV _ rfl,rfl,rfl],f,q _ (x9 _ a m)];let#[j,Z,p,W]:=g.tuple r;refine QCE (show y.1.IsTuple a j.toArray from p) ?_;exact#[y.1.1.size,[y.1.1.size],_,_,i,rfl,g.kept (t':=y.toks) λb o e=>QF _ e,kU a _,#[_,QV _ rfl,rfl,rfl],f,q _ (yh _ a m)]
 |_=>exact QT n
theorem da{a:Expr}{ta:TA}{p pos:Pos}{x:Str}(i:x="range")(n:Gl X x)(m:X.mg x=jz)(o:PA X [a] ta)(l:sB a=jb) :
  PI X d (.Call (.Name x p) [a] [] pos) (IT λσ H R=>ta σ H λvs b=>JB X.K .rng1 vs b R):=by
 subst i;intro z s σ H R I h;refine Call_ (AF I n m boot_range (wZ (EA (o pos z s σ H _ I h) λZ W #[vs,b,Y,g,u]=>?_) (bA _ l) rfl))
 match vs,u with
 |[.int j],#[#[u,q2],q] =>
  cases g with
  |cons r f =>
   cases f;let#[t,rfl]:=r;refine call_range_1 (U3 Y () () u q2 ?_);have e:(j - 0).toNat=j.toNat:=by simp
   rw[e];have y:=kh 0 j.toNat;refine q _ ?_;simpa using y
theorem _root_.L2.Inv.size0{h:FB}{σ:St}{H:Hp}{s:j3}(I:Inv X h σ H s):0<s.1.1.size:=by let#[m,#[o,_,_,x,_],_]:=I.loc;exact QCI (QBm _) (QO x)
theorem f8:vb ("zip":Str)=jy (.type "zip"):=by kernel_rfl
theorem xP:vb ("enumerate":Str)=jy (.type "enumerate"):=by kernel_rfl
theorem Zi{a b:Expr}{ta:TA}{p pos pt:Pos}{x:Str}{P:List Expr}{C:Nat}(J:x="zip")(N:Gl X x)(M:X.mg x=jz)(O:PA X [a,b] ta)(L:sB a=jb)(m:sB b=jb) :
  PI X (.Tuple P C pt) (.Call (.Name x p) [a,b] [] pos) (IT λσ H R=>ta σ H λvs n=>JB X.K .zip2 vs n R):=by
 subst J;intro f s σ H R I h;refine Call_ (AF I N M f8 (wZ (EA (O pos f s σ H _ I h) λS y #[vs,n,z,W,B]=>?_) (bA _ L) (by rw[bA _ m];rfl)))
 match vs,B with
 |[u1,u2],#[z1,z2,xs,ys,e1,e2,h1,h2,q] =>
  subst e1 e2;cases W with
  |cons r l =>
   cases l with
   |cons A l =>
    cases l;let#[Z,rfl,j]:=sW r;let#[Y,rfl,i]:=sW A;rw[<- j]at h1;rw[<- i]at h2;simp only[<- j,<- i]at q;let#[G,_,e]:=z.src h1;let#[F,_,u]:=z.src h2;refine CZ e u λh' st E=>QC7 st.1 ?_;have Q:=z.kept (h':=h') (t':=y.toks) E;refine#[_,[y.1.1.size+4,y.1.1.size+2,y.1.1.size+3,y.1.1.size,y.1.1.size+1],_,_,n,rfl,Q,U1 (sR (e.lt z.size0) (u.lt z.size0)),st,λb o=>?_,q _ (jh _ Z Y xs ys)];have g:y.1.1.size<=b:=by simp only[QR,qK,or_false]at o;rcases o with rfl|rfl|rfl|rfl|rfl;exact Wd _ _;exact Wd _ _;exact Wd _ _;exact QU _;exact Wd _ _
    exact z.fpOk g (z.hok.fresh g)
theorem VS{x:FB}{σ:St}{a:Hp}{h:j3}{R:It->Hp->Prop}{l:List Expr}{i c:Nat}{pt:Pos}{z:Src}{xs:LV}{its:Array j0}{h':kt}(u:Inv X x σ a h)(f:JA h.1 z its)(st:mR (h.1.1.size+1) h.1.1.size z c 0 h')(j:∀c o,h.1.get? c=jy o->h'.get? c=jy o)
  (q:∀J,Yields J (xs.zipIdx.map λp=>.tup [.int ((c+p.2:Nat):Int),p.1]) (λH=>HJ X.K H z xs)->R J a):Kx (Ky X.prog X.w) X.A (Ey (.ref (h.1.1.size+1))) (su X x σ (.Tuple l i pt) R) X.xe { h with heap:=h' }:=by
 let#[#[g,m],_]:=id st;refine QCb m ?_;have n:=u.kept (h':=h') (t':=h.toks) j;have lt:=f.lt u.size0;refine#[_,[h.1.1.size+1,h.1.1.size],_,_,a,rfl,n,vY (Hu (Nat.succ_ne_self _)) (Qk (QCY lt)) (Qk lt),st,λb e=>?_,q _ (u9 _ z c xs)];have y:h.1.1.size<=b:=by simp only[QR,qK,or_false]at e;rcases e with rfl|rfl;exact Wd _ _;exact QU _
 exact u.fpOk y (u.hok.fresh y)
theorem ma{a:Expr}{ta:TA}{p pos pt:Pos}{x:Str}{B:List Expr}{l:Nat}(o:x="enumerate")(W:Gl X x)(Z:X.mg x=jz)(A:PA X [a] ta)(Y:sB a=jb) :
  PI X (.Tuple B l pt) (.Call (.Name x p) [a] [] pos) (IT λσ H R=>ta σ H λvs f=>JB X.K .enum vs f R):=by
 subst o;intro u s σ H R I h;refine Call_ (AF I W Z xP (wZ (EA (A pos u s σ H _ I h) λE F #[vs,f,e,i,j]=>?_) (bA _ Y) rfl))
 match vs,j with
 |[u1],#[z,xs,e1,h1,q] =>
  subst e1;cases i with|cons r g=>cases g;let#[C,rfl,b]:=sW r;rw[<- b]at h1;simp only[<- b]at q;let#[n,_,y]:=e.src h1;refine PV y λG st m=>VS (xs:=xs) e y st m ?_;simpa using q
theorem iZ{K:QC}{u n:V}{H:Hp}{R:List Item->(Hp->Prop)->Hp->Prop}(h:JB K .enumA [u,n] H R):∃i,n=.int i/\JB K .enumA [u,.int i] H R:=by
 cases n with|int i=>exact#[i,rfl,h]|_=>exact QT h
theorem t4{a v:Expr}{ta g:TE}{p pos pt Z:Pos}{x k:Str}{es:List Expr}{O:Nat}(Q:x="enumerate")(hk:k="start")(hg:Gl X x)(S:X.mg x=jz)(ha:PE X a ta)(hv:PE X v g)(W:sB a=jb) :
  PI X (.Tuple es O pt) (.Call (.Name x p) [a] [#[jy k,v,Z]] pos) (IT λσ H R=>ta σ H λu y=>g σ y λn b=>JB X.K .enumA [u,n] b R):=by
 subst Q;intro i s σ H R I h;refine wG (AF I hg S xP (kO (bA _ W) ?_));have hh:(Xd ta Yh) σ H λvs y=>∃u,vs=[u]/\g σ y λn b=>JB X.K .enumA [u,n] b λxs st f=>∀J,Yields J xs st->R J f:=by
  have e:∀(x:V) (y:Hp),(g σ y λn b=>JB X.K .enumA [x,n] b λxs st f=>∀J,Yields J xs st->R J f)=∃u,[x]=[u]/\g σ y λn b=>JB X.K .enumA [u,n] b λxs st f=>∀J,Yields J xs st->R J f:=λx y=>eI #[λq=>#[x,rfl,q],λ#[u,e,q]=>by cases e;exact q];have A:ta σ H λx y=>g σ y λn b=>JB X.K .enumA [x,n] b λxs st f=>∀J,Yields J xs st->R J f:=h;have e2:(λ(x:V) (y:Hp)=>g σ y λn b=>JB X.K .enumA [x,n] b λxs st f=>∀J,Yields J xs st->R J f)=λ(x:V) (y:Hp)=>∃u,[x]=[u]/\g σ y λn b=>JB X.K .enumA [u,n] b λxs st f=>∀J,Yields J xs st->R J f:=by funext x y;exact e x y
  rw[e2]at A;exact A
 refine EA ((mD ha kK (bA _ W)) pos i s σ H _ I hh) λus F #[vs,y,I1,M,u,ev,N]=>?_;subst ev;cases M with
 |cons r G =>
  cases G;refine EA (hv i F σ y _ I1 N) λkv s2 #[n,b,E,L,o]=>?_;let#[Y,rfl,o]:=iZ o;let#[z,xs,e1,B,#[n0,n1],q]:=o;subst e1;let#[z3,rfl,m]:=sW r;rw[<- m]at B;simp only[<- m]at q;let#[t,rfl]:=L;let#[P,_,j]:=E.src B;have C:Y=((Y.toNat:Nat):Int):=()
  have l:wU ((Y.toNat:Nat):Int)=true:=by rw[<- C];unfold wU;simp only[QX,decide_eq_true_eq];omega
  rw[C,hk];exact zT l j λh' st Z=>VS (xs:=xs) E j st Z q
end
noncomputable def Tg.at:Tg->LN
 | .nm i=>[i]|.tp h=>h
def NT(h:Tg)(σ' σ:St):Prop:=σ'.length=σ.length/\∀(j:Nat),j∉h.at->σ'[j]?=σ[j]?
theorem dY{i:Nat}{v:Option V}{σ' σ:St}(h:σ'.length=σ.length)(x:∀j,j≠i->σ'[j]?=σ[j]?):σ'.set i v=σ.set i v:=by apply qy;intro j;by_cases e:j=i;subst e;by_cases hl:j<σ.length;rw[Q3 (),Q3 hl];rw[wj (by rw[wr];omega),wj (by rw[wr];omega)];rw[Ql (Qw e),Ql (Qw e)];exact x j e
theorem NI:∀(x:LN) (vs:LV) (σ' σ:St),σ'.length=σ.length->(∀j,j∉x->σ'[j]?=σ[j]?)->xB x vs σ'=xB x vs σ
 |[],[],σ',σ,hl,h=>by have:σ'=σ:=qy λj=>h j (by simp);rw[this]|[],_::_,_,_,_,_=>rfl|_::_,[],_,_,_,_=>rfl|i::x,v::vs,σ',σ,hl,h=>by simp only[xB];refine NI x vs _ _ (by simp[hl]) λj z=>?_;by_cases e:j=i;subst e;by_cases y:j<σ.length;rw[Q3 (),Q3 y];rw[wj (by rw[wr];omega),wj (by rw[wr];omega)];rw[Ql (Qw e),Ql (Qw e)];exact h j (by simp[e,z])
theorem HF:∀(h:LN) (vs:LV) (σ σ':St),xB h vs σ=jy σ'->σ'.length=σ.length/\∀j,j∉h->σ'[j]?=σ[j]?
 |[],[],σ,σ',e=>by simp only[xB]at e;cases e;exact#[rfl,λ_ _=>rfl]|[],_::_,_,_,e=>by simp[xB]at e|_::_,[],_,_,e=>by simp[xB]at e|i::h,v::vs,σ,σ',e=>by simp only[xB]at e;let#[u,y]:=HF h vs _ _ e;refine#[by rw[u,wr],λj x=>?_];rw[y j (λz=>x (QH _ z)),Ql (λz=>x (by simp[z]))]
theorem xT{K:QC}{u:Tg}{v:V}{σ' σ:St}{H:Hp}{Q:St->Hp->Prop}(a:NT u σ' σ)(h:EG K u v σ H Q):EG K u v σ' H λx n=>NT u x σ/\Q x n:=by
 let#[g,l]:=a;cases u with
 |nm i=>have e:σ'.set i (jy v)=σ.set i (jy v):=dY g λj y=>l j (by simpa[Tg.at]using y);show NT (.nm i) (σ'.set i (jy v)) σ/\Q (σ'.set i (jy v)) H;rw[e];exact#[#[by simp,λj y=>Ql (λz=>y (by simp[Tg.at,z]))],h]|tp f =>
  cases v with|ref p=>let#[b,x,m,e,q]:=h;exact#[b,x,m,by rw[NI f b σ' σ g λj y=>l j y];exact e,#[(HF f b σ x e).1,λj y=>(HF f b σ x e).2 j y],q]|_=>exact QT h
theorem SV{K:QC}{y:Tg}{v:V}{σ:St}{H:Hp}{Q Q':St->Hp->Prop}(m:∀σ H,Q σ H->Q' σ H)(h:EG K y v σ H Q):EG K y v σ H Q':=by
 cases y with
 |nm i=>exact m _ _ h|tp a =>
  cases v with|ref p=>let#[z,x,u,e,q]:=h;exact#[z,x,u,e,m _ _ q]|_=>exact QT h
theorem fN{K:QC}{z:Tg}{it:Item}{x:V}{σ:St}{H H':Hp}{Q:St->Hp->Prop}(a:match it with | .one v=>x=v/\H'=H | .tup vs=>∃p,H p=jz/\x=.ref p/\H'=VA H p (.tup vs))(h:bindI K z it σ H Q):EG K z x σ H' Q:=by
 cases it with
 |one v=>let#[rfl,rfl]:=a;exact h|tup vs =>
  let#[p,u,rfl,rfl]:=a;cases z with
  |nm i=>exact h p u|tp f =>
   let#[y,e,q]:=h (VA H p (.tup vs)) λb o e=>by rw[yA (ZA e u)];exact e
   exact#[vs,y,oE.of vA,e,q]
theorem DS{K:QC}{xs:List Item}{st:Hp->Prop}{o:Tg}{tc:TT}{te:TE}{a:St}{H:Hp}{Q:VK}(h:Fp K xs st (bindI K o) tc te a H Q):iP K xs st o tc te a H Q:=by
 let#[W,C,s,l,n]:=h;intro J Y;refine#[λi m u j f=>m=xs.length - i/\i<=xs.length/\NT o j a/\W i u f,#[xs.length,by simp,QBm _,#[rfl,λ_ _=>rfl],C],?_];rintro i m u j f ⟨rfl,G,L,w⟩;have r:=s i u f G w;by_cases g:i<xs.length;refine .inr #[Y.go i f r g,λx M y=>?_];let#[it,X,F]:=Y.yld i f x M r g y;have b:=xT L (fN F (l i it u f X w));refine SV (λp N q=>?_) b;let#[Z,q]:=q;have I:∀(z:LV) (A:Hp),(∃B,B < xs.length - i/\B=xs.length - (i+1)/\i+1<=xs.length/\NT o p a/\W (i+1) z A)=W (i+1) z A:=λz A =>
  eI #[λ#[_,_,_,_,_,w]=>w,λw=>#[_,(),rfl,g,Z,w]]
 simp only[I];exact q
 ·have e:i=xs.length:=()
  subst e;let#[E,q]:=n u f w;exact .inl #[Y.stop _ f r (QU _),E,q]
theorem D7:∀(ks:LS) (x:List (Option Expr)),Yr ks x=jb->x.length=ks.length/\x.all (·.isSome)=jb
 |[],[],_=>#[rfl,rfl]|[],_::_,h=>(QD h).elim|_::_,[],h=>(QD h).elim|_::_,none::_,h=>(QD h).elim|k::ks,jy e::x,h=>by let#[a,b]:=D7 ks x (jA h).2;exact#[by rw[QJ,QJ,a],by rw[Q8,b];rfl]
noncomputable def lW(K:QC)(Γ:Ev)(E:XK):LS->PX->List (TE×TE)
 |k::ks,.nz a as=>(tC (.str k),(wp K Γ a E).e)::lW K Γ E ks as|_,_=>[]
end L2.L3
namespace L2.L3
open PySem PySem.Spec PyProof.Rows
variable{Γ:Ev}
noncomputable def eQ:PX->Bool
 | .nz _ _=>js|_=>jb
theorem rT{X:Cx}{E:XK}{p:PX}{x:List Expr}(h:eQ p=jb):CN X Γ E p x:=by cases p<;>first|trivial|cases h
theorem KJ(Q:Bool->Hp->Prop):(λ(x:V) (h:Hp)=>rR x h Q)=λ(x:V) (h:Hp)=>∃k,x=.bl k/\Q k h:=by funext x h;exact Ak x h Q
theorem Snd.of{X:Cx}{E:XK}{p:PX}{e:Expr}(pe:PE X e (wp X.K Γ p E).e)(pt:PT X e (wp X.K Γ p E).t)(u:∀x h pos,e≠.BoolOp x h pos)(b:(wp X.K Γ p E).a=never.a)(y:autoParam (eQ p=true) zzr._auto_1):Snd X Γ E p e :=
 #[pe,pt,λx h pos z=>eN z (u x h pos),λh pos z=>by rw[b];exact DR,λ_ _ _=>rT y]
theorem Snd.lit{X:Cx}{E:XK}{p:PX}{e:Expr}(pe:PE X e (wp X.K Γ p E).e)(x:(wp X.K Γ p E).t=never.t)(z:∀h b pos,e≠.BoolOp h b pos)(u:(wp X.K Γ p E).a=never.a)(y:autoParam (eQ p=true) zzr._auto_1):Snd X Γ E p e :=
 Snd.of pe (by rw[x];exact zM) z u y
theorem Snd.args{X:Cx}{E:XK}{p:PX}{y:List Expr}{pos:Pos}(g:PA X y (wp X.K Γ p E).a)(b:CN X Γ E p y)(f:(wp X.K Γ p E).e=never.e)(u:(wp X.K Γ p E).t=never.t):Snd X Γ E p (.List y pos) :=
 #[by rw[f];exact U4,by rw[u];exact zM,λ_ _ _ z=>(by cases z),λx h z=>by cases z;exact g,λx h z=>by cases z;exact b]
theorem zQ{X:Cx}{S:SC}{x:Str}{v:V}{u:j0}{pos:Pos}(y:X.env.scope=S.sc)(h:pJ S x=jb)(z:X.mg x=jy u)(r:aA v u):PE X (.Name x pos) (λ_ H Q=>Q v H):=by let#[b,a,e]:=VC h;exact Ja (show X.env.scope.names.lookup x=jy .globalImplicit by rw[y];exact b) z r a
theorem rB{S:SC}{pos:Pos}:∀(p:PX) {y:List Expr},ZB p S (.List y pos)=jb->y.all sB=true:=by
 intro p;induction p with|kz=>intro y h;have h:y.isEmpty=true:=h;rw[Q0.mp h];rfl|nz a b _ z=>intro y h;have h:AZ y _=true:=h;let#[x,t,rfl,h]:=YG h;have u:=jA h;rw[Q8,u.1,z (jA u.2).2];rfl|lst b z=>exact λh=>z h|prm o b=>intro y h;have h:=(jA h).2;cases o<;>exact(QD h).elim|_=>exact λh=>(QD h).elim
theorem mT{K:QC}{E:XK}{S:SC}{pos:Pos}{σ:St}{H:Hp}{Q:LV->Hp->Prop}:∀(p:PX),BC p=jb->ZB p S (.List [] pos)=jb->((wp K Γ p E).a σ H Q↔Q [] H):=by
 intro p;cases p with|kz=>exact λ_ _=>Wy|nz _ _=>exact λ_ h=>(QD h).elim|_=>exact λh=>(QD h).elim
theorem GZ{K:QC}{E:XK}{S:SC}{pos:Pos}{σ:St}{H:Hp}{Q:LV->Hp->Prop}(p:PX)(h:ZB p S (.List [] pos)=jb)(q:(wp K Γ p E).a σ H Q):Q [] H:=by
 cases x:BC p with
 |true=>exact(mT p x h).mp q|false =>
  cases p with|kz=>exact q|nz _ _=>exact(QD h).elim|_=>exact q.elim
theorem XF{S:SC}{a:Expr}{pos:Pos}(p:PX)(y:BC p=jb)(h:ZB p S (.List [a] pos)=jb):∃x,p=.nz x .kz:=by
 cases p with
 |nz x r =>
  have z:ZB r S (.List [] pos)=true:=(jA (jA h).2).2;cases r with|kz=>exact#[x,rfl]|nz _ _=>exact(QD z).elim|_=>exact(QD y).elim
 |kz=>exact(QD h).elim|_=>exact(QD y).elim
theorem xH{S:SC}{a b:Expr}{pos:Pos}(p:PX)(z:BC p=jb)(h:ZB p S (.List [a,b] pos)=jb):∃y x,p=.nz y (.nz x .kz):=by
 cases p with|nz y r=>let#[x,e]:=XF r z (jA (jA h).2).2;exact#[y,x,by rw[e]]|kz=>exact(QD h).elim|_=>exact(QD z).elim
theorem Uo{X:Cx}(m:Mt):∃id,d7 m.ty/\Slot m.ty m.nm id/\Ez (.builtin id)=ez (.type "method_descriptor")/\EZ X id (Lb X.K m):=by
 cases m with|split=>exact#[_,QBR,PySem.F.slot_str_split,PySem.F.type_str_split,u6]|append=>exact#[_,Ws,PySem.F.slot_list_append,PySem.F.type_list_append,Hb]|join=>exact#[_,QBR,PySem.F.slot_str_join,PySem.F.type_str_join,Db]|extend=>exact#[_,Ws,PySem.F.slot_list_extend,PySem.F.type_list_extend,Gb]|insert=>exact#[_,Ws,PySem.F.slot_list_insert,PySem.F.type_list_insert,Fb]
theorem JC{env:Env}{pos:Pos}:∀{x:List Expr},x.all sB=jb->(x2 pos (ka x env)).any (·.1)=js
 |[],_=>rfl|e::x,h=>by rw[Q8]at h;let#[z,y]:=jA h;rw[bA env z];show(js||(x2 pos (ka x env)).any (·.1))=js;rw[JC y];rfl
theorem XJ{env:Env}{pos:Pos}:∀{y:List Expr},y.all sB=jb->(x2 pos (ka y env)).all (λx=>!x.1)=jb
 |[],_=>rfl|e::y,h=>by rw[Q8]at h;let#[u,z]:=jA h;rw[bA env u];show(jb&&(x2 pos (ka y env)).all (λx=>!x.1))=jb;rw[XJ z];rfl
theorem eU{X:Cx}{S:SC}{G:Glob}{E:XK}(ok:OkX X S G E){o:ItK}{its:PX}{t it:Expr}{pos:Pos}(e:gt (BC its) S o (λy p=>ZB its S (.List y p)) t it pos=jb)(n:lr G o)
  (m:∀y p,ZB its S (.List y p)=jb->Snd X G.ev E its (.List y p)):PI X t it (IT λσ H R=>(wp X.K G.ev its E).a σ H λvs A=>JB X.K o vs A R):=by
 have j:∀{x:Str},pJ S x=jb->Gl X x:=λ{x} h=>by show X.env.scope.names.lookup x=jy .globalImplicit;rw[ok.sc];exact(VC h).1
 have u:GM t=jb->∃y k p,t=.Tuple y k p:=λh=>by
  cases t with|Tuple y k p=>exact#[y,k,p,rfl]|_=>exact(QD h).elim
 cases o with|val=>have i:=jA e;have g:=(m _ pos i.2).pas _ pos rfl;let#[a,rfl]:=XF its i.1 i.2;exact ua g.1|rng1=>let#[q,y,r,p,rfl,l,h]:=EC e;have f:=jA h;cases Q0.mp f.1;let#[a,rfl,z]:=lB f.2;exact da rfl (j l) (ok.no _ n) ((m _ p z).pa _ p rfl) (by simpa using rB its z)|zip2=>have i:=jA e;let#[y,k,pt,rfl]:=u i.1;let#[q,y,r,p,rfl,l,h]:=EC i.2;have f:=jA h;cases Q0.mp f.1;let#[a,b,rfl,z]:=xJ f.2;have st:=jA (rB its z);exact Zi rfl (j l) (ok.no _ n) ((m _ p z).pa _ p rfl) st.1 (jA st.2).1|enum=>have i:=jA e;let#[y,k,pt,rfl]:=u i.1;let#[q,y,r,p,rfl,l,h]:=EC i.2;have f:=jA h;cases Q0.mp f.1;let#[a,rfl,z]:=lB f.2;exact ma rfl (j l) (ok.no _ n) ((m _ p z).pa _ p rfl) (by simpa using rB its z)|enumA=>have i:=jA e;let#[y,k,pt,rfl]:=u i.1;have s:=jA i.2;let#[q,y,r,p,rfl,l,h]:=EC s.2;let#[a,rfl,f]:=lB h;let#[#[Y,B,C],rfl,Z]:=lB f;have z:=jA Z;have W:Y=jy ("start":Str):=Qi z.1;cases W;have st:=jA (rB its z.2);have g:=(m _ p z.2).pas _ p rfl;let#[c,d,rfl]:=xH its s.1 z.2;exact t4 rfl rfl (j l) (ok.no _ n) g.1 g.2.1 st.1
theorem KC{X:Cx}{e:Expr}{te x:TE}(h:PE X e te)(q:∀σ H Q,x σ H Q->te σ H Q):PE X e x:=λy s σ H Q I z=>h y s σ H Q I (q σ H Q z)
theorem mP{S:SC}{pos:Pos}{v:Expr}{vs:List Expr}(p:PX)(y:BC p=jb)(h:ZB p S (.List (v::vs) pos)=jb):∃a x,p=.nz a x/\BC x=jb/\ZB x S (.List vs pos)=true:=by
 cases p with|nz a x=>exact#[a,x,rfl,y,(jA (jA h).2).2]|kz=>exact(QD h).elim|_=>exact(QD y).elim
theorem y4{X:Cx}{S:SC}{E:XK}{pos:Pos}:∀(ks:LS) (vs:PX) (keys:List (Option Expr)) (x:List Expr),Yr ks keys=jb->BC vs=jb->ZB vs S (.List x pos)=jb->keys.length=x.length->CN X Γ E vs x->Vq X pos keys x (lW X.K Γ E ks vs)
 |[],vs,keys,x,h,ha,hc,hl,hp=>by
  cases keys with
  |cons _ _=>exact(QD h).elim|nil=>cases x with|nil=>exact ja|cons _ _=>cases hl
 |k::ks,vs,keys,x,h,ha,hc,hl,hp=>by
  cases keys with
  |nil=>exact(QD h).elim|cons e i=>cases e with
   |none=>exact(QD h).elim|some e=>cases x with|nil=>cases hl|cons v x=>let#[a,l,rfl,g,f]:=mP vs ha hc;have y:=jA h;let#[c,j,m,rfl,b]:=lE y.1;let#[z,rfl,u]:=RV b;cases Qi u;exact x4 fM hp.1 (y4 ks l i x y.2 g f (Wj hl) hp.2)
theorem BR{K:QC}{S:SC}{E:XK}{pos:Pos}:∀(ks:LS) (vs:PX) (h:List Expr),BC vs=jb->ZB vs S (.List h pos)=jb->ks.length=h.length->∀{σ:St}{H:Hp}{Q:List (V×V)->Hp->Prop},HL (lW K Γ E ks vs) σ H Q=(wp K Γ vs E).a σ H λxs z=>Q ((ks.map V.str).zip xs) z
 |[],vs,h,ha,hc,hl,σ,H,Q=>by
  cases h with
  |cons _ _=>cases hl|nil =>
   cases vs with|kz=>rfl|nz _ _=>exact(QD hc).elim|_=>exact(QD ha).elim
 |k::ks,vs,h,ha,hc,hl,σ,H,Q=>by
  cases h with|nil=>cases hl|cons v h=>let#[a,u,rfl,g,f]:=mP vs ha hc;show((wp K Γ a E).e σ H λy z=>HL (lW K Γ E ks u) σ z λb i=>Q ((V.str k,y)::b) i)=(wp K Γ a E).e σ H λx j=>(wp K Γ u E).a σ j λxs z=>Q ((V.str k,x)::(ks.map V.str).zip xs) z;congr 1;funext y z;exact BR ks u h g f (Wj hl)
theorem snd{G:Glob}:∀(p:PX) {X:Cx}{S:SC}{E:XK}(ok:OkX X S G E) {e:Expr},ZB p S e=jb->MA G p->Snd X G.ev E p e:=by
 intro p;induction p with
 |vx i =>
  intro X S E ok e h _;let#[x,pos,rfl,h]:=GA h;let#[W,J,M,O]:=VP h;have base:=jK (pos:=pos) (show X.N[i]?=jy x by rw[ok.N];exact W) (show lq X.env.scope x by rw[ok.sc];exact J) M O;have pe:PE X (.Name x pos) (wp X.K G.ev (.vx i) E).e:=KC base λB H Q q=>by
   have q:(match B[i]? with|some (jy v)=>Q v H|_=>False):=q;cases hs:B[i]? with
   |none=>rw[hs]at q;exact q.elim|some o =>
    rw[hs]at q;cases o with|none=>exact q.elim|some v=>exact#[v,hs,q]
  exact Snd.of pe (HB pe λ_=>rfl) (λ_ _ _ z=>by cases z) rfl
 |int i=>intro X S E ok e h _;let#[c,k,pos,rfl,h]:=lE h;let#[j,rfl,h]:=Vk h;cases Qi h;exact Snd.of B4 (HB (ta:=λ_ H Q=>Q (.int i) H) B4 λ_=>rfl) (λ_ _ _ z=>by cases z) rfl|str x=>intro X S E ok e h _;let#[c,k,pos,rfl,h]:=lE h;let#[j,rfl,h]:=RV h;cases Qi h;exact Snd.lit fM rfl (λ_ _ _ z=>by cases z) rfl|bl b=>intro X S E ok e h _;let#[c,k,pos,rfl,h]:=lE h;let#[j,rfl,h]:=Bc h;cases Qi h;exact Snd.of ye (HB (ta:=λ_ H Q=>Q (.bl b) H) ye λ_=>rfl) (λ_ _ _ z=>by cases z) rfl|non=>intro X S E ok e h _;let#[c,k,pos,rfl,h]:=lE h;cases Uc h;exact Snd.of X4 (HB (ta:=λ_ H Q=>Q .non H) X4 λ_=>rfl) (λ_ _ _ z=>by cases z) rfl|glo x=>intro X S E ok e h Y;let#[y,pos,rfl,h]:=GA h;have h:=jA h;cases Qi h.1;let#[u,hm,r]:=ok.val x Y;have pe:=zQ (pos:=pos) ok.sc h.2 hm r;exact Snd.of pe (HB pe λ_=>rfl) (λ_ _ _ z=>by cases z) rfl|bty x n=>intro X S E ok e h Y;let#[y,pos,rfl,h]:=GA h;have h:=jA h;cases Qi h.1;let#[g1,g2,g3]:=VC h.2;exact Snd.lit (Da (show X.env.scope.names.lookup x=jy .globalImplicit by rw[ok.sc];exact g1) (ok.no x Y.1) Y.2 rfl g3 g2) rfl (λ_ _ _ z=>by cases z) rfl|bin op a b L ihb=>intro X S E ok e h Y;let#[l,o,r,pos,rfl,h]:=OW h;have W:=jA h;have J:=jA W.2;cases Qi W.1;have pe:=Ed (pos:=pos) (Ti op) (L ok J.1 Y.1).pe (ihb ok J.2 Y.2).pe;exact Snd.of pe (HB pe λ_=>rfl) (λ_ _ _ z=>by cases z) rfl|cmp op a b L ihb=>intro X S E ok e h Y;let#[l,os,rs,pos,rfl,h]:=MW h;let#[o,rfl,h]:=lB h;let#[r,rfl,h]:=lB h;have W:=jA h;have J:=jA W.2;have M:=jA J.2;cases Qi W.1;have pa:=(L ok M.1 Y.1).pe;have pb:=(ihb ok M.2 Y.2).pe;refine Snd.of (Ua (pos:=pos) (vK ok.un op) pa pb (HU J.1)) (λP s B H Q I q=>O9 (pos:=pos) (vK ok.un op) pa pb (HU J.1) P s B H Q I ?_) (λ_ _ _ z=>by cases z) rfl;show Ym _ _ _ B H (λ(x:V) (Z:Hp)=>∃k,x=.bl k/\Q k Z);rw[<- KJ Q];exact q|chn o p a b c L ihb ihc =>
  intro X S E ok e h Y;let#[l,os,rs,pos,rfl,h]:=MW h;let#[o',p',rfl,h]:=xJ h;let#[r,q',rfl,h]:=xJ h;have W:=jA h;have J:=jA W.2;have M:=jA J.2;have O:=jA M.2;have h5:=jA O.2;cases Qi W.1;cases Qi J.1;have pa:=(L ok O.1 Y.1).pe;have pb:=(ihb ok h5.1 Y.2.1).pe;have pc:=(ihc ok h5.2 Y.2.2).pe;have lm:cC [o,p] [r,q']=false:=HU M.1;have eq:∀(Q:VK) (B:St) (y:V),(λ(z:V) (H3:Hp)=>∃k,z=.bl k/\(if k=jb then(wp X.K G.ev c E).e B H3 λw' H4=>YH X.K p y w' H4 Q else Q (.bl js) H3)) =
    λ(z:V) (H3:Hp)=>rR z H3 λk H4=>if k=jb then(wp X.K G.ev c E).e B H4 λw' H5=>YH X.K p y w' H5 Q else Q (.bl js) H4:=λQ B y=>(KJ _).symm
  have pe:PE X (.Compare l [o,p] [r,q'] pos) (wp X.K G.ev (.chn o p a b c) E).e:=λP s B H Q I q=>D4 (pos:=pos) (vK ok.un o) (vK ok.un p) pa pb pc lm P s B H Q I (by show(wp X.K G.ev a E).e B H λx Z=>(wp X.K G.ev b E).e B Z λy H2=>YH X.K o x y H2 ((λ(y:V) (z:V) (H3:Hp)=>∃k,z=.bl k/\(if k=jb then(wp X.K G.ev c E).e B H3 λw' H4=>YH X.K p y w' H4 Q else Q (.bl js) H3)) y);simp only[eq];exact q);refine Snd.of pe (λP s B H Q I q=>P3 (pos:=pos) (vK ok.un o) (vK ok.un p) pa pb pc lm P s B H Q I ?_) (λ_ _ _ z=>by cases z) rfl;show uU _ _ _ _ _ B H (λ(x:V) (Z:Hp)=>∃k,x=.bl k/\Q k Z);rw[<- KJ Q];show(wp X.K G.ev a E).e B H λx Z=>(wp X.K G.ev b E).e B Z λy H2=>YH X.K o x y H2 ((λ(y:V) (z:V) (H3:Hp)=>∃k,z=.bl k/\(if k=jb then(wp X.K G.ev c E).e B H3 λw' H4=>YH X.K p y w' H4 (λ(x:V) (Z:Hp)=>rR x Z Q) else(λ(x:V) (Z:Hp)=>rR x Z Q) (.bl js) H3)) y);simp only[eq];exact q
 |and a b L ihb =>
  intro X S E ok e h Y;let#[o,es,pos,rfl,h]:=GR h;have W:=jA h;cases Qi W.1;let#[l,t,rfl,J]:=YG W.2;let#[r,t,rfl,M]:=YG J;have O:=jA M;have sa:=L ok O.1 Y.1;have sb:=ihb ok O.2 Y.2;have eqA:∀(B:St) (Q:VK),(λ(x:V) (Z:Hp)=>∃c,x=.bl c/\if c=jb then(wp X.K G.ev b E).e B Z Q else Q (.bl js) Z)=λ(x:V) (Z:Hp)=>rR x Z λc H2=>if c=jb then(wp X.K G.ev b E).e B H2 Q else Q (.bl js) H2:=λB Q=>(KJ _).symm
  have key:PW X (.BoolOp .And (l::r::t) pos) (wp X.K G.ev (.and a b) E).t/\PE X (.BoolOp .And (l::r::t) pos) (λB H Q=>(wp X.K G.ev a E).e B H λx Z=>∃c,x=.bl c/\if c=jb then(wp X.K G.ev b E).e B Z Q else Q (.bl js) Z):=by
   cases t with|nil=>exact#[M3 sa.pt (N9 sb.pt),N4 (pos:=pos) sa.pe (V4 sb.pe)]|cons q t=>exact#[M3 sa.pt (sb.pw _ _ _ rfl),N4 (pos:=pos) sa.pe sb.pe]
  refine#[KC key.2 λB H Q q=>?_,key.1.pt,λ_ _ _ _=>key.1,λ_ _ z=>(by cases z),λ_ _ z=>trivial];rw[eqA];exact q
 |or a b L ihb =>
  intro X S E ok e h Y;let#[o,es,pos,rfl,h]:=GR h;have W:=jA h;cases Qi W.1;let#[l,t,rfl,J]:=YG W.2;let#[r,t,rfl,M]:=YG J;have O:=jA M;have sa:=L ok O.1 Y.1;have sb:=ihb ok O.2 Y.2;have eqA:∀(B:St) (Q:VK),(λ(x:V) (Z:Hp)=>∃c,x=.bl c/\if c=jb then Q (.bl jb) Z else(wp X.K G.ev b E).e B Z Q)=λ(x:V) (Z:Hp)=>rR x Z λc H2=>if c=jb then Q (.bl jb) H2 else(wp X.K G.ev b E).e B H2 Q:=λB Q=>(KJ _).symm
  have key:PW X (.BoolOp .Or (l::r::t) pos) (wp X.K G.ev (.or a b) E).t/\PE X (.BoolOp .Or (l::r::t) pos) (λB H Q=>(wp X.K G.ev a E).e B H λx Z=>∃c,x=.bl c/\if c=jb then Q (.bl jb) Z else(wp X.K G.ev b E).e B Z Q):=by
   cases t with|nil=>exact#[Td sa.pt (vi sb.pt),Ad (pos:=pos) sa.pe (V4 sb.pe)]|cons q t=>exact#[Td sa.pt (sb.pw _ _ _ rfl),Ad (pos:=pos) sa.pe sb.pe]
  refine#[KC key.2 λB H Q q=>?_,key.1.pt,λ_ _ _ _=>key.1,λ_ _ z=>(by cases z),λ_ _ z=>trivial];rw[eqA];exact q
 |not a L=>intro X S E ok e h Y;let#[o,x,pos,rfl,h]:=Ai h;have W:=jA h;cases Qi W.1;have sa:=L ok W.2 Y;refine Snd.of (λP s B H Q I q=>?_) (xi sa.pt) (λ_ _ _ z=>by cases z) rfl;refine UnaryOp_ (EA (sa.pe P s B H _ I q) λv s1 #[x,Z,I1,r1,q1]=>?_);have q1:UF X.K x Z (λc H2=>Q (.bl (!c)) H2):=q1;rw[gW]at q1;refine not_of (EA (C1 P s1 B Z x v _ I1 r1 q1) λc s2 #[H2,I2,q2]=>?_);exact#[.bl (!c),H2,I2,rfl,q2]|ife c a b ihc L ihb=>intro X S E ok e h Y;let#[t,l,r,pos,rfl,h]:=Ii h;have W:=jA h;have J:=jA W.2;exact Snd.lit (C4 (pos:=pos) (ihc ok W.1 Y.1).pt (L ok J.1 Y.2.1).pe (ihb ok J.2 Y.2.2).pe) rfl (λ_ _ _ z=>by cases z) rfl|call f as ih =>
  intro X S E ok e h Y;let#[p,es,ks,pos,rfl,hg,h]:=EC h;have W:=jA h;cases Q0.mp W.1;let#[g1,g2,g3]:=VC hg;have hg:Gl X f:=show X.env.scope.names.lookup f=jy .globalImplicit by rw[ok.sc];exact g1
  let#[CX,k,a,fd,ps,F,hr,hm,hk,hb,hx,_]:=ok.fn f Y.1;have pa:=(ih ok W.2 Y.2).pa es pos rfl;have st:=rB as W.2;have pe:PE X (.Call (.Name f p) es [] pos) (wp X.K G.ev (.call f as) E).e:=by
   cases es with|nil=>exact KC (M4 (pos:=pos) (p:=p) F hr hg hm hk hb .nil hx g2) λB H Q q=>GZ as W.2 q|cons e1 es1=>have st:=jA st;refine KC (Ca (pos:=pos) (p:=p) F hr hg hm hk hb .nil hx pa g2 (bA _ st.1) (JC st.2)) λB H Q q=>?_;show(wp X.K G.ev as E).a B H λvs Z=>G.ev.sp f (vs++[]) Z Q E;simp only[Qd];exact q
  exact Snd.of pe (HB pe λ_=>rfl) (λ_ _ _ z=>by cases z) rfl
 |idx a b L ihb=>intro X S E ok e h Y;let#[v,i,pos,rfl,h]:=RE h;have W:=jA h;have J:=jA W.2;have pe:=je (pos:=pos) Pj (L ok J.1 Y.1).pe (ihb ok J.2 Y.2).pe (IP W.1);exact Snd.of pe (HB pe λ_=>rfl) (λ_ _ _ z=>by cases z) rfl|dsp ks vs ih =>
  intro X S E ok e h Y;let#[keys,vals,pos,rfl,h]:=U5 h;have W:=jA h;have J:=jA W.2;have M:=jA J.2;have O:=jA M.2;let#[l0,l1]:=ei W.1;have pas:=(ih ok O.2 Y).pas _ pos rfl;let#[d1,d2]:=D7 ks keys J.1;have hl:keys.length=vals.length:=ei M.1;have pe:PE X (.Dict keys vals pos) (wp X.K G.ev (.dsp ks vs) E).e:=by refine KC (Ka (pos:=pos) (y4 (S:=S) ks vs keys vals J.1 O.1 O.2 hl pas) d2 hl (λz=>by rw[z]at d1;exact eN l0 (by rw[<- d1];exact wA _)) (by rw[d1];exact l1)) λB H Q q=>?_;intro p hp;rw[BR (S:=S) (pos:=pos) ks vs vals O.1 O.2 (d1.symm.trans hl)];exact q p hp
  exact Snd.lit pe rfl (λ_ _ _ z=>by cases z) rfl
 |nop=>intro X S E ok e h Y;exact(QD h).elim|lst as ih=>intro X S E ok e h Y;let#[es,pos,rfl,h]:=pM h;have pa:=(ih ok h Y).pa es pos rfl;exact#[Ci pa,zM,λ_ _ _ z=>(by cases z),λ_ _ z=>DR,λ_ _ z=>trivial]|tup as ih=>intro X S E ok e h Y;let#[es,k,pos,rfl,h]:=fQ h;exact Snd.lit (Xi ((ih ok h Y).pa es pos rfl)) rfl (λ_ _ _ z=>by cases z) rfl|kz=>intro X S E ok e h Y;let#[es,pos,rfl,h]:=pM h;cases Q0.mp h;exact Snd.args kK trivial rfl rfl|nz a as L ih=>intro X S E ok e h Y;let#[es,pos,rfl,h]:=pM h;let#[e1,es1,rfl,h]:=YG h;have W:=jA h;have J:=jA W.2;have sa:=(L ok J.1 Y.1).pe;have ss:=ih ok J.2 Y.2;exact Snd.args (mD sa (ss.pa es1 pos rfl) (bA _ W.1)) #[sa,ss.pas es1 pos rfl] rfl rfl|bi f as ih =>
  intro X S E ok e h Y;let#[p,es,ks,pos,rfl,hg,h]:=EC h;have W:=jA h;cases Q0.mp W.1;let#[e1,es1,rfl,M]:=YG W.2;let#[g1,g2,g3]:=VC hg;have hg:Gl X f.nm:=show X.env.scope.names.lookup f.nm=jy .globalImplicit by rw[ok.sc];exact g1
  have pa:=(ih ok M Y.2).pa _ pos rfl;have st:=jA (rB as M);have pe:PE X (.Call (.Name f.nm p) (e1::es1) [] pos) (wp X.K G.ev (.bi f as) E).e:=by
   rcases Ap ok.calm f with⟨id,hb,hc⟩| ⟨T,hb,hc⟩
   exact zJ (pos:=pos) (p:=p) hc hg (ok.no _ Y.1) hb pa g3 g2 (bA _ st.1) (JC st.2);exact iY (pos:=pos) (p:=p) hc hg (ok.no _ Y.1) hb pa g3 g2 (bA _ st.1) (JC st.2)
  exact Snd.of pe (HB pe λ_=>rfl) (λ_ _ _ z=>by cases z) rfl
 |eff a L=>intro X S E ok e h Y;rcases(qk _ _).mp h with h|h;let#[x,y,z,w,rfl,h]:=lQ h;exact Snd.lit (L ok h Y).pe rfl (λ_ _ _ z=>by cases z) rfl;let#[x,y,z,rfl,h]:=RE h;exact Snd.lit (L ok h Y).pe rfl (λ_ _ _ z=>by cases z) rfl
 |prm o as ih =>
  intro X S E ok e h Y;have h0:=jA h;cases o with
  |dget x =>
   let#[v,ap,es,cp,rfl,hl,W]:=UQ h0.2;let#[y,p,rfl,J]:=GA W;have M:=jA J;have O:=jA M.2;cases Qi M.1;let#[a,rfl,h5]:=lB O.2;let#[ad,kvs,hm,hd,D]:=ok.dic x Y.1;have po:PE X (.Name x p) (λ_ H Q=>Q (.ref ad) H):=zQ (pos:=p) ok.sc O.1 hm rfl;have st:=rB as h5;have pas:=(ih ok h5 Y.2).pas _ cp rfl;let#[a1,rfl]:=XF as h0.1 h5;have base:=Ba (apos:=ap) (cpos:=cp) D po pas.1 rfl (by rw[XJ st];rfl) hl (bA _ (jA st).1);have pe:PE X (.Call (.Attribute (.Name x p) "get" ap) [a] [] cp) (wp X.K G.ev (.prm (.dget x) (.nz a1 .kz)) E).e:=by
    refine KC base λB H Q q=>?_;have e:(λ(y:V) (Z:Hp)=>∃z,y=.str z/\Q ((kvs.lookup z).getD .non) Z)=λ(y:V) (Z:Hp)=>eY X.K G.ev (.dget x) [y] Z Q:=by
     funext y Z;apply eI;constructor;rintro⟨z,rfl,q⟩;exact#[kvs,hd,q];intro q;cases y with|str z=>let#[k2,e2,q]:=q;rw[hd]at e2;cases e2;exact#[z,rfl,q]|_=>exact q.elim
    rw[e];exact q
   exact Snd.of pe (HB pe λ_=>rfl) (λ_ _ _ z=>by cases z) rfl
  |dgetD x =>
   let#[v,ap,es,cp,rfl,hl,W]:=UQ h0.2;let#[y,p,rfl,J]:=GA W;have M:=jA J;have O:=jA M.2;cases Qi M.1;let#[a,b,rfl,h5]:=xJ O.2;let#[ad,kvs,hm,hd,D]:=ok.dic x Y.1;have po:PE X (.Name x p) (λ_ H Q=>Q (.ref ad) H):=zQ (pos:=p) ok.sc O.1 hm rfl;have st:=rB as h5;have pas:=(ih ok h5 Y.2).pas _ cp rfl;let#[a1,b1,rfl]:=xH as h0.1 h5;have st':=st;rw[Q8,Q8]at st';have base:=G4 (apos:=ap) (cpos:=cp) D po pas.1 pas.2.1 rfl (by rw[XJ st];rfl) hl (by rw[bA _ (jA st').1,bA _ (jA (jA st').2).1];rfl);have pe:PE X (.Call (.Attribute (.Name x p) "get" ap) [a,b] [] cp) (wp X.K G.ev (.prm (.dgetD x) (.nz a1 (.nz b1 .kz))) E).e:=by
    intro P s B H Q I q;refine base P s B H Q I ?_;have e:(λ(y:V) (Z:Hp)=>(wp X.K G.ev b1 E).e B Z λ(d:V) (H2:Hp)=>∃z,y=.str z/\Q ((kvs.lookup z).getD d) H2)=λ(y:V) (Z:Hp)=>(wp X.K G.ev b1 E).e B Z λ(d:V) (H2:Hp)=>eY X.K G.ev (.dgetD x) [y,d] H2 Q:=by
     funext y Z;congr 1;funext d H2;apply eI;constructor;rintro⟨z,rfl,q⟩;exact#[kvs,hd,q];intro q;cases y with|str z=>let#[k2,e2,q]:=q;rw[hd]at e2;cases e2;exact#[z,rfl,q]|_=>exact q.elim
    show(wp X.K G.ev a1 E).e B H (λ(y:V) (Z:Hp)=>(wp X.K G.ev b1 E).e B Z λ(d:V) (H2:Hp)=>∃z,y=.str z/\Q ((kvs.lookup z).getD d) H2);rw[e];exact q
   exact Snd.of pe (HB pe λ_=>rfl) (λ_ _ _ z=>by cases z) rfl
  |dix x =>
   let#[v,i,pos,rfl,W]:=RE h0.2;let#[y,p,rfl,J]:=GA W;have M:=jA J;have O:=jA M.2;have h5:=jA O.2;cases Qi M.1;let#[ad,kvs,hm,hd,D]:=ok.dic x Y.1;have po:PE X (.Name x p) (λ_ H Q=>Q (.ref ad) H):=zQ (pos:=p) ok.sc O.1 hm rfl;have pas:=(ih ok h5.2 Y.2).pas _ pos rfl;let#[a1,rfl]:=XF as h0.1 h5.2;have base:=je (pos:=pos) (D6 D) po pas.1 (IP h5.1);have pe:PE X (.Subscript (.Name x p) i pos) (wp X.K G.ev (.prm (.dix x) (.nz a1 .kz)) E).e:=by
    refine KC base λB H Q q=>?_;have e:(λ(y:V) (Z:Hp)=>∃z v,(V.ref ad)=.ref ad/\y=.str z/\kvs.lookup z=jy v/\Q v Z)=λ(y:V) (Z:Hp)=>eY X.K G.ev (.dix x) [y] Z Q:=by
     funext y Z;apply eI;constructor;rintro⟨z,v,_,rfl,l,q⟩;exact#[kvs,v,hd,l,q];intro q;cases y with|str z=>let#[k2,v,e2,l,q]:=q;rw[hd]at e2;cases e2;exact#[z,v,rfl,rfl,l,q]|_=>exact q.elim
    show(wp X.K G.ev a1 E).e B H (λ(y:V) (Z:Hp)=>∃z v,(V.ref ad)=.ref ad/\y=.str z/\kvs.lookup z=jy v/\Q v Z);rw[e];exact q
   exact Snd.of pe (HB pe λ_=>rfl) (λ_ _ _ z=>by cases z) rfl
  |dgt =>
   let#[v,i,p,rfl,W]:=RE h0.2;have J:=jA W;have pas:=(ih ok J.2 Y.2).pas _ p rfl;let#[a1,b1,rfl]:=xH as h0.1 J.2;have hu:X.A.units+1<cLine:=by have:=ok.un;omega
   have pe:PE X (.Subscript v i p) (wp X.K G.ev (.prm .dgt (.nz a1 (.nz b1 .kz))) E).e:=Va (pos:=p) hu pas.1 pas.2.1 (IP J.1);exact Snd.of pe (HB pe λ_=>rfl) (λ_ _ _ z=>by cases z) rfl
  |plc=>let#[v,n,ap,rfl,W]:=HR h0.2;have J:=jA W;cases Qi J.1;have M:=jA J.2;have O:=jA M.2;have pas:=(ih ok O.2 Y.2).pas _ ap rfl;let#[a1,rfl]:=XF as h0.1 O.2;have pe:PE X (.Attribute v "place" ap) (wp X.K G.ev (.prm .plc (.nz a1 .kz)) E).e:=KC (Ui (pos:=ap) pas.1 (O5 M.1)) λB H Q q=>q;exact Snd.of pe (HB pe λ_=>rfl) (λ_ _ _ z=>by cases z) rfl|isC =>
   let#[p,es,ks,pos,rfl,hg,W]:=EC h0.2;have J:=jA W;cases Q0.mp J.1;let#[a,b,rfl,M]:=xJ J.2;let#[g1,g2,g3]:=VC hg;have hg:Gl X "isinstance":=show X.env.scope.names.lookup ("isinstance":Str)=jy .globalImplicit by rw[ok.sc];exact g1
   have pa:=(ih ok M Y.2).pa _ pos rfl;have st:=rB as M;let#[a1,b1,rfl]:=xH as h0.1 M;have pe:PE X (.Call (.Name "isinstance" p) [a,b] [] pos) (wp X.K G.ev (.prm .isC (.nz a1 (.nz b1 .kz))) E).e :=
    KC (zJ (pos:=pos) (p:=p) jT hg (ok.no _ Y.1) (by kernel_rfl) pa g3 g2 (bA _ (jA st).1) (JC (jA st).2)) λB H Q q=>q
   exact Snd.of pe (HB pe λ_=>rfl) (λ_ _ _ z=>by cases z) rfl
  |isT x m =>
   let#[p,es,ks,pos,rfl,hg,W]:=EC h0.2;have J:=jA W;cases Q0.mp J.1;let#[a,b,rfl,M]:=xJ J.2;have O:=jA M;have h5:=jA O.2;let#[y,yp,rfl,h6]:=GA h5.1;have h7:=jA h6;cases Qi h7.1;let#[g1,g2,g3]:=VC hg;have hg:Gl X "isinstance":=show X.env.scope.names.lookup ("isinstance":Str)=jy .globalImplicit by rw[ok.sc];exact g1
   have pas:=(ih ok h5.2 Y.2).pas _ pos rfl;have st:=rB as h5.2;let#[a1,rfl]:=XF as h0.1 h5.2;have pt:PE X (.Name x yp) (tC (.ty m)):=by
    let#[t1,t2,t3]:=VC h7.2;have hg:Gl X x:=show X.env.scope.names.lookup x=jy .globalImplicit by rw[ok.sc];exact t1
    exact λ_ _ _ H _ I h=>AF I hg (ok.no _ Y.1.2.1) Y.1.2.2 #[.ty m,H,I,rfl,h] t3 t2
   have pe:PE X (.Call (.Name "isinstance" p) [a,.Name x yp] [] pos) (wp X.K G.ev (.prm (.isT x m) (.nz a1 .kz)) E).e :=
    KC (zJ (pos:=pos) (p:=p) jT hg (ok.no _ Y.1.1) (by kernel_rfl) (mD pas.1 (mD pt kK (bA _ O.1)) (bA _ (jA st).1)) g3 g2 (bA _ (jA st).1) (JC (by rw[Q8,O.1];rfl))) λB H Q q=>q
   exact Snd.of pe (HB pe λ_=>rfl) (λ_ _ _ z=>by cases z) rfl
  |tmul=>let#[l,o,r,pos,rfl,W]:=OW h0.2;have J:=jA W;cases Qi J.1;have pas:=(ih ok J.2 Y.2).pas _ pos rfl;let#[a1,b1,rfl]:=xH as h0.1 J.2;have pe:PE X (.BinOp l .Mult r pos) (wp X.K G.ev (.prm .tmul (.nz a1 (.nz b1 .kz))) E).e:=Ed Na pas.1 pas.2.1;exact Snd.of pe (HB pe λ_=>rfl) (λ_ _ _ z=>by cases z) rfl
 |isi a c L ihc =>
  intro X S E ok e h Y;let#[p,es,ks,pos,rfl,hg,h]:=EC h;have W:=jA h;cases Q0.mp W.1;let#[l,r,rfl,J]:=xJ W.2;have M:=jA J;have O:=jA M.2;have h5:=jA O.2;let#[g1,g2,g3]:=VC hg;have hg:Gl X "isinstance":=show X.env.scope.names.lookup ("isinstance":Str)=jy .globalImplicit by rw[ok.sc];exact g1
  have pe:PE X (.Call (.Name "isinstance" p) [l,r] [] pos) (wp X.K G.ev (.isi a c) E).e :=
   zJ (pos:=pos) (p:=p) yT hg (ok.no _ Y.1) (by kernel_rfl) (mD (L ok h5.1 Y.2.1).pe (mD (ihc ok h5.2 Y.2.2).pe kK (bA _ O.1)) (bA _ M.1)) g3 g2 (bA _ M.1) (JC (by rw[Q8,O.1];rfl))
  exact Snd.of pe (HB pe λ_=>rfl) (λ_ _ _ z=>by cases z) rfl
 |mt m o as iho ih =>
  intro X S E ok e h Y;let#[v,ap,es,pos,rfl,J,h]:=UQ h;have h0:=jA h;have W:=jA h0.2;have M:=jA W.2;have O:=jA M.2;have po:=(iho ok O.1 Y.1).pe;have pa:=(ih ok O.2 Y.2).pa _ pos rfl;have st:=rB as O.2;let#[id,pat,sl,ty,mr]:=Uo (X:=X) m;have pe:PE X (.Call (.Attribute v m.nm ap) es [] pos) (wp X.K G.ev (.mt m o as) E).e:=by
   cases es with
   |nil =>
    refine KC (Hi (apos:=ap) (cpos:=pos) pat sl ty mr po (O5 W.1) J) λB H Q q=>?_;have e:(λ(x:V) (Z:Hp)=>SZ X.K m.ty x Z/\Lb X.K m x [] Z Q)=λ(x:V) (Z:Hp)=>SZ X.K m.ty x Z/\(wp X.K G.ev as E).a B Z λvs H2=>Lb X.K m x vs H2 Q:=by funext x Z;rw[eI (mT as h0.1 O.2)]
    show(wp X.K G.ev o E).e B H (λ(x:V) (Z:Hp)=>SZ X.K m.ty x Z/\Lb X.K m x [] Z Q);rw[e];exact q
   |cons e1 es1=>have s2:=jA st;refine Nn (apos:=ap) (cpos:=pos) pat sl ty mr po pa (O5 W.1) ?_ J (bA _ s2.1) (JC s2.2);rw[XJ st];have hl':(e1::es1).length<20:=ei M.1;show(jb&&jb&&decide ((e1::es1).length+0+0<30))=jb;rw[dT (Qh hl' (by decide:20<=30):(e1::es1).length+0+0<30)];rfl
  exact Snd.of pe (HB pe λ_=>rfl) (λ_ _ _ z=>by cases z) rfl
 |slc a lo hi L ihl ihh =>
  intro X S E ok e h Y;let#[v,sl,pos,rfl,h]:=RE h;let#[l,u,st,p2,rfl,h]:=VY h;have W:=jA h;have J:=jA W.2;have M:=jA J.2;have part:∀(q:PX) (w:Option Expr),(∀{e:Expr},ZB q S e=jb->PE X e (wp X.K G.ev q E).e)->cr w (isNop q) (λe=>!isNop q&&ZB q S e)=jb ->
    PO X w (λB H R=>(if isNop q=jb then λ(R:Option Int->Hp->Prop)=>R jz H else λR=>(wp X.K G.ev q E).e B H λl H2=>gM l H2 R) R):=by
   intro q w ihq hq;cases w with
   |none=>have e:isNop q=true:=hq;simp only[e,if_true];exact xa|some e' =>
    have q1:=jA hq;have e:isNop q=false:=(wu _).mp q1.1;simp only[e,Qp,if_false];intro P s B H Q I w;refine ya (ihq q1.2) P s B H Q I ?_;show(wp X.K G.ev q E).e B H (λ(x:V) (Z:Hp)=>∃i,x=.int i/\Q (jy i) Z);have e2:(λ(x:V) (Z:Hp)=>∃i,x=.int i/\Q (jy i) Z)=λ(x:V) (Z:Hp)=>gM x Z Q:=by funext x Z;exact(R4 x Z Q).symm
    rw[e2];exact w
  cases Option.isNone_iff_eq_none.mp W.1;exact Snd.lit (K4 (pos:=pos) (p2:=p2) Mh (L ok J.1 Y.1).pe (part lo l (λhc=>(ihl ok hc Y.2.1).pe) M.1) (part hi u (λhc=>(ihh ok hc Y.2.2).pe) M.2)) rfl (λ_ _ _ z=>by cases z) rfl
 |comp mask tgs tg ik its cond elt ihi ihc ihe =>
  intro X S E ok e h Y;let#[e,gens,scope,pos,rfl,h]:=lQ h;let#[#[t,it,ifs,asy],rfl,h]:=lB h;have h0:=jA h;have W:=jA h0.2;have J:=jA W.2;have M:=jA J.2;have O:=jA M.2;have h5:=jA O.2;have ea:asy=0:=Qi h0.1;cases ea;have C:CompSt X.N X.env.scope scope tgs mask:=by rw[ok.N,ok.sc];exact CS W.1
  let#[n1,n2,n3,n4]:=Y;have pi:PI X t it (IT λB H R=>(wp X.K G.ev its E).a B H λvs Z=>JB X.K ik vs Z R):=eU ok O.1 n1 λes p q=>ihi ok q n2;refine Snd.lit (Xa (pos:=pos) (g:=EG X.K tg) (tc:=if isNop cond=jb then λ_ H Q=>Q jb H else(wp X.K G.ev cond (λ_ _ _=>False)).t) (te:=(wp X.K G.ev elt (λ_ _ _=>False)).e) ok.calm pi C (λs H ex=>?_) (λx=>LU M.1 x)) rfl (λ_ _ _ z=>by cases z) rfl;have okc:=ok.comp scope tgs mask s H ex;refine#[i4 okc C.nd J.1,?_,(ihe okc h5.2 n4).pe];have hif:=h5.1;cases ifs with|nil=>have e:isNop cond=true:=hif;simp only[e,if_true];exact CW|cons c r=>have q1:=jA hif;have q2:=jA q1.2;cases Q0.mp q1.1;have e:isNop cond=false:=(wu _).mp q2.1;simp only[e,Qp,if_false];exact BW (ihc okc q2.2 n3).pt
end L2.L3
namespace L2.L3
open PySem PySem.Spec PyProof.Rows
set_option genSizeOf false in
set_option genInjectivity false in
inductive PT where
 |nil|seq (s r:PT)
 |set (i:Nat) (e:PX)
 |expr (e:PX)|ret (e:PX)
 |ife (c:PX) (a b:PT)
 |for_ (tg:Tg) (ik:ItK) (its:PX) (body:PT)
 |own (i:Nat) (e:PX)|rse (x:Str) (m:Option Nat) (e:PX)|tryC (i:Option Nat) (f:Str) (as:PX) (x:Str) (j k:Nat)|setL (i j:Nat) (e:PX)|dpx (i:Nat) (ks:LS) (as:PX) (k:Str) (e:PX) (r:PT)|six (j:Nat) (i e:PX)|pap (j:Nat) (k e:PX)|frz (is:LN) (s:PT)
noncomputable def E4(j:Nat)(k e:PX):PX:=.mt .append (.idx (.vx j) k) %[e|1]
def Ht(J:It)(g:TG)(a:TS)(D:Ends)(σ:St)(e:Hp):Prop:=∃W:Nat->Nat->St->Hp->Prop,(∃m,W 0 m σ e)/\∀i m σ H,W i m σ H ->
 (J.stop i H/\D.nx σ H)∨(J.go i H/\∃N:St->Hp->Prop,(∀h y,N h y->∃u,u < m/\W (i+1) u h y)/\∀x y,J.yld i H x y->g x σ y λz b=>a { D with nx:=N,ct:=N,bk:=D.nx } z b)
def Xl(K:QC)(xs:List Item)(st:Hp->Prop)(h:Tg)(x:TS)(D:Ends)(σ:St)(H:Hp):Prop:=∀J,Yields J xs st->Ht J (EG K h) x D σ H
def Ts(m:Option Nat)(σ:St):Prop:=match m with
 |none=>True|some j=>∃p,σ[j]?=jy (jy (.int p))/\p.natAbs.log2<1920
noncomputable def setO(i:Option Nat)(v:V)(σ:St):St:=match i with
 |none=>σ|some i=>σ.set i (jy v)
noncomputable def JP(K:QC)(Γ:Ev)(E:XK):PT->TS
 | .nil=>λD h H=>D.nx h H|.dpx i I Y k e r=>λD h H=>(wp K Γ (.dsp I Y) E).e h H λv z=>(wp K Γ e E).e (h.set i (jy v)) z λw u=>(wp K Γ (.vx i) E).e (h.set i (jy v)) u λo W=>(wp K Γ (.str k) E).e (h.set i (jy v)) W λy Z=>∃a A,o=.ref a/\oR Z a y w A/\JP K Γ E r D (h.set i (jy v)) A|.seq s r=>λD h H=>JP K Γ E s { D with nx:=λh H=>JP K Γ E r D h H } h H|.set i e=>λD h H=>(wp K Γ e E).e h H λx z=>D.nx (h.set i (jy x)) z|.own i e=>λD h H=>(wp K Γ e E).e h H λx z=>D.nx (h.set i (jy x)) z|.setL i j e=>λD h H=>(wp K Γ e E).e h H λv z=>bindL K [i,j] v h z λq u=>D.nx q u|.expr e=>λD h H=>(wp K Γ e E).e h H λ_ z=>D.nx h z|.ret e=>λD h H=>(wp K Γ e E).e h H D.rt|.ife c a b=>λD h H=>(wp K Γ c E).t h H λk z=>if k=jb then JP K Γ E a D h z else JP K Γ E b D h z|.for_ F L X l=>λD h H=>(wp K Γ X E).a h H λvs z=>JB K L vs z λB st u=>Xl K B st F (JP K Γ E l) D h u|.rse x m e=>λD h H=>Ts m h/\∃C nm,Γ.va x=.ref C/\ExC K C nm/\(wp K Γ e E).e h H λv z=>∃p,v=.int p/\∀g n,z g=jz->z n=jz->n≠g->E .none (jy g) (VA (VA z n (.xd (EH p))) g (.ext (LG C g n)))|.tryC i f Y x j k=>λD h H=>(∃C,Γ.va x=.ref C/\ExC K C "WorldError")/\(wp K Γ Y (λ_ _ _=>False)).a h H λvs z=>Γ.sp f vs z (λv u=>D.nx (setO i v h) u) λ_ a u=>∃e,a=jy e/\D.nx ((h.set j (jy (.ref e))).set k jz) u|.frz _ s=>JP K Γ E s|.six j i e=>λD h H=>(wp K Γ e E).e h H λv z=>(wp K Γ (.vx j) E).e h z λG u=>(wp K Γ i E).e h u λJ W=>XW G J v W λZ=>D.nx h Z|.pap j k e=>λD h H=>(wp K Γ (E4 j k e) E).e h H λ_ z=>D.nx h z
noncomputable def OF(G:Glob):PT->Prop
 | .nil=>True|.rse x _ e=>G.val x/\G.no "raise"/\MA G e|.tryC _ f z x _ _=>G.fn f/\MA G z/\G.val x|.frz _ s=>OF G s|.six _ i e=>MA G i/\MA G e|.pap j k e=>MA G (E4 j k e)|.seq s r=>OF G s/\OF G r|.dpx _ _ z _ e r=>MA G z/\MA G e/\OF G r|.set _ e=>MA G e|.own _ e=>MA G e|.expr e=>MA G e|.setL _ _ e=>MA G e|.ret e=>MA G e|.ife c a b=>MA G c/\OF G a/\OF G b|.for_ _ u y h=>lr G u/\MA G y/\OF G h
noncomputable def bF(e:Expr):Bool:=decide (e.ctorIdx<8)||decide (10<e.ctorIdx)
noncomputable def FP(S:SC)(i:Nat)(x:Str):Bool:=S.N[i]?==jy x&&(S.sc.names.lookup x==jy .local||S.sc.names.lookup x==jy .cell)
noncomputable def A6:PT->Bool
 | .nil=>js|.seq _ _=>js|.dpx _ _ _ _ _ _=>js|.frz _ s=>A6 s|_=>jb
noncomputable def HK(s:vl)(f:List Expr->Expr->Bool):Bool:=if k:s.ctorIdx=5 then @QDA (λ_=>Bool) s k λh v _=>f h v else js
noncomputable def X5(s:vl)(f:Expr->Bool):Bool:=if k:s.ctorIdx=24 then @Stmt.Expr.elim (λ_=>Bool) s k λv _=>f v else js
noncomputable def i5(s:vl)(f:Option Expr->Bool):Bool:=if k:s.ctorIdx=3 then @QDB (λ_=>Bool) s k λv _=>f v else js
noncomputable def K5(s:vl)(f:Expr->List vl->List vl->Bool):Bool:=if k:s.ctorIdx=12 then @Stmt.If.elim (λ_=>Bool) s k λt x y _=>f t x y else js
noncomputable def V5(s:vl)(f:Expr->Expr->List vl->List vl->Pos->Bool):Bool:=if k:s.ctorIdx=9 then @Stmt.For.elim (λ_=>Bool) s k λt it x y p=>f t it x y p else js
noncomputable def t5(s:vl)(f:Expr->Bool):Bool:=if k:s.ctorIdx=16 then @QDV (λ_=>Bool) s k λa b _=>(match a with|some e=>b.isNone&&f e|none=>js) else js
noncomputable def l5(s:vl)(f:List vl->List Yy->Bool):Bool:=if k:s.ctorIdx=17 then @Stmt.Try.elim (λ_=>Bool) s k λb h o n _=>o.isEmpty&&(n.isEmpty&&f b h) else js
noncomputable def ve(h:Yy)(f:Expr->Str->List vl->Bool):Bool:=match h with | .ExceptHandler (jy t) (jy n) b _=>f t n b|_=>js
noncomputable def HW(e:Expr)(f:Expr->Bool):Bool:=if k:e.ctorIdx=17 then @QA5 (λ_=>Bool) e k λv c s _=>c==-1&&(s.isNone&&f v) else js
noncomputable def YU(e:Expr)(f:Expr->Expr->Expr->Bool):Bool:=if k:e.ctorIdx=18 then @QBz (λ_=>Bool) e k λvs _=>Gu vs λa m b=>HW m λv=>f a v b else js
theorem gH{s:vl}{f:List Expr->Expr->Bool}(h:HK s f=jb):∃ts v p,s=.Assign ts v p/\f ts v=jb :=
 let#[k,_]:=IA h
 @QDA (λs=>HK s f=jb->∃ts v p,s=.Assign ts v p/\f ts v=jb) s k (λts v p h=>#[ts,v,p,rfl,h]) h
theorem ZU{s:vl}{f:Expr->Bool}(h:X5 s f=jb):∃v p,s=.Expr v p/\f v=jb :=
 let#[k,_]:=IA h
 @Stmt.Expr.elim (λs=>X5 s f=jb->∃v p,s=.Expr v p/\f v=jb) s k (λv p h=>#[v,p,rfl,h]) h
theorem Ia{s:vl}{f:Option Expr->Bool}(h:i5 s f=jb):∃v p,s=.Return v p/\f v=jb :=
 let#[k,_]:=IA h
 @QDB (λs=>i5 s f=jb->∃v p,s=.Return v p/\f v=jb) s k (λv p h=>#[v,p,rfl,h]) h
theorem yb{s:vl}{f:Expr->List vl->List vl->Bool}(h:K5 s f=jb):∃t x y p,s=.If t x y p/\f t x y=jb :=
 let#[k,_]:=IA h
 @Stmt.If.elim (λs=>K5 s f=jb->∃t x y p,s=.If t x y p/\f t x y=jb) s k (λt x y p h=>#[t,x,y,p,rfl,h]) h
theorem ub{s:vl}{f:Expr->Expr->List vl->List vl->Pos->Bool}(h:V5 s f=jb):∃t it x y p,s=.For t it x y p/\f t it x y p=jb :=
 let#[k,_]:=IA h
 @Stmt.For.elim (λs=>V5 s f=jb->∃t it x y p,s=.For t it x y p/\f t it x y p=jb) s k (λt it x y p h=>#[t,it,x,y,p,rfl,h]) h
theorem Ea{s:vl}{f:Expr->Bool}(h:t5 s f=jb):∃e p,s=.Raise (jy e) jz p/\f e=jb :=
 let#[k,_]:=IA h
 @QDV (λs=>t5 s f=jb->∃e p,s=.Raise (jy e) jz p/\f e=jb) s k (λa b p h=>match a,b,h with
  |some e,jz,h=>#[e,p,rfl,h]) h
theorem Aa{s:vl}{f:List vl->List Yy->Bool}(h:l5 s f=jb):∃b x p,s=.Try b x [] [] p/\f b x=jb :=
 let#[k,_]:=IA h
 @Stmt.Try.elim (λs=>l5 s f=jb->∃b x p,s=.Try b x [] [] p/\f b x=jb) s k (λb x o n p h=>match o,n,h with
  |[],[],h=>#[b,x,p,rfl,h]) h
theorem xb{s:Yy}{f:Expr->Str->List vl->Bool}(h:ve s f=jb):∃t n b p,s=.ExceptHandler (jy t) (jy n) b p/\f t n b=true:=by
 cases s with
 |ExceptHandler t n b p =>
  cases t with
  |none=>exact(QD h).elim|some t=>cases n with|none=>exact(QD h).elim|some n=>exact#[t,n,b,p,rfl,h]
theorem Y5{e:Expr}{f:Expr->Expr->Expr->Bool}(h:YU e f=jb):∃a v b x p,e=.JoinedStr [a,.FormattedValue v (-1) jz x,b] p/\f a v b=true:=by
 let#[k,_]:=IA h;refine @QBz (λe=>YU e f=jb->∃a v b x p,e=.JoinedStr [a,.FormattedValue v (-1) jz x,b] p/\f a v b=jb) e k (λvs p h=>?_) h;let#[a,m,b,rfl,h]:=ko (l:=vs) (f:=λa m b=>HW m λv=>f a v b) h;have h:HW m (λv=>f a v b)=true:=h;let#[k,_]:=IA h;refine @QA5 (λm=>HW m (λv=>f a v b)=jb->∃g v u x i,Expr.JoinedStr [a,m,b] p=.JoinedStr [g,.FormattedValue v (-1) jz x,u] i/\f g v u=jb) m k (λv c s x h=>?_) h;have z:=jA h;have y:=jA z.2;cases s with|none=>exact#[a,v,b,x,p,by rw[Qi z.1],y.2]|some _=>exact(QD y.1).elim
noncomputable def t9(e:Expr):Bool:=SE e λc=>Xc c λz=>decide (z.length<=1000)
theorem bU{e:Expr}(h:t9 e=jb):∃z k p,e=.Constant (.str z) k p/\z.length<=1000:=by let#[c,k,p,rfl,y]:=lE h;let#[z,rfl,x]:=RV y;exact#[z,k,p,rfl,ei x]
noncomputable def As(S:SC)(m:Option Nat)(e:Expr):Bool:=match m with
 |none=>t9 e|some j=>YU e λa v b=>t9 a&&(t9 b&&iB v λy _=>O0 S j y)
noncomputable def Le(S:SC)(f:Str)(z:PX)(e:Expr):Bool:=SG S f e λy h p=>h.isEmpty&&AZ y λx t=>sB x&&ZB z S (.List (x::t) p)
noncomputable def Bt(S:SC)(x:Str)(j k:Nat)(h:Yy):Bool:=ve h λt n b=>iB t λy _=>x==y&&(pJ S y&&(BQ S k n&&(O0 S k n&&(j != k&&uJ b λst=>HK st λa v=>uJ a λg=>iB g λz _=>BQ S j z&&iB v λu _=>u==n))))
noncomputable def setB(S:SC)(i:Nat)(c:Expr->Bool)(l:List vl):Bool:=uJ l λst=>HK st λh v=>uJ h λt=>iB t λx _=>FP S i x&&((bF v||S.sc.names.lookup x==jy .cell)&&c v)
noncomputable def E6:PX->Bool
 | .comp _ _ _ _ _ _ _=>jb|_=>js
noncomputable def Sq:PX->PX
 | .eff a=>a|a=>a
noncomputable def iW(S:SC)(i:Nat)(e:PX)(l:List vl):Bool:=uJ l λst=>HK st λy v=>uJ y λt=>iB t λx z=>J5 v λa u sc h=>BQ S i x&&(S.sc.kind==.function&&(z.line==h.line&&(!(sc.names.any λ(n,k)=>n==x&&(k==.local||k==.cell))&&(E6 (Sq e)&&ZB (Sq e) S (.ListComp a u sc h)))))
noncomputable def Zp(v:Expr):Bool:=(GH v λ_ _ _=>jb)||(xK v λ_ _ _ _=>jb)
noncomputable def RQ:PT->SC->List vl->Bool
 | .nil,_,l=>l.isEmpty|.dpx i X as k e r,S,l=>AZ l λn l=>AZ l λh l=>setB S i (ZB (.dsp X as) S) [n]&&(HK h (λz v=>uJ z λt=>GH t λq u _=>bF v&&(ZB e S v&&(ZB (.vx i) S q&&ZB (.str k) S u)))&&RQ r S l)|.seq s r,S,l=>AZ l λst l=>A6 s&&(RQ s S [st]&&RQ r S l)|.set i e,S,l=>setB S i (ZB e S) l||iW S i e l
 | .own i e,S,l=>setB S i (ZB e S) l||iW S i e l
 | .setL i j e,S,l=>uJ l λst=>HK st λz v=>uJ z λt=>GM t&&(am S (.tp [i,j]) t&&(Zp v&&ZB e S v))|.expr e,S,l=>uJ l λst=>X5 st λv=>bF v&&ZB e S v|.ret e,S,l=>uJ l λst=>i5 st λv=>cr v js (ZB e S)|.ife c a b,S,l=>uJ l λst=>K5 st λt x y=>ZB c S t&&(RQ a S x&&RQ b S y)|.for_ tg ik its body,S,l=>uJ l λst=>V5 st λt it x y o=>y.isEmpty&&(am S tg t&&(tO it&&(gt (BC its) S ik (λY p=>ZB its S (.List Y p)) t it o&&RQ body S x)))|.six j i e,S,l=>uJ l λst=>HK st λz v=>uJ z λt=>GH t λq u _=>lH u&&(bF v&&(ZB e S v&&(ZB (.vx j) S q&&ZB i S u)))|.pap j k e,S,l=>uJ l λst=>X5 st λv=>bF v&&ZB (E4 j k e) S v|.frz _ s,S,l=>RQ s S l|.rse x m e,S,l=>uJ l λst=>t5 st λW=>xK W λg Y X _=>iB g λy _=>x==y&&(pJ S y&&(X.isEmpty&&gb Y λa b=>As S m a&&(sB a&&(sB b&&ZB e S b))))|.tryC i f as x j k,S,l=>uJ l λst=>l5 st λb Z=>uJ Z (Bt S x j k)&&uJ b λh=>match i with
  |none=>X5 h λv=>Le S f as v|some _=>js
structure OkS(X:Cx)(S:SC)(G:Glob)(E:XK):Prop extends OkX X S G E where
 po:cz (Ky X.prog X.w) X.A X.env X.xe
 nd:X.N.Nodup
 cel:∀x,X.fn x=jb
 rs:jW X (wOf X.K) (iOf X.K) E
 er:G.no "raise"->∃k fd,FnOk X.prog X.w X.K X.mg X.base A8 k (iOf X.K) fd ["self","words","place"] (dO X.K (wOf X.K) (iOf X.K))/\Room (k+1) X.A/\KE X.K fd ["self","words","place"] []
 cx:∀f,G.fn f->∃(k:Nat) (a:j2) (fd:vy) (ps:LS),FnOk X.prog X.w X.K X.mg X.base (vd X.prog X.w X.K (wOf X.K) (iOf X.K)) k a fd ps (G.ev.sp f)/\Room k X.A/\X.mg f=jy (.ref a)/\qe X.K (.ref a)=jb/\KE X.K fd ps []
 st:X.stack=X.env::X.outer
 fr:X.env.frame=jy X.env.locals
section
variable{X:Cx}{S:SC}{G:Glob}{E:XK}
theorem yI{e:Expr}{t:Option Expr}{n:Nat}{env:Env}(h:bF e=jb):gx e t n env=ez false:=by cases e<;>first|rfl|cases h
theorem cY{i:Nat}{x:Str}(ok:OkX X S G E)(h:FP S i x=jb):X.N[i]?=jy x/\Dq X.env.scope x:=by simp only[FP,QX,qk,beq_iff_eq]at h;rw[ok.N,ok.sc];exact#[h.1,h.2]
theorem aY(ok:OkS X S G E){i:Nat}{x:Str}{e:PX}{v:Expr}{a pos:Pos}(l:FP S i x=jb)(f:(bF v||S.sc.names.lookup x==jy .cell)=jb)(pe:PE X v (wp X.K G.ev e E).e) :
  PS X (.Assign [.Name x a] v pos) (JP X.K G.ev E (.set i e)):=by
 let#[n,m]:=cY ok.toOkX l;refine R3 (pos':=a) ok.nd n m pe ?_ (.inl (ok.cel x));cases u:bF v with
 |true=>exact yI u|false =>
  rw[u,QBA,beq_iff_eq,<- ok.sc]at f;have hk:X.env.kindOf x=jy .cell:=f;have h:∀(b c:Bool) (z y:Nat),(ez (b&&X.env.kindOf x==jy .local&&z==y&&!c):Sem Bool)=ez false:=λb c z y=>by
   rw[hk];have:(b&&(jy NameKind.cell==jy NameKind.local)&&z==y&&!c)=false:=by cases b<;>rfl
   rw[this]
  cases v with|ListComp o g sc j=>exact h _ _ _ _|SetComp o g sc j=>exact h _ _ _ _|DictComp k v g sc j=>exact h _ _ _ _|_=>cases u
theorem yc{e:PX}(h:E6 e=jb):∃a b c d f g k,e=.comp a b c d f g k:=by
 cases e with|comp a b c d f g k=>exact#[a,b,c,d,f,g,k,rfl]|_=>exact(QD h).elim
theorem oi(ok:OkS X S G E){i:Nat}{e:PX}{l:List vl}(h:iW S i e l=jb)(m:MA G e):∃st,l=[st]/\PS X st (JP X.K G.ev E (.set i e)):=by
 have m:MA G (Sq e):=by cases e<;>exact m
 have ew:JP X.K G.ev E (.set i e)=JP X.K G.ev E (.set i (Sq e)):=by cases e<;>rfl
 rw[ew];let#[st,e1,q1]:=lB h;let#[ts,v,p,e2,q2]:=gH q1;let#[t,e3,q3]:=lB q2;let#[x,px,e4,q4]:=GA q3;let#[el,gs,sc,cp,e5,q5]:=lQ q4;subst e1 e2 e3 e4 e5;have O:=jA q5;have M:=jA O.2;have L:=jA M.2;have J:=jA L.2;have W:=jA J.2;let#[z,a,tg,ik,Y,y,j,A]:=yc W.1;rw[A]at m W ⊢;refine#[_,rfl,?_];have h6:=W.2;let#[el',P,o,pos,A,g]:=lQ h6;cases A;let#[#[t,it,Z,B],rfl,g]:=lB g;have g0:=jA g;have g1:=jA g0.2;have g2:=jA g1.2;have g3:=jA g2.2;have g4:=jA g3.2;have R:=jA g4.2;have ea:B=0:=Qi g0.1;cases ea;have C:CompSt X.N X.env.scope sc a z:=by rw[ok.N,ok.sc];exact CS g1.1
 let#[n1,n2,n3,n4]:=m;let#[l1,l2]:=fJ O.1;have b:X.env.scope.names.lookup x=jy .local:=by rw[ok.sc];exact l2
 refine R9 (g:=EG X.K tg) (tc:=if isNop y=jb then λ_ H Q=>Q jb H else(wp X.K G.ev y (λ_ _ _=>False)).t) (te:=(wp X.K G.ev j (λ_ _ _=>False)).e) ok.calm ok.nd (by rw[ok.N];exact l1) b (eU ok.toOkX (pos:=cp) g4.1 n1 λes p q=>snd Y ok.toOkX q n2) C (λs H ex=>?_) (λx=>LU g3.1 x) ?_;have u:=ok.toOkX.comp sc a z s H ex;refine#[i4 u C.nd g2.1,?_,(snd j u R.2 n4).pe];have f:=R.1;cases Z with|nil=>have e:isNop y=true:=f;simp only[e,if_true];exact CW|cons c r=>have I:=jA f;have F:=jA I.2;cases Q0.mp I.1;have e:isNop y=false:=(wu _).mp F.1;simp only[e,Qp,if_false];exact BW (snd y u F.2 n3).pt
 have k1:X.env.scope.kind=.function:=by rw[ok.sc];exact Qi M.1
 have k2:(X.env.blockKind==.function)=true:=by simp[Env.blockKind,k1,ScopeKind.isAnnotationScope]
 have k3:(X.env.kindOf x==jy .local)=true:=by show(X.env.scope.names.lookup x==jy .local)=jb;rw[b];rfl
 show(ez (X.env.blockKind==.function&&X.env.kindOf x==jy .local&&px.line==cp.line&&!(sc.names.any λ(n,k)=>n==x&&(k==.local||k==.cell))):Sem Bool)=ez jb;rw[k2,k3,L.1,J.1];rfl
theorem OkX.mute(ok:OkX X S G E)(E':NB):OkX (X.wish E') S G (λ_ _ _=>False) where
 N:=ok.N
 sc:=ok.sc
 calm:=ok.calm
 un:=ok.un
 fn:=λf h=>by let#[l,k,a,j,y,i,g,e,b,u,m,x]:=ok.fn f h;exact#[l,k,a,j,y,i,g,e,b,u,λ_ _ _ _ _ _ _ z=>(x _ _ _ _ _ z).elim,x]
 val:=ok.val
 no:=ok.no
 dic:=ok.dic
theorem gc(ok:OkS X S G E){f:Str}{l:PX}{v:Expr}{x:FB}{σ:St}{H:Hp}{s:j3}{Q:VK}{EK:XK}{E':NB}(h:Le S f l v=jb)(J:G.fn f)(L:MA G l)(I:Inv X x σ H s)
  (P:∀z g u s',Inv X x σ z g->vd X.prog X.w X.K (wOf X.K) (iOf X.K) X.stack z g EK u s'->E' u s') (q:(wp X.K G.ev l (λ_ _ _=>False)).a σ H λvs z=>G.ev.sp f vs z Q EK) :
  Kx (Ky X.prog X.w) X.A (vu v X.env) (EP X x σ Q) E' s:=by
 let#[p,es,ks,j,rfl,n,h1]:=EC h;have Z:=jA h1;cases Q0.mp Z.1;let#[e1,es1,rfl,R]:=YG Z.2;have Y:=jA R;let#[g1,g2,g3]:=VC n;have n:Gl X f:=show X.env.scope.names.lookup f=jy .globalImplicit by rw[ok.sc];exact g1
 let#[k,a,fd,B,F,M,N,hk,O]:=ok.cx f J;have C:=(snd l (ok.toOkX.mute E') Y.2 L).pa _ j rfl;have st:=jA (rB l Y.2);refine wG (gJ I n N ?_ g2);refine QAg (h₀:=X.base) I.ok.mod.kin hk (EA (C j x s σ H _ (I.wish E') q) λm g #[vs,z,i,r,o]=>?_) (bA _ st.1) (JC st.2);have i:Inv X x σ z g:=i.unwish;refine#[i.kIn,QAx (WG (F.run X.A X.stack g z #[m,[]] m vs Q EK M i.env0 ?_ r o) λW s' y=>?_)];have hl:(m++[]).length=B.length:=by rw[Qd,<- r.length];exact F.len _ _ _ _ o
 have b:=O g m i.kIn hl;rw[Qd]at b;exact b;cases W with
 |error e=>exact P z g e s' i y|ok fl =>
  cases fl with|ret u=>exact i.after y|next=>exact QT y|brk=>exact QT y|cont=>exact QT y
theorem Nc{y x:Expr}{z:Pos}{env:Env}(h:lH x=jb)(u:j0):Gz (.Subscript y x z) env u=(do
     let y <- gV [u] (vu y env)
     let x <- gV [u,y] (vu x env)
     Ex z
     gV [u,y,x] (c6 y x u)
     release [u,y,x] []):=by
 cases x<;>first|rfl|exact(QD h).elim
theorem Js{t a b:Expr}{p:Pos}{env:Env}:z4 [t] (.Subscript a b p) env=ez none:=by cases t<;>rfl
theorem Ys{t a:Expr}{h:List Expr}{ks:List zz}{p:Pos}{env:Env}:z4 [t] (.Call a h ks p) env=ez none:=by cases t<;>rfl
theorem Ir{a b v:Expr}{p:Pos}{env:Env}:z4 [.Subscript a b p] v env=ez none:=by cases v<;>rfl
noncomputable abbrev Su(X:Cx)(G:Glob)(E:XK)(p:PT)(l:List vl):Prop:=OZ X l (JP X.K G.ev E p)/\(A6 p=jb->∀st,l=[st]->PS X st (JP X.K G.ev E p))
theorem Vs:∀(p:PT) {l:List vl},OkS X S G E->RQ p S l=jb->OF G p->Su X G E p l:=by
 intro p;have one:∀{p:PT}{st:vl},PS X st (JP X.K G.ev E p)->Su X G E p [st]:=λh=>#[P9 h,λ_ st' e=>by cases e;exact h]
 have L:∀{i:Nat}{e:PX}{l:List vl},OkS X S G E->(setB S i (ZB e S) l||iW S i e l)=jb->MA G e->∃st,l=[st]/\PS X st (JP X.K G.ev E (.set i e)):=λ{i e l} ok h o=>by
  rcases(qk _ _).mp h with h|h
  rotate_left
  exact oi ok h o;let#[st,e1,O]:=lB h;let#[ts,v,p,e2,q2]:=gH O;let#[t,e3,q3]:=lB q2;let#[x,px,e4,q4]:=GA q3;subst e1 e2 e3 e4;have Z:=jA q4;have B:=jA Z.2;exact#[_,rfl,aY ok Z.1 B.1 (snd e ok.toOkX B.2 o).pe]
 induction p with
 |nil=>intro l ok h o;cases Q0.mp h;exact#[UW,λh=>(QD h).elim]|dpx i ks as k e r ihr=>intro l ok h o;let#[st1,l1,rfl,ha]:=YG h;let#[st2,l2,rfl,P]:=YG ha;have Z:=jA P;have B:=jA Z.2;let#[st,e1,q]:=L (e:=.dsp ks as) ok ((qk _ _).mpr (.inl Z.1)) o.1;cases e1;let#[ts,v,p,rfl,q2]:=gH B.1;let#[t,rfl,hc]:=lB q2;let#[ov,iv,pp,rfl,q4]:=RE hc;have F:=jA q4;have h4:=jA F.2;have h5:=jA h4.2;have pd:=S9 (pos:=p) (pos':=pp) (by have:=ok.un;omega) (snd (.vx i) ok.toOkX h5.1 trivial).pe (snd (.str k) ok.toOkX h5.2 trivial).pe (snd e ok.toOkX h4.1 o.2.1).pe (yI F.1);exact#[JG q (JG pd (ihr ok B.2 o.2.2).1),λh=>(QD h).elim]|seq s r ihs ihr=>intro l ok h o;let#[st,l,rfl,h]:=YG h;have Z:=jA h;have B:=jA Z.2;exact#[JG ((ihs ok B.1 o.1).2 Z.1 st rfl) (ihr ok B.2 o.2).1,λh=>(QD h).elim]|set i e=>intro l ok h o;let#[st,rfl,q]:=L ok h o;exact one q|own i e=>intro l ok h o;let#[st,rfl,q]:=L ok h o;exact one q|setL ii jj e =>
  intro l ok h o;let#[st,e1,O]:=lB h;let#[ts,v,p,e2,q2]:=gH O;let#[t,e3,h]:=lB q2;subst e1 e2 e3;have Z:=jA h;have B:=jA Z.2;have F:=jA B.2;have nc:bF v=jb/\∀env,z4 [t] v env=ez none:=by rcases(qk _ _).mp F.1 with z|z;let#[_,_,_,rfl,_]:=RE z;exact#[rfl,λenv=>Js];let#[_,_,_,_,rfl,_]:=vJ z;exact#[rfl,λenv=>Ys]
  refine one (A3 (snd e ok.toOkX F.2 o).pe (aa ok.toOkX ok.nd B.1) (yI nc.1) (nc.2 _) ?_);cases t<;>first|rfl|exact(QD Z.1).elim
 |expr e=>intro l ok h o;let#[st,rfl,h]:=lB h;let#[v,p,rfl,h]:=ZU h;have Z:=jA h;exact one (OP (snd e ok.toOkX Z.2 o).pe (yI Z.1))|ret e =>
  intro l ok h o;let#[st,rfl,h]:=lB h;let#[v,p,rfl,h]:=Ia h;cases v with|none=>exact(QD h).elim|some v=>exact one (ci (snd e ok.toOkX h o).pe)
 |ife c a b iha ihb=>intro l ok h o;let#[st,rfl,h]:=lB h;let#[t,x,y,p,rfl,h]:=yb h;have Z:=jA h;have B:=jA Z.2;exact one (Gn (snd c ok.toOkX Z.1 o.1).pt (iha ok B.1 o.2.1).1 (ihb ok B.2 o.2.2).1)|for_ tg ik its body ih=>intro l ok h o;let#[st,rfl,h]:=lB h;let#[t,it,x,y,p,rfl,h]:=ub h;have h0:=jA h;have Z:=jA h0.2;have B:=jA Z.2;have F:=jA B.2;cases Q0.mp h0.1;exact one (li ok.po ok.calm (eU ok.toOkX F.1 o.1 λes p q=>snd its ok.toOkX q o.2.1) (i4 ok.toOkX ok.nd Z.1) (ih ok F.2 o.2.2).1 λx=>LU B.1 x)|six j i e=>intro l ok h o;let#[st,e1,O]:=lB h;let#[ts,v,p,e2,q2]:=gH O;let#[t,e3,h]:=lB q2;subst e1 e2 e3;let#[ov,iv,pp,e4,q4]:=RE h;subst e4;have Z:=jA q4;have B:=jA Z.2;have F:=jA B.2;have h4:=jA F.2;refine one (A3 (snd e ok.toOkX F.1 o.2).pe (Vi (pos:=pp) (snd (.vx j) ok.toOkX h4.1 trivial).pe (snd i ok.toOkX h4.2 o.1).pe V2 ?_) ?_ ?_ ?_);exact Nc Z.1;show gx v (jy (.Subscript ov iv pp)) p.line X.env=ez js;exact yI B.1;exact Ir;rfl|pap j k e=>intro l ok h o;let#[st,rfl,h]:=lB h;let#[v,p,rfl,h]:=ZU h;have Z:=jA h;exact one (OP (snd (E4 j k e) ok.toOkX Z.2 o).pe (yI Z.1))|frz is s ih=>intro l ok h o;exact ih ok h o|rse x m e =>
  intro l ok h o;let#[st,rfl,h]:=lB h;let#[ex,p,rfl,h]:=Ea h;let#[g,es,ks,cp,rfl,h]:=vJ h;let#[y,np,rfl,h]:=GA h;have Z:=jA h;cases Qi Z.1;have B:=jA Z.2;have F:=jA B.2;cases Q0.mp F.1;let#[a,b,rfl,h4]:=xJ F.2;have h5:=jA h4;have h6:=jA h5.2;have h7:=jA h6.2;let#[u,hm,ru]:=ok.val x o.1;let#[kI,fd,FI,hr,P]:=ok.er o.2.1;let#[g1,g2,g3]:=VC B.1;have hg:Gl X x:=show X.env.scope.names.lookup x=jy .globalImplicit by rw[ok.sc];exact g1
  refine one λW s M H D I hq=>?_;let#[hmsg,C,nm,eC,Y,q]:=hq;rw[eC]at ru;obtain rfl:u=jx C:=ru;have pb:PE X b (λM H Q=>∃Qq:VK,(wp X.K G.ev e E).e M H Qq/\∀v J,Qq v J->Q v J):=λW s M H Q I #[Qq,h,k]=>EA ((snd e ok.toOkX h7.2 o.2.2).pe W s M H Qq I h) λu s1 #[x,J,I1,r,q]=>#[x,J,I1,r,k _ _ q]
  have fin:∀{tm:TE},PE X a tm->(∀Q:VK,(∀z,Q z H)->tm M H Q)->Kx (Ky X.prog X.w) X.A (exec (.Raise (jy (.Call (.Name x np) [a,b] [] cp)) jz p) X.env) (SP X W D) X.xe s:=λ{tm} pm hm'=>by
   refine ui (EK:=E) Y.ex ok.rs ok.calm (Gi (pos:=cp) (p:=np) Y.ex FI hr P hg hm (mD pm (mD pb kK (bA _ h7.1)) (bA _ h6.1)) g2 (bA _ h6.1) (JC (by rw[Q8,h7.1];rfl))) W s M H D I ?_;refine hm' _ λz=>#[_,q,λv J #[p,ev,k]=>#[z,p,by rw[ev],λe dx n1 n2 n3=>#[e,dx,rfl,vA,#[_,by rw[yA n3];exact vA],?_]]]
   rw[c9];exact k e dx n1 n2 n3
  cases m with|none=>let#[z,k1,p1,rfl,_]:=bU h5.1;exact fin fM λQ q=>q _|some jj=>let#[a1,v,b1,fp,jp,rfl,m1]:=Y5 h5.1;have m2:=jA m1;have m3:=jA m2.2;let#[z1,k1,p1,rfl,l1]:=bU m2.1;let#[z2,k2,p2,rfl,l2]:=bU m3.1;let#[y,yp,rfl,m4]:=GA m3.2;let#[v1,v2,v3,v4]:=VP m4;let#[p0,e0,l0]:=hmsg;exact fin (Fi (jK (by rw[ok.N];exact v1) (by rw[ok.sc];exact v2) v3 v4) l1 l2) λQ q=>#[p0,e0,l0,λz=>q _]
 |tryC i f as x jj kk =>
  intro l ok h o;let#[st,rfl,h]:=lB h;let#[b,hs,p,rfl,h]:=Aa h;have Z:=jA h;let#[hd,rfl,hh]:=lB Z.1;let#[st2,rfl,P]:=lB Z.2;let#[t,n,bb,hp,rfl,k1]:=xb hh;let#[y,np,rfl,k1]:=GA k1;have k2:=jA k1;cases Qi k2.1;have k3:=jA k2.2;have k4:=jA k3.2;have k5:=jA k4.2;have k6:=jA k5.2;let#[sb,rfl,k7]:=lB k6.2;let#[ts,v,ap,rfl,k8]:=gH k7;let#[g,rfl,k9]:=lB k8;let#[z,zp,rfl,k10]:=GA k9;have k11:=jA k10;let#[u,up,rfl,k12]:=GA k11.2;cases Qi k12;let#[C0,hm,ru]:=ok.val x o.2.2;let#[g1,g2,g3]:=VC k3.1;have hg:Gl X x:=show X.env.scope.names.lookup x=jy .globalImplicit by rw[ok.sc];exact g1
  let#[a1,a2]:=fJ k4.1;let#[b1,b2]:=fJ k11.1;let#[_,_,v3,v4]:=VP k5.1;rw[<- ok.N]at a1 b1;rw[<- ok.sc]at a2 b2;have hik:jj≠kk:=by simpa using k6.1
  refine one λW s M H D I hq=>?_;let#[#[C,eC,Y],q]:=hq;rw[eC]at ru;obtain rfl:C0=jx C:=ru;have YE:=Y.ex;have hm:=hm;rw[Y.w]at hm YE;refine wpAny_Try_except ?_;have hE:∀J s1 u s',Inv X W M J s1->vd X.prog X.w X.K (wOf X.K) (iOf X.K) X.stack J s1 (λ_ a H2=>∃e,a=jy e/\D.nx ((M.set jj (jy (.ref e))).set kk jz) H2) u s'->_:=λJ s1 u s' I1 hc =>
   im (rest:=[]) (np:=np) (yp:=zp) (ep:=up) (ap:=ap) (hpos:=hp) (D:=D) I1 hc ok.st ok.fr ok.nd YE hg hm g2 b1 b2 a1 a2 v3 v4 hik λe H' #[e',ee,q]=>by cases ee;exact q
  have nxt:∀{s1:j3}{σ1:St}{J:Hp}{E1:NB},Inv X W σ1 J s1->D.nx σ1 J->Kx (Ky X.prog X.w) X.A (execs [] X.env) (λf R=>match f with | .next=>Kx (Ky X.prog X.w) X.A (execs [] X.env) (SP X W D) X.xe R|f=>SP X W D f R) E1 s1:=λI1 O=>WF (WF #[_,_,I1,O]);cases i with
  |none =>
   let#[v,vp,rfl,P]:=ZU P;have nc:bF v=true:=by let#[_,_,_,_,rfl,_]:=EC P;rfl
   exact QAB (d3 (EA (gc ok P o.1 o.2.1 I hE q) λu s1 #[x,J,I1,r,O]=>nxt I1 O) I.quiet (yI nc))
  |some i=>cases P
end
noncomputable abbrev D:=Vz
set_option genInjectivity true in
inductive T where
 |d (x:D)|lst (ts:List T)|tup (ts:List T)|dct (ks:List D) (ts:List T)
abbrev LT:=List T
mutual
noncomputable def T.er:T->D
 | .d x=>x|.lst h=>.list (ersT h)|.tup h=>.tuple (ersT h)|.dct y h=>.dict (y.zip (ersT h))
noncomputable def ersT:LT->List D
 |[]=>[]|t::r=>t.er::ersT r
end
theorem fB(h:List D):ersT (h.map T.d)=h:=by
 induction h with|nil=>rfl|cons d r x=>simp only[QN,ersT,x,T.er]
theorem IM:∀(ts:LT),(ersT ts).length=ts.length
 |[]=>rfl|t::r=>by simp only[ersT,QJ,IM r]
noncomputable def T.isD:T->Bool
 | .d _=>jb|_=>js
set_option genInjectivity true in
inductive Sl where
 |own (t:T)|xx (t:T)
noncomputable abbrev zA:=List (Option Sl)
abbrev bD(x:D):Option Sl:=jy (.xx (.d x))
abbrev oW(t:T):Option Sl:=jy (.own t)
noncomputable def MG(t:T)(n:Bool):Bool:=n||t.isD
noncomputable def uA(t:T):Bool->T
 |true=>.d t.er|false=>t
theorem kA(x:D)(n:Bool):uA (.d x) n=.d x:=by cases n<;>rfl
theorem rJ(t:T)(n:Bool):(uA t n).er=t.er:=by cases n<;>rfl
noncomputable def BE:LT->Option (List D)
 |[]=>jy []|.d x::r=>(BE r).map (x::·)|_::_=>jz
theorem gA(h:List D):BE (h.map T.d)=jy h:=by
 induction h with|nil=>rfl|cons d r x=>simp only[QN,BE,x,qC]
theorem CL:∀{ts:LT}{y:List D},BE ts=jy y->ts=y.map T.d
 |[],y,h=>by simp only[BE,Qu]at h;subst h;rfl|.d x::r,y,h=>by
  simp only[BE]at h;cases e:BE r with|none=>rw[e]at h;cases h|some z=>rw[e]at h;cases h;rw[QN,CL e]
 | .lst _::_,_,h=>by simp[BE]at h|.tup _::_,_,h=>by simp[BE]at h|.dct _ _::_,_,h=>by simp[BE]at h
set_option genInjectivity true in
inductive Vw where
 |sc (x:D)|ls (ts:LT)|tp (ts:LT)|dc (ks:List D) (ts:LT)
noncomputable def T.vw:T->Vw
 | .lst h=>.ls h|.tup h=>.tp h|.dct u h=>.dc u h|.d x=>match x with
  | .list z=>.ls (z.map T.d)|.tuple z=>.tp (z.map T.d)|.dict y=>.dc (y.map (·.1)) (y.map λp=>T.d p.2)|.none=>.sc .none|.bool b=>.sc (.bool b)|.int i=>.sc (.int i)|.str s=>.sc (.str s)
noncomputable def ZF(ts:LT):T:=match BE ts with
 |some h=>.d (.tuple h)|none=>.tup ts
noncomputable abbrev XD:=Str×Int
noncomputable def VF(x:Str)(p:Int):D:=.dict [(.none,.list [.str x,.int p])]
noncomputable def ZH(x:Str):D:=.dict [(.none,.str x)]
noncomputable abbrev XE:=XD->Prop
noncomputable abbrev TK:=T->Bool->zA->Prop
inductive Md where
 |xy|xz|xx|chg
 deriving DecidableEq
structure PSp where
 md:List Md:=[]
 run:LT->(T->LT->Prop)->XE->Prop
 mono:∀{ts:LT}{Q Q':T->LT->Prop}{E E':XE},(∀t os,Q t os->Q' t os)->(∀x,E x->E' x)->run ts Q E->run ts Q' E':=by intro _ _ _ _ _ h _ z;(repeat let#[y,z]:=z;refine#[y,?_]);first|exact h _ _ z|(intros;apply h;apply z<;>assumption)
structure PEv where
 sp:Str->PSp
 va:Str->Option D
 dc:Str->Option (List (Str×D))
def binT(g:yx)(x y:Vw)(Q:T->Bool->Prop):Prop:=match g with
 | .Add=>(∃i j,x=.sc (.int i)/\y=.sc (.int j)/\Q (.d (.int (i+j))) js)∨(∃a b,x=.sc (.str a)/\y=.sc (.str b)/\a.length+b.length<=j1/\Q (.d (.str (a++b))) js) ∨
  (∃e u h z,x=.ls e/\y=.ls u/\BE e=jy h/\BE u=jy z/\h.length+z.length<=j1/\Q (.lst ((h++z).map T.d)) jb) ∨
  (∃e u h z,x=.tp e/\y=.tp u/\BE e=jy h/\BE u=jy z/\h≠[]/\z≠[]/\h.length+z.length<=j1/\Q (.d (.tuple (h++z))) js)
 | .Sub=>∃i j,x=.sc (.int i)/\y=.sc (.int j)/\Q (.d (.int (i - j))) js|.Mult=>(∃i j,x=.sc (.int i)/\y=.sc (.int j)/\ft i j/\Q (.d (.int (i * j))) js)∨(∃a k,x=.sc (.str a)/\y=.sc (.int k)/\(-(2 ^ 31)<=k/\k<2 ^ 31/\a.length * k.toNat<=j1)/\Q (.d (.str (TH a k))) js)∨(∃f k,∃h:List D,x=.ls f/\y=.sc (.int k)/\BE f=jy h/\(-(2 ^ 31)<=k/\k<2 ^ 31/\h.length * k.toNat<=j1)/\Q (.lst ((QI k.toNat h).flatten.map T.d)) jb)|.FloorDiv=>∃i j,x=.sc (.int i)/\y=.sc (.int j)/\(0<j/\j<2 ^ 200)/\Q (.d (.int (i / j))) js|.Mod=>∃i j,x=.sc (.int i)/\y=.sc (.int j)/\0<j/\Q (.d (.int (i % j))) js|.Pow=>∃i j,x=.sc (.int i)/\y=.sc (.int j)/\E8 i j/\Q (.d (.int (i ^ j.toNat))) js|_=>False
section
variable{Q:T->Bool->Prop}
theorem Pk(i j:Int):binT .Add (.sc (.int i)) (.sc (.int j)) Q=Q (.d (.int (i+j))) false:=by simp[binT]
theorem Nk(a b:Str):binT .Add (.sc (.str a)) (.sc (.str b)) Q=(a.length+b.length<=j1/\Q (.d (.str (a++b))) js):=by simp[binT]
theorem g8(xs ys:LT):binT .Add (.ls xs) (.ls ys) Q=∃x h,BE xs=jy x/\BE ys=jy h/\x.length+h.length<=j1/\Q (.lst ((x++h).map T.d)) true:=by simp[binT]
theorem Mk(xs ys:LT):binT .Add (.tp xs) (.tp ys) Q=∃x h,BE xs=jy x/\BE ys=jy h/\x≠[]/\h≠[]/\x.length+h.length<=j1/\Q (.d (.tuple (x++h))) false:=by simp[binT]
theorem Hk(i j:Int):binT .Sub (.sc (.int i)) (.sc (.int j)) Q=Q (.d (.int (i - j))) false:=by simp[binT]
theorem Gk(i j:Int):binT .Mult (.sc (.int i)) (.sc (.int j)) Q=(ft i j/\Q (.d (.int (i * j))) js):=by simp[binT]
theorem Fk(a:Str)(k:Int):binT .Mult (.sc (.str a)) (.sc (.int k)) Q=((-(2 ^ 31)<=k/\k<2 ^ 31/\a.length * k.toNat<=j1)/\Q (.d (.str (TH a k))) js):=by simp[binT]
theorem Dk(i j:Int):binT .FloorDiv (.sc (.int i)) (.sc (.int j)) Q=((0<j/\j<2 ^ 200)/\Q (.d (.int (i / j))) js):=by simp[binT]
theorem Ck(i j:Int):binT .Mod (.sc (.int i)) (.sc (.int j)) Q=(0<j/\Q (.d (.int (i % j))) js):=by simp[binT]
theorem Fc(i j:Int):binT .Pow (.sc (.int i)) (.sc (.int j)) Q=(E8 i j/\Q (.d (.int (i ^ j.toNat))) js):=by simp[binT]
end
noncomputable def Jr:D->D->(Bool->Prop)->Prop
 | .int i,.int j,Q=>Q (decide (i=j))|.str x,.str y,Q=>Q (decide (x=y))|.bool x,.bool y,Q=>Q (decide (x=y))|a,b,Q=>oG a/\oG b/\Q (Qz a b)
noncomputable def zB:D->Bool
 | .none | .bool _ | .int _ | .str _=>jb
 |_=>js
noncomputable def gr:D->D->(Bool->Prop)->Prop
 | .str x,.str y,Q=>Q (inStr y x)|a,.list ds,Q|a,.tuple ds,Q=>((zB a=jb/\ds.all zB=jb)∨(oG a/\oG (.list ds)))/\Q (ds.any λy=>Qz y a)
 |_,_,_=>False
noncomputable def YY(f:Int->Int->Bool):D->D->(Bool->Prop)->Prop
 | .int i,.int j,Q=>Q (f i j)|_,_,_=>False
noncomputable def CB:D->Bool
 | .none=>jb|_=>js
noncomputable def kZ:D->D->(Bool->Prop)->Prop
 |a,.none,Q=>Q (CB a)|_,_,_=>False
noncomputable def FS:Z1->D->D->(Bool->Prop)->Prop
 | .Eq,a,b,Q=>Jr a b Q|.NotEq,a,b,Q=>Jr a b λk=>Q (!k)|.Lt,a,b,Q=>YY (λi j=>decide (i<j)) a b Q|.LtE,a,b,Q=>YY (λi j=>decide (i<=j)) a b Q|.Gt,a,b,Q=>YY (λi j=>decide (j<i)) a b Q|.GtE,a,b,Q=>YY (λi j=>decide (j<=i)) a b Q|.In,a,b,Q=>gr a b Q|.NotIn,a,b,Q=>gr a b λk=>Q (!k)|.Is,a,b,Q=>kZ a b Q|.IsNot,a,b,Q=>kZ a b λk=>Q (!k)
noncomputable def PH:D->(Bool->Prop)->Prop
 | .bool b,Q=>Q b|.int i,Q=>Q (i != 0)|.none,Q=>Q js|.str z,Q=>z.length<=j1/\Q ((z.length:Int) != 0)|.list ds,Q=>Q (!ds.isEmpty)|.tuple ds,Q=>Q (!ds.isEmpty)|_,_=>False
noncomputable def Tk:D->(Bool->Prop)->Prop
 | .bool b,Q=>Q b|_,_=>False
def TN(x y:Vw)(Q:T->Prop):Prop:=(∃z i c,x=.sc (.str z)/\y=.sc (.int i)/\z.length<=j1/\zC z.cps.toList i=jy c/\Q (.d (.str #[(List.toArray [c])]))) ∨
 (∃h i t,x=.ls h/\y=.sc (.int i)/\zC h i=jy t/\Q t)∨(∃h i t,x=.tp h/\y=.sc (.int i)/\zC h i=jy t/\Q t)
theorem Aj{Q:T->Prop}(z:Str)(i:Int):TN (.sc (.str z)) (.sc (.int i)) Q=(z.length<=j1/\∃c,zC z.cps.toList i=jy c/\Q (.d (.str #[(List.toArray [c])]))):=by simp[TN]
theorem u7{Q:T->Prop}(ts:LT)(i:Int):TN (.ls ts) (.sc (.int i)) Q=∃t,zC ts i=jy t/\Q t:=by simp[TN]
theorem v7{Q:T->Prop}(ts:LT)(i:Int):TN (.tp ts) (.sc (.int i)) Q=∃t,zC ts i=jy t/\Q t:=by simp[TN]
noncomputable def ND{α:Type}(xs:List α)(h x:Option Int):List α:=(xs.drop (HT.sIx xs.length 0 h)).take (HT.sIx xs.length xs.length x - HT.sIx xs.length 0 h)
def sE(x:Vw)(u a:Option Int)(Q:T->Bool->Prop):Prop:=(∃z,x=.sc (.str z)/\z.length<=j1/\Q (.d (.str (W8 z u a))) js)∨(∃y h,x=.ls y/\BE y=jy h/\Q (.lst ((ND h u a).map T.d)) jb) ∨
 (∃y h,x=.tp y/\BE y=jy h/\¬ (HT.sIx h.length 0 u=0/\HT.sIx h.length h.length a=h.length)/\Q (.d (.tuple (ND h u a))) js)
section
variable{Q:T->Bool->Prop}{h x:Option Int}
theorem Hh(z:Str):sE (.sc (.str z)) h x Q=(z.length<=j1/\Q (.d (.str (W8 z h x))) js):=by simp[sE]
theorem Gh(ts:LT):sE (.ls ts) h x Q=∃y,BE ts=jy y/\Q (.lst ((ND y h x).map T.d)) true:=by simp[sE]
theorem Fh(ts:LT):sE (.tp ts) h x Q=∃y,BE ts=jy y/\¬ (HT.sIx y.length 0 h=0/\HT.sIx y.length y.length x=y.length)/\Q (.d (.tuple (ND y h x))) false:=by simp[sE]
end
noncomputable def yD:D->(Option Int->Prop)->Prop
 | .int i,Q=>Q (jy i)|_,_=>False
noncomputable def isD(n:String):D->Option Bool
 | .none=>jy js|.bool _=>jy (n == "bool" || n == "int")
 | .int _=>jy (n == "int")|.str _=>jy (n == "str")|.list _=>jy (n == "list")|.tuple _=>jy (n == "tuple")|.dict _=>jz
noncomputable def BO(n:String):Bool:=n == "bool" || n == "int" || n == "str" || n == "list" || n == "tuple" || n == "ValueError"
def fP(f:Bi)(vs:List Vw)(Q:T->Bool->Prop):Prop:=match f with
 | .len=>(∃z,vs=[.sc (.str z)]/\z.length<=j1/\Q (.d (.int z.length)) js)∨(∃h,vs=[.ls h]/\Q (.d (.int h.length)) js)∨(∃h,vs=[.tp h]/\Q (.d (.int h.length)) js)|.all=>∃h,∃bs:List Bool,vs=[.ls h]/\BE h=jy (bs.map PyData.bool)/\Q (.d (.bool (bs.all id))) js|.int=>(∃i,vs=[.sc (.int i)]/\Q (.d (.int i)) js)∨(∃b,vs=[.sc (.bool b)]/\Q (.d (.int (if b then 1 else 0))) js)∨(∃z n,vs=[.sc (.str z)]/\z.length<=640/\intText? z=jy n/\Q (.d (.int n)) js)|.str=>(∃i,vs=[.sc (.int i)]/\i.natAbs.log2<1920/\Q (.d (.str (eg i))) js)∨(∃z,vs=[.sc (.str z)]/\Q (.d (.str z)) js)|.any=>∃h,∃bs:List Bool,vs=[.ls h]/\BE h=jy (bs.map PyData.bool)/\Q (.d (.bool (bs.any id))) js|.list=>(∃h x,vs=[.ls h]/\BE h=jy x/\Q (.lst (x.map T.d)) jb)∨(∃h x,vs=[.tp h]/\BE h=jy x/\Q (.lst (x.map T.d)) jb)|.tuple=>∃h x,vs=[.ls h]/\BE h=jy x/\Q (.d (.tuple x)) js
section
variable{Q:T->Bool->Prop}
theorem vq(z:Str):fP .len [.sc (.str z)] Q=(z.length<=j1/\Q (.d (.int z.length)) js):=by simp[fP]
theorem sf(ts:LT):fP .len [.ls ts] Q=Q (.d (.int ts.length)) false:=by simp[fP]
theorem kq(ts:LT):fP .len [.tp ts] Q=Q (.d (.int ts.length)) false:=by simp[fP]
theorem zq(ts:LT):fP .all [.ls ts] Q=∃bs:List Bool,BE ts=jy (bs.map PyData.bool)/\Q (.d (.bool (bs.all id))) false:=by simp[fP]
theorem yq(b:Bool):fP .int [.sc (.bool b)] Q=Q (.d (.int (if b then 1 else 0))) false:=by simp[fP]
theorem jq(z:Str):fP .int [.sc (.str z)] Q=(z.length<=640/\∃n,intText? z=jy n/\Q (.d (.int n)) js):=by simp[fP]
theorem Ip(i:Int):fP .str [.sc (.int i)] Q=(i.natAbs.log2<1920/\Q (.d (.str (eg i))) js):=by simp[fP]
theorem Ep(z:Str):fP .str [.sc (.str z)] Q=Q (.d (.str z)) false:=by simp[fP]
end
def Ll(m:Mt)(x:Vw)(vs:List Vw)(Q:T->Bool->Prop):Prop:=match m with
 | .split=>∃z y,x=.sc (.str z)/\vs=[.sc (.str y)]/\z.length<=j1/\0<y.length/\(qS z y).length<=j1/\Q (.lst (((qS z y).map Jx).map T.d)) jb|.join=>∃z u,∃h:LS,x=.sc (.str z)/\vs=[.ls u]/\BE u=jy (h.map Jx)/\(h.map (·.length)).sum+h.length * z.length<=16777216/\Q (.d (.str (we z h))) js|_=>False
theorem Bo{Q:T->Bool->Prop}(z y:Str):Ll .split (.sc (.str z)) [.sc (.str y)] Q=(z.length<=j1/\0<y.length/\(qS z y).length<=j1/\Q (.lst (((qS z y).map Jx).map T.d)) jb):=by simp[Ll]
noncomputable def Vw.isS:Vw->Bool
 | .sc (.str _)=>jb|_=>js
noncomputable def isMut:Mt->Bool
 | .append=>jb|.extend=>jb|.insert=>jb|_=>js
noncomputable def XQ(m:Mt)(x:Vw):Bool:=x.isS&&!isMut m
def ZM(m:Mt)(s:T)(us:LT)(N:T->T->Prop):Prop:=match m with
 | .append=>∃h t,s=.lst h/\us=[t]/\h.length<j1/\N (.d .none) (.lst (h++[t]))|.extend=>∃h vs,s=.lst h/\us=[.lst vs]/\h.length+vs.length<=j1/\N (.d .none) (.lst (h++vs))|.insert=>∃h i t,s=.lst h/\us=[.d (.int i),t]/\(0<=i/\i<=h.length)/\h.length<j1/\N (.d .none) (.lst (SD h i.toNat t))|_=>False
theorem z6{N:T->T->Prop}(ts:LT)(t:T):ZM .append (.lst ts) [t] N=(ts.length<j1/\N (.d .none) (.lst (ts++[t]))):=by simp[ZM]
theorem y6{N:T->T->Prop}(ts vs:LT):ZM .extend (.lst ts) [.lst vs] N=(ts.length+vs.length<=j1/\N (.d .none) (.lst (ts++vs))):=by simp[ZM]
theorem j6{N:T->T->Prop}(ts:LT)(i:Int)(t:T):ZM .insert (.lst ts) [.d (.int i),t] N=((0<=i/\i<=ts.length)/\ts.length<j1/\N (.d .none) (.lst (SD ts i.toNat t))):=eI #[λ#[_,_,_,y,x,h]=>by cases y;cases x;exact h,λh=>#[_,_,_,rfl,rfl,h]]
noncomputable def cJ(m:Mt):T->Bool
 | .lst _=>isMut m|_=>js
noncomputable def Vw.seq:Vw->Option (LT)
 | .ls h=>jy h|.tp h=>jy h|.sc (.str z)=>if z.cps.all (· < 128) then jy (z.cps.toList.map λc=>.d (.str #[(List.toArray [c])])) else jz|_=>jz
def nC(e:ItK)(vs:List Vw)(R:LT->Prop):Prop:=match e with
 | .val=>(∃z,vs=[.sc (.str z)]/\R (z.cps.toList.map λc=>.d (.str #[(List.toArray [c])])))∨(∃h,vs=[.ls h]/\R h)∨(∃h,vs=[.tp h]/\R h)|.rng1=>∃j,vs=[.sc (.int j)]/\(-(2 ^ 62)<=j/\j<2 ^ 62)/\R ((Qe j.toNat).map λ(i:Nat)=>.d (.int (i:Int)))|.zip2=>∃x y h a u b,vs=[x,y]/\x.seq=jy h/\y.seq=jy a/\BE h=jy u/\BE a=jy b/\R ((u.zip b).map λp=>.d (.tuple [p.1,p.2]))|.enum=>∃x h u,vs=[x]/\x.seq=jy h/\BE h=jy u/\R (u.zipIdx.map λp=>.d (.tuple [.int (p.2:Int),p.1]))|.enumA=>∃x n h u,vs=[x,.sc (.int n)]/\x.seq=jy h/\BE h=jy u/\(0<=n/\n<2 ^ 62)/\R (u.zipIdx.map λp=>.d (.tuple [.int ((n.toNat+p.2:Nat):Int),p.1]))
section
variable{R:LT->Prop}
theorem O6(z:Str):nC .val [.sc (.str z)] R=R (z.cps.toList.map λc=>.d (.str #[(List.toArray [c])])):=by simp[nC]
theorem tS(ts:LT):nC .val [.ls ts] R=R ts:=by simp[nC]
theorem N6(ts:LT):nC .val [.tp ts] R=R ts:=by simp[nC]
theorem M6(j:Int):nC .rng1 [.sc (.int j)] R=((-(2 ^ 62)<=j/\j<2 ^ 62)/\R ((Qe j.toNat).map λ(i:Nat)=>.d (.int (i:Int)))):=by simp[nC]
theorem L6(x y:Vw):nC .zip2 [x,y] R=∃ts us u z,x.seq=jy ts/\y.seq=jy us/\BE ts=jy u/\BE us=jy z/\R ((u.zip z).map λp=>.d (.tuple [p.1,p.2])):=by apply eI;constructor;rintro⟨_,_,ts,us,u,z,⟨⟩,h⟩;exact#[ts,us,u,z,h];rintro⟨ts,us,u,z,h⟩;exact#[_,_,ts,us,u,z,rfl,h]
theorem G6(x:Vw)(n:Int):nC .enumA [x,.sc (.int n)] R=∃ts y,x.seq=jy ts/\BE ts=jy y/\(0<=n/\n<2 ^ 62)/\R (y.zipIdx.map λp=>.d (.tuple [.int ((n.toNat+p.2:Nat):Int),p.1])):=by apply eI;constructor;rintro⟨_,_,ts,y,⟨⟩,h⟩;exact#[ts,y,h];rintro⟨ts,y,h⟩;exact#[_,_,ts,y,rfl,h]
end
noncomputable def jE:LN->LT->zA->Option zA
 |[],[],ρ=>jy ρ|i::is,t::ts,ρ=>jE is ts (ρ.set i (jy (.xx t)))|_,_,_=>jz
noncomputable def dN:Tg->T->zA->(zA->Prop)->Prop
 | .nm i,t,ρ,Q=>Q (ρ.set i (jy (.xx t)))|.tp is,t,ρ,Q=>match t.vw with
  | .tp x=>∃h,jE is x ρ=jy h/\Q h|_=>False
noncomputable def Tg.ix:Tg->LN
 | .nm i=>[i]|.tp h=>h
noncomputable def mU:PX->Option Nat
 | .vx i=>jy i|_=>jz
noncomputable def DG:Option Sl->Option Sl
 |some (.own t)=>jy (.xx t)|s=>s
noncomputable def lockA(ρ:zA):zA:=ρ.map DG
noncomputable def lock:LN->zA->zA
 |[],ρ=>ρ|i::is,ρ=>lock is (ρ.modify i DG)
noncomputable def MC:Option Sl->Option Sl
 |some (.xx t)=>if t.isD=jb then jy (.xx t) else jz|s=>s
noncomputable def kill:LN->zA->zA
 |[],ρ=>ρ|i::is,ρ=>kill is (ρ.modify i MC)
noncomputable def clear:LN->zA->zA
 |[],ρ=>ρ|i::is,ρ=>clear is (ρ.set i jz)
noncomputable def uB:LN->zA->Option (LT)
 |[],_=>jy []|i::is,ρ=>match ρ[i]? with
  |some (jy (.own t))=>(uB is ρ).map (t::·)|_=>jz
noncomputable def RC:LN->LT->zA->Option zA
 |[],[],ρ=>jy ρ|i::is,t::ts,ρ=>RC is ts (ρ.set i (jy (.own t)))|_,_,_=>jz
noncomputable def PD:List Bool->zA->zA
 |b::m,v::ρ=>(if b then jz else v)::PD m ρ|_,ρ=>ρ
noncomputable def mK(k:Nat)(h:List Bool)(ρ:zA):zA:=QI k jz++PD h ρ
def sq{α:Type}(x:T)(ρ:zA)(b:zA->(α->zA->Prop)->Prop)(K:α->zA->Prop):Prop :=
 if x.isD=jb then b ρ K else b (lockA ρ) λy _=>K y ρ
noncomputable def cu(f:zA->TK->Prop):zA->(T×Bool->zA->Prop)->Prop:=λy K=>f y λx n h=>K (x,n) h
noncomputable def zD:List (T×Bool)->LT
 |[]=>[]|p::r=>p.1::zD r
noncomputable def UD:List (T×Bool)->LT
 |[]=>[]|p::r=>uA p.1 p.2::UD r
noncomputable def XB:List (T×Bool)->List Vw
 |[]=>[]|p::r=>(uA p.1 p.2).vw::XB r
noncomputable def FE:List (T×Bool)->Bool
 |[]=>jb|p::r=>MG p.1 p.2&&FE r
noncomputable def XI:List (T×Bool)->Bool
 |[]=>jb|p::r=>MG p.1 p.2&&XI r
noncomputable def OD(t:T):Option T:=match t.vw with
 | .ls h=>(BE h).map λx=>.lst (x.map T.d)|_=>if t.isD=jb then jy t else jz
noncomputable def BA:List Md->List (T×Bool)->LT->Option (LT)
 |_,[],[]=>jy []|_,[],_::_=>jz|md,(x,n)::xs,os=>match md.headD .xy with
  | .xy=>match uA x n with
   | .d d=>(BA md.tail xs os).map (.d d::·)|_=>jz
  | .xz=>match OD (uA x n) with
   |some t=>(BA md.tail xs os).map (t::·)|none=>jz
  | .xx=>(BA md.tail xs os).map (uA x n::·)|.chg=>match os with
   |o::os=>(BA md.tail xs os).map (o::·)|[]=>jz
noncomputable def UB:List Md->LT->LT
 |_,[]=>[]|md,t::ts=>match md.headD .xy with
  | .chg=>t::UB md.tail ts|_=>UB md.tail ts
noncomputable def xA:List Md->PX->LN
 | .chg::md,.nz (.vx j) as=>j::xA md as|_::md,.nz _ as=>xA md as|_,_=>[]
noncomputable def Md.isMut:Md->Bool
 | .chg=>jb|_=>js
def PP(Ψ:PEv)(o:Prm)(ts:LT)(Q:T->Bool->Prop):Prop:=match o with
 | .dget x=>∃z h,ts=[.d (.str z)]/\Ψ.dc x=jy h/\Q (.d ((h.lookup z).getD .none)) js|.dix x=>∃z h d,ts=[.d (.str z)]/\Ψ.dc x=jy h/\h.lookup z=jy d/\Q (.d d) js|.dgetD x=>∃z d h,ts=[.d (.str z),.d d]/\Ψ.dc x=jy h/\Q (.d ((h.lookup z).getD d)) js|.tmul=>∃y k,ts=[.d (.tuple y),.d (.int k)]/\y≠[]/\(1<=k/\k<2 ^ 31/\y.length * k.toNat<=j1)/\Q (.d (.tuple (QI k.toNat y).flatten)) js|.plc=>∃x p,ts=[.d (VF x p)]/\Q (.d (.int p)) js|.dgt=>∃z u y d,ts=[.d (.dict (OG u y)),.d (.str z)]/\(u≠[]/\u.length=y.length)/\(u.zip y).lookup z=jy d/\Q (.d d) js|.isC=>∃x p z,ts=[.d (VF x p),.d (ZH z)]/\Q (.d (.bool (decide (z=x∨z="WorldError")))) js|.isT _ m=>m="ValueError"/\∃x p,ts=[.d (VF x p)]/\Q (.d (.bool (FN.contains (.type m)))) js
theorem Yi{Ψ:PEv}{Q:T->Bool->Prop}(x z:Str):PP Ψ (.dget x) [.d (.str z)] Q=∃h,Ψ.dc x=jy h/\Q (.d ((h.lookup z).getD .none)) false:=by simp[PP]
theorem Ji{Ψ:PEv}{Q:T->Bool->Prop}(x z:Str):PP Ψ (.dix x) [.d (.str z)] Q=∃h d,Ψ.dc x=jy h/\h.lookup z=jy d/\Q (.d d) false:=by simp[PP]
theorem ai{Ψ:PEv}{Q:T->Bool->Prop}(x:List D)(k:Int):PP Ψ .tmul [.d (.tuple x),.d (.int k)] Q=(x≠[]/\(1<=k/\k<2 ^ 31/\x.length * k.toNat<=j1)/\Q (.d (.tuple (QI k.toNat x).flatten)) js):=eI #[λ#[_,_,e,h]=>by cases e;exact h,λh=>#[_,_,rfl,h]]
structure D3 where
 e:zA->TK->Prop
 t:zA->(Bool->zA->Prop)->Prop
 a:List Md->zA->(List (T×Bool)->zA->Prop)->Prop
noncomputable def iE:D3:=#[λ_ _=>False,λ_ _=>False,λ_ _ _=>False]
noncomputable def CD(body:T->(Option T->Prop)->Prop):LT->LT->(LT->Prop)->Prop
 |[],acc,Q=>acc.length<=j1/\Q acc|x::xs,acc,Q=>body x fun
  |some y=>acc.length<j1/\CD body xs (acc++[y]) Q|none=>CD body xs acc Q
def RG(a:Tg)(u:zA)(c:zA->(Bool->zA->Prop)->Prop)(e:zA->TK->Prop)(x:T)(R:Option T->Prop):Prop :=
 dN a x u λz=>c z λb h=>if b=jb then e h λy n _=>MG y n=jb/\R (jy y) else R jz
noncomputable def Ib:PX->D->(Bool->Prop)->Prop
 | .bty _ n,d,Q=>∃b,isD n d=jy b/\BO n=jb/\Q b|_,_,_=>False
noncomputable def kr:Option (Option Sl)->(T->Prop)->Prop
 |some (jy (.own t)),Q=>Q t|some (jy (.xx t)),Q=>Q t|some jz,_=>False|none,_=>False
noncomputable def eF:Option (Option Sl)->(T->Prop)->Prop
 |some (jy (.own t)),Q=>Q t|some (jy (.xx _)),_=>False|some jz,_=>False|none,_=>False
noncomputable def A2:Option Nat->(Nat->Prop)->Prop
 |none,_=>False|some j,Q=>Q j
noncomputable def R6:PX->Bool
 | .vx _=>jb|_=>js
theorem T2{o:PX}{Q:Nat->Prop}(h:A2 (mU o) Q):∃j,o=.vx j/\Q j:=by
 cases o with|vx j=>exact#[j,rfl,h]|_=>exact h.elim
theorem b9{o:PX}(h:R6 o=jb):∃j,o=.vx j:=by
 cases o with|vx j=>exact#[j,rfl]|_=>cases h
theorem Eb{c:PX}{x:D}{Q:Bool->Prop}(h:Ib c x Q):∃z n,c=.bty z n:=by
 cases c with|bty z n=>exact#[z,n,rfl]|_=>exact h.elim
theorem XG{x:PX}{α:Prop}{j:Nat}(h:j∈xA [] x):α:=by cases x<;>cases h
theorem fO{h:PX}:xA [] h=[]:=by cases h<;>rfl
noncomputable def aJ(a:Tg)(u:Nat)(e:zA->TK->Prop):LT->List D->zA->(List D->zA->Prop)->Prop
 |[],acc,ρ,Q=>acc.length<=j1/\Q acc ρ|x::xs,acc,ρ,Q=>dN a x (QI u jz++ρ) λz=>e z λy n h=>MG y n=jb/\acc.length<j1/\aJ a u e xs (acc++[y.er]) (h.drop u) Q
noncomputable def pe(Ψ:PEv):PX->XE->D3
 | .vx i,_=>let e:zA->TK->Prop:=λg Q=>kr g[i]? λt=>Q t js g
  #[e,λg Q=>e g λt _ h=>PH t.er λb=>Q b h,iE.a]
 | .int i,_=>#[λg Q=>Q (.d (.int i)) js g,λg Q=>Q (i != 0) g,iE.a]|.str x,_=>#[λg Q=>Q (.d (.str x)) js g,iE.t,iE.a]|.bl b,_=>#[λg Q=>Q (.d (.bool b)) js g,λg Q=>Q b g,iE.a]|.non,_=>#[λg Q=>Q (.d .none) js g,λg Q=>Q js g,iE.a]|.glo x,_=>let e:zA->TK->Prop:=λg Q=>match Ψ.va x with
   |some d=>Q (.d d) js g|none=>False
  #[e,λg Q=>e g λt _ h=>PH t.er λb=>Q b h,iE.a]
 | .bty _ _,_=>iE|.bin op a b,E=>let e:zA->TK->Prop:=λg Q=>(pe Ψ a E).e g λx n h=>sq (uA x n) h (cu (pe Ψ b E).e) λy q=>binT op (uA x n).vw (uA y.1 y.2).vw λz k=>Q z k q
  #[e,λg Q=>e g λt _ h=>PH t.er λb=>Q b h,iE.a]
 | .cmp op a b,E=>let t:zA->(Bool->zA->Prop)->Prop:=λg Q=>(pe Ψ a E).e g λx n h=>sq (uA x n) h (cu (pe Ψ b E).e) λy q=>FS op x.er y.1.er λk=>Q k q
  #[λg Q=>t g λk h=>Q (.d (.bool k)) js h,t,iE.a]
 | .chn o p a b c,E=>let t:zA->(Bool->zA->Prop)->Prop:=λg Q=>(pe Ψ a E).e g λx n h=>sq (uA x n) h (cu (pe Ψ b E).e) λy q=>FS o x.er y.1.er λk=>if k=jb then sq (uA y.1 y.2) q (cu (pe Ψ c E).e) λz Y=>FS p y.1.er z.1.er λk=>Q k Y else Q js q
  #[λg Q=>t g λk h=>Q (.d (.bool k)) js h,t,iE.a]
 | .and a b,E=>#[λg Q=>(pe Ψ a E).e g λx _ h=>Tk x.er λc=>if c=jb then(pe Ψ b E).e h Q else Q (.d (.bool js)) js h,
   λg Q=>(pe Ψ a E).t g λc h=>if c=jb then(pe Ψ b E).t h Q else Q js h,iE.a]
 | .or a b,E=>#[λg Q=>(pe Ψ a E).e g λx _ h=>Tk x.er λc=>if c=jb then Q (.d (.bool jb)) js h else(pe Ψ b E).e h Q,
   λg Q=>(pe Ψ a E).t g λc h=>if c=jb then Q jb h else(pe Ψ b E).t h Q,iE.a]
 | .not a,E=>#[λg Q=>(pe Ψ a E).e g λx _ h=>PH x.er λc=>Q (.d (.bool (!c))) js h,λg Q=>(pe Ψ a E).t g λc h=>Q (!c) h,iE.a]|.ife c a b,E=>#[λg Q=>(pe Ψ c E).t g λk h=>if k=jb then(pe Ψ a E).e h Q else(pe Ψ b E).e h Q,iE.t,iE.a]|.call f as,E=>let e:zA->TK->Prop:=λg Q=>∃os,uB (xA (Ψ.sp f).md as) g=jy os/\(xA (Ψ.sp f).md as).Nodup/\(pe Ψ as E).a (Ψ.sp f).md (clear (xA (Ψ.sp f).md as) g) λs h=>∃A,BA (Ψ.sp f).md s os=jy A/\(Ψ.sp f).run A (λr W=>∃q,RC (xA (Ψ.sp f).md as) W h=jy q/\Q r jb q) E
  #[e,λg Q=>e g λt _ h=>PH t.er λb=>Q b h,iE.a]
 | .isi a c,E=>let t:zA->(Bool->zA->Prop)->Prop:=λg Q=>(pe Ψ a E).e g λx _ h=>Ib c x.er λb=>Q b h
  #[λg Q=>t g λk h=>Q (.d (.bool k)) js h,t,iE.a]
 | .bi f as,E=>let e:zA->TK->Prop:=λg Q=>(pe Ψ as E).a [] g λs h=>fP f (XB s) λz k=>Q z k h
  #[e,λg Q=>e g λt _ h=>PH t.er λb=>Q b h,iE.a]
 | .prm o as,E=>let e:zA->TK->Prop:=λg Q=>(pe Ψ as E).a [] g λs h=>PP Ψ o (UD s) λz k=>Q z k h
  #[e,λg Q=>e g λt _ h=>PH t.er λb=>Q b h,iE.a]
 | .mt m o as,E=>let e:zA->TK->Prop:=λg Q=>if isMut m=jb then A2 (mU o) λj=>eF g[j]? λt=>cJ m t=jb/\(pe Ψ as E).a [] (g.set j (jy (.xx t))) λs q=>FE s=jb/\q[j]?=jy (jy (.xx t))/\ZM m t (zD s) λr C=>Q r jb (q.set j (jy (.own C))) else(pe Ψ o E).e g λx n h=>XQ m (uA x n).vw=jb/\sq (uA x n) h ((pe Ψ as E).a []) λs q=>Ll m (uA x n).vw (XB s) λz k=>Q z k q
  #[e,λg Q=>e g λt _ h=>PH t.er λb=>Q b h,iE.a]
 | .idx a b,E=>let e:zA->TK->Prop:=λg Q=>(pe Ψ a E).e g λx n h=>sq (uA x n) h (cu (pe Ψ b E).e) λy q=>TN (uA x n).vw (uA y.1 y.2).vw λz=>Q z js q
  #[e,λg Q=>e g λt _ h=>PH t.er λb=>Q b h,iE.a]
 | .slc a lo hi,E=>#[λg Q=>(pe Ψ a E).e g λx n h =>
   sq (α:=Option Int) (uA x n) h (if isNop lo=jb then λg (R:Option Int->zA->Prop)=>R jz g else λg R=>(pe Ψ lo E).e g λl _ q=>yD l.er λo=>R o q) λl q =>
   sq (α:=Option Int) (uA x n) q (if isNop hi=jb then λg (R:Option Int->zA->Prop)=>R jz g else λg R=>(pe Ψ hi E).e g λu _ Y=>yD u.er λo=>R o Y) λu Y=>sE (uA x n).vw l u λz k=>Q z k Y,iE.t,iE.a]
 | .nop,_=>iE|.lst as,E=>#[λg Q=>(pe Ψ as E).a [] g λs h=>FE s=jb/\s.length<=j1/\Q (.lst (zD s)) jb h,iE.t,iE.a]|.tup as,E=>#[λg Q=>(pe Ψ as E).a [] g λs h=>FE s=jb/\s.length<=j1/\Q (ZF (zD s)) jb h,iE.t,iE.a]|.comp mask tgs tg ik its cond elt,E=>#[λg Q=>(pe Ψ its E).a [] g λs h=>nC ik (XB s) λX =>
   CD (RG tg (mK tgs.length mask (lockA h)) (if isNop cond=jb then λg R=>R jb g else(pe Ψ cond (λ_=>False)).t) (pe Ψ elt (λ_=>False)).e) X [] λB=>Q (.lst B) jb h,iE.t,iE.a]
 | .eff (.comp mask tgs tg ik its cond elt),E=>#[λg Q=>(isNop cond=jb/\(mask.all λb=>!b)=jb/\(tg.ix.all λj=>decide (j<tgs.length))=jb)/\(pe Ψ its E).a [] g λs h=>XI s=jb/\nC ik (XB s) λX =>
   aJ tg tgs.length (pe Ψ elt (λ_=>False)).e X [] h λZ q=>Q (.lst (Z.map T.d)) jb q,iE.t,iE.a]
 | .eff (.slc a .nop (.int i)),E=>#[λg Q=>(pe Ψ a E).e g λx n h=>MG x n=jb/\∃Z,x.er=.tuple Z/\Q (.d (.tuple (ND Z jz (jy i)))) js h,iE.t,iE.a]|.eff _,_=>iE|.dsp ks as,E=>#[λg Q=>(pe Ψ as E).a [] g λs h=>(ks.Nodup/\ks.length<=15/\ks.length=s.length/\XI s=jb)/\Q (.d (.dict (OG ks (ersT (zD s))))) js h,iE.t,iE.a]|.kz,_=>#[iE.e,iE.t,λ_ g Q=>Q [] g]|.nz a as,E=>#[iE.e,iE.t,λK g Q=>if(K.headD .xy).isMut=jb then R6 a=jb/\(pe Ψ as E).a K.tail g λs h=>Q ((.d .none,jb)::s) h
   else(pe Ψ a E).e g λx n h=>sq (α:=List (T×Bool)) (if n=jb then .d .none else x) h ((pe Ψ as E).a K.tail) λs q=>Q ((x,n)::s) q]
structure PEnds where
 nx:zA->Prop
 rt:T->zA->Prop
 bk:zA->Prop:=λ_=>False
 ct:zA->Prop:=λ_=>False
noncomputable def CI:PX->LN
 | .vx i=>[i]|.idx a _=>CI a|.ife _ a b=>CI a++CI b|.and a b | .or a b=>CI a++CI b
 | .nz a h=>CI a++CI h|_=>[]
noncomputable def mM:Option (Option Sl)->Bool
 |some (jy (.own _))=>jb|some (jy (.xx _))=>js|some jz=>js|none=>js
noncomputable def TC(ρ:zA):LN->LN
 |[]=>[]|i::is=>if mM ρ[i]?=jb then i::TC ρ is else TC ρ is
noncomputable def cD:LN->zA->zA->zA
 |[],_,ρ=>ρ|i::L,ρ0,ρ=>cD L ρ0 (ρ.set i (ρ0[i]?.getD jz))
def A0(J L:LN)(h:zA)(N:zA->Prop)(ρ:zA):Prop:=(∀i∈L,i∉J/\ρ[i]?=h[i]?.map DG)/\N (cD L h ρ)
noncomputable def lI(body:PEnds->zA->Prop)(z:Tg)(Z:PEnds):LT->zA->Prop
 |[],ρ=>Z.nx ρ|x::xs,ρ=>dN z x ρ λy=>body { Z with nx:=λh=>lI body z Z xs h,ct:=λh=>lI body z Z xs h,bk:=Z.nx } y
noncomputable def Hs(ρ:zA)(i:Nat)(R:T->zA->Prop):Option (Option Sl)->Prop
 |some (jy (.own t))=>R t (ρ.set i jz)|some (jy (.xx t))=>t.isD=jb/\R t ρ|some jz=>False|none=>False
noncomputable def yE(Ψ:PEv)(E:XE)(y:T->zA->Prop):PX->zA->Prop
 | .vx i,ρ=>Hs ρ i y ρ[i]?|.ife c a b,ρ=>(pe Ψ c E).t ρ λk h=>if k=jb then yE Ψ E y a h else yE Ψ E y b h|e,ρ=>(pe Ψ e E).e ρ λx n h=>MG x n=jb/\y x h
noncomputable def pV:Option Sl->Option Sl
 |some (.own t)=>bD t.er|s=>s
noncomputable def frzAt:LN->zA->zA
 |[],ρ=>ρ|i::is,ρ=>frzAt is (ρ.modify i pV)
def jr(t:T)(y x:D)(Q:T->Prop):Prop:=∃h i n,t=.lst h/\y=.int i/\F6 h.length i=jy n/\Q (.lst (h.set n (.d x)))
def Mi(t:T)(y:D)(Q:LT->Nat->LT->Prop):Prop:=∃h i n x,t=.tup h/\y=.int i/\F6 h.length i=jy n/\h[n]?=jy (.lst x)/\Q h n x
def Mb(m:Option Nat)(ρ:zA):Prop:=match m with
 |none=>True|some j=>∃p,ρ[j]?=jy (bD (.int p))/\p.natAbs.log2<1920
noncomputable def Nm(i:Option Nat)(t:T)(ρ:zA):zA:=match i with
 |none=>ρ|some i=>ρ.set i (bD t.er)
noncomputable def eB(Ψ:PEv)(E:XE):PT->PEnds->zA->Prop
 | .nil,Z,ρ=>Z.nx ρ|.dpx i ks as k e r,Z,ρ=>(pe Ψ as E).a [] ρ λg h=>(ks.Nodup/\ks.length<=15/\ks.length=g.length/\XI g=jb)/\(k∉ks/\ks.length<=14/\h[i]?=jy jz)/\(pe Ψ e E).e h λx n z=>MG x n=jb/\eB Ψ E r Z (z.set i (bD (.dict (OG (ks++[k]) (ersT (zD g)++[x.er])))))|.seq s r,Z,ρ=>eB Ψ E s { Z with nx:=λq=>eB Ψ E r Z q } ρ|.set i e,Z,ρ=>(pe Ψ e E).e ρ λx n h=>MG x n=jb/\Z.nx (h.set i (bD x.er))|.setL i j e,Z,ρ=>(pe Ψ e E).e ρ λx n h=>MG x n=jb/\∃a b,x.er=.list [a,b]/\Z.nx ((h.set i (bD a)).set j (bD b))|.expr e,Z,ρ=>(pe Ψ e E).e ρ λ_ _ h=>Z.nx h|.ret e,Z,ρ=>yE Ψ E Z.rt e ρ|.ife c a b,Z,ρ=>(pe Ψ c E).t ρ λk h=>if k=jb then eB Ψ E a Z h else eB Ψ E b Z h|.for_ tg ik its body,Z,ρ=>(pe Ψ its E).a [] ρ λg h=>nC ik (XB g) λu =>
   if XI g=jb then lI (eB Ψ E body) tg { Z with nx:=λz=>Z.nx (kill tg.ix z) } u h
   else lI (eB Ψ E body) tg { Z with nx:=λz=>A0 tg.ix (TC h (CI its)) h Z.nx (kill tg.ix z) } u (lock (TC h (CI its)) h)
 | .own i e,Z,ρ=>(pe Ψ e E).e ρ λx n h=>MG x n=jb/\Z.nx (h.set i (jy (.own x)))|.rse x m e,_,ρ=>Mb m ρ/\∃y,Ψ.va x=jy (ZH y)/\(pe Ψ e E).e ρ λv _ _=>∃p,v=.d (.int p)/\E (y,p)|.tryC i f as x j k,Z,ρ=>(j≠k/\ρ[k]?=jy jz)/\Ψ.va x=jy (ZH "WorldError")/\xA (Ψ.sp f).md as=[]/\(pe Ψ as (λ_=>False)).a (Ψ.sp f).md ρ λg h=>h=ρ/\∃o,BA (Ψ.sp f).md g []=jy o /\
   (Ψ.sp f).run o (λr _=>Z.nx (Nm i r ρ)) λy=>Z.nx (ρ.set j (bD (VF y.1 y.2)))
 | .frz is s,Z,ρ=>eB Ψ E s Z (frzAt is ρ)|.six j i e,Z,ρ=>eF ρ[j]? λt=>(pe Ψ e E).e (ρ.set j (jy (.xx t))) λx n h=>MG x n=jb/\(pe Ψ i E).e h λy m z=>MG y m=jb/\z[j]?=jy (jy (.xx t))/\jr t y.er x.er λY=>Z.nx (z.set j (jy (.own Y)))|.pap j k e,Z,ρ=>eF ρ[j]? λt=>(pe Ψ k E).e (ρ.set j (jy (.xx t))) λy m h=>MG y m=jb/\Mi t y.er λX n o=>(pe Ψ e E).e h λx l z=>MG x l=jb/\z[j]?=jy (jy (.xx t))/\o.length<j1/\Z.nx (z.set j (jy (.own (.tup (X.set n (.lst (o++[x])))))))
abbrev pF(Ψ:PEv):PT->PEnds->zA->Prop:=eB Ψ λ_=>False
theorem _root_.L2.Same.rd{H H':Hp}(e:Same H H'){a:j2}{u:HO}(h:Rd H a u):Rd H' a u:=by
 rcases h with h|⟨o,h⟩
 exact .inl (e _ _ h);exact .inr #[o,e _ _ h]
theorem _root_.L2.Same.tupl{K:QC}{H H':Hp}{a:j2}{xs:LV}(e:Same H H')(h:oE K H a xs):oE K H' a xs:=by rcases h with h|h;exact .inl (e.rd h);exact .inr h
theorem Rep.monoB{K:QC}{H H':Hp}(e:Same H H'):(∀{v:V}{d:D},Rep K H v d->Rep K H' v d)/\∀{vs:LV}{z:List D},Reps K H vs z->Reps K H' vs z :=
 Rep.ind .non .bl .int .str (λh _ r=>.lst (e.seq h) r) (λh _ r=>.tup (e.tupl h) r) (λy x u=>.exc (e _ _ y) (e _ _ x) u) .cls (λy x _ r=>.dct (e _ _ y) x r) .nil (λ_ _ p q=>.cons p q)
theorem Rep.mono{K:QC}{H H':Hp}(e:Same H H'):∀{v:V}{d:D},Rep K H v d->Rep K H' v d:=(Rep.monoB e).1
theorem Reps.mono{K:QC}{H H':Hp}(e:Same H H'):∀{vs:LV}{h:List D},Reps K H vs h->Reps K H' vs h:=(Rep.monoB e).2
theorem Reps.append{K:QC}{H:Hp}:∀{vs ws:LV}{y x:List D},Reps K H vs y->Reps K H ws x->Reps K H (vs++ws) (y++x)
 |_,_,_,_,.nil,r=>r|_,_,_,_,.cons h t,r=>.cons h (Reps.append t r)
theorem Reps.drop{K:QC}{H:Hp}:∀{vs:LV}{h:List D}(n:Nat),Reps K H vs h->Reps K H (vs.drop n) (h.drop n)
 |_,_,0,r=>r|_,_,_+1,.nil=>.nil|_,_,n+1,.cons _ t=>Reps.drop n t
theorem Reps.take{K:QC}{H:Hp}:∀{vs:LV}{x:List D}(n:Nat),Reps K H vs x->Reps K H (vs.take n) (x.take n)
 |_,_,0,_=>.nil|_,_,_+1,.nil=>.nil|_,_,n+1,.cons h t=>.cons h (Reps.take n t)
theorem Reps.map_str{K:QC}{H:Hp}:∀(xs:LS),Reps K H (xs.map V.str) (xs.map Jx)
 |[]=>.nil|x::r=>.cons (.str x) (Reps.map_str r)
theorem Reps.bools{K:QC}{H:Hp}:∀{vs:LV}{bs:List Bool},Reps K H vs (bs.map PyData.bool)->vs=bs.map V.bl
 |_,[],.nil=>rfl|_,b::bs,.cons h t=>by cases h;rw[QN,Reps.bools t]
theorem pB{H:Hp}{p:j2}{o:HO}(h:H p=jz):Same H (VA H p o):=λb u q=>by rw[yA (ZA q h)];exact q
mutual
inductive Tr(K:QC)(F H:Hp):Bool->V->T->(j2->Prop)->Prop where
 |d {st:Bool}{v:V}{x:D}{S:pA}:Rep K F v x->(∀b,¬ S b)->Tr K F H st v (.d x) S
 |lst {st:Bool}{a:j2}{vs:LV}{ts:LT}{S S':pA}:H a=jy (.lst vs)->F a=jz->Trs K F H st vs ts S'->¬ S' a->(∀b,S b↔b=a∨S' b)->Tr K F H st (.ref a) (.lst ts) S
 |tup {st:Bool}{a:j2}{vs:LV}{ts:LT}{S S':pA}:H a=jy (.tup vs)->F a=jz->Trs K F H st vs ts S'->¬ S' a->(∀b,S b↔b=a∨S' b)->Tr K F H st (.ref a) (.tup ts) S
 |lstF {a:j2}{vs:LV}{ds:List D}{S:pA}:YD K F a vs->Reps K F vs ds->(∀b,¬ S b)->Tr K F H js (.ref a) (.lst (ds.map T.d)) S
inductive Trs(K:QC)(F H:Hp):Bool->LV->LT->(j2->Prop)->Prop where
 |nil {st:Bool}{S:pA}:(∀b,¬ S b)->Trs K F H st [] [] S
 |cons {st:Bool}{v:V}{t:T}{vs:LV}{ts:LT}{S S1 S2:pA}:Tr K F H st v t S1->Trs K F H st vs ts S2->(∀b,S1 b->¬ S2 b)->(∀b,S b↔S1 b∨S2 b)->Trs K F H st (v::vs) (t::ts) S
end
section
variable{K:QC}{F H F' H':Hp}
theorem Tr.inv{v:V}{t:T}{S:pA}(h:Tr K F H jb v t S):match t with
  | .d x=>Rep K F v x/\∀b,¬ S b|.lst z=>∃a vs y,v=.ref a/\H a=jy (.lst vs)/\F a=jz/\Trs K F H jb vs z y/\¬ y a/\∀b,S b↔b=a∨y b|.tup z=>∃a vs y,v=.ref a/\H a=jy (.tup vs)/\F a=jz/\Trs K F H jb vs z y/\¬ y a/\∀b,S b↔b=a∨y b|_=>True:=by
 cases h with|d a b=>exact#[a,b]|lst a b c d e=>exact#[_,_,_,rfl,a,b,c,d,e]|tup a b c d e=>exact#[_,_,_,rfl,a,b,c,d,e]
theorem Tr.invd{st:Bool}{v:V}{x:D}{S:pA}(h:Tr K F H st v (.d x) S):Rep K F v x/\∀b,¬ S b:=by
 cases h with|d a b=>exact#[a,b]
theorem Trs.inv{st:Bool}{vs:LV}{ts:LT}{S:pA}(h:Trs K F H st vs ts S):match ts with
  |[]=>vs=[]/\∀b,¬ S b|t::r=>∃v z y x,vs=v::z/\Tr K F H st v t y/\Trs K F H st z r x/\(∀b,y b->¬ x b)/\∀b,S b↔y b∨x b:=by
 cases h with|nil a=>exact#[rfl,a]|cons a b c d=>exact#[_,_,_,_,rfl,a,b,c,d]
theorem Trs.invv{st:Bool}{vs:LV}{ts:LT}{S:pA}(h:Trs K F H st vs ts S):match vs with
  |[]=>ts=[]/\∀b,¬ S b|v::ws=>∃t r y x,ts=t::r/\Tr K F H st v t y/\Trs K F H st ws r x/\(∀b,y b->¬ x b)/\∀b,S b↔y b∨x b:=by
 cases h with|nil a=>exact#[rfl,a]|cons a b c d=>exact#[_,_,_,_,rfl,a,b,c,d]
theorem Tr.ind{P:Bool->V->T->(j2->Prop)->Prop}{Q:Bool->LV->LT->(j2->Prop)->Prop}(d:∀{st:Bool}{v:V}{x:D}{S:pA},Rep K F v x->(∀b,¬ S b)->P st v (.d x) S)
  (l:∀{st:Bool}{a:j2}{vs:LV}{ts:LT}{S S':pA},H a=jy (.lst vs)->F a=jz->Trs K F H st vs ts S'->¬ S' a->(∀b,S b↔b=a∨S' b)->Q st vs ts S'->P st (.ref a) (.lst ts) S)
  (u:∀{st:Bool}{a:j2}{vs:LV}{ts:LT}{S S':pA},H a=jy (.tup vs)->F a=jz->Trs K F H st vs ts S'->¬ S' a->(∀b,S b↔b=a∨S' b)->Q st vs ts S'->P st (.ref a) (.tup ts) S)
  (f:∀{a:j2}{vs:LV}{y:List D}{S:pA},YD K F a vs->Reps K F vs y->(∀b,¬ S b)->P js (.ref a) (.lst (y.map T.d)) S) (n:∀{st:Bool}{S:pA},(∀b,¬ S b)->Q st [] [] S)
  (c:∀{st:Bool}{v:V}{t:T}{vs:LV}{ts:LT}{S S1 h:pA},Tr K F H st v t S1->Trs K F H st vs ts h->(∀b,S1 b->¬ h b)->(∀b,S b↔S1 b∨h b)->P st v t S1->Q st vs ts h->Q st (v::vs) (t::ts) S) :
  (∀{st:Bool}{v:V}{t:T}{S:pA},Tr K F H st v t S->P st v t S)/\∀{st:Bool}{vs:LV}{ts:LT}{S:pA},Trs K F H st vs ts S->Q st vs ts S :=
 #[Tr.rec (motive_1:=λst v t S _=>P st v t S) (motive_2:=λst vs ts S _=>Q st vs ts S) d l u f n c,Trs.rec (motive_1:=λst v t S _=>P st v t S) (motive_2:=λst vs ts S _=>Q st vs ts S) d l u f n c]
theorem Tr.monoB(e:Same F F'):(∀{st:Bool}{v:V}{t:T}{S:pA},Tr K F H st v t S->(∀b,S b->H' b=H b/\F' b=jz)->Tr K F' H' st v t S)/\∀{st:Bool}{vs:LV}{ts:LT}{S:pA},Trs K F H st vs ts S->(∀b,S b->H' b=H b/\F' b=jz)->Trs K F' H' st vs ts S :=
 Tr.ind (λr n _=>.d (r.mono e) n) (λh f r n q y k=>.lst ((k _ ((q _).mpr (.inl rfl))).1.trans h) (k _ ((q _).mpr (.inl rfl))).2 (y λb x=>k b ((q b).mpr (.inr x))) n q) (λh f r n q y k=>.tup ((k _ ((q _).mpr (.inl rfl))).1.trans h) (k _ ((q _).mpr (.inl rfl))).2 (y λb x=>k b ((q b).mpr (.inr x))) n q) (λh r n _=>.lstF (e.seq h) (r.mono e) n) (λn _=>.nil n) (λh t n q i j k=>.cons (i λb x=>k b ((q b).mpr (.inl x))) (j λb x=>k b ((q b).mpr (.inr x))) n q)
theorem Tr.mono(e:Same F F'):∀{st:Bool}{v:V}{t:T}{S:pA},Tr K F H st v t S->(∀b,S b->H' b=H b/\F' b=jz)->Tr K F' H' st v t S:=(Tr.monoB e).1
theorem Trs.mono(e:Same F F'):∀{st:Bool}{vs:LV}{ts:LT}{S:pA},Trs K F H st vs ts S->(∀b,S b->H' b=H b/\F' b=jz)->Trs K F' H' st vs ts S:=(Tr.monoB e).2
theorem Tr.weakB:(∀{st:Bool}{v:V}{t:T}{S:pA},Tr K F H st v t S->Tr K F H js v t S)/\∀{st:Bool}{vs:LV}{ts:LT}{S:pA},Trs K F H st vs ts S->Trs K F H js vs ts S :=
 Tr.ind .d (λh f _ n q i=>.lst h f i n q) (λh f _ n q i=>.tup h f i n q) .lstF .nil (λ_ _ n q i j=>.cons i j n q)
theorem Tr.weak:∀{st:Bool}{v:V}{t:T}{S:pA},Tr K F H st v t S->Tr K F H js v t S:=(Tr.weakB ).1
theorem Trs.weak:∀{st:Bool}{vs:LV}{ts:LT}{S:pA},Trs K F H st vs ts S->Trs K F H js vs ts S:=(Tr.weakB ).2
theorem Tr.domB:(∀{st:Bool}{v:V}{t:T}{S:pA},Tr K F H st v t S->∀b,S b->H b≠jz/\F b=jz)/\∀{st:Bool}{vs:LV}{ts:LT}{S:pA},Trs K F H st vs ts S->∀b,S b->H b≠jz/\F b=jz :=
 Tr.ind (λ_ n b x=>eN x (n b)) (λh f _ _ q i b x=>((q b).mp x).elim (λe=>by subst e;exact#[by rw[h];simp,f]) (i b)) (λh f _ _ q i b x=>((q b).mp x).elim (λe=>by subst e;exact#[by rw[h];simp,f]) (i b)) (λ_ _ n b x=>eN x (n b)) (λn b x=>eN x (n b)) (λ_ _ _ q i j b x=>((q b).mp x).elim (i b) (j b))
theorem Tr.dom:∀{st:Bool}{v:V}{t:T}{S:pA},Tr K F H st v t S->∀b,S b->H b≠jz/\F b=none:=(Tr.domB ).1
theorem Trs.dom:∀{st:Bool}{vs:LV}{ts:LT}{S:pA},Trs K F H st vs ts S->∀b,S b->H b≠jz/\F b=none:=(Tr.domB ).2
theorem Tr.repB(f:Same F H):(∀{st:Bool}{v:V}{t:T}{S:pA},Tr K F H st v t S->Rep K H v t.er)/\∀{st:Bool}{vs:LV}{ts:LT}{S:pA},Trs K F H st vs ts S->Reps K H vs (ersT ts) :=
 Tr.ind (λr _=>r.mono f) (λh _ _ _ _ i=>.lst (YD.of h) i) (λh _ _ _ _ i=>.tup (oE.of h) i) (λh r _=>by unfold T.er;rw[fB];exact .lst (f.seq h) (r.mono f)) (λ_=>.nil) (λ_ _ _ _ i j=>.cons i j)
theorem Tr.rep(f:Same F H):∀{st:Bool}{v:V}{t:T}{S:pA},Tr K F H st v t S->Rep K H v t.er:=(Tr.repB f).1
theorem Tr.keptB(e:Same F F'):(∀{st:Bool}{v:V}{t:T}{S:pA},Tr K F H st v t S->(∀b u,S b->H b=jy u->F' b=jy u)->Rep K F' v t.er)/\∀{st:Bool}{vs:LV}{ts:LT}{S:pA},Trs K F H st vs ts S->(∀b u,S b->H b=jy u->F' b=jy u)->Reps K F' vs (ersT ts) :=
 Tr.ind (λr _ _=>r.mono e) (λh f r n q i k=>.lst (YD.of (k _ _ ((q _).mpr (.inl rfl)) h)) (i λb u x=>k b u ((q b).mpr (.inr x)))) (λh f r n q i k=>.tup (oE.of (k _ _ ((q _).mpr (.inl rfl)) h)) (i λb u x=>k b u ((q b).mpr (.inr x)))) (λh r _ _=>by unfold T.er;rw[fB];exact .lst (e.seq h) (r.mono e)) (λ_ _=>.nil) (λ_ _ _ q i j k=>.cons (i λb u x=>k b u ((q b).mpr (.inl x))) (j λb u x=>k b u ((q b).mpr (.inr x))))
theorem Tr.kept(e:Same F F'):∀{st:Bool}{v:V}{t:T}{S:pA},Tr K F H st v t S->(∀b u,S b->H b=jy u->F' b=jy u)->Rep K F' v t.er:=(Tr.keptB e).1
theorem Trs.length:∀{st:Bool}{vs:LV}{ts:LT}{S:pA},Trs K F H st vs ts S->vs.length=ts.length :=
 (Tr.ind (P:=λ_ _ _ _=>True) (Q:=λ_ vs ts _=>vs.length=ts.length) (λ_ _=>trivial) (λ_ _ _ _ _ _=>trivial) (λ_ _ _ _ _ _=>trivial) (λ_ _ _=>trivial) (λ_=>rfl) (λ_ _ _ _ _ j=>by rw[QJ,QJ,j])).2
theorem Trs.of_reps{st:Bool}:∀{vs:LV}{x:List D},Reps K F vs x->Trs K F H st vs (x.map T.d) (λ_=>False)
 |_,_,.nil=>.nil λ_ z=>z|_,_,.cons h t=>.cons (.d h λ_ z=>z) (Trs.of_reps t) (λ_ z=>z.elim) λb=>by simp
theorem Trs.un:∀{st:Bool}{vs:LV}{ts:LT}{S:pA}{x:List D},Trs K F H st vs ts S->BE ts=jy x->Reps K F vs x/\∀b,¬ S b
 |_,_,_,_,_,.nil n,e=>by simp only[BE,Qu]at e;subst e;exact#[.nil,n]|st,_,_,S,x,.cons h t n q,e=>by
  have y:=CL e;cases x with
  |nil=>cases y|cons d r =>
   rw[QN]at y;injection y with e1 e2;subst e1;have u:=e6 BE e2;rw[gA]at u;let#[g,f]:=Trs.un t u;cases h with|d rep m=>refine#[.cons rep g,λb a=>?_];rcases(q b).mp a with z|z;exact m b z;exact f b z
theorem Trs.get:∀{st:Bool}{vs:LV}{ts:LT}{S:pA}{i:Nat}{t:T},Trs K F H st vs ts S->ts[i]?=jy t->∃v S1,vs[i]?=jy v/\Tr K F H st v t S1/\∀b,S1 b->S b
 |_,_,_,_,i,_,.nil n,e=>by simp at e|_,_,_,_,0,_,.cons h t n q,e=>by simp at e;subst e;exact#[_,_,rfl,h,λb x=>(q b).mpr (.inl x)]|_,_,_,_,i+1,_,.cons h t n q,e=>by let#[v,S1,u,z,y]:=Trs.get (i:=i) t (by simpa using e);exact#[v,S1,by simpa using u,z,λb x=>(q b).mpr (.inr (y b x))]
theorem Trs.at{st:Bool}{vs:LV}{ts:LT}{S:pA}{i:Int}{t:T}(r:Trs K F H st vs ts S)(h:zC ts i=jy t):∃v S1,zC vs i=jy v/\Tr K F H st v t S1/\∀b,S1 b->S b:=by
 unfold zC at h ⊢;rw[r.length];cases e:F6 ts.length i with|none=>rw[e]at h;cases h|some j=>rw[e]at h;exact r.get h
theorem Trs.append{st:Bool}{vs ws:LV}{ts us:LT}{S1 x:pA}(h:Trs K F H st vs ts S1)(r:Trs K F H st ws us x)(k:∀b,S1 b->¬ x b):Trs K F H st (vs++ws) (ts++us) (λb=>S1 b∨x b) :=
 (Tr.ind (P:=λ_ _ _ _=>True) (Q:=λst vs ts S1=>Trs K F H st ws us x->(∀b,S1 b->¬ x b)->Trs K F H st (vs++ws) (ts++us) (λb=>S1 b∨x b)) (λ_ _=>trivial) (λ_ _ _ _ _ _=>trivial) (λ_ _ _ _ _ _=>trivial) (λ_ _ _=>trivial) (λn r k=>by have e:(λb=>_∨x b)=x:=funext λb=>eI #[λz=>z.elim (λz=>(n b z).elim) id,.inr];rw[e];exact r) (λh t n q _ j r k=>.cons h (j r λb y=>k b ((q b).mpr (.inr y))) (λb y z=>z.elim (n b y) (k b ((q b).mpr (.inl y)))) λb=>by rw[q b,or_assoc])).2 h r k
theorem Trs.one{st:Bool}{v:V}{t:T}{S:pA}(h:Tr K F H st v t S):Trs K F H st [v] [t] S:=.cons h (.nil (S:=λ_=>False) λ_ z=>z) (λ_ _ z=>z) λb=>by simp
theorem Tr.ls{st:Bool}{v:V}{t:T}{S:pA}{ts:LT}(f:Same F H)(h:Tr K F H st v t S)(e:t.vw=.ls ts):∃a vs S',v=.ref a/\YD K H a vs/\Trs K F H js vs ts S'/\∀b,S' b->S b:=by
 cases h with
 |d r n =>
  cases r with|lst q r=>injection e with e;subst e;exact#[_,_,_,rfl,f.seq q,Trs.of_reps r,λb x=>x.elim]|_=>cases e
 |lst h _ r n q=>injection e with e;subst e;exact#[_,_,_,rfl,YD.of h,r.weak,λb x=>(q b).mpr (.inr x)]|tup=>cases e|lstF h r n=>injection e with e;subst e;exact#[_,_,_,rfl,f.seq h,Trs.of_reps r,λb x=>x.elim]
theorem Tr.tp{st:Bool}{v:V}{t:T}{S:pA}{ts:LT}(f:Same F H)(h:Tr K F H st v t S)(e:t.vw=.tp ts):∃a vs S',v=.ref a/\oE K H a vs/\Trs K F H js vs ts S'/\∀b,S' b->S b:=by
 cases h with
 |d r n =>
  cases r with|tup q r=>injection e with e;subst e;exact#[_,_,_,rfl,f.tupl q,Trs.of_reps r,λb x=>x.elim]|_=>cases e
 |tup h _ r n q=>injection e with e;subst e;exact#[_,_,_,rfl,oE.of h,r.weak,λb x=>(q b).mpr (.inr x)]|lst=>cases e|lstF=>cases e
theorem Tr.sc{st:Bool}{v:V}{t:T}{S:pA}{x:D}(h:Tr K F H st v t S)(e:t.vw=.sc x):t=.d x/\Rep K F v x:=by
 cases h with
 |@d _ _ y _ r n =>
  cases y with|list z=>cases e|tuple z=>cases e|dict z=>cases e|_=>injection e with e;subst e;exact#[rfl,r]
 |tup=>cases e|lst=>cases e|lstF=>cases e
theorem Tr.int{st:Bool}{v:V}{t:T}{S:pA}{i:Int}(h:Tr K F H st v t S)(e:t.vw=.sc (.int i)):v=.int i:=by let#[_,r]:=h.sc e;cases r;rfl
theorem Tr.str{st:Bool}{v:V}{t:T}{S:pA}{i:Str}(h:Tr K F H st v t S)(e:t.vw=.sc (.str i)):v=.str i:=by let#[_,r]:=h.sc e;cases r;rfl
theorem Tr.bool{st:Bool}{v:V}{t:T}{S:pA}{i:Bool}(h:Tr K F H st v t S)(e:t.vw=.sc (.bool i)):v=.bl i:=by let#[_,r]:=h.sc e;cases r;rfl
end
theorem Reps.reps{K:QC}{H:Hp}{vs:LV}{x:List D}(h:Reps K H vs x):∀m:Nat,Reps K H (QI m vs).flatten (QI m x).flatten
 |0=>.nil|m+1=>by rw[Qf,Qf,qF,qF];exact h.append (h.reps m)
noncomputable def Sl.t:Sl->T
 | .own t=>t|.xx t=>t
noncomputable def Sl.st:Sl->Bool
 | .own _=>jb|.xx _=>js
noncomputable abbrev Ft:=Nat->j2->Prop
structure Rl(K:QC)(F H:Hp)(S:Ft)(ρ:zA)(σ:St):Prop where
 fh:Same F H
 len:ρ.length=σ.length
 sl:∀(i:Nat) s,ρ[i]?=jy (jy s)->∃v,σ[i]?=jy (jy v)/\Tr K F H s.st v s.t (S i)
 dj:∀(i j:Nat) t s,i≠j->ρ[i]?=jy (jy (.own t))->ρ[j]?=jy (jy s)->∀b,S i b->¬ S j b
def U(ρ:zA)(S:Ft)(b:j2):Prop:=∃(i:Nat) (t:T),ρ[i]?=jy (jy (.own t))/\S i b
structure Stp(F H:Hp)(S:Ft)(ρ:zA)(F' H':Hp)(S':Ft)(ρ':zA):Prop where
 ff:Same F F'
 hh:∀b u,H b=jy u->¬ U ρ S b->H' b=jy u
 dm:∀b,H' b=jz->H b=jz
 fn:∀b,F b=jz->F' b≠jz->U ρ S b∨H b=jz
 uu:∀b,U ρ' S' b->U ρ S b∨H b=jz
 bo:∀(j:Nat) t,ρ'[j]?=jy (jy (.xx t))->t.isD=js->ρ[j]?=jy (jy (.xx t))/\S' j=S j
structure Ste(F H:Hp)(S:Ft)(ρ:zA)(F' H':Hp)(S':Ft)(ρ':zA):Prop extends Stp F H S ρ F' H' S' ρ' where
 ow:∀(j:Nat) t,ρ'[j]?=jy (jy (.own t))->∃t0,ρ[j]?=jy (jy (.own t0))
section
variable{K:QC}{F H g c m A:Hp}{S S1 X:Ft}{ρ y l:zA}{σ:St}
theorem Stp.refl:Stp F H S ρ F H S ρ:=#[.refl _,λ_ _ h _=>h,λ_ h=>h,λb h z=>eN h z,λ_ h=>.inl h,λ_ _ h _=>#[h,rfl]]
theorem Ste.refl:Ste F H S ρ F H S ρ:=#[Stp.refl,λ_ t h=>#[t,h]]
theorem Stp.trans(a:Stp F H S ρ g c S1 y)(b:Stp g c S1 y m A X l):Stp F H S ρ m A X l where
 ff:=a.ff.trans b.ff
 hh:=λx u h n=>b.hh x u (a.hh x u h n) λz=>by rcases a.uu x z with q|q;exact n q;rw[q]at h;cases h
 dm:=λx h=>a.dm x (b.dm x h)
 fn:=λx h z=>by
  by_cases q:g x=jz;rcases b.fn x q z with w|w
  ·exact a.uu x w
  exact .inr (a.dm x w);exact a.fn x h q
 uu:=λx h=>by rcases b.uu x h with w|w;exact a.uu x w;exact .inr (a.dm x w)
 bo:=λj t h n=>by let#[o,i]:=b.bo j t h n;let#[f,e]:=a.bo j t o n;exact#[f,i.trans e]
theorem Ste.trans(a:Ste F H S ρ g c S1 y)(b:Ste g c S1 y m A X l):Ste F H S ρ m A X l:=#[a.toStp.trans b.toStp,λj t h=>by let#[x,z]:=b.ow j t h;exact a.ow j x z]
theorem Stp.keep(s:Stp F H S ρ g c S1 y){st:Bool}{v:V}{t:T}{Z:pA}(h:Tr K F H st v t Z)(n:∀b,Z b->¬ U ρ S b):Tr K g c st v t Z :=
 h.mono s.ff λb x=>by
  let#[a,f]:=h.dom b x;refine#[?_,?_];cases e:H b with|none=>exact eN e a|some u=>exact s.hh b u e (n b x)
  by_cases q:g b=jz
  ·exact q
  rcases s.fn b f q with z|z
  ·exact eN z (n b x)
  exact eN z a
theorem Rl.dom(I:Rl K F H S ρ σ){i:Nat}{s:Sl}(h:ρ[i]?=jy (jy s)){b:j2}(x:S i b):H b≠jz/\F b=none:=by let#[v,_,r]:=I.sl i s h;exact r.dom b x
theorem Rl.isD(I:Rl K F H S ρ σ){i:Nat}{s:Sl}(h:ρ[i]?=jy (jy s))(hd:s.t.isD=jb){b:j2}:¬ S i b:=by
 let#[v,_,r]:=I.sl i s h;generalize s.t=t at r hd;generalize s.st=st at r;cases r with|d r n=>exact n b|_=>cases hd
structure Held(F H:Hp)(S:Ft)(ρ:zA)(Z:pA):Prop where
 dom:∀b,Z b->H b≠jz/\F b=jz
 nw:∀(i:Nat) s,ρ[i]?=jy (jy s)->∀b,Z b->¬ S i b
theorem Held.nu{Z:pA}(h:Held F H S ρ Z):∀b,Z b->¬ U ρ S b:=λb x #[i,t,u,z]=>h.nw i _ u b x z
theorem Held.step{Z:pA}(h:Held F H S ρ Z)(s:Stp F H S ρ g c S1 y)(o:Rl K g c S1 y σ):Held g c S1 y Z where
 dom:=λb x=>by
  let#[u,f]:=h.dom b x;refine#[λz=>u (s.dm b z),?_];by_cases q:g b=jz;exact q;rcases s.fn b f q with z|z
  ·exact eN z (h.nu b x)
  exact eN z u
 nw:=λi a e b x z=>by
  cases a with
  |own t=>rcases s.uu b ⟨i,t,e,z⟩ with q|q;exact h.nu b x q;exact(h.dom b x).1 q
  |xx t =>
   cases hd:t.isD with|true=>exact o.isD e hd z|false=>let#[n,j]:=s.bo i t e hd;rw[j]at z;exact h.nw i _ n b x z
theorem Held.none:Held F H S ρ λ_=>False:=#[λ_ z=>z.elim,λ_ _ _ _ z=>z.elim]
theorem Held.or{Z Y:pA}(a:Held F H S ρ Z)(b:Held F H S ρ Y):Held F H S ρ λx=>Z x∨Y x:=#[λx h=>h.elim (a.dom x) (b.dom x),λi s e x h=>h.elim (a.nw i s e x) (b.nw i s e x)]
noncomputable def gF(F H:Hp)(W:pA):Hp:=open Classical in λb=>if W b then H b else F b
theorem rD{W:pA}{b:j2}(h:W b):gF F H W b=H b:=ef h
theorem aB{W:pA}{b:j2}(h:¬ W b):gF F H W b=F b:=eH h
theorem uE{W:pA}(h:∀b,W b->F b=jz):Same F (gF F H W):=λb u e=>by rw[aB λz=>by rw[h b z]at e;cases e];exact e
theorem nX{W:pA}(f:Same F H):Same (gF F H W) H:=λb u e=>by by_cases h:W b;rw[rD h]at e;exact e;rw[aB h]at e;exact f b u e
theorem Rl.frz(I:Rl K F H S ρ σ){W:pA}(x:Held F H S ρ W):Rl K (gF F H W) H S ρ σ where
 fh:=nX I.fh
 len:=I.len
 sl:=λi s e=>by let#[v,a,u]:=I.sl i s e;refine#[v,a,u.mono (uE λb h=>(x.dom b h).2) λb h=>#[rfl,?_]];rw[aB λz=>x.nw i s e b z h];exact(u.dom b h).2
 dj:=I.dj
theorem Stp.frz(s:Stp F H S ρ g c S1 y){W:pA}(x:∀b,W b->g b=jz)(fr:∀b,W b->H b=jz∨U ρ S b):Stp F H S ρ (gF g c W) c S1 y :=
 #[s.ff.trans (uE x),s.hh,s.dm,λb h z=>by by_cases q:W b;exact(fr b q).symm;rw[aB q]at z;exact s.fn b h z,s.uu,s.bo]
theorem Ste.frz(s:Ste F H S ρ g c S1 y){W:pA}(h:∀b,W b->g b=jz)(fr:∀b,W b->H b=jz∨U ρ S b):Ste F H S ρ (gF g c W) c S1 y:=#[s.toStp.frz h fr,s.ow]
theorem Stp.new(s:Stp F H S ρ g c S1 y){p:j2}(h:c p=jz)(o:HO):Stp F H S ρ g (VA c p o) S1 y :=
 #[s.ff,λb u e n=>pB h b u (s.hh b u e n),λb e=>by by_cases x:b=p;rw[x,vA]at e;cases e;rw[yA x]at e;exact s.dm b e,s.fn,s.uu,s.bo]
theorem Ste.new(s:Ste F H S ρ g c S1 y){p:j2}(h:c p=jz)(o:HO):Ste F H S ρ g (VA c p o) S1 y:=#[s.toStp.new h o,s.ow]
theorem Rl.same(I:Rl K F H S ρ σ)(h:Same H c):Rl K F c S ρ σ where
 fh:=I.fh.trans h
 len:=I.len
 sl:=λi s e=>by
  let#[v,a,x]:=I.sl i s e;refine#[v,a,x.mono (.refl _) λb z=>#[?_,(x.dom b z).2]];cases e:H b with|none=>exact eN e (x.dom b z).1|some u=>exact h b u e
 dj:=I.dj
theorem Rl.new(I:Rl K F H S ρ σ){p:j2}(h:H p=jz)(o:HO):Rl K F (VA H p o) S ρ σ:=I.same (pB h)
theorem Stp.newT(s:Stp F H S ρ g c S1 y){p:j2}(h:c p=jz)(a:g p=jz)(o:HO):Stp F H S ρ (VA g p o) (VA c p o) S1 y :=
 let x:=s.new h o
 #[s.ff.trans (pB a),x.hh,x.dm,λb e z=>by by_cases u:b=p;rw[u];exact .inr (s.dm p h);rw[yA u]at z;exact s.fn b e z,s.uu,s.bo]
theorem Ste.newT(s:Ste F H S ρ g c S1 y){p:j2}(h:c p=jz)(x:g p=jz)(o:HO):Ste F H S ρ (VA g p o) (VA c p o) S1 y:=#[s.toStp.newT h x o,s.ow]
theorem Rl.newT(I:Rl K F H S ρ σ){p:j2}(h:H p=jz)(o:HO):Rl K (VA F p o) (VA H p o) S ρ σ where
 fh:=λb u e=>by by_cases x:b=p;rw[x,vA]at e ⊢;exact e;rw[yA x]at e ⊢;exact I.fh b u e
 len:=I.len
 sl:=λi s e=>by let#[v,j,a]:=I.sl i s e;refine#[v,j,a.mono (pB (I.fh.free h)) λb x=>?_];have f:b≠p:=λz=>(a.dom b x).1 (by rw[z];exact h);rw[yA f,yA f];exact#[rfl,(a.dom b x).2]
 dj:=I.dj
theorem AY(ρ:zA)(i:Nat):(lockA ρ)[i]?=ρ[i]?.map DG:=by unfold lockA;rw[Qj]
theorem LB{ρ:zA}{i:Nat}{s:Sl}(h:(lockA ρ)[i]?=jy (jy s)):∃x,ρ[i]?=jy (jy x)/\s=.xx x.t:=by
 rw[AY]at h;cases e:ρ[i]? with
 |none=>rw[e]at h;cases h|some o =>
  rw[e]at h;cases o with
  |none=>cases h|some x =>
   cases x with|own t=>injection h with h;injection h with h;subst h;exact#[_,rfl,rfl]|xx t=>injection h with h;injection h with h;subst h;exact#[_,rfl,rfl]
theorem vE(b:j2):¬ U (lockA ρ) S b:=λ#[i,t,h,_]=>by let#[x,_,e]:=LB h;cases e
theorem Rl.lockA(I:Rl K F H S ρ σ):Rl K F H S (lockA ρ) σ where
 fh:=I.fh
 len:=by unfold L3.lockA;rw[QG];exact I.len
 sl:=λi s e=>by let#[x,h,rfl]:=LB e;let#[v,u,z]:=I.sl i x h;exact#[v,u,z.weak]
 dj:=λi j t s _ h=>by let#[x,_,e]:=LB h;cases e
theorem Stp.unlockA(s:Stp F H S (L3.lockA ρ) g c S1 y):Stp F H S ρ g c S ρ :=
 #[s.ff,λb u e _=>s.hh b u e (vE b),s.dm,λb h z=>(s.fn b h z).elim (λq=>eN q (vE b)) .inr,λ_ h=>.inl h,λ_ _ h _=>#[h,rfl]]
theorem Rl.unlockA(I:Rl K F H S ρ σ)(s:Stp F H S (L3.lockA ρ) g c S1 y)(f:Same g c):Rl K g c S ρ σ where
 fh:=f
 len:=I.len
 sl:=λi sl e=>by let#[v,x,h]:=I.sl i sl e;exact#[v,x,s.keep h λb _=>vE b]
 dj:=I.dj
structure VR(K:QC)(vs:LN)(H0:Hp)(S0:Ft)(ρ0:zA)(F H:Hp)(S:Ft)(ρ:zA)(v:V)(t:T)(n:Bool)(Z:pA):Prop where
 tr:Tr K F H n v t Z
 fr:n=jb->∀b,Z b->H0 b=jz∨U ρ0 S0 b
 tm:n=js->∀b,Z b->∃(i:Nat) (s:Sl),i∈vs/\ρ[i]?=jy (jy s)/\S i b
 nw:n=jb->∀(i:Nat) s,ρ[i]?=jy (jy s)->∀b,Z b->¬ S i b
theorem VR.d{vs:LN}{a:Hp}{u:Ft}{h:zA}{v:V}{x:D}(n:Bool)(r:Rep K F v x):VR K vs a u h F H S ρ v (.d x) n (λ_=>False) :=
 #[.d r λ_ z=>z,λ_ _ z=>z.elim,λ_ _ z=>z.elim,λ_ _ _ _ _ z=>z.elim]
theorem VR.held{vs:LN}{a:Hp}{u:Ft}{x:zA}{v:V}{t:T}{Z:pA}(h:VR K vs a u x F H S ρ v t jb Z):Held F H S ρ Z:=#[λb z=>h.tr.dom b z,h.nw rfl]
theorem VR.vars{vs ws:LN}{u:Hp}{z:Ft}{x:zA}{v:V}{t:T}{n:Bool}{Z:pA}(h:VR K vs u z x F H S ρ v t n Z)(k:∀i∈vs,i∈ws):VR K ws u z x F H S ρ v t n Z :=
 #[h.tr,h.fr,λe b a=>let#[i,s,j,f]:=h.tm e b a;#[i,s,k i j,f],h.nw]
theorem VR.from{vs:LN}{v:V}{t:T}{n:Bool}{Z:pA}(s:Stp F H S ρ g c S1 y)(h:VR K vs c S1 y m A X l v t n Z):VR K vs H S ρ m A X l v t n Z :=
 #[h.tr,λe b x=>by rcases h.fr e b x with q|q;exact .inl (s.dm b q);exact(s.uu b q).symm,h.tm,h.nw]
theorem VR.frz{vs:LN}{v:V}{t:T}{n:Bool}{Z:pA}(s:Ste F H S ρ g c S1 y)(I:Rl K g c S1 y σ)(h:VR K vs H S ρ g c S1 y v t n Z) :
  ∃m Y,Ste F H S ρ m c S1 y/\Rl K m c S1 y σ/\Tr K m c js v (uA t n) Y/\(MG t n=jb->Rep K m v t.er)/\(∀b,Y b->∃(i:Nat) (s:Sl),i∈vs/\y[i]?=jy (jy s)/\S1 i b) /\
   ∀st o t' j,Tr K g c st o t' j->(∀b,j b->∃(i:Nat) (s:Sl),y[i]?=jy (jy s)/\S1 i b)->Tr K m c st o t' j:=by
 cases n with
 |true =>
  have f:=h.held;have q:=uE (H:=c) λb a=>(f.dom b a).2;have p:=h.tr.kept q λb u a e=>by rw[rD a];exact e
  refine#[gF g c Z,λ_=>False,s.frz (λb a=>(f.dom b a).2) (h.fr rfl),I.frz f,.d p λ_ z=>z,λ_=>p,λb z=>z.elim,λst o t' j r C=>r.mono q λb a=>#[rfl,?_]];let#[i,B,G,E]:=C b a;rw[aB λz=>f.nw i B G b z E];exact(r.dom b a).2
 |false =>
  refine#[g,Z,s,I,h.tr,?_,h.tm rfl,λ_ _ _ _ r _=>r];intro e;have W:=h.tr;cases t with
  |d x=>cases W with|d r n=>exact r
  |_=>cases e
end
noncomputable abbrev oB(K:QC)(vs:LN)(F H:Hp)(S:Ft)(ρ:zA)(σ:St)(Q:TK)(R:VK):Prop :=
 ∀v z x y h t n Z,Ste F H S ρ z x y h->Rl K z x y h σ->VR K vs H S ρ z x y h v t n Z->Q t n h->R v x
noncomputable abbrev NH(K:QC)(F H:Hp)(S:Ft)(ρ:zA)(σ:St)(Q:Bool->zA->Prop)(R:Bool->Hp->Prop):Prop :=
 ∀b z x y h,Ste F H S ρ z x y h->Rl K z x y h σ->Q b h->R b x
section
variable{K:QC}{ws:LN}{F H B X:Hp}{S S1:Ft}{ρ A:zA}{σ:St}{v w:V}{a b:T}{C J:pA}{Q:TK}{R:VK}{E G:Bool}
theorem oB.from{u z:Hp}{y:Ft}{h:zA}(k:oB K ws F H S ρ σ Q R)(s:Ste F H S ρ u z y h):oB K ws u z y h σ Q R:=λv j i f x t n Z e g r q=>k v j i f x t n Z (s.trans e) g (r.from s.toStp) q
theorem NH.from{u z:Hp}{y:Ft}{h:zA}{Q:Bool->zA->Prop}{R:Bool->Hp->Prop}(k:NH K F H S ρ σ Q R)(s:Ste F H S ρ u z y h):NH K u z y h σ Q R:=λb j i f x e g q=>k b j i f x (s.trans e) g q
theorem oB.vars{us:LN}(k:oB K ws F H S ρ σ Q R)(h:∀i∈us,i∈ws):oB K us F H S ρ σ Q R:=λv u z y x t n Z s I r q=>k v u z y x t n Z s I (r.vars h) q
theorem oB.d(k:oB K ws F H S ρ σ Q R)(s:Ste F H S ρ B X S1 A)(I:Rl K B X S1 A σ){x:D}{n:Bool}(r:Rep K B v x)(q:Q (.d x) n A):R v X:=k v B X S1 A _ n _ s I (VR.d n r) q
theorem oB.list(k:oB K ws F H S ρ σ Q R)(s:Ste F H S ρ B X S1 A)(I:Rl K B X S1 A σ){p:j2}(y:X p=jz){vs:LV}{ts:LT}{W:pA}(r:Trs K B X jb vs ts W)
  (fr:∀b,W b->H b=jz∨U ρ S b) (u:Held B X S1 A W) (q:Q (.lst ts) jb A):R (.ref p) (VA X p (.lst vs)):=by
 have np:∀b,X b≠jz->b≠p:=λb h z=>h (by rw[z];exact y);refine k _ B _ S1 A _ jb (λb=>b=p∨W b) (s.new y _) (I.new y _) #[.lst vA (I.fh.free y) (r.mono (.refl _) λb x=>#[?_,(u.dom b x).2]) (λz=>(u.dom p z).1 y) (λb=>Wy),λ_ b x=>?_,λz=>(by cases z),λ_ i f e b x z=>?_] q;rw[yA (np b (u.dom b x).1)];rcases x with rfl|x
 ·exact .inl (s.dm _ y)
 exact fr b x;rcases x with rfl|x
 ·exact(I.dom e z).1 y
 exact u.nw i f e b x z
theorem oB.listD(k:oB K ws F H S ρ σ Q R)(s:Ste F H S ρ B X S1 A)(I:Rl K B X S1 A σ){p:j2}(x:X p=jz){vs:LV}{h:List D}(r:Reps K B vs h)(q:Q (.lst (h.map T.d)) jb A):R (.ref p) (VA X p (.lst vs)) :=
 k.list s I x (Trs.of_reps r) (λb z=>z.elim) .none q
theorem oB.tupD(k:oB K ws F H S ρ σ Q R)(s:Ste F H S ρ B X S1 A)(I:Rl K B X S1 A σ){p:j2}(h:X p=jz){vs:LV}{x:List D}{n:Bool}(r:Reps K B vs x)(q:Q (.d (.tuple x)) n A):R (.ref p) (VA X p (.tup vs)) :=
 oB.d k (s.newT h (I.fh.free h) _) (I.newT h _) (.tup (oE.of vA) (r.mono (pB (I.fh.free h)))) q
theorem oB.tup(k:oB K ws F H S ρ σ Q R)(s:Ste F H S ρ B X S1 A)(I:Rl K B X S1 A σ){p:j2}(y:X p=jz){vs:LV}{ts:LT}{W:pA}(r:Trs K B X jb vs ts W)
  (fr:∀b,W b->H b=jz∨U ρ S b) (u:Held B X S1 A W) (q:Q (ZF ts) jb A):R (.ref p) (VA X p (.tup vs)):=by
 unfold ZF at q;cases e:BE ts with
 |some g=>rw[e]at q;exact k.tupD s I y (r.un e).1 q|none =>
  rw[e]at q;have np:∀b,X b≠jz->b≠p:=λb h z=>h (by rw[z];exact y);refine k _ B _ S1 A _ jb (λb=>b=p∨W b) (s.new y _) (I.new y _) #[.tup vA (I.fh.free y) (r.mono (.refl _) λb x=>#[?_,(u.dom b x).2]) (λz=>(u.dom p z).1 y) (λb=>Wy),λ_ b x=>?_,λz=>(by cases z),λ_ i f e b x z=>?_] q;rw[yA (np b (u.dom b x).1)];rcases x with rfl|x
  ·exact .inl (s.dm _ y)
  exact fr b x;rcases x with rfl|x
  ·exact(I.dom e z).1 y
  exact u.nw i f e b x z
theorem Bk{op:yx}(s:Ste F H S ρ B X S1 A)(I:Rl K B X S1 A σ)(o:Tr K B X E v a C)(g:Tr K B X G w b J)(h:binT op a.vw b.vw λz n=>Q z n A)(k:oB K ws F H S ρ σ Q R):Gc K op v w X R:=by
 have Z:∀{i j:Int},a.vw=.sc (.int i)->b.vw=.sc (.int j)->v=.int i/\w=.int j:=λf u=>#[o.int f,g.int u]
 cases op with
 |Add =>
  rcases h with⟨i,j,f,u,h⟩| ⟨x,y,f,u,h⟩| ⟨P,N,ds,es,f,u,e1,e2,hl,q⟩| ⟨P,N,ds,es,f,u,e1,e2,hn,hn2,hl,q⟩
  let#[rfl,rfl]:=Z f u;exact k.d s I (.int _) h;obtain rfl:=o.str f;obtain rfl:=g.str u;exact#[h.1,k.d s I (.str _) h.2];let#[p,W,_,rfl,M,L,_]:=o.ls I.fh f;let#[p2,O,_,rfl,hq,rq,_]:=g.ls I.fh u;have Y:=(L.un e1).1;have r:=(rq.un e2).1;exact .inl #[W,O,M,hq,by rw[Y.length,r.length];exact hl,λl hl=>k.listD s I hl (Y.append r) q];let#[p,W,_,rfl,M,L,_]:=o.tp I.fh f;let#[p2,O,_,rfl,hq,rq,_]:=g.tp I.fh u;have Y:=(L.un e1).1;have r:=(rq.un e2).1;refine .inr #[p,p2,W,O,rfl,rfl,M,hq,?_,by rw[Y.length,r.length];exact hl,λz=>?_,λ_ l hl=>?_];intro z;subst z;cases Y;exact hn rfl;subst z;cases r;exact eN rfl hn2;exact k.tupD s I hl (Y.append r) q
 |Sub=>let#[i,j,f,u,h]:=h;let#[rfl,rfl]:=Z f u;exact k.d s I (.int _) h|Mult =>
  rcases h with⟨i,j,f,u,h⟩| ⟨x,y,f,u,h⟩| ⟨ts,m,ds,f,u,e,⟨b1,b2,b3⟩,q⟩
  let#[rfl,rfl]:=Z f u;exact#[h.1,k.d s I (.int _) h.2]
  rotate_left
  let#[p,W,_,rfl,M,L,_]:=o.ls I.fh f;obtain rfl:=g.int u;have rr:=(L.un e).1;exact#[W,M,#[b1,b2,by rw[rr.length];exact b3],λl hl=>k.listD s I hl (rr.reps m.toNat) q];obtain rfl:=o.str f;obtain rfl:=g.int u;exact#[h.1,k.d s I (.str _) h.2]
 |FloorDiv=>let#[i,j,f,u,h]:=h;let#[rfl,rfl]:=Z f u;exact#[h.1,k.d s I (.int _) h.2]|Mod=>let#[i,j,f,u,h]:=h;let#[rfl,rfl]:=Z f u;exact#[h.1,k.d s I (.int _) h.2]|Pow=>let#[i,j,f,u,h]:=h;let#[rfl,rfl]:=Z f u;exact#[h.1,k.d s I (.int _) h.2]|_=>exact h.elim
theorem Rep.invV{K:QC}{H:Hp}{v:V}{x:D}(h:Rep K H v x):match v with
  | .int i=>x=.int i|.str z=>x=.str z|.bl b=>x=.bool b|_=>True:=by cases h<;>first|rfl|trivial
theorem Ce{x y:D}{l:Bool->Prop}(z:Bool)(e:Rep K X v x)(u:Rep K X w y)(h:Jr x y λk=>l (if z then !k else k))(k:∀c,l c->R (.bl c) X):rEq K z v w X R:=by
 have j:oG x/\oG y/\l (if z then !PyData.eqv x y else Qz x y)->(∃i f,Rep K X v i/\Rep K X w f/\oG i/\oG f/\R (.bl (if z then !PyData.eqv i f else Qz i f)) X):=λ#[n,m,q] =>
  #[x,y,e,u,n,m,k _ q]
 unfold Jr at h;split at h;cases e.inv;cases u.inv;exact k _ h;cases e.inv;cases u.inv;exact k _ h;cases e.inv;cases u.inv;exact k _ h;have g:=j h;rename_i n1 n2 n3;unfold rEq;split;cases e.invV;cases u.invV;exact eN rfl (n1 _ _ rfl);cases e.invV;cases u.invV;exact eN rfl (n2 _ _ rfl);cases e.invV;cases u.invV;exact eN rfl (n3 _ _ rfl);exact g
theorem eV{F:Hp}{v:V}{a:D}(h:Rep K F v a)(x:zB a=jb):(v=.non/\a=.none)∨(∃b,v=.bl b/\a=.bool b)∨(∃i,v=.int i/\a=.int i)∨∃z,v=.str z/\a=.str z:=by cases h<;>first|exact eN (show js=jb from x) QD|simp
theorem i7{F:Hp}{v w:V}{a b:D}(x:Rep K F v a)(h:Rep K F w b)(u:zB a=jb)(y:zB b=jb):z9 v w=Qz a b:=by rcases eV x u with⟨rfl,rfl⟩| ⟨b,rfl,rfl⟩| ⟨i,rfl,rfl⟩| ⟨z,rfl,rfl⟩<;>rcases eV h y with⟨rfl,rfl⟩| ⟨b,rfl,rfl⟩| ⟨i,rfl,rfl⟩| ⟨z,rfl,rfl⟩<;>rfl
theorem aV{F:Hp}{v:V}{a:D}(h:Rep K F v a)(x:zB a=jb):MH v=true:=by rcases eV h x with⟨rfl,_⟩| ⟨_,rfl,_⟩| ⟨_,rfl,_⟩| ⟨_,rfl,_⟩<;>rfl
theorem SM{F:Hp}:∀{vs:LV}{x:List D},Reps K F vs x->x.all zB=jb->vs.all MH=jb
 |_,_,.nil,_=>rfl|_,_,.cons h t,f=>by rw[Q8,QX]at f ⊢;exact#[aV h f.1,SM t f.2]
theorem RM{F:Hp}{v:V}{a:D}(z:Rep K F v a)(u:zB a=jb):∀{vs:LV}{x:List D},Reps K F vs x->x.all zB=jb->inV v vs=x.any λy=>Qz y a
 |_,_,.nil,_=>rfl|_,_,.cons h t,f=>by rw[Q8,QX]at f;have e:=RM z u t f.2;unfold inV at e ⊢;rw[qB,qB,i7 h z f.1 u,e]
theorem Ze{x y:D}{n:Bool->Prop}(g:Bool)(u:Rep K X v x)(f:Rep K X w y)(h:gr x y λk=>n (if g then !k else k))(k:∀c,n c->R (.bl c) X):sU K g v w X R:=by
 unfold gr at h;split at h;cases u.inv;cases f.inv;exact k _ h;rename_i ds;have z:=f;cases f with
 |lst m e =>
  rcases h.1 with⟨i,fs⟩| ⟨l,j⟩
  refine .inl #[_,_,rfl,.inl m,aV u i,SM e fs,?_];rw[RM u i e fs];exact k _ h.2;exact .inr #[_,ds,u,.inl z,l,j,k _ h.2]
 rename_i ds;have z:=f;cases f with
 |tup m e =>
  rcases h.1 with⟨i,fs⟩| ⟨l,j⟩
  refine .inl #[_,_,rfl,.inr m,aV u i,SM e fs,?_];rw[RM u i e fs];exact k _ h.2;exact .inr #[_,ds,u,.inr z,l,j,k _ h.2]
 exact h.elim
theorem uQ{x y:D}{z:Bool->Prop}{g:Int->Int->Bool}(e:Rep K X v x)(u:Rep K X w y)(h:YY g x y z)(k:∀c,z c->R (.bl c) X):tY g v w X R:=by unfold YY at h;split at h;cases e.inv;cases u.inv;exact k _ h;exact h.elim
theorem Rep.non_iff{x:D}(h:Rep K X v x):decide (v=.non)=CB x:=by cases h<;>rfl
theorem BV{x y:D}{i:Z1}{g:Bool->Prop}(u:Rep K X v x)(z:Rep K X w y)(h:FS i x y g)(k:∀c,g c->R (.bl c) X):YH K i v w X R:=by
 cases i with|Eq=>exact Ce js u z h k|NotEq=>exact Ce jb u z h k|Lt=>exact uQ u z h k|LtE=>exact uQ u z h k|Gt=>exact uQ u z h k|GtE=>exact uQ u z h k|In=>exact Ze js u z h k|NotIn=>exact Ze jb u z h k|Is=>have f:kZ x y g:=h;unfold kZ at f;split at f;cases z.inv;have e:=u.non_iff;show R (.bl (decide (v=.non))) X;rw[e];exact k _ f;exact f.elim|IsNot=>have f:kZ x y λk=>g (!k):=h;unfold kZ at f;split at f;cases z.inv;have e:=u.non_iff;show R (.bl (!decide (v=.non))) X;rw[e];exact k _ f;exact f.elim
theorem mJ{xs:LV}{h:List D}(r:Reps K F xs h):(!h.isEmpty)=!xs.isEmpty:=by cases r<;>rfl
theorem fW{x:D}{f:Bool->Prop}{e:Bool->Hp->Prop}(y:Rep K X v x)(h:PH x f)(k:∀c,f c->e c X):UF K v X e:=by unfold PH at h;split at h;cases y;exact k _ h;cases y;exact k _ h;cases y.inv;exact k _ h;cases y.inv;exact#[h.1,k _ h.2];let#[_,_,rfl,u,z]:=y.inv;rw[mJ z]at h;exact#[_,.inl #[_,u,rfl],k _ h];let#[_,_,rfl,u,z]:=y.inv;rw[mJ z]at h;exact#[_,.inr (.inl #[_,u,rfl]),k _ h];exact h.elim
theorem r8{x:D}{z:Bool->Prop}{y:Bool->Hp->Prop}(u:Rep K X v x)(h:Tk x z)(k:∀c,z c->y c X):rR v X y:=by unfold Tk at h;split at h;cases u.inv;exact k _ h;exact h.elim
theorem Tj(s:Ste F H S ρ B X S1 A)(I:Rl K B X S1 A σ)(n:Tr K B X E v a C)(L:∀b,C b->∃(i:Nat) (s:Sl),i∈ws/\A[i]?=jy (jy s)/\S1 i b)(m:Tr K B X G w b J)(h:TN a.vw b.vw λz=>Q z js A)(k:oB K ws F H S ρ σ Q R):C3 K v w X R:=by
 rcases h with⟨z,i,c,g,f,e,u,q⟩| ⟨M,i,d,g,f,e,q⟩| ⟨M,i,d,g,f,e,q⟩
 obtain rfl:=n.str g;obtain rfl:=m.int f;exact#[e,c,u,k.d s I (.str _) q];let#[p,j,N,rfl,Y,l,o]:=n.ls I.fh g;obtain rfl:=m.int f;let#[x,Z,u,r,y]:=l.at e;exact#[j,x,.inl Y,u,k _ B X S1 A _ js Z s I #[r,λz=>(by cases z),λ_ b W=>L b (o b (y b W)),λz=>(by cases z)] q];let#[p,j,N,rfl,Y,l,o]:=n.tp I.fh g;obtain rfl:=m.int f;let#[x,Z,u,r,y]:=l.at e;exact#[j,x,.inr Y,u,k _ B X S1 A _ js Z s I #[r,λz=>(by cases z),λ_ b W=>L b (o b (y b W)),λz=>(by cases z)] q]
theorem Reps.cut{xs:LV}{y:List D}(r:Reps K F xs y)(h x:Option Int):Reps K F (US xs h x) (ND y h x):=by unfold US ND;rw[r.length];exact(r.drop _).take _
theorem Dh{i j:Option Int}(s:Ste F H S ρ B X S1 A)(I:Rl K B X S1 A σ)(f:Tr K B X E v a C)(h:sE a.vw i j λz n=>Q z n A)(k:oB K ws F H S ρ σ Q R):ur K v i j X R:=by
 rcases h with⟨z,x,h⟩| ⟨m,o,x,e,q⟩| ⟨m,o,x,e,n,q⟩
 obtain rfl:=f.str x;exact#[h.1,k.d s I (.str _) h.2];let#[p,u,_,rfl,g,y,_]:=f.ls I.fh x;exact .inl #[p,u,rfl,g,λl hl=>k.listD s I hl ((y.un e).1.cut _ _) q];let#[p,u,_,rfl,g,y,_]:=f.tp I.fh x;refine .inr (.inl #[p,u,rfl,g,by rw[(y.un e).1.length];exact n,λl hl=>k.tupD s I hl ((y.un e).1.cut _ _) q])
theorem Fa{x:D}{P:Option Int->Prop}{y:Option Int->Hp->Prop}(z:Rep K X v x)(h:yD x P)(k:∀o,P o->y o X):gM v X y:=by unfold yD at h;split at h;cases z.inv;exact k _ h;exact h.elim
noncomputable def Tq:D->j0
 | .none=>.type "NoneType"|.bool _=>.type "bool"|.int _=>.type "int"|.str _=>.type "str"|.list _=>.type "list"|.tuple _=>.type "tuple"|.dict _=>.type "dict"
theorem Rep.ty{x:D}{n:String}{k:Bool}(u:Rep K X v x)(h:isD n x=jy k):TyOf K X v (Tq x)∨Ru K X v (Tq x):=by
 cases u with|exc _ _ _=>cases h|cls _=>cases h|dct _ _ _=>cases h|non=>exact .inl .non|bl b=>exact .inl (.bl _)|int b=>exact .inl (.int _)|str b=>exact .inl (.str _)|lst y z=>exact .inr (.inl #[_,_,rfl,y,rfl])|tup y z=>exact .inr (.inr #[_,_,rfl,y,rfl])
theorem Bj{x:D}{n:String}{k:Bool}(h:isD n x=jy k)(y:BO n=jb):WZ K (Tq x) (.type n)=jy k:=by simp only[BO,qk,beq_iff_eq]at y;rcases y with((((rfl|rfl)|rfl)|rfl)|rfl)|rfl<;>cases x<;>simp[isD]at h<;>subst h<;>rfl
theorem Rj{x:D}{n:String}{k:Bool}(y:Rep K X v x)(h:isD n x=jy k)(z:BO n=jb)(q:R (.bl k) X):D9 K [v,.ty n] X R :=
 #[Tq x,.type n,k,y.ty h,rfl,Bj h z,q]
inductive Tn(K:QC)(F H:Hp)(Y:pA):LV->LT->Prop where
 |nil:Tn K F H Y [] []
 |cons {v:V}{t:T}{vs:LV}{ts:LT}{Z:pA}:Tr K F H js v t Z->(∀b,Z b->Y b)->Tn K F H Y vs ts->Tn K F H Y (v::vs) (t::ts)
theorem NJ(ts:LT):∀{xs:List (T×Bool)},UD xs=ts->XB xs=ts.map T.vw
 |[],h=>by subst h;rfl|p::r,h=>by subst h;simp only[XB,UD,QN,NJ _ rfl]
theorem Tn.one{Y:pA}{vs:LV}{ts:LT}{x:Vw}(h:Tn K F H Y vs ts)(e:ts.map T.vw=[x]):∃v t Z,vs=[v]/\ts=[t]/\t.vw=x/\Tr K F H js v t Z/\∀b,Z b->Y b:=by
 cases h with
 |nil=>cases e|cons r z t =>
  simp only[QN,wb]at e;cases t with|nil=>exact#[_,_,_,rfl,rfl,e.1,r,z]|cons _ _ _=>simp at e
theorem Tn.two{Y:pA}{vs:LV}{ts:LT}{x y:Vw}(h:Tn K F H Y vs ts)(e:ts.map T.vw=[x,y]):∃v w t u Z f,vs=[v,w]/\ts=[t,u]/\t.vw=x/\u.vw=y/\Tr K F H js v t Z/\Tr K F H js w u f/\(∀b,Z b->Y b)/\(∀b,f b->Y b):=by
 cases h with|nil=>cases e|cons r z t=>simp only[QN,wb]at e;let#[v,u,f,rfl,rfl,j,i,g]:=t.one e.2;exact#[_,_,_,_,_,_,rfl,rfl,e.1,j,r,i,z,g]
theorem ZW:∀{xs:LV}{ys:LS},Reps K F xs (ys.map Jx)->xs=ys.map V.str
 |_,[],.nil=>rfl|_,y::ys,.cons h t=>by cases h;rw[QN,ZW t]
theorem Rk{m:Bi}{Y:pA}{vs:LV}{ts:LT}(s:Ste F H S ρ B X S1 A)(I:Rl K B X S1 A σ)(y:Tn K B X Y vs ts)(h:fP m (ts.map T.vw) λz n=>Q z n A)(k:oB K ws F H S ρ σ Q R):xq K m vs X R:=by
 cases m with
 |len =>
  rcases h with⟨z,e,h⟩| ⟨j,e,h⟩| ⟨j,e,h⟩
  let#[v,t,Z,rfl,rfl,e,r,_]:=y.one e;obtain rfl:=r.str e;exact#[h.1,k.d s I (.int _) h.2];let#[v,t,Z,rfl,rfl,e,r,_]:=y.one e;let#[p,f,_,rfl,u,x,_]:=r.ls I.fh e;exact .inl #[f,u,by rw[x.length];exact k.d s I (.int _) h];let#[v,t,Z,rfl,rfl,e,r,_]:=y.one e;let#[p,f,_,rfl,u,x,_]:=r.tp I.fh e;exact .inr #[f,u,by rw[x.length];exact k.d s I (.int _) h]
 |all=>let#[j,bs,e,g,q]:=h;let#[v,t,Z,rfl,rfl,e,r,_]:=y.one e;let#[p,f,_,rfl,u,x,_]:=r.ls I.fh e;obtain rfl:=(x.un g).1.bools;exact#[bs,u,k.d s I (.bl _) q]|int =>
  rcases h with⟨i,e,h⟩| ⟨b,e,h⟩| ⟨z,n,e,L,W,q⟩
  let#[v,t,Z,rfl,rfl,e,r,_]:=y.one e;obtain rfl:=r.int e;exact k.d s I (.int _) h;let#[v,t,Z,rfl,rfl,e,r,_]:=y.one e;obtain rfl:=r.bool e;exact k.d s I (.int _) h;let#[v,t,Z,rfl,rfl,e,r,_]:=y.one e;obtain rfl:=r.str e;exact#[L,n,W,k.d s I (.int _) q]
 |str =>
  rcases h with⟨i,e,h⟩| ⟨z,e,h⟩
  let#[v,t,Z,rfl,rfl,e,r,_]:=y.one e;obtain rfl:=r.int e;exact#[h.1,k.d s I (.str _) h.2];let#[v,t,Z,rfl,rfl,e,r,_]:=y.one e;obtain rfl:=r.str e;exact k.d s I (.str _) h
 |any=>let#[j,bs,e,g,q]:=h;let#[v,t,Z,rfl,rfl,e,r,_]:=y.one e;let#[p,f,_,rfl,u,x,_]:=r.ls I.fh e;obtain rfl:=(x.un g).1.bools;exact#[bs,u,k.d s I (.bl _) q]|list =>
  rcases h with⟨j,o,e,g,q⟩| ⟨j,o,e,g,q⟩
  let#[v,t,Z,rfl,rfl,e,r,_]:=y.one e;let#[p,f,_,rfl,u,x,_]:=r.ls I.fh e;exact#[_,f,rfl,.inl u,λl hl=>k.listD s I hl (x.un g).1 q];let#[v,t,Z,rfl,rfl,e,r,_]:=y.one e;let#[p,f,_,rfl,u,x,_]:=r.tp I.fh e;exact#[_,f,rfl,.inr u,λl hl=>k.listD s I hl (x.un g).1 q]
 |tuple=>let#[j,o,e,g,q]:=h;let#[v,t,Z,rfl,rfl,e,r,_]:=y.one e;let#[p,f,_,rfl,u,x,_]:=r.ls I.fh e;exact#[_,f,rfl,.inl #[u,λl hl=>k.tupD s I hl (x.un g).1 q]]
theorem lj{m:Mt}{Y:pA}{vs:LV}{ts:LT}(s:Ste F H S ρ B X S1 A)(I:Rl K B X S1 A σ)(f:Tr K B X E v a C)(g:Tn K B X Y vs ts)(h:Ll m a.vw (ts.map T.vw) λz n=>Q z n A)(k:oB K ws F H S ρ σ Q R):Lb K m v vs X R:=by
 cases m with|split=>let#[z,y,u,e,h]:=h;let#[w,t,Z,rfl,rfl,e,r,_]:=g.one e;obtain rfl:=f.str u;obtain rfl:=r.str e;exact#[h.1,h.2.1,h.2.2.1,λp x=>k.listD s I x (Reps.map_str _) h.2.2.2]|join=>let#[z,L,i,u,e,o,l,q]:=h;let#[w,t,Z,rfl,rfl,e,r,_]:=g.one e;obtain rfl:=f.str u;let#[p,W,_,rfl,x,j,_]:=r.ls I.fh e;obtain rfl:=ZW (j.un o).1;exact#[z,p,i,rfl,rfl,x,l,k.d s I (.str _) q]|_=>exact h.elim
theorem Ao{x:Vw}(h:x.isS=jb):∃z,x=.sc (.str z):=by
 cases x with
 |sc d=>cases d with|str z=>exact#[z,rfl]|_=>exact(QD h).elim
 |_=>exact(QD h).elim
theorem Xo{m:Mt}(x:Tr K B X E v a C)(h:XQ m a.vw=jb):SZ K m.ty v X:=by
 have h:=jA h;let#[z,y]:=Ao h.1;obtain rfl:=x.str y;cases m with|split=>rfl|join=>rfl|_=>exact(QD h.2).elim
end
inductive AV(K:QC)(F H:Hp):List Md->LV->List (T×Bool)->(j2->Prop)->(j2->Prop)->Prop where
 |nil {md:List Md}{W Y:pA}:(∀b,¬ W b)->AV K F H md [] [] W Y
 |chg {md:List Md}{v:V}{vs:LV}{x:T}{xs:List (T×Bool)}{W Y:pA}:(md.headD .xy).isMut=jb->AV K F H md.tail vs xs W Y->AV K F H md (v::vs) ((x,jb)::xs) W Y
 |new {md:List Md}{v:V}{vs:LV}{x:T}{xs:List (T×Bool)}{Z W W' Y:pA}:(md.headD .xy).isMut=js->Tr K F H jb v x Z->AV K F H md.tail vs xs W' Y->(∀b,Z b->¬ W' b)->(∀b,W b↔Z b∨W' b) ->
   AV K F H md (v::vs) ((x,jb)::xs) W Y
 |tmp {md:List Md}{v:V}{vs:LV}{x:T}{xs:List (T×Bool)}{Z W Y:pA}:(md.headD .xy).isMut=js->Tr K F H js v x Z->(∀b,Z b->Y b)->AV K F H md.tail vs xs W Y ->
   AV K F H md (v::vs) ((x,js)::xs) W Y
section
variable{K:QC}{F H c w:Hp}{S S1:Ft}{ρ y:zA}{σ:St}
theorem AV.sub{Y u:pA}{md:List Md}{vs:LV}{xs:List (T×Bool)}{W:pA}(h:AV K F H md vs xs W Y)(k:∀b,Y b->u b):AV K F H md vs xs W u:=by
 induction h with|nil h=>exact .nil h|chg h t x=>exact .chg h (x k)|new h r t n q x=>exact .new h r (x k) n q|tmp h r z t x=>exact .tmp h r (λb a=>k b (z b a)) (x k)
theorem AV.dom{Y:pA}{md:List Md}{vs:LV}{xs:List (T×Bool)}{W:pA}(h:AV K F H md vs xs W Y):∀b,W b->H b≠jz/\F b=none:=by
 induction h with|nil h=>exact λb u=>eN u (h b)|chg h t x=>exact x|new h r t n q x=>exact λb u=>((q b).mp u).elim (r.dom b) (x b)|tmp h r z t x=>exact x
theorem AV.mono{Y:pA}{md:List Md}{vs:LV}{xs:List (T×Bool)}{W:pA}(h:AV K F H md vs xs W Y)(e:Same F c)(k:∀b,W b∨Y b->w b=H b/\c b=jz):AV K c w md vs xs W Y:=by
 induction h with|nil h=>exact .nil h|chg h t x=>exact .chg h (x k)|new h r t n q x=>exact .new h (r.mono e λb u=>k b (.inl ((q b).mpr (.inl u)))) (x λb u=>k b (u.imp (λz=>(q b).mpr (.inr z)) id)) n q|tmp h r z t x=>exact .tmp h (r.mono e λb u=>k b (.inr (z b u))) z (x k)
theorem AV.length{Y:pA}{md:List Md}{vs:LV}{xs:List (T×Bool)}{W:pA}(h:AV K F H md vs xs W Y):vs.length=xs.length:=by
 induction h with|nil h=>rfl|chg h t x=>simp[x]|new h r t n q x=>simp[x]|tmp h r z t x=>simp[x]
theorem DL:∀(xs:List (T×Bool)),(zD xs).length=xs.length
 |[]=>rfl|_::r=>e6 (·+1) (DL r)
theorem AV.trs{Y:pA}{md:List Md}{vs:LV}{xs:List (T×Bool)}{W:pA}(h:AV K F H md vs xs W Y):(∀(i:Nat),(md.getD i .xy).isMut=js)->FE xs=jb->Trs K F H jb vs (zD xs) W:=by
 induction h with
 |nil h=>exact λ_ _=>.nil h|@chg md _ _ _ _ _ _ h t u =>
  intro m;have:=m 0;cases md with|nil=>cases h|cons a r=>exact eN h (by simpa using this)
 |@new md v vs x xs Z W f Y h r t n q u =>
  intro m e;simp only[FE,QX]at e;exact .cons r (u (λi=>by cases md with|nil=>exact m i|cons a md=>exact m (i+1)) e.2) n q
 |@tmp md v vs x xs Z W Y h r z t u =>
  intro m e;simp only[FE,QX]at e;refine .cons (S1:=λ_=>False) ?_ (u (λi=>by cases md with|nil=>exact m i|cons a md=>exact m (i+1)) e.2) (λ_ z=>z.elim) λb=>by simp
  cases x with
  |d x=>cases r with|d r n=>exact .d r λ_ z=>z
  |_=>exact eN e.1 (by simp[MG,T.isD])
theorem fj(i:Nat):((([]:List Md).getD i .xy).isMut)=false:=rfl
theorem AV.tn{Y:pA}{md:List Md}{vs:LV}{xs:List (T×Bool)}{W:pA}(h:AV K F H md vs xs W Y)(e:Same F c)(k:∀b,W b->c b=H b)(k2:∀b,Y b->F b=jz->c b=jz)(g:md=[]):Tn K c H Y vs (UD xs):=by
 induction h with|nil h=>exact .nil|chg h t f=>subst g;cases h|@new md v vs x xs Z W j Y h r t n q f=>subst g;refine .cons (Z:=λ_=>False) ?_ (λb z=>z.elim) (f (λb a=>k b ((q b).mpr (.inr a))) k2 rfl);exact .d (r.kept e λb u a i=>by rw[k b ((q b).mpr (.inl a))];exact i) λ_ z=>z|@tmp md v vs x xs Z W Y h r z t f=>subst g;exact .cons (r.mono e λb a=>#[rfl,k2 b (z b a) (r.dom b a).2]) z (f k k2 rfl)
structure AR(K:QC)(ws:LN)(md:List Md)(H0:Hp)(S0:Ft)(ρ0:zA)(F H:Hp)(S:Ft)(ρ:zA)(vs:LV)(xs:List (T×Bool))(W Y:pA):Prop where
 av:AV K F H md vs xs W Y
 fr:∀b,W b->H0 b=jz∨U ρ0 S0 b
 tm:∀b,Y b->∃(i:Nat) (s:Sl),i∈ws/\ρ[i]?=jy (jy s)/\S i b
 nw:∀(i:Nat) s,ρ[i]?=jy (jy s)->∀b,W b->¬ S i b
theorem AR.held{ws:LN}{md:List Md}{u:Hp}{z:Ft}{x:zA}{vs:LV}{xs:List (T×Bool)}{W Y:pA}(h:AR K ws md u z x F H S ρ vs xs W Y):Held F H S ρ W:=#[h.av.dom,h.nw]
theorem AR.from{ws:LN}{md:List Md}{a u:Hp}{z:Ft}{x:zA}{vs:LV}{xs:List (T×Bool)}{W Y:pA}(s:Stp F H S ρ c w S1 y)(h:AR K ws md w S1 y a u z x vs xs W Y):AR K ws md H S ρ a u z x vs xs W Y :=
 #[h.av,λb e=>by rcases h.fr b e with q|q;exact .inl (s.dm b q);exact(s.uu b q).symm,h.tm,h.nw]
theorem AR.vars{ws us:LN}{md:List Md}{u:Hp}{z:Ft}{x:zA}{vs:LV}{xs:List (T×Bool)}{W Y:pA}(h:AR K ws md u z x F H S ρ vs xs W Y)(k:∀i∈ws,i∈us):AR K us md u z x F H S ρ vs xs W Y :=
 #[h.av,h.fr,λb a=>let#[i,s,f,e]:=h.tm b a;#[i,s,k i f,e],h.nw]
theorem AR.frz{ws:LN}{vs:LV}{xs:List (T×Bool)}{W Y:pA}(s:Ste F H S ρ c w S1 y)(I:Rl K c w S1 y σ)(h:AR K ws [] H S ρ c w S1 y vs xs W Y) :
  ∃e,Ste F H S ρ e w S1 y/\Rl K e w S1 y σ/\Tn K e w Y vs (UD xs) /\
   ∀st f t' a,Tr K c w st f t' a->(∀b,a b->∃(i:Nat) (s:Sl),y[i]?=jy (jy s)/\S1 i b)->Tr K e w st f t' a:=by
 have u:=h.held;have l:=uE (H:=w) λb x=>(u.dom b x).2;refine#[gF c w W,s.frz (λb x=>(u.dom b x).2) h.fr,I.frz u,h.av.tn l (λb x=>rD x) (λb n o=>?_) rfl,λst f t' a r m=>r.mono l λb x=>#[rfl,?_]];let#[i,g,_,j,p]:=h.tm b n;rw[aB λz=>h.nw i g j b z p];exact o;let#[i,g,q,j]:=m b x;rw[aB λz=>u.nw i g q b z j];exact(r.dom b x).2
noncomputable def AA:List Md->LV->LV
 |_,[]=>[]|md,v::vs=>match md.headD .xy with
  | .chg=>v::AA md.tail vs|_=>AA md.tail vs
noncomputable abbrev Fq(K:QC)(p:PX)(md:List Md)(F H:Hp)(S:Ft)(ρ:zA)(σ:St)(Q:List (T×Bool)->zA->Prop)(R:LV->Hp->Prop):Prop :=
 ∀vs u x z h a W Y,Ste F H S ρ u x z h->Rl K u x z h σ->AR K (CI p) md H S ρ u x z h vs a W Y->(AA md vs).map (λv=>jy (jy v))=(xA md p).map (λj=>σ[j]?)->Q a h->R vs x
def Sc(K:QC)(F _H:Hp)(x:XD)(h:Option j2):Prop:=∃a,h=jy a/\Rep K F (.ref a) (VF x.1 x.2)
def nF(K:QC)(F H:Hp)(S:Ft)(ρ:zA)(E:XE)(EK:XK):Prop:=∀x a u h b z,Stp F H S ρ u h b z->Same u h->Sc K u h x a->E x->EK .none a h
theorem nF.from{E:XE}{EK:XK}(h:nF K F H S ρ E EK)(s:Stp F H S ρ c w S1 y):nF K c w S1 y E EK:=λx a g e b z u f r q=>h x a g e b z (s.trans u) f r q
theorem nF.never:nF K F H S ρ (λ_=>False) (λ_ _ _=>False):=λ_ _ _ _ _ _ _ _ _ z=>z
inductive ArgsR(K:QC)(F H:Hp)(Y:pA):List Md->LV->LT->Prop where
 |nil {md:List Md}:ArgsR K F H Y md [] []
 |chg {md:List Md}{v:V}{vs:LV}{t:T}{ts:LT}:md.headD .xy=.chg->ArgsR K F H Y md.tail vs ts->ArgsR K F H Y md (v::vs) (t::ts)
 |rd {md:List Md}{v:V}{vs:LV}{t:T}{ts:LT}{Z:pA}:md.headD .xy≠.chg->Tr K F H js v t Z->(∀b,Z b->Y b)->ArgsR K F H Y md.tail vs ts->ArgsR K F H Y md (v::vs) (t::ts)
structure Frm(M:pA)(F H F' H':Hp):Prop where
 ff:Same F F'
 fh:Same F' H'
 hh:∀b u,H b=jy u->¬ M b->H' b=jy u
 dm:∀b,H' b=jz->H b=jz
 fn:∀b,F b=jz->F' b≠jz->M b∨H b=jz
noncomputable def lift(K:QC)(P:PSp):Sp:=λvs H Q E=>∃(F:Hp) (u:LT) (M Y:pA),Same F H/\ArgsR K F H Y P.md vs u/\Trs K F H jb (AA P.md vs) (UB P.md u) M/\(∀b,Y b->¬ M b) /\
 P.run u (λr os=>∀v z h Z a,Frm M F H z h->Tr K z h jb v r Z->Trs K z h jb (AA P.md vs) os a->(∀b,Z b->¬ a b)->(∀b,Z b∨a b->M b∨H b=jz)->Q v h)
  (λx=>∀e z h,Frm M F H z h->Sc K z h x e->E .none e h)
structure GOk(K:QC)(Γ:Ev)(Ψ:PEv):Prop where
 sp:∀f vs H Q E,lift K (Ψ.sp f) vs H Q E->Γ.sp f vs H Q E
 va:∀x d,Ψ.va x=jy d->∀F,Rep K F (Γ.va x) d
 dc:∀x kds,Ψ.dc x=jy kds->∃kvs,Γ.dc x=jy kvs/\x0 (λ(p:Str×V) (q:Str×D)=>p.1=q.1/\∀F,Rep K F p.2 q.2) kvs kds
structure PSnd(K:QC)(Γ:Ev)(Ψ:PEv)(p:PX):Prop where
 e:∀{E:XE}{EK:XK}{F H:Hp}{S:Ft}{ρ:zA}{σ:St}{Q:TK}{R:VK},Rl K F H S ρ σ->nF K F H S ρ E EK->(pe Ψ p E).e ρ Q->oB K (CI p) F H S ρ σ Q R->(wp K Γ p EK).e σ H R
 t:∀{E:XE}{EK:XK}{F H:Hp}{S:Ft}{ρ:zA}{σ:St}{Q:Bool->zA->Prop}{R:Bool->Hp->Prop},Rl K F H S ρ σ->nF K F H S ρ E EK->(pe Ψ p E).t ρ Q->NH K F H S ρ σ Q R->(wp K Γ p EK).t σ H R
 a:∀{E:XE}{EK:XK}{F H:Hp}{S:Ft}{ρ:zA}{σ:St}{md:List Md}{Q:List (T×Bool)->zA->Prop}{R:LV->Hp->Prop},Rl K F H S ρ σ->nF K F H S ρ E EK->(∀j∈xA md p,∃v,σ[j]?=jy (jy v))->(pe Ψ p E).a md ρ Q->Fq K p md F H S ρ σ Q R->(wp K Γ p EK).a σ H R
end
section
variable{K:QC}{Γ:Ev}{Ψ:PEv}{E:XE}{EK:XK}{F H A U:Hp}{S S1:Ft}{ρ o:zA}{σ:St}
theorem Xh{b:PX}(G:PSnd K Γ Ψ b)(I:Rl K F H S ρ σ)(X:nF K F H S ρ E EK){x:T}{P:T×Bool->zA->Prop}{RR:VK}(h:sq x ρ (cu (pe Ψ b E).e) P)
  (C:∀w F' H' S' u y m Z,Ste F H S ρ F' H' S' u->Rl K F' H' S' u σ->(∀st v a,Tr K F H st v x a->Tr K F' H' st v x a)->(x.isD=js->u=ρ/\S'=S)->VR K (CI b) H S ρ F' H' S' u w y m Z->P (y,m) u->RR w H') :
  (wp K Γ b EK).e σ H RR:=by
 unfold sq at h;cases hd:x.isD with
 |true =>
  rw[hd,ef rfl]at h;refine G.e I X h λw F' H' S' u y m Z s p r q=>C w F' H' S' u y m Z s p (λst v a g=>?_) (λz=>(by rw[hd]at z;cases z)) r q;cases x with
  |d x=>cases g with|d r n=>exact .d (r.mono s.ff) n
  |_=>cases hd
 |false =>
  rw[hd,eH (by simp)]at h;have X':nF K F H S (lockA ρ) E EK:=λx dx F2 H2 S2 J L f r q=>X x dx F2 H2 S ρ L.unlockA f r q;refine G.e I.lockA X' h λw F' H' S' u y m Z s p r q=>?_;have N:∀st v t a,Tr K F H st v t a->Tr K F' H' st v t a:=λst v t a g=>s.keep g λb _=>vE b;refine C w F' H' S ρ y m Z #[s.unlockA,λj t h=>#[t,h]] (I.unlockA s.toStp p.fh) (λst v a g=>N st v _ a g) (λ_=>#[rfl,rfl]) #[r.tr,λe b l=>?_,λe b l=>?_,λe i B O b l z=>?_] q;exact .inl ((r.fr e b l).elim id λz=>eN z (vE b));let#[i,B,Q,W,Y]:=r.tm e b l;cases B with
  |own t=>let#[t0,R]:=s.ow i t W;let#[_,_,e0]:=LB R;cases e0|xx t =>
   cases hd:t.isD with|true=>exact eN Y (p.isD W hd)|false=>let#[g1,g2]:=s.bo i t W hd;let#[M,g3,_]:=LB g1;rw[g2]at Y;exact#[i,M,Q,g3,Y]
  rcases r.fr e b l with q|q
  ·exact(I.dom O z).1 q
  exact eN q (vE b)
theorem Dm{b:PX}{md:List Md}(J:PSnd K Γ Ψ b)(I:Rl K F H S ρ σ)(X:nF K F H S ρ E EK)(L:∀j∈xA md b,∃v,σ[j]?=jy (jy v)){x:T}{P:List (T×Bool)->zA->Prop}{RR:LV->Hp->Prop}(h:sq x ρ ((pe Ψ b E).a md) P)
  (G:∀ws F' H' S' u ys W Y,Ste F H S ρ F' H' S' u->Rl K F' H' S' u σ->(∀st v e,Tr K F H st v x e->Tr K F' H' st v x e)->(x.isD=js->u=ρ/\S'=S)->AR K (CI b) md H S ρ F' H' S' u ws ys W Y->(AA md ws).map (λv=>jy (jy v))=(xA md b).map (λj=>σ[j]?)->P ys u->RR ws H') :
  (wp K Γ b EK).a σ H RR:=by
 unfold sq at h;cases hd:x.isD with
 |true =>
  rw[hd,ef rfl]at h;refine J.a I X L h λw F' H' S' u y W Y s m r p q=>G w F' H' S' u y W Y s m (λst v e g=>?_) (λz=>(by rw[hd]at z;cases z)) r p q;cases x with
  |d x=>cases g with|d r n=>exact .d (r.mono s.ff) n
  |_=>cases hd
 |false =>
  rw[hd,eH (by simp)]at h;have X':nF K F H S (lockA ρ) E EK:=λx dx F2 H2 S2 M N f r q=>X x dx F2 H2 S ρ N.unlockA f r q;refine J.a I.lockA X' L h λw F' H' S' u y W Y s m r p q=>?_;have Q:∀st v t e,Tr K F H st v t e->Tr K F' H' st v t e:=λst v t e g=>s.keep g λb _=>vE b;refine G w F' H' S ρ y W Y #[s.unlockA,λj t h=>#[t,h]] (I.unlockA s.toStp m.fh) (λst v e g=>Q st v _ e g) (λ_=>#[rfl,rfl]) #[r.av,λb l=>?_,λb l=>?_,λi C R b l z=>?_] p q;exact .inl ((r.fr b l).elim id λz=>eN z (vE b));let#[i,C,h1,B,Z]:=r.tm b l;cases C with
  |own t=>let#[t0,h0]:=s.ow i t B;let#[_,_,e0]:=LB h0;cases e0|xx t =>
   cases hd:t.isD with|true=>exact eN Z (m.isD B hd)|false=>let#[g1,g2]:=s.bo i t B hd;let#[O,g3,_]:=LB g1;rw[g2]at Z;exact#[i,O,h1,g3,Z]
  rcases r.fr b l with q|q
  ·exact(I.dom R z).1 q
  exact eN q (vE b)
theorem FH{a:PX}(j:PSnd K Γ Ψ a)(I:Rl K F H S ρ σ)(X:nF K F H S ρ E EK){P:TK}{RR:VK}(h:(pe Ψ a E).e ρ P)
  (g:∀v F' H' S' y x n Z,Ste F H S ρ F' H' S' y->Rl K F' H' S' y σ->nF K F' H' S' y E EK->Tr K F' H' js v (uA x n) Z->(MG x n=jb->Rep K F' v x.er)->(∀b,Z b->∃(i:Nat) (s:Sl),i∈CI a/\y[i]?=jy (jy s)/\S' i b)->P x n y->RR v H') :
  (wp K Γ a EK).e σ H RR:=by
 refine j.e I X h λv F' H' S' y x n Z s Y r q=>?_;let#[W,m,z,p,f,l,u,_]:=r.frz s Y;exact g v W H' S' y x n m z p (X.from z.toStp) f l u q
theorem uW{a b:PX}(ia:PSnd K Γ Ψ a)(ib:PSnd K Γ Ψ b)(I:Rl K F H S ρ σ)(X:nF K F H S ρ E EK){P:T->Bool->T->Bool->zA->Prop}{RR:V->V->Hp->Prop}
  (h:(pe Ψ a E).e ρ λx n o=>sq (uA x n) o (cu (pe Ψ b E).e) λy u=>P x n y.1 y.2 u)
  (Q:∀v w F' H' S' z x n y m g Zb,Ste F H S ρ F' H' S' z->Rl K F' H' S' z σ->nF K F' H' S' z E EK->Tr K F' H' js v (uA x n) g->(∀b,g b->∃(i:Nat) (s:Sl),i∈CI a/\z[i]?=jy (jy s)/\S' i b)->Tr K F' H' js w (uA y m) Zb ->
   P x n y m z->RR v w H'):(wp K Γ a EK).e σ H λv U=>(wp K Γ b EK).e σ U λw p=>RR v w p:=by
 refine FH ia I X h λv A U S1 o x n g G I1 X1 j _ W N=>?_;refine Xh ib I1 X1 N λw F2 p Y u y m Z C I2 O hs L M=>?_;let#[F3,Z3,B,I3,J,_,_,R]:=L.frz C I2;have q:∀b,g b->∃(i:Nat) (s:Sl),i∈CI a/\u[i]?=jy (jy s)/\Y i b:=by
  cases hd:(uA x n).isD with
  |true =>
   intro b l;exfalso;generalize uA x n=t at j hd;cases j with|d r n=>exact n b l|_=>cases hd
  |false=>let#[e1,e2]:=hs hd;rw[e1,e2];exact W
 have f:=G.trans B;exact Q v w F3 p Y u x n y m g Z3 f I3 (X.from f.toStp) (R _ _ _ _ (O _ _ _ j) λb l=>let#[i,s,_,h2]:=q b l;#[i,s,h2]) q J M
theorem VI{y:PX}(e:PSnd K Γ Ψ y)(I:Rl K F H S ρ σ)(X:nF K F H S ρ E EK){P:List (T×Bool)->zA->Prop}{RR:LV->Hp->Prop}(h:(pe Ψ y E).a [] ρ P)
  (u:∀vs F' H' S' x xs Y,Ste F H S ρ F' H' S' x->Rl K F' H' S' x σ->nF K F' H' S' x E EK->Tn K F' H' Y vs (UD xs)->(∀b,Y b->∃(i:Nat) (s:Sl),i∈CI y/\x[i]?=jy (jy s)/\S' i b)->P xs x->RR vs H'):(wp K Γ y EK).a σ H RR:=by
 refine e.a (md:=[]) I X (λ_ f=>XG f) h λvs F' H' S' x xs W Y s j r _ q=>?_;let#[l,z,g,t,_]:=r.frz s j;exact u vs l H' S' x xs Y z g (X.from z.toStp) t r.tm q
theorem om{a l:PX}(ia:PSnd K Γ Ψ a)(ib:PSnd K Γ Ψ l)(I:Rl K F H S ρ σ)(X:nF K F H S ρ E EK){P1:T->Bool->Prop}{P:T->Bool->List (T×Bool)->zA->Prop}{R1:V->Hp->Prop}{RR:V->LV->Hp->Prop}
  (h:(pe Ψ a E).e ρ λx n o=>P1 x n/\sq (uA x n) o ((pe Ψ l E).a []) λxs z=>P x n xs z)
  (k1:∀v F' H' x n u,Tr K F' H' js v (uA x n) u->P1 x n->R1 v H')
  (Q:∀v vs F' H' S' y x n xs u Y,Ste F H S ρ F' H' S' y->Rl K F' H' S' y σ->nF K F' H' S' y E EK->Tr K F' H' js v (uA x n) u->(∀b,u b->∃(i:Nat) (s:Sl),i∈CI a/\y[i]?=jy (jy s)/\S' i b)->Tn K F' H' Y vs (UD xs) ->
   P x n xs y->RR v vs H'):(wp K Γ a EK).e σ H λv U=>R1 v U/\(wp K Γ l EK).a σ U λvs m=>RR v vs m:=by
 refine FH ia I X h λv A U S1 o x n u G I1 X1 g _ Z #[N,M]=>#[k1 v A U x n u g N,?_]
 refine Dm ib I1 X1 (λ_ hj=>XG hj) M λvs F2 m q z xs W Y C I2 O hs J _ L=>?_;let#[F3,B,I3,tn,R]:=J.frz C I2;have p:∀b,u b->∃(i:Nat) (s:Sl),i∈CI a/\z[i]?=jy (jy s)/\q i b:=by
  cases hd:(uA x n).isD with
  |true =>
   intro b j;exfalso;generalize uA x n=t at g hd;cases g with|d r n=>exact n b j|_=>cases hd
  |false=>let#[e1,e2]:=hs hd;rw[e1,e2];exact Z
 have f:=G.trans B;exact Q v vs F3 m q z x n xs u Y f I3 (X.from f.toStp) (R _ _ _ _ (O _ _ _ g) λb j=>let#[i,s,_,h2]:=p b j;#[i,s,h2]) p tn L
noncomputable def IZ(K:QC)(F H:Hp)(Y:pA):Item->T->Prop
 | .one v,t=>∃Z,Tr K F H js v t Z/\∀b,Z b->Y b|.tup vs,t=>∃h,t=.d (.tuple h)/\Reps K F vs h
theorem Tn.mono{Y:pA}{vs:LV}{ts:LT}(h:Tn K F H Y vs ts)(e:Same F A)(k:∀b,Y b->U b=H b/\A b=jz):Tn K A U Y vs ts:=by
 induction h with|nil=>exact .nil|cons r z t x=>exact .cons (r.mono e λb y=>k b (z b y)) z x
theorem IZ.mono{Y:pA}{it:Item}{t:T}(h:IZ K F H Y it t)(e:Same F A)(k:∀b,Y b->U b=H b/\A b=jz):IZ K A U Y it t:=by
 cases it with|one v=>let#[Z,r,z]:=h;exact#[Z,r.mono e λb y=>k b (z b y),z]|tup vs=>let#[x,u,r]:=h;exact#[x,u,r.mono e]
theorem lV{Y:pA}{st:Bool}:∀{xs:LV}{ts:LT}{Z:pA},Trs K F H st xs ts Z->(∀b,Z b->Y b)->x0 (IZ K F H Y) (xs.map .one) ts
 |_,_,_,.nil _,_=>.nil|_,_,_,.cons h t n q,z=>.cons #[_,h.weak,λb x=>z b ((q b).mpr (.inl x))] (lV t λb x=>z b ((q b).mpr (.inr x)))
theorem FQ{Y:pA}{α:Type}(f:α->V)(g:α->D)(h:∀x,Rep K F (f x) (g x)):∀(l:List α),x0 (IZ K F H Y) (l.map λx=>.one (f x)) (l.map λx=>T.d (g x))
 |[]=>.nil|x::r=>.cons #[λ_=>False,.d (h x) λ_ z=>z,λ_ z=>z.elim] (FQ f g h r)
theorem Tr.lsS{st:Bool}{v:V}{t:T}{Z:pA}{ts:LT}(f:Same F H)(h:Tr K F H st v t Z)(e:t.vw=.ls ts):∃a vs S',v=.ref a/\YD K H a vs/\Trs K F H js vs ts S'/\(∀b,S' b->Z b)/\∀F' H',Same F F'->Same F' H'->(∀b,Z b->H' b=H b)->YD K H' a vs:=by
 cases h with
 |d r n =>
  cases r with|lst q r=>injection e with e;subst e;exact#[_,_,_,rfl,f.seq q,Trs.of_reps r,λb x=>x.elim,λF' H' z y _=>(z.trans y).seq q]|_=>cases e
 |lst h _ r n q=>injection e with e;subst e;exact#[_,_,_,rfl,YD.of h,r.weak,λb x=>(q b).mpr (.inr x),λF' H' _ _ k=>YD.of ((k _ ((q _).mpr (.inl rfl))).trans h)]|tup=>cases e|lstF h r n=>injection e with e;subst e;exact#[_,_,_,rfl,f.seq h,Trs.of_reps r,λb x=>x.elim,λF' H' z y _=>(z.trans y).seq h]
theorem Tr.tpS{st:Bool}{v:V}{t:T}{Z:pA}{ts:LT}(f:Same F H)(h:Tr K F H st v t Z)(e:t.vw=.tp ts):∃a vs S',v=.ref a/\oE K H a vs/\Trs K F H js vs ts S'/\(∀b,S' b->Z b)/\∀F' H',Same F F'->Same F' H'->(∀b,Z b->H' b=H b)->oE K H' a vs:=by
 cases h with
 |d r n =>
  cases r with|tup q r=>injection e with e;subst e;exact#[_,_,_,rfl,f.tupl q,Trs.of_reps r,λb x=>x.elim,λF' H' z y _=>(z.trans y).tupl q]|_=>cases e
 |tup h _ r n q=>injection e with e;subst e;exact#[_,_,_,rfl,oE.of h,r.weak,λb x=>(q b).mpr (.inr x),λF' H' _ _ k=>oE.of ((k _ ((q _).mpr (.inl rfl))).trans h)]|lst=>cases e|lstF=>cases e
theorem oh:∀x:LN,Trs K F H js (x.map λc=>V.str #[(List.toArray [c])]) (x.map λc=>T.d (.str #[(List.toArray [c])])) (λ_=>False):=λx=>by
 have h:Reps K F (x.map λc=>V.str #[(List.toArray [c])]) (x.map λc=>Jx #[(List.toArray [c])]):=by
  induction x with|nil=>exact .nil|cons c x y=>exact .cons (.str _) y
 have:=Trs.of_reps (H:=H) (st:=js) h
 rwa [wF]at this
theorem Tr.seqS{st:Bool}{v:V}{t:T}{Z:pA}{ts:LT}(f:Same F H)(h:Tr K F H st v t Z)(e:t.vw.seq=jy ts):∃vs sz,v=Src.v sz/\HJ K H sz vs/\(∃S',Trs K F H js vs ts S')/\∀F' H',Same F F'->Same F' H'->(∀b,Z b->H' b=H b)->HJ K H' sz vs:=by
 generalize ev:t.vw=w at e;cases w with
 |ls i=>cases e;let#[a,vs,S',rfl,u,x,_,y]:=h.lsS f ev;exact#[vs,.l a,rfl,u,#[S',x],y]|tp i=>cases e;let#[a,vs,S',rfl,u,x,_,y]:=h.tpS f ev;exact#[vs,.t a,rfl,u,#[S',x],y]|sc d =>
  cases d with|str z=>obtain rfl:=h.str ev;have g:(if z.cps.all (· < 128) then jy (z.cps.toList.map λc=>T.d (.str #[(List.toArray [c])])) else jz)=jy ts:=e;split at g;rename_i ha;cases g;exact#[_,.s z 0,rfl,#[ha,rfl],#[_,oh _],λ_ _ _ _ _=>#[ha,rfl]];cases g|_=>cases e
 |_=>cases e
theorem bX{Y:pA}:∀{xs ys:LV}{y x:List D},Reps K F xs y->Reps K F ys x->x0 (IZ K F H Y) ((xs.zip ys).map λp=>.tup [p.1,p.2]) ((y.zip x).map λp=>T.d (.tuple [p.1,p.2]))
 |_,_,_,_,.nil,_=>by simp only[List.zip_nil_left,wx];exact .nil|_,_,_,_,.cons _ _,.nil=>by simp only[QCJ,wx];exact .nil|_,_,_,_,.cons h t,.cons h' t'=>by simp only[Wr,QN];exact .cons #[[_,_],rfl,.cons h (.cons h' .nil)] (bX t t')
theorem FM{Y:pA}:∀{xs:LV}{x:List D}(_:Reps K F xs x) (g:Nat->Int) (n:Nat),x0 (IZ K F H Y) ((xs.zipIdx n).map λp=>.tup [.int (g p.2),p.1]) ((x.zipIdx n).map λp=>T.d (.tuple [.int (g p.2),p.1]))
 |_,_,.nil,g,n=>by simp only[QBZ,wx];exact .nil|_,_,.cons h t,g,n=>by simp only[QAD,QN];exact .cons #[[_,_],rfl,.cons (.int _) (.cons h .nil)] (FM t g (n+1))
theorem rH{P:ItK}{Y:pA}{vs:LV}{ts:LT}{RD:LT->Prop}{RR:List Item->(Hp->Prop)->Hp->Prop}(f:Same F H)(X:Tn K F H Y vs ts)(h:nC P (ts.map T.vw) RD)
  (k:∀xs ys st,x0 (IZ K F H Y) xs ys->(∀F' H',Same F F'->Same F' H'->(∀b,Y b->H' b=H b)->st H')->RD ys->RR xs st H):JB K P vs H RR:=by
 cases P with
 |val =>
  rcases h with⟨z,e,h⟩| ⟨J,e,h⟩| ⟨J,e,h⟩
  let#[v,t,Z,rfl,rfl,e,r,_]:=X.one e;obtain rfl:=r.str e;exact k _ _ _ (FQ (λc=>.str #[(List.toArray [c])]) (λc=>.str #[(List.toArray [c])]) (λc=>.str _) _) (λ_ _ _ _ _=>trivial) h;let#[v,t,Z,rfl,rfl,e,r,z]:=X.one e;let#[p,xs,S',rfl,hp,m,L,s]:=r.lsS f e;exact .inl #[xs,hp,k _ _ _ (lV m λb g=>z b (L b g)) (λF' H' a l q=>s F' H' a l λb g=>q b (z b g)) h];let#[v,t,Z,rfl,rfl,e,r,z]:=X.one e;let#[p,xs,S',rfl,hp,m,L,s]:=r.tpS f e;exact .inr #[xs,hp,k _ _ _ (lV m λb g=>z b (L b g)) (λF' H' a l q=>s F' H' a l λb g=>q b (z b g)) h]
 |rng1=>let#[j,e,h]:=h;let#[v,t,Z,rfl,rfl,e,r,_]:=X.one e;obtain rfl:=r.int e;exact#[h.1,k _ _ _ (FQ (λ(i:Nat)=>.int (i:Int)) (λ(i:Nat)=>.int (i:Int)) (λc=>.int _) _) (λ_ _ _ _ _=>trivial) h.2]|zip2=>let#[x,y,J,ws,ds,es,e,I,g2,G,g4,q]:=h;let#[v,w,t,u,Z,Z',rfl,rfl,a,l,B,O,W,y2]:=X.two e;let#[xs,sz,rfl,C,#[_,m],s]:=B.seqS f (by rw[a];exact I);let#[ys,M,rfl,R,#[_,N],Q]:=O.seqS f (by rw[l];exact g2);exact#[sz,M,xs,ys,rfl,rfl,C,R,k _ _ _ (bX (m.un G).1 (N.un g4).1) (λF' H' a l q=>#[s F' H' a l λb g=>q b (W b g),Q F' H' a l λb g=>q b (y2 b g)]) q]|enum=>let#[x,J,ds,e,I,G,q]:=h;let#[v,t,Z,rfl,rfl,a,B,W]:=X.one e;let#[xs,sz,rfl,C,#[_,m],s]:=B.seqS f (by rw[a];exact I);exact#[sz,xs,rfl,C,k _ _ _ (FM (m.un G).1 (λi=>(i:Int)) 0) (λF' H' a l q=>s F' H' a l λb g=>q b (W b g)) q]|enumA=>let#[x,n,J,ds,e,I,G,g4,q]:=h;let#[v,w,t,u,Z,Z',rfl,rfl,a,l,B,O,W,y2]:=X.two e;let#[xs,sz,rfl,C,#[_,m],s]:=B.seqS f (by rw[a];exact I);obtain rfl:=O.int l;exact#[sz,xs,rfl,C,g4,k _ _ _ (FM (m.un G).1 (λi=>(((_+i:Nat)):Int)) 0) (λF' H' a l q=>s F' H' a l λb g=>q b (W b g)) q]
end
noncomputable def iH(S:Ft)(i:Nat)(Z:pA):Ft:=λj=>if j=i then Z else S j
theorem kB{S:Ft}{i:Nat}{Z:pA}:iH S i Z i=Z:=ef rfl
theorem UA{S:Ft}{i j:Nat}{Z:pA}(h:j≠i):iH S i Z j=S j:=eH h
theorem cA{α:Type}{l:List α}{i j:Nat}{x y:α}(h:(l.set i x)[j]?=jy y):(i=j/\y=x/\i<l.length)∨(i≠j/\l[j]?=jy y):=by rw[wW]at h;by_cases e:i=j;subst e;rw[ef rfl]at h;by_cases hl:i<l.length;rw[ef hl]at h;cases h;exact .inl #[rfl,rfl,hl];rw[eH hl]at h;cases h;rw[eH e]at h;exact .inr #[e,h]
theorem eW{α:Type}{l:List α}{i:Nat}{x:α}(h:i<l.length):(l.set i x)[i]?=jy x:=by rw[wW,ef rfl,ef h]
theorem zF{α:Type}{l:List α}{i j:Nat}{x:α}(h:i≠j):(l.set i x)[j]?=l[j]?:=by rw[wW,eH h]
section
variable{K:QC}{Γ:Ev}{Ψ:PEv}{E:XE}{EK:XK}{F H l X:Hp}{S S1:Ft}{ρ g:zA}{σ:St}
theorem Rl.setB(I:Rl K F H S ρ σ)(i:Nat){v:V}{t:T}{Z:pA}(r:Tr K F H js v t Z)(p:∀(j:Nat) u,j≠i->ρ[j]?=jy (jy (.own u))->∀b,Z b->¬ S j b):Rl K F H (iH S i Z) (ρ.set i (jy (.xx t))) (σ.set i (jy v)) where
 fh:=I.fh
 len:=by simpa using I.len
 sl:=λj s h=>by
  rcases cA h with⟨rfl,e,hl⟩| ⟨f,h⟩
  cases e;exact#[v,eW (by rw[<- I.len];exact hl),by rw[kB];exact r];rw[zF f,UA (Qw f)];exact I.sl j s h
 dj:=λj k a s n x z b y hk=>by
  rcases cA x with⟨_,e,_⟩| ⟨o,x⟩
  cases e;rw[UA (Qw o)]at y;rcases cA z with⟨e,_,_⟩| ⟨m,z⟩
  subst e;rw[kB]at hk;exact p j a n x b hk y;rw[UA (Qw m)]at hk;exact I.dj j k a s n x z b y hk
structure Bd(J:LN)(F H:Hp)(S:Ft)(ρ:zA)(σ:St)(F' H':Hp)(S':Ft)(ρ':zA)(σ':St):Prop where
 ff:Same F F'
 hh:Same H H'
 fn:∀b,F b=jz->F' b≠jz->H b=jz
 out:∀j,j∉J->ρ'[j]?=ρ[j]?/\S' j=S j/\σ'[j]?=σ[j]?
 inn:∀j t,j∈J->ρ'[j]?≠jy (jy (.own t))
theorem Bd.U{J:LN}{F' H':Hp}{S':Ft}{x:zA}{σ':St}(h:Bd J F H S ρ σ F' H' S' x σ'){b:j2}(u:U x S' b):L3.U ρ S b:=by let#[i,t,y,a]:=u;by_cases z:i∈J;exact eN y (h.inn i t z);let#[f,e,_]:=h.out i z;rw[f]at y;rw[e]at a;exact#[i,t,y,a]
theorem Bd.dm{J:LN}{F' H':Hp}{S':Ft}{x:zA}{σ':St}(h:Bd J F H S ρ σ F' H' S' x σ')(b:j2)(e:H' b=jz):H b=none:=h.hh.free e
theorem JW{Y:pA}(A:∀b,Y b->¬ U ρ S b):∀(f:LN) {vs:LV}{ts:LT}{S1:Ft}{g y:zA}{x:St}{J:LN},(∀i∈f,i∈J)->Rl K F H S1 g x->(∀b,U g S1 b->U ρ S b)->Tn K F H Y vs ts->jE f ts g=jy y ->
  ∃σ' S',xB f vs x=jy σ'/\Rl K F H S' y σ'/\(∀j,j∉J->y[j]?=g[j]?/\S' j=S1 j/\σ'[j]?=x[j]?)/\(∀j t,y[j]?=jy (jy (.own t))->j∉f/\g[j]?=jy (jy (.own t)))
 |[],_,_,S1,g,y,x,J,hJ,I,hu,.nil,h=>by simp only[jE,Qu]at h;subst h;exact#[x,S1,rfl,I,λ_ _=>#[rfl,rfl,rfl],λj t h=>#[(by simp),h]]|[],_,_,_,_,_,_,_,_,_,_,.cons _ _ _,h=>by simp[jE]at h|_::_,_,_,_,_,_,_,_,_,_,_,.nil,h=>by simp[jE]at h|i::f,_,_,S1,g,y,x,J,hJ,I,hu,.cons (v:=v) (t:=t) (Z:=Z) r z tl,h=>by
  simp only[jE]at h;have nu:∀b,Z b->¬ U g S1 b:=λb s u=>A b (z b s) (hu b u);have P:=I.setB i r λj u _ a b s G=>nu b s #[j,u,a,G];have q:∀b,U (g.set i (jy (.xx t))) (iH S1 i Z) b->U ρ S b:=λb #[j,u,W,B]=>by
   rcases cA W with⟨_,e,_⟩| ⟨n,W⟩
   cases e;rw[UA (Qw n)]at B;exact hu b #[j,u,W,B]
  let#[σ',S',O,N,M,L]:=JW A f (λj a=>hJ j (QH _ a)) P q tl h;refine#[σ',S',O,N,λj a=>?_,λj u a=>?_];let#[p,o,C]:=M j a;have n:i≠j:=λe=>a (e▸hJ i QK);rw[zF n]at p C;rw[UA (Qw n)]at o;exact#[p,o,C];let#[p,o]:=L j u a;rcases cA o with⟨_,e,_⟩| ⟨n,o⟩
  cases e;exact#[λm=>(QR.mp m).elim (λe=>n e.symm) p,o]
theorem Tn.of_trs{Y:pA}{st:Bool}:∀{vs:LV}{ts:LT}{Z:pA},Trs K F H st vs ts Z->(∀b,Z b->Y b)->Tn K F H Y vs ts
 |_,_,_,.nil _,_=>.nil|_,_,_,.cons h t n q,z=>.cons h.weak (λb x=>z b ((q b).mpr (.inl x))) (Tn.of_trs t λb x=>z b ((q b).mpr (.inr x)))
theorem cN{Y:pA}{C:Tg}{it:Item}{t:T}{Q:zA->Prop}{RP:St->Hp->Prop}(I:Rl K F H S ρ σ)(hy:∀b,Y b->¬ U ρ S b)(r:IZ K F H Y it t)(h:dN C t ρ Q)
  (k:∀B A W y M,Bd C.ix F H S ρ σ W y M B A->Rl K W y M B A->Q B->RP A y):bindI K C it σ H RP:=by
 have nm:∀(i:Nat) {v:V}{t:T}{Z:pA}{W y:Hp}{M:Ft},Same F W->Same H y->(∀b,F b=jz->W b≠jz->H b=jz)->Rl K W y M ρ σ->M=S->Tr K W y js v t Z->(∀b,Z b->¬ U ρ S b)->Q (ρ.set i (jy (.xx t)))->C=.nm i->RP (σ.set i (jy v)) y:=by
  intro i v t Z W y M P R e3 I2 hS r hz q ht;subst hS ht;refine k _ _ W y (iH M i Z) #[P,R,e3,λj L=>?_,λj u L hu=>?_] (I2.setB i r λj u _ L b o hs=>hz b o #[j,u,L,hs]) q;have n:i≠j:=λe=>L (by subst e;exact qH.mpr rfl);exact#[zF n,UA (Qw n),zF n];have e:j=i:=qH.mp L;subst e;rcases cA hu with⟨_,e,_⟩| ⟨n,_⟩
  cases e;exact n rfl
 have tp:∀(m:LN) {vs:LV}{N:LT}{y:Hp}{x:zA},Same H y->C=.tp m->Tn K F y Y vs N->jE m N ρ=jy x->Q x->∃f,xB m vs σ=jy f/\RP f y:=by intro m vs N y x R ht r e q;subst ht;let#[f,S',g1,g2,g3,g4]:=JW hy m (J:=m) (λi hi=>hi) (I.same R) (λb u=>u) r e;exact#[f,g1,k _ _ F y S' #[.refl _,R,λb h z=>eN h z,g3,λj u L hu=>(g4 j u hu).1 L] g2 q]
 cases it with
 |one v =>
  let#[Z,r,z]:=r;cases C with|nm i=>exact nm i (.refl _) (.refl _) (λb h z=>eN h z) I rfl r (λb o=>hy b (z b o)) h rfl|tp m=>have O:(match t.vw with | .tp N=>∃x,jE m N ρ=jy x/\Q x|_=>False):=h;split at O;rename_i N e;let#[x,P,q]:=O;let#[a,vs,S',rfl,G,rp,z2]:=r.tp I.fh e;let#[f,g1,g2]:=tp m (.refl _) rfl (Tn.of_trs rp λb o=>z b (z2 b o)) P q;exact#[vs,f,G,g1,g2];exact O.elim
 |tup vs =>
  let#[ds,rfl,rd]:=r;cases C with|nm i=>intro p G;refine nm i (pB (I.fh.free G)) (pB G) (λb h1 O=>?_) (I.newT G (.tup vs)) rfl (.d (S:=λ_=>False) (.tup (oE.of vA) (rd.mono (pB (I.fh.free G)))) λ_ z=>z) (λb z=>z.elim) h rfl;by_cases o:b=p;rw[o];exact G;rw[yA o]at O;exact eN h1 O|tp m=>intro H' s;let#[x,P,q]:=h;exact tp m s rfl (Tn.of_trs (Trs.of_reps (st:=js) rd) λb o=>o.elim) P q
noncomputable def OQ(k:Nat)(S:Ft):Ft:=λi=>if i<k then λ_=>False else S (i - k)
theorem JO:∀(m:List Bool) (ρ:zA) (i:Nat) s,(PD m ρ)[i]?=jy (jy s)->ρ[i]?=jy (jy s)/\m.getD i js=js
 |[],ρ,i,s,h=>by
  have e:PD [] ρ=ρ:=by cases ρ<;>rfl
  rw[e]at h;exact#[h,rfl]
 |b::m,[],i,s,h=>by simp[PD]at h|b::m,v::ρ,0,s,h=>by
  cases b with|true=>simp[PD]at h|false=>simp[PD]at h;simp[h]
 |b::m,v::ρ,i+1,s,h=>by simp only[PD,wy]at h;let#[y,x]:=JO m ρ i s h;exact#[by simpa using y,by simpa using x]
theorem eO:∀(m:List Bool) (σ:St) (i:Nat) v,σ[i]?=jy (jy v)->m.getD i js=js->(AC m σ)[i]?=jy (jy v)
 |[],σ,i,v,h,_=>by
  have e:AC [] σ=σ:=by cases σ<;>rfl
  rw[e];exact h
 |b::m,[],i,v,h,_=>by simp at h|b::m,w::σ,0,v,h,hb=>by
  have:b=false:=by simpa using hb
  subst this;simpa[AC]using h
 |b::m,w::σ,i+1,v,h,hb=>by simp only[AC,wy];exact eO m σ i v (by simpa using h) (by simpa using hb)
theorem iO:∀(m:List Bool) (ρ:zA),(PD m ρ).length=ρ.length
 |[],ρ=>by cases ρ<;>rfl|_::_,[]=>rfl|b::m,v::ρ=>by simp[PD,iO m ρ]
theorem NG{k:Nat}{x:List Bool}{ρ:zA}{i:Nat}{s:Sl}(h:(mK k x ρ)[i]?=jy (jy s)):k<=i/\ρ[i - k]?=jy (jy s)/\x.getD (i - k) js=false:=by unfold mK at h;rcases QAi i k with z|z;rw[Q9 (by simpa using z),wT]at h;split at h<;>cases h;rw[Q5 (by simpa using z)]at h;simp only[Q7]at h;let#[u,y]:=JO x ρ _ s h;exact#[z,u,y]
theorem Rl.ent(I:Rl K F H S ρ σ)(k:Nat)(x:List Bool):Rl K F H (OQ k S) (mK k x ρ) (IF k x σ) where
 fh:=I.fh
 len:=by simp[mK,IF,iO,gK,I.len]
 sl:=λi s h=>by let#[e,a,u]:=NG h;let#[v,m,f]:=I.sl _ s a;refine#[v,?_,?_];unfold IF;rw[Q5 (by simpa using e)];simp only[Q7];exact eO x σ _ v m u;unfold OQ;rw[eH ()];exact f
 dj:=λi j t s n a u b z y=>by let#[r,p,_]:=NG a;let#[q,o,_]:=NG u;unfold OQ at z y;rw[eH ()]at z y;exact I.dj (i - k) (j - k) t s () p o b z y
theorem eX{k:Nat}{x:List Bool}{S':Ft}(b:j2):¬ U (mK k x (lockA ρ)) S' b:=λ#[i,t,h,_]=>by let#[_,y,_]:=NG h;let#[_,_,e]:=LB y;cases e
theorem Paired.get_of{α u:Type}{R:α->u->Prop}{xs:List α}{ys:List u}(h:x0 R xs ys):∀{i:Nat}{x:α},xs[i]?=jy x->∃y,ys.drop i=y::ys.drop (i+1)/\R x y:=by
 induction h with
 |nil=>intro i x e;simp at e|@cons x y xs ys h t b =>
  intro i z e;cases i with|zero=>simp at e;subst e;exact#[y,by simp,h]|succ i=>let#[a,j,f]:=b (i:=i) (by simpa using e);exact#[a,by simpa using j,f]
structure Pur(F H F' H':Hp):Prop where
 ff:Same F F'
 hh:Same H H'
 fn:∀b,F b=jz->F' b≠jz->H b=jz
theorem Pur.trans{u y:Hp}(a:Pur F H l X)(b:Pur l X u y):Pur F H u y:=#[a.ff.trans b.ff,a.hh.trans b.hh,λx h z=>by by_cases q:l x=jz;exact a.hh.free (b.fn x q z);exact a.fn x h q]
theorem Pur.ste(p:Pur F H l X):Ste F H S ρ l X S ρ:=#[#[p.ff,λb u h _=>p.hh b u h,λb h=>p.hh.free h,λb h z=>.inr (p.fn b h z),λb h=>.inl h,λ_ _ h _=>#[h,rfl]],λ_ t h=>#[t,h]]
theorem Pur.rl(p:Pur F H l X)(f:Same l X)(I:Rl K F H S ρ σ):Rl K l X S ρ σ:=#[f,I.len,λi s e=>by
 let#[v,z,h]:=I.sl i s e;exact#[v,z,h.mono p.ff λb y=>by
  let#[x,a]:=h.dom b y;refine#[?_,?_];cases e:H b with|none=>exact eN e x|some u=>exact p.hh b u e
  by_cases q:l b=jz
  ·exact q
  exact eN (p.fn b a q) x],I.dj]
theorem Stp.pur{S':Ft}{x:zA}(s:Stp F H S ρ l X S' x)(n:∀b,¬ U ρ S b):Pur F H l X:=#[s.ff,λb u h=>s.hh b u h (n b),λb h z=>(s.fn b h z).elim (λq=>eN q (n b)) id]
theorem Pur.trs(p:Pur F H l X){st:Bool}{v:LV}{t:LT}{Z:pA}(h:Trs K F H st v t Z):Trs K l X st v t Z:=h.mono p.ff λb y=>by
  let#[x,z]:=h.dom b y;refine#[?_,?_];cases e:H b with|none=>exact eN e x|some u=>exact p.hh b u e
  by_cases q:l b=jz
  ·exact q
  exact eN (p.fn b z q) x
theorem O7{ws:LN}{a:List Bool}{G:Nat}{O:Tg}{c:zA->(Bool->zA->Prop)->Prop}{e:zA->TK->Prop}{tc:TT}{te:TE}{us:LN}
  (ic:∀{F H:Hp}{S:Ft}{ρ:zA}{σ:St}{Q:Bool->zA->Prop}{R:Bool->Hp->Prop},Rl K F H S ρ σ->c ρ Q->NH K F H S ρ σ Q R->tc σ H R)
  (ie:∀{F H:Hp}{S:Ft}{ρ:zA}{σ:St}{Q:TK}{R:VK},Rl K F H S ρ σ->e ρ Q->oB K us F H S ρ σ Q R->te σ H R)
  {F0 H0:Hp}{S0:Ft}{L:zA}(s:Ste F0 H0 S0 L F H S ρ) (I:Rl K F H S ρ σ) {Y:pA}{xs:List Item}{ys:LT}{st:Hp->Prop}(pr:x0 (IZ K F H Y) xs ys) (hyd:∀b,Y b->H b≠jz/\F b=jz) (hst:∀F' H',Same F F'->Same F' H'->(∀b,Y b->H' b=H b)->st H') {Q:TK}{R:VK}
  (h:CD (RG O (mK G a (lockA ρ)) c e) ys [] λys=>Q (.lst ys) jb ρ) (k:oB K ws F0 H0 S0 L σ Q R) :
  iP K xs st O tc te (IF G a σ) H R:=by
 refine DS ?_;have len:=WP pr;have yk:∀{F' H':Hp},Pur F H F' H'->∀b,Y b->H' b=H b/\F' b=none:=λ{F' H'} p b o=>by
  let#[d1,d2]:=hyd b o;refine#[?_,?_];cases e:H b with|none=>exact eN e d1|some u=>exact p.hh b u e
  by_cases q:F' b=jz
  ·exact q
  exact eN (p.fn b d2 q) d1
 refine#[λi B H'=>∃F' m W,Pur F H F' H'/\Same F' H'/\Trs K F' H' jb B m W/\(∀b,W b->H b=jz)/\CD (RG O (mK G a (lockA ρ)) c e) (ys.drop i) m λys=>Q (.lst ys) jb ρ,
  #[F,[],λ_=>False,#[.refl _,.refl _,λb h z=>eN h z],I.fh,.nil λ_ z=>z,λ_ z=>z.elim,by simpa using h],?_,?_,?_]
 rintro i B H' _ ⟨F',m,W,p,f,_,_,_⟩;exact hst F' H' p.ff f λb o=>(yk p b o).1;rintro i x B X hx ⟨l,m,W,p1,f1,C,N,hc⟩;let#[y,hd,ry]:=Paired.get_of pr hx;rw[hd]at hc;unfold CD at hc;unfold RG at hc;have I1:Rl K l X (OQ G S) (mK G a (lockA ρ)) (IF G a σ):=((p1.rl f1 I).lockA).ent G a;refine cN I1 (λb _=>eX b) (ry.mono p1.ff (yk p1)) hc λρ2 σ2 F2 H2 S2 J I2 hc=>?_;have p2:Pur l X F2 H2:=#[J.ff,J.hh,J.fn]
 have nu2:∀b,¬ U ρ2 S2 b:=λb u=>eX b (J.U u);refine ic I2 hc λb F3 H3 S3 ρ3 s3 I3 q=>?_;have P:Pur F2 H2 F3 H3:=s3.toStp.pur nu2;have M:∀b,¬ U ρ3 S3 b:=λb #[j,t,h1,_]=>by let#[t0,h0]:=s3.ow j t h1;by_cases hj:j∈O.ix;exact J.inn j t0 hj h0;rw[(J.out j hj).1]at h0;let#[_,h1,_]:=NG h0;let#[_,_,e]:=LB h1;cases e
 have A:=p1.trans (p2.trans P);cases b with
 |false=>exact#[F3,m,W,A,I3.fh,P.trs (p2.trs C),N,q]|true =>
  refine ie I3 q λv F4 H4 S4 ρ4 z n Z s4 I4 r4 #[hk,hl,hc]=>?_;have p4:Pur F3 H3 F4 H4:=s4.toStp.pur M;have ra4:=p4.trs (P.trs (p2.trs C));have rz:∃Z',Tr K F4 H4 jb v z Z'/\∀b,Z' b->H3 b=none:=by
   cases n with
   |true=>exact#[Z,r4.tr,λb o=>(r4.fr rfl b o).elim id λu=>eN u (M b)]|false =>
    cases z with|d x=>have tr:=r4.tr;let#[r,n]:=tr.invd;exact#[λ_=>False,.d r λ_ z=>z,λ_ z=>z.elim]|_=>exact eN hk (by simp[MG,T.isD])
  let#[Z',rz,fz]:=rz;refine#[by rw[C.length];exact hl,F4,_,λb=>W b∨Z' b,A.trans p4,I4.fh,ra4.append (Trs.one rz) λb o hz=>?_,λb o=>?_,hc];have q1:=(C.dom b o).1;exact q1 ((p2.trans P).hh.free (fz b hz));rcases o with o|o
  ·exact N b o
  exact A.hh.free (fz b o)
 rintro B H' ⟨F',m,W,p,f,C,N,hc⟩;rw[len,QBM]at hc;unfold CD at hc;have I':=p.rl f I;refine#[by rw[C.length];exact hc.1,λq hq=>?_];refine oB.list (k.from s) (p.ste) I' hq C (λb o=>.inl (N b o)) #[C.dom,λi sl hi b o z=>?_] hc.2;exact(I.dom hi z).1 (N b o)
theorem lS:∀{m:List Bool}(ρ:zA),(∀b∈m,b=js)->PD m ρ=ρ
 |[],ρ,_=>by cases ρ<;>rfl|b::m,[],_=>rfl|b::m,v::ρ,h=>by have e:b=false:=h b QK;subst e;simp[PD,lS ρ λb x=>h b (QH _ x)]
theorem gS:∀{m:List Bool}(σ:St),(∀b∈m,b=js)->AC m σ=σ
 |[],σ,_=>by cases σ<;>rfl|b::m,[],_=>rfl|b::m,v::σ,h=>by have e:b=false:=h b QK;subst e;simp[AC,gS σ λb x=>h b (QH _ x)]
theorem NQ{h i:Nat}{ρ:zA}:(QI h jz++ρ)[h+i]?=ρ[i]?:=by rw[Q5 (by simp)];simp
theorem Up{y:Nat}{ρ:zA}{S:Ft}{b:j2}(h:U (QI y jz++ρ) (OQ y S) b):U ρ S b:=by let#[i,t,x,u]:=h;rcases QAi i y with z|z;rw[Q9 (by simpa using z),wT]at x;split at x<;>cases x;let#[j,rfl]:=Nat.exists_eq_add_of_le z;rw[NQ]at x;unfold OQ at u;rw[eH (),QBI]at u;exact#[j,t,x,u]
theorem La{y:Nat}{J:LN}{o m:St}{B A:Hp}{Y:Ft}{a:zA}(G:∀j∈J,j<y)(x:Bd J F H (OQ y S) (QI y jz++ρ) o l X S1 g m)(s:Ste l X S1 g B A Y a):Ste F H S ρ B A (λi=>Y (y+i)) (a.drop y):=by
 have Z:∀i,y+i∉J:=λi z=>by have:=G _ z;omega
 have p:∀b,U g S1 b->U ρ S b:=λb u=>Up (x.U u);refine#[#[x.ff.trans s.ff,λb u e n=>s.hh b u (x.hh b u e) λz=>n (p b z),λb e=>x.dm b (s.dm b e),λb e z=>?_,λb #[i,t,f,r]=>?_,λj t h n=>?_],λj t h=>?_];by_cases q:l b=jz
 ·exact(s.fn b q z).imp (p b) (x.dm b)
 exact .inr (x.fn b e q);rw[wJ]at f;exact(s.uu b #[_,t,f,r]).imp (p b) (x.dm b);rw[wJ]at h;let#[f,r]:=s.bo _ t h n;let#[L,I,_]:=x.out _ (Z j);rw[L,NQ]at f;refine#[f,?_];show Y (y+j)=S j;rw[r,I];unfold OQ;rw[eH (),QBI];rw[wJ]at h;let#[C,W]:=s.ow _ t h;rw[(x.out _ (Z j)).1,NQ]at W;exact#[C,W]
theorem Oi{u:Nat}{x:St}(I:Rl K F H S ρ x)(e:x.drop u=σ):Rl K F H (λi=>S (u+i)) (ρ.drop u) σ where
 fh:=I.fh
 len:=by rw[<- e,qW,qW,I.len]
 sl:=λi s h=>by rw[wJ]at h;let#[v,z,y]:=I.sl _ s h;exact#[v,by rw[<- e,wJ];exact z,y]
 dj:=λi j t s n z y=>by rw[wJ]at z y;exact I.dj _ _ t s () z y
theorem P7{ws:LN}{u:List Bool}{a:Nat}{C:Tg}{e:zA->TK->Prop}{te:TE}{us:LN}(A:∀j∈C.ix,j<a)(hm:∀b∈u,b=js)
  (ie:∀{F H:Hp}{S:Ft}{ρ:zA}{σ:St}{Q:TK}{R:VK},Rl K F H S ρ σ->e ρ Q->oB K us F H S ρ σ Q R->te σ H R)
  {F0 H0:Hp}{S0:Ft}{Y:zA}(s:Ste F0 H0 S0 Y F H S ρ) (I:Rl K F H S ρ σ) {xs:List Item}{ys:LT}{st:Hp->Prop}(pr:x0 (IZ K F H λ_=>False) xs ys) (N:∀F' H',Same F F'->Same F' H'->st H') {Q:TK}{R:VK}
  (h:aJ C a e ys [] ρ λm p=>Q (.lst (m.map T.d)) jb p) (k:oB K ws F0 H0 S0 Y σ Q R) :
  iP K xs st C (λ_ H Q=>Q jb H) te (IF a u σ) H R:=by
 refine DS ?_;have len:=WP pr;have es:IF a u σ=QI a jz++σ:=by unfold IF;rw[gS σ hm]
 refine#[λi r H'=>∃F' G f m,Ste F H S ρ F' H' G f/\Rl K F' H' G f σ/\Reps K F' r m/\aJ C a e (ys.drop i) m f λm p=>Q (.lst (m.map T.d)) jb p,
  #[F,S,ρ,[],.refl,I,.nil,by simpa using h],?_,?_,?_]
 rintro i r H' _ ⟨F',G,f,m,M,O,_,_⟩;exact N F' H' M.ff O.fh;rintro i x r X hx ⟨l,S1,g,m,P,I1,W,hc⟩;let#[y,hd,ry]:=Paired.get_of pr hx;rw[hd]at hc;unfold aJ at hc;have B:Rl K l X (OQ a S1) (mK a u g) (IF a u σ):=I1.ent a u;have em:mK a u g=QI a jz++g:=by unfold mK;rw[lS g hm]
 rw[em]at B;refine cN B (λb z=>z.elim) (ry.mono P.ff λb z=>z.elim) hc λp J F2 H2 S2 bd I2 hc=>?_;have e2:J.drop a=σ:=by apply qy;intro i;rw[wJ,(bd.out (a+i) λz=>by have:=A _ z;omega).2.2,es,Q5 (by simp)];simp
 refine ie I2 hc λv F4 H4 S4 L z n Z s4 I4 r4 #[hk,hl,hc]=>?_;let#[F5,Z5,s5,I5,_,er,_]:=r4.frz s4 I4;have o:=La A bd s5;exact#[by rw[W.length];exact hl,F5,_,L.drop a,m++[z.er],P.trans o,Oi I5 e2,(W.mono o.ff).append (.cons (er hk) .nil),hc];rintro r H' ⟨F',G,f,m,M,O,W,hc⟩;rw[len,QBM]at hc;unfold aJ at hc;exact#[by rw[W.length];exact hc.1,λq hq=>(k.from s).listD M O hq W hc.2]
end
section
variable{K:QC}{Γ:Ev}{Ψ:PEv}{E:XE}{EK:XK}{F H l c:Hp}{S S1:Ft}{ρ y:zA}{σ:St}
theorem Tr.xz{v:V}{u t:T}{Z:pA}(h:Tr K F H js v u Z)(e:OD u=jy t):Tr K F H js v t Z:=by
 unfold OD at e;split at e;rename_i ts ev;cases x:BE ts with
 |none=>rw[x]at e;cases e|some i =>
  rw[x]at e;injection e with e;subst e;cases h with
  |d r n =>
   cases r with|lst q r=>injection ev with ev;subst ev;rw[gA]at x;injection x with x;subst x;exact .lstF q r n|_=>cases ev
  |lst b a z g f=>injection ev with ev;subst ev;show Tr K F H js _ (.lst (i.map T.d)) Z;rw[<- CL x];exact .lst b a z g f|tup=>cases ev|lstF b a z=>injection ev with ev;subst ev;rw[gA]at x;injection x with x;subst x;exact .lstF b a z
 split at e
 ·injection e with e;subst e;exact h
 cases e
theorem AV.pass{Y:pA}{md:List Md}{vs:LV}{xs:List (T×Bool)}{W:pA}(h:AV K F H md vs xs W Y)(e:Same F l)(k:∀b,W b->l b=H b)(k2:∀b,Y b->F b=jz->l b=jz) :
  ∀{os ts:LT},BA md xs os=jy ts->ArgsR K l H Y md vs ts/\UB md ts=os:=by
 induction h with
 |nil h =>
  intro os ts a;cases os with|nil=>simp only[BA,Qu]at a;subst a;exact#[.nil,rfl]|cons _ _=>simp[BA]at a
 |@chg md v vs x xs W Y h t C =>
  intro os ts a;have g:md.headD .xy=.chg:=by generalize md.headD .xy=m at h;cases m<;>first|rfl|cases h
  unfold BA at a;rw[g]at a;cases os with
  |nil=>cases a|cons o os =>
   cases f:BA md.tail xs os with|none=>simp only[f,wv]at a;cases a|some A=>simp only[f,qC,Qu]at a;subst a;let#[p,j]:=C k k2 f;refine#[.chg g p,?_];unfold UB;rw[g];simp only[j]
 |@new md v vs x xs Z W I Y h r t n q C =>
  intro os ts a;have s:Tr K l H js v (.d x.er) (λ_=>False):=.d (r.kept e λb u B G=>by rw[k b ((q b).mpr (.inl B))];exact G) λ_ z=>z;have i:=@C (λb B=>k b ((q b).mpr (.inr B))) k2;unfold BA at a;cases g:md.headD .xy with
  |chg=>rw[g]at h;cases h|xy =>
   simp only[g,uA]at a;cases f:BA md.tail xs os with|none=>simp only[f,wv]at a;cases a|some A=>simp only[f,qC,Qu]at a;subst a;let#[p,j]:=i f;exact#[.rd (by rw[g];simp) s (λ_ z=>z.elim) p,by unfold UB;rw[g];exact j]
  |xz =>
   simp only[g,uA]at a;cases X:OD (.d x.er) with
   |none=>simp only[X]at a;cases a|some u =>
    simp only[X]at a;cases f:BA md.tail xs os with|none=>simp only[f,wv]at a;cases a|some A=>simp only[f,qC,Qu]at a;subst a;let#[p,j]:=i f;exact#[.rd (by rw[g];simp) (s.xz X) (λ_ z=>z.elim) p,by unfold UB;rw[g];exact j]
  |xx =>
   simp only[g,uA]at a;cases f:BA md.tail xs os with|none=>simp only[f,wv]at a;cases a|some A=>simp only[f,qC,Qu]at a;subst a;let#[p,j]:=i f;exact#[.rd (by rw[g];simp) s (λ_ z=>z.elim) p,by unfold UB;rw[g];exact j]
 |@tmp md v vs x xs Z W Y h r z t C =>
  intro os ts a;have s:Tr K l H js v x Z:=r.mono e λb B=>#[rfl,k2 b (z b B) (r.dom b B).2]
  have i:=@C k k2;unfold BA at a;cases g:md.headD .xy with
  |chg=>rw[g]at h;cases h|xy =>
   simp only[g,uA]at a;cases x with
   |d x =>
    cases f:BA md.tail xs os with|none=>simp only[f,wv]at a;cases a|some A=>simp only[f,qC,Qu]at a;subst a;let#[p,j]:=i f;exact#[.rd (by rw[g];simp) s z p,by unfold UB;rw[g];exact j]
   |_=>cases a
  |xz =>
   simp only[g,uA]at a;cases X:OD x with
   |none=>simp only[X]at a;cases a|some u =>
    simp only[X]at a;cases f:BA md.tail xs os with|none=>simp only[f,wv]at a;cases a|some A=>simp only[f,qC,Qu]at a;subst a;let#[p,j]:=i f;exact#[.rd (by rw[g];simp) (s.xz X) z p,by unfold UB;rw[g];exact j]
  |xx =>
   simp only[g,uA]at a;cases f:BA md.tail xs os with|none=>simp only[f,wv]at a;cases a|some A=>simp only[f,qC,Qu]at a;subst a;let#[p,j]:=i f;exact#[.rd (by rw[g];simp) s z p,by unfold UB;rw[g];exact j]
theorem nE:∀(J:LN) (ρ:zA) (i:Nat) s,(clear J ρ)[i]?=jy (jy s)->i∉J/\ρ[i]?=jy (jy s)
 |[],ρ,i,s,h=>#[(by simp),h]|j::J,ρ,i,s,h=>by
  unfold clear at h;let#[u,z]:=nE J _ i s h;rcases cA z with⟨_,e,_⟩| ⟨n,x⟩
  cases e;exact#[λm=>(QR.mp m).elim (λe=>n e.symm) u,x]
theorem yP:∀(J:LN) (ρ:zA),(clear J ρ).length=ρ.length
 |[],_=>rfl|j::J,ρ=>by unfold clear;rw[yP J];simp
theorem Rl.drop(I:Rl K F H S ρ σ)(hl:y.length=ρ.length)(h:∀(i:Nat) s,y[i]?=jy (jy s)->ρ[i]?=jy (jy s)):Rl K F H S y σ :=
 #[I.fh,hl.trans I.len,λi s e=>I.sl i s (h i s e),λi j t s n z x=>I.dj i j t s n (h i _ z) (h j _ x)]
theorem OE:∀{J:LN}{ρ:zA}{os:LT},uB J ρ=jy os->os.length=J.length/\∀(i:Nat) j,J[i]?=jy j->∃t,os[i]?=jy t/\ρ[j]?=jy (jy (.own t))
 |[],ρ,os,h=>by simp only[uB,Qu]at h;subst h;exact#[rfl,λi j e=>by simp at e]|j::J,ρ,os,h=>by
  unfold uB at h;split at h;rename_i t e;cases x:uB J ρ with
  |none=>rw[x]at h;cases h|some g =>
   rw[x]at h;injection h with h;subst h;let#[a,z]:=OE x;refine#[by simp[a],λi k hk=>?_];cases i with|zero=>simp at hk;subst hk;exact#[t,rfl,e]|succ i=>let#[u,f,b]:=z i k (by simpa using hk);exact#[u,by simpa using f,b]
  cases h
theorem Rl.trs(I:Rl K F H S ρ σ):∀{J:LN}{os:LT}{vs:LV},J.Nodup->uB J ρ=jy os->vs.map (λv=>jy (jy v))=J.map (λj=>σ[j]?)->Trs K F H jb vs os (λb=>∃j∈J,S j b)
 |[],os,vs,_,h,hv=>by
  simp only[uB,Qu]at h;subst h;cases vs with|nil=>exact .nil λb #[j,m,_]=>by simp at m|cons _ _=>simp at hv
 |j::J,os,vs,nd,h,hv=>by
  unfold uB at h;split at h;rename_i t e;cases a:uB J ρ with
  |none=>rw[a]at h;cases h|some r =>
   rw[a]at h;injection h with h;subst h;cases vs with
   |nil=>simp at hv|cons v vs =>
    simp only[QN,wb]at hv;let#[f,q,p]:=I.sl j _ e;rw[q]at hv;have:v=f:=by simpa using hv.1
    subst this;have x:=wC.mp nd;refine .cons p (Rl.trs I x.2 a hv.2) (λb o #[k,hk,z]=>?_) λb=>?_;let#[i,n]:=W9.mp hk;let#[u,_,g]:=(OE a).2 i k n;exact I.dj j k t _ (λz=>x.1 (z▸hk)) e g b o z;constructor
    ·rintro⟨k,hk,z⟩
     rcases QR.mp hk with e|e;subst e;exact .inl z;exact .inr #[k,e,z]
    rintro(z|⟨k,hk,z⟩)
    ·exact#[j,QK,z]
    exact#[k,QH _ hk,z]
  cases h
theorem Rl.setO(I:Rl K F H S ρ σ)(i:Nat){v:V}{t:T}{Z:pA}(hv:σ[i]?=jy (jy v))(r:Tr K F H jb v t Z)(f:∀(j:Nat) s,j≠i->ρ[j]?=jy (jy s)->∀b,Z b->¬ S j b):Rl K F H (iH S i Z) (ρ.set i (jy (.own t))) σ where
 fh:=I.fh
 len:=by simpa using I.len
 sl:=λj s h=>by
  rcases cA h with⟨rfl,e,hl⟩| ⟨o,h⟩
  cases e;exact#[v,hv,by rw[kB];exact r];rw[UA (Qw o)];exact I.sl j s h
 dj:=λj k g s n a x b z hk=>by
  rcases cA a with⟨e,_,_⟩| ⟨m,a⟩
  subst e;rw[kB]at z;rcases cA x with⟨e,_,_⟩| ⟨u,x⟩
  exact n e;rw[UA (Qw u)]at hk;exact f k s (Qw u) x b z hk;rw[UA (Qw m)]at z;rcases cA x with⟨e,_,_⟩| ⟨u,x⟩
  subst e;rw[kB]at hk;exact f j _ n a b hk z;rw[UA (Qw u)]at hk;exact I.dj j k g s n a x b z hk
theorem yM:∀{J:LN}{os:LT}{vs:LV}{M:pA}{S1:Ft}{y x:zA},J.Nodup->Rl K F H S1 y σ->Trs K F H jb vs os M->vs.map (λv=>jy (jy v))=J.map (λj=>σ[j]?)->Held F H S1 y M->RC J os y=jy x ->
  ∃g,Rl K F H g x σ/\(∀i,i∉J->x[i]?=y[i]?/\g i=S1 i)/\∀i∈J,∀s,x[i]?=jy (jy s)->(∃t,s=.own t)/\∀b,g i b->M b
 |[],os,vs,M,S1,y,x,nd,I,r,hv,hm,h=>by
  cases os with|nil=>simp only[RC,Qu]at h;subst h;exact#[S1,I,λ_ _=>#[rfl,rfl],λi a=>by simp at a]|cons _ _=>simp[RC]at h
 |j::J,os,vs,M,S1,y,x,nd,I,r,hv,hm,h=>by
  cases r with
  |nil _=>simp[RC]at h|@cons _ v t vs ts _ Z Q G C n q =>
   simp only[RC]at h;simp only[QN,wb]at hv;have f:=wC.mp nd;have R:=I.setO j hv.1.symm G λk s _ hk b u=>hm.nw k s hk b ((q b).mpr (.inl u));have W:Held F H (iH S1 j Z) (y.set j (jy (.own t))) Q:=#[λb u=>hm.dom b ((q b).mpr (.inr u)),λi s a b u z=>by
    rcases cA a with⟨rfl,_,_⟩| ⟨X,a⟩
    rw[kB]at z;exact n b z u;rw[UA (Qw X)]at z;exact hm.nw i s a b ((q b).mpr (.inr u)) z]
   let#[g,P,B,O]:=yM f.2 R C hv.2 W h;refine#[g,P,λi a=>?_,λi a s Y=>?_];have A:j≠i:=λe=>a (e▸QK);let#[p,o]:=B i λm=>a (QH _ m);rw[zF A]at p;rw[UA (Qw A)]at o;exact#[p,o];rcases QR.mp a with e|e
   ·subst e
    let#[p,o]:=B i f.1;rw[p]at Y;rcases cA Y with⟨_,e,_⟩| ⟨X,_⟩
    injection e with e;refine#[#[t,e],λb u=>?_];rw[o,kB]at u;exact(q b).mpr (.inl u);exact eN rfl X
   let#[N,L]:=O i e s Y;exact#[N,λb u=>(q b).mpr (.inr (L b u))]
theorem Zc{f:Str}{as:PX}(g:GOk K Γ Ψ)(ia:PSnd K Γ Ψ as)(I:Rl K F H S ρ σ)(X:nF K F H S ρ E EK){Q:TK}{R:VK}{ws:LN}(h:(pe Ψ (.call f as) E).e ρ Q)(k:oB K ws F H S ρ σ Q R):(wp K Γ (.call f as) EK).e σ H R:=by
 let#[os,ho,nd,h]:=h;generalize hJ:xA (Ψ.sp f).md as=J at ho nd h;have own:∀j∈J,∃t,ρ[j]?=jy (jy (.own t)):=λj A=>by let#[i,hi]:=W9.mp A;let#[t,_,e]:=(OE ho).2 i j hi;exact#[t,e]
 have I0:Rl K F H S (clear J ρ) σ:=I.drop (yP J ρ) λi s e=>(nE J ρ i s e).2;have O:∀b,U (clear J ρ) S b->U ρ S b:=λb #[i,t,h1,N]=>#[i,t,(nE J ρ i _ h1).2,N]
 have X0:nF K F H S (clear J ρ) E EK:=λx dx F2 H2 S2 G o ff r q=>X x dx F2 H2 (λ_ _=>False) [] #[o.ff,λb u e n=>o.hh b u e λz=>n (O b z),o.dm,λb e z=>(o.fn b e z).imp (O b) id,λb #[i,t,e,_]=>by simp at e,λj t e=>by simp at e] ff r q;have hm:∀j∈xA (Ψ.sp f).md as,∃v,σ[j]?=jy (jy v):=λj A=>by let#[t,e]:=own j (hJ▸A);let#[v,h1,_]:=I.sl j _ e;exact#[v,h1]
 show(wp K Γ as EK).a σ H λvs c=>Γ.sp f vs c R EK;refine ia.a I0 X0 hm h λvs l c S1 y xs W Y s1 I1 r1 mv q1=>?_;rw[hJ]at mv;let#[ts,hp,q1]:=q1;have hw:=r1.held;have o:=s1.frz (λb m=>(hw.dom b m).2) r1.fr;have P:=I1.frz hw;have yk:∀b,Y b->l b=jz->gF l c W b=none:=λb hy hf=>by let#[i,sl,_,N,h3]:=r1.tm b hy;rw[aB λz=>r1.nw i sl N b z h3];exact hf
 let#[ar,mt]:=r1.av.pass (uE λb m=>(hw.dom b m).2) (λb m=>rD m) yk hp;generalize gF l c W=F2 at o P yk ar;have M0:=I.trs nd ho mv;have hM:Held F H S (clear J ρ) (λb=>∃j∈J,S j b):=#[λb #[j,A,m]=>let#[t,e]:=own j A;I.dom e m,λi s e b #[j,A,m] z=>by let#[C,B]:=nE J ρ i s e;let#[t,et]:=own j A;exact I.dj j i t s (λq=>C (q▸A)) et B b m z]
 have M:=hM.step o.toStp P;have M2:Trs K F2 c jb (AA (Ψ.sp f).md vs) (UB (Ψ.sp f).md ts) (λb=>∃j∈J,S j b):=by
  rw[mt];refine M0.mono o.ff λb m=>?_;refine#[?_,(M.dom b m).2];cases e:H b with|none=>exact eN e (hM.dom b m).1|some u=>exact o.hh b u e (hM.nu b m)
 refine g.sp f vs c R EK #[F2,ts,_,Y,P.fh,ar,M2,λb hy m=>?_,?_];let#[i,sl,_,N,h3]:=r1.tm b hy;exact M.nw i sl N b m h3
 ·have up:∀b,(∃j∈J,S j b)->U ρ S b:=λb #[j,A,m]=>let#[t,e]:=own j A;#[j,t,e,m]
  have lk:∀b,(∃j∈J,S j b)∨c b=jz->U ρ S b∨H b=none:=λb m=>m.imp (up b) (o.dm b);refine(Ψ.sp f).mono ?_ ?_ q1
  rotate_left
  rintro x qx dx F' H' p xr;refine X x dx F' H' (λ_ _=>False) [] #[o.ff.trans p.ff,λb u e n=>p.hh b u (o.hh b u e λz=>n (O b z)) λz=>n (up b z),λb e=>o.dm b (p.dm b e),λb e z=>?_,λb #[i,t,e,_]=>by simp at e,λj t e=>by simp at e] p.fh xr qx;by_cases q:F2 b=jz;exact lk b (p.fn b q z);exact(o.fn b e q).imp (O b) id;rintro r os' ⟨G,hput,q⟩ v F' H' Z M' p tr trs dz hf;have I3:Rl K F' H' S1 y σ:=#[p.fh,P.len,λi s e=>by
   let#[w,g1,g2]:=P.sl i s e;refine#[w,g1,g2.mono p.ff λb m=>?_];let#[d1,d2]:=g2.dom b m;have nM:¬ ∃j∈J,S j b:=λz=>M.nw i s e b z m;refine#[?_,?_];cases e:c b with|none=>exact eN e d1|some u=>exact p.hh b u e nM
   by_cases z:F' b=jz
   ·exact z
   exact((p.fn b d2 z).elim nM d1).elim,P.dj]
  have nw3:∀b,(∃j∈J,S j b)∨c b=jz->∀(i:Nat) s,y[i]?=jy (jy s)->¬ S1 i b:=λb m i s e z=>by rcases m with m|m;exact M.nw i s e b m z;exact(P.dom e z).1 m
  have hM':Held F' H' S1 y M':=#[trs.dom,λi s e b m=>nw3 b (hf b (.inr m)) i s e]
  let#[S2,I4,g2,g3]:=yM nd I3 trs mv hM' hput;have L:∀i s,G[i]?=jy (jy s)->(i∈J/\(∃t,s=.own t)/\∀b,S2 i b->M' b)∨(i∉J/\y[i]?=jy (jy s)/\S2 i=S1 i):=λi s e=>by by_cases hi:i∈J;exact .inl #[hi,g3 i hi s e];let#[C,B]:=g2 i hi;exact .inr #[hi,C▸e,B]
  have st:Ste F H S ρ F' H' S2 G:=#[#[o.ff.trans p.ff,λb u e n=>p.hh b u (o.hh b u e λz=>n (O b z)) λz=>n (up b z),λb e=>o.dm b (p.dm b e),λb e z=>by
    by_cases q:F2 b=jz;exact lk b (p.fn b q z);exact(o.fn b e q).imp (O b) id,
   λb #[i,t,h1,N]=>by
    rcases L i _ h1 with⟨_,_,e⟩| ⟨_,C,B⟩
    exact lk b (hf b (.inr (e b N)));rw[B]at N;exact(o.uu b #[i,t,C,N]).imp (O b) id,
   λj t e hd=>by
    rcases L j _ e with⟨_,⟨t',z⟩,_⟩| ⟨_,C,B⟩
    cases z;let#[b1,b2]:=o.bo j t C hd;exact#[(nE J ρ j _ b1).2,B.trans b2]],
   λj t e=>by
    rcases L j _ e with⟨A,_,_⟩| ⟨_,C,B⟩
    exact own j A;let#[t0,e0]:=o.ow j t C;exact#[t0,(nE J ρ j _ e0).2]]
  refine k v F' H' S2 G r jb Z st I4 #[tr,λ_ b m=>?_,λz=>(by cases z),λ_ i s e b m z=>?_] q;exact(lk b (hf b (.inl m))).symm;rcases L i s e with⟨_,_,B⟩| ⟨_,C,B⟩
  ·exact dz b m (B b z)
  rw[B]at z;exact nw3 b (hf b (.inl m)) i s C z
theorem E7{f:Str}{J:PX}(g:GOk K Γ Ψ)(ia:PSnd K Γ Ψ J)(I:Rl K F H S ρ σ)(hJ:xA (Ψ.sp f).md J=[]){Q:T->Prop}{E2:XE}{R:VK}{X:XK}
  (h:(pe Ψ J (λ_=>False)).a (Ψ.sp f).md ρ λxs y=>y=ρ/\∃ts,BA (Ψ.sp f).md xs []=jy ts/\(Ψ.sp f).run ts (λr _=>Q r) E2)
  (kn:∀v F' H' S' r Z,Ste F H S ρ F' H' S' ρ->Rl K F' H' S' ρ σ->VR K [] H S ρ F' H' S' ρ v r jb Z->Q r->R v H')
  (kx:∀x G F' H' S',Ste F H S ρ F' H' S' ρ->Rl K F' H' S' ρ σ->Sc K F' H' x G->E2 x->X .none G H'):(wp K Γ J (λ_ _ _=>False)).a σ H λvs c=>Γ.sp f vs c R X:=by
 refine ia.a I (λ_ _ _ _ _ _ _ _ _ z=>z.elim) (by rw[hJ];exact λj z=>eN z (by simp)) h λvs l c S1 y xs W Y s1 I1 B P L=>?_;rw[hJ]at P;let#[er,ts,hp,L]:=L;subst er;have M:=B.held;have p:=s1.frz (λb o=>(M.dom b o).2) B.fr;have A:=I1.frz M;have O:∀b,Y b->l b=jz->gF l c W b=none:=λb hy C=>by let#[i,sl,_,h2,h3]:=B.tm b hy;rw[aB λz=>B.nw i sl h2 b z h3];exact C
 let#[ar,mt]:=B.av.pass (uE λb o=>(M.dom b o).2) (λb o=>rD o) O hp;generalize gF l c W=F2 at p A O ar;have mn:AA (Ψ.sp f).md vs=[]:=by simpa using P
 have M2:Trs K F2 c jb (AA (Ψ.sp f).md vs) (UB (Ψ.sp f).md ts) (λ_=>False):=by rw[mt,mn];exact .nil λ_ z=>z
 have go:∀{F' H':Hp},Frm (λ_=>False) F2 c F' H'->Ste F H S y F' H' S1 y/\Rl K F' H' S1 y σ:=λ{F' H'} m=>by
  refine#[#[#[p.ff.trans m.ff,λb u e n=>m.hh b u (p.hh b u e n) (λz=>z),λb e=>p.dm b (m.dm b e),λb e z=>?_,p.uu,p.bo],p.ow],m.fh,A.len,λi s e=>?_,A.dj];by_cases q:F2 b=jz
  ·rcases m.fn b q z with z|z
   ·exact z.elim
   exact .inr (p.dm b z)
  exact p.fn b e q;let#[w,g1,g2]:=A.sl i s e;refine#[w,g1,g2.mono m.ff λb o=>?_];let#[d1,d2]:=g2.dom b o;refine#[?_,?_];cases e:c b with|none=>exact eN e d1|some u=>exact m.hh b u e λz=>z
  by_cases z:F' b=jz
  ·exact z
  exact((m.fn b d2 z).elim (λz=>z) d1).elim
 refine g.sp f vs c R X #[F2,ts,_,Y,A.fh,ar,M2,λb hy z=>z,?_];refine(Ψ.sp f).mono ?_ ?_ L;intro r os' q v F' H' Z M' m tr trs dz C;let#[st,N]:=go m;refine kn v F' H' S1 r Z st N #[tr,λ_ b o=>?_,λz=>(by cases z),λ_ i s e b o z=>?_] q;rcases C b (.inl o) with q|q
 ·exact q.elim
 exact .inl (p.dm b q);rcases C b (.inl o) with q|q
 ·exact q.elim
 exact(A.dom e z).1 q;intro x qx G F' H' m xr;let#[st,N]:=go m;exact kx x G F' H' S1 st N xr qx
end
section
variable{K:QC}{Γ:Ev}{Ψ:PEv}{E:XE}{EK:XK}{F H o l:Hp}{S S1:Ft}{ρ g:zA}{σ:St}
theorem LC{j:Nat}{t:T}(x:ρ[j]?=jy (jy (.own t))){i:Nat}{s:Sl}(h:(ρ.set j (jy (.xx t)))[i]?=jy (jy s)):(i=j/\s=.xx t)∨(i≠j/\ρ[i]?=jy (jy s)):=by
 rcases cA h with⟨rfl,e,_⟩| ⟨n,h⟩
 injection e with e;exact .inl #[rfl,e];exact .inr #[Qw n,h]
theorem Rl.lock1(I:Rl K F H S ρ σ){j:Nat}{t:T}(h:ρ[j]?=jy (jy (.own t))):Rl K F H S (ρ.set j (jy (.xx t))) σ where
 fh:=I.fh
 len:=by simpa using I.len
 sl:=λi s e=>by
  rcases LC h e with⟨rfl,rfl⟩| ⟨_,e⟩
  let#[v,a,u]:=I.sl i _ h;exact#[v,a,u.weak];exact I.sl i s e
 dj:=λi k x s n m f=>by
  rcases LC h m with⟨_,z⟩| ⟨p,y⟩
  cases z;rcases LC h f with⟨q,_⟩| ⟨_,b⟩
  ·exact I.dj i k x _ n y (q▸h)
  exact I.dj i k x s n y b
theorem Rl.lock1U(I:Rl K F H S ρ σ){j:Nat}{t:T}(x:ρ[j]?=jy (jy (.own t)))(b:j2)(y:S j b):¬ U (ρ.set j (jy (.xx t))) S b:=λ#[i,u,h,a]=>by
 rcases LC x h with⟨_,z⟩| ⟨n,h⟩
 cases z;exact I.dj i j u _ n h x b a y
theorem lock1U{j:Nat}{t:T}(y:ρ[j]?=jy (jy (.own t))){b:j2}(h:U (ρ.set j (jy (.xx t))) S b):U ρ S b:=by
 let#[i,u,x,a]:=h;rcases LC y x with⟨_,z⟩| ⟨n,x⟩
 cases z;exact#[i,u,x,a]
theorem nF.lock1{j:Nat}{t:T}(X:nF K F H S ρ E EK)(y:ρ[j]?=jy (jy (.own t))):nF K F H S (ρ.set j (jy (.xx t))) E EK:=λx m s p Y a h f r q =>
 X x m s p (λ_ _=>False) [] #[h.ff,λb u e n=>h.hh b u e λz=>n (lock1U y z),h.dm,λb e z=>(h.fn b e z).imp (lock1U y) id,λb #[i,t,e,_]=>by simp at e,λj t e=>by simp at e] f r q
theorem pS{j:Nat}{t:T}{r p:Hp}{m:Ft}{h:zA}(I:Rl K F H S ρ σ)(x:ρ[j]?=jy (jy (.own t)))(s:Ste F H S (ρ.set j (jy (.xx t))) r p m h)(Y:Rl K r p m h σ){b:j2}(a:S j b) :
  ∀(i:Nat) y,i≠j->h[i]?=jy (jy y)->¬ m i b:=λi y n e z=>by
 cases y with
 |own u=>rcases s.uu b ⟨i,u,e,z⟩ with q|q;exact I.lock1U x b a q;exact(I.dom x a).1 q
 |xx u =>
  cases hd:u.isD with
  |true=>exact Y.isD e hd z|false =>
   let#[f,X]:=s.bo i u e hd;rw[X]at z;rcases LC x f with⟨q,_⟩| ⟨_,f⟩
   exact n q;exact I.dj j i t _ (Qw n) x f b a z
theorem jM{j:Nat}{t t':T}{N:V}{m f A:Hp}{X:Ft}{x:zA}{W G:pA}(I:Rl K F H S ρ σ)(a:ρ[j]?=jy (jy (.own t)))(hv:σ[j]?=jy (jy N))(s:Ste F H S (ρ.set j (jy (.xx t))) m f X x)(Z:Rl K m f X x σ)
  (J:∀b u,f b=jy u->¬ S j b->A b=jy u) (dm:∀b,A b=jz->f b=jz) (r:Tr K m A jb N t' G) (Q:∀b,G b->S j b∨W b∨f b=jz) (hw:Held m f X x W) (L:∀b,W b->H b=jz∨U (ρ.set j (jy (.xx t))) S b) :
  Ste F H S ρ m A (iH X j G) (x.set j (jy (.own t')))/\Rl K m A (iH X j G) (x.set j (jy (.own t'))) σ/\∀b,S j b∨W b∨f b=jz->∀(i:Nat) y,i≠j->x[i]?=jy (jy y)->¬ X i b:=by
 have P:∀b,S j b∨W b∨f b=jz->∀(i:Nat) y,i≠j->x[i]?=jy (jy y)->¬ X i b:=λb h i y n e z=>by rcases h with h|h|h;exact pS I a s Z h i y n e z;exact hw.nw i y e b h z;exact(Z.dom e z).1 h
 have O:∀b,S j b->U ρ S b:=λb h=>#[j,t,a,h]
 have lk:∀b,S j b∨W b∨f b=jz->U ρ S b∨H b=none:=λb h=>by rcases h with h|h|h;exact .inl (O b h);exact(L b h).symm.imp (lock1U a) id;exact .inr (s.dm b h)
 have fS:∀b,S j b->m b=none:=λb h=>by
  by_cases q:m b=jz;exact q;rcases s.fn b (I.dom a h).2 q with z|z
  ·exact eN z (I.lock1U a b h)
  exact eN z (I.dom a h).1
 have fh:Same m A:=λb u e=>J b u (Z.fh b u e) λz=>by rw[fS b z]at e;cases e
 have I3:Rl K m A X (x.set j jz) σ:=#[fh,by simpa using Z.len,λi y e=>by
   rcases cA e with⟨_,z,_⟩| ⟨n,e⟩
   cases z;let#[v,B,p]:=Z.sl i y e;refine#[v,B,p.mono (.refl _) λb h=>#[?_,(p.dom b h).2]];cases R:f b with|none=>exact eN R (p.dom b h).1|some u=>exact J b u R λz=>pS I a s Z z i y (Qw n) e h,
  λi k u y n Y C=>by
   rcases cA Y with⟨_,z,_⟩| ⟨_,Y⟩
   cases z;rcases cA C with⟨_,z,_⟩| ⟨_,C⟩
   ·cases z
   exact Z.dj i k u y n Y C]
 have I4:=I3.setO j hv r λi y n e b h=>by
  rcases cA e with⟨_,z,_⟩| ⟨_,e⟩
  cases z;exact P b (Q b h) i y n e
 have es:(x.set j jz).set j (jy (.own t'))=x.set j (jy (.own t')):=by simp
 rw[es]at I4;refine#[#[#[s.ff,λb u e n=>J b u (s.hh b u e λz=>n (lock1U a z)) λz=>n (O b z),λb e=>s.dm b (dm b e),λb e z=>(s.fn b e z).imp (lock1U a) id,λb #[i,u,B,p]=>?_,λi u e hd=>?_],λi u e=>?_],I4,P];rcases cA B with⟨rfl,_,_⟩| ⟨n,B⟩
 ·rw[kB]at p
  exact lk b (Q b p)
 rw[UA (Qw n)]at p;exact(s.uu b #[i,u,B,p]).imp (lock1U a) id;rcases cA e with⟨rfl,z,_⟩| ⟨n,e⟩
 ·cases z
 let#[Y,C]:=s.bo i u e hd;rcases LC a Y with⟨z,_⟩| ⟨_,Y⟩
 exact eN z.symm n;exact#[Y,by rw[UA (Qw n)];exact C];rcases cA e with⟨rfl,_,_⟩| ⟨n,e⟩
 ·exact#[t,a]
 let#[t0,M]:=s.ow i u e;rcases LC a M with⟨_,z⟩| ⟨_,M⟩
 cases z;exact#[t0,M]
theorem ZL{a:j2}{ys:LV}{us:LT}{P:pA}(x:F a=jz)(r:Trs K F H jb ys us P)(n:¬ P a):Tr K F (VA H a (.lst ys)) jb (.ref a) (.lst us) λb=>b=a∨P b :=
 .lst (S':=P) vA x (r.mono (.refl _) λb h=>#[yA λz=>n (z▸h),(r.dom b h).2]) n λb=>Wy
theorem cH{a:j2}{h:HO}{Sp:pA}(f:Sp a)(b:j2)(u:HO)(e:H b=jy u)(y:¬ Sp b):VA H a h b=jy u:=by have x:b≠a:=λz=>y (by rw[z];exact f);rw[yA x];exact e
theorem rG{a:j2}{x:HO}(b:j2)(e:VA H a x b=jz):H b=none:=by by_cases h:b=a;rw[h,vA]at e;cases e;rw[yA h]at e;exact e
theorem Trs.cutT:∀{vs:LV}{ts:LT}{Z:pA}(n:Nat),Trs K F H jb vs ts Z->∃P1 u,Trs K F H jb (vs.take n) (ts.take n) P1/\Trs K F H jb (vs.drop n) (ts.drop n) u/\(∀b,P1 b->¬ u b)/\∀b,P1 b∨u b->Z b
 |_,_,_,0,h=>#[λ_=>False,_,.nil λ_ z=>z,h,λ_ z=>z.elim,λ_ z=>z.elim QT id]|[],_,_,n+1,h=>by cases h;exact#[λ_=>False,λ_=>False,.nil λ_ z=>z,.nil λ_ z=>z,λ_ z=>z.elim,λ_ z=>z.elim QT QT]|v::vs,_,_,n+1,h=>by let#[_,_,S1,m,rfl,r,e,a,q]:=h.invv;let#[P1,u,j,i,f,p4]:=Trs.cutT n e;exact#[λb=>S1 b∨P1 b,u,.cons r j (λb x z=>a b x (p4 b (.inl z))) λb=>Wy,i,λb x z=>x.elim (λy=>a b y (p4 b (.inr z))) λy=>f b y z,λb x=>(q b).mpr (x.elim (λy=>y.elim .inl λy=>.inr (p4 b (.inl y))) λy=>.inr (p4 b (.inr y)))]
theorem Cb{m:Mt}{v:V}{s:T}{Sp W:pA}{vs:LV}{ts:LT}{N:T->T->Prop}{R:VK}(f:Same F H)(r:Tr K F H jb v s Sp)(M:Trs K F H jb vs ts W)(Z:∀b,Sp b->¬ W b)(h:ZM m s ts N)
  (k:∀w r s' H' S1 Q,(∀b u,H b=jy u->¬ Sp b->H' b=jy u)->(∀b,H' b=jz->H b=jz)->Tr K F H' jb v s' S1->Tr K F H' jb w r Q->(∀b,Q b->¬ S1 b)->(∀b,S1 b∨Q b->Sp b∨W b∨H b=jz)->N r s'->R w H'):Lb K m v vs H R:=by
 cases m with
 |append =>
  let#[C,t0,rfl,rfl,h]:=h;cases r with
  |@lst _ a B _ _ S' J I p A y =>
   have e:Sp a:=(y a).mpr (.inl rfl);cases M with
   |@cons _ w t ws us _ L W2 X G n q =>
    cases G with
    |nil O =>
     have j:∀b,W b↔L b:=λb=>by rw[q b];simp[O b]
     refine#[B,J,by rw[p.length];exact h.1,k .non (.d .none) _ _ _ (λ_=>False) (cH e) rG (ZL I (Trs.append p (Trs.one X) λb x Y=>Z b ((y b).mpr (.inr x)) ((j b).mpr Y)) λz=>z.elim A λz=>Z a e ((j a).mpr z)) (.d .non λ_ z=>z) (λ_ z=>z.elim) (λb x=>?_) h.2];rcases x with(x|x|x)|x;exact .inl (x▸e);exact .inl ((y b).mpr (.inr x));exact .inr (.inl ((j b).mpr x));exact x.elim
 |extend =>
  let#[C,vs0,rfl,rfl,h]:=h;cases r with
  |@lst _ a B _ _ S' J I p A y =>
   have e:Sp a:=(y a).mpr (.inl rfl);cases M with
   |@cons _ w t ws us _ L W2 X G n q =>
    cases G with
    |nil O =>
     have j:∀b,W b↔L b:=λb=>by rw[q b];simp[O b]
     let#[c,zs,S2,rfl,g1,g2,g3,g4,g5]:=X.inv;have P:∀b,S2 b->W b:=λb x=>(j b).mpr ((g5 b).mpr (.inr x));refine#[a,c,B,zs,rfl,rfl,J,g1,by rw[p.length,g3.length];exact h.1,k .non (.d .none) _ _ _ (λ_=>False) (cH e) rG (ZL I (Trs.append p g3 λb x Y=>Z b ((y b).mpr (.inr x)) (P b Y)) λz=>z.elim A λz=>Z a e (P a z)) (.d .non λ_ z=>z) (λ_ z=>z.elim) (λb x=>?_) h.2];rcases x with(x|x|x)|x;exact .inl (x▸e);exact .inl ((y b).mpr (.inr x));exact .inr (.inl (P b x));exact x.elim
 |insert =>
  let#[C,i,t0,rfl,rfl,hi,hl,h]:=h;let#[a,B,S',rfl,J,I,p,A,y]:=r.inv;have e:Sp a:=(y a).mpr (.inl rfl);cases M with
  |@cons _ w t ws us _ L W2 X G n q =>
   let#[X,n1]:=X.invd;cases X.inv;let#[w2,ws2,W3,W4,rfl,r3,r4,n3,q3]:=G.inv;let#[rfl,n4]:=r4.inv;have j:∀b,W b↔W3 b:=λb=>by rw[q b,q3 b];simp[n1 b,n4 b]
   let#[P1,P2,p1,p2,p3,p4]:=Trs.cutT i.toNat p;have e3:=p.length;refine#[a,i,w2,B,rfl,rfl,J,(),(),k .non (.d .none) _ _ _ (λ_=>False) (cH e) rG (ZL I (Trs.append p1 (.cons r3 p2 (λb x Y=>Z b ((y b).mpr (.inr (p4 b (.inr Y)))) ((j b).mpr x)) λb=>Wy) λb x Y=>Y.elim (λz=>Z b ((y b).mpr (.inr (p4 b (.inl x)))) ((j b).mpr z)) (p3 b x)) λz=>?_) (.d .non λ_ z=>z) (λ_ z=>z.elim) (λb x=>?_) h];rcases z with z|z|z
   ·exact A (p4 a (.inl z))
   exact Z a e ((j a).mpr z);exact A (p4 a (.inr z));rcases x with(x|x|x|x)|x
   ·exact .inl (x▸e)
   exact .inl ((y b).mpr (.inr (p4 b (.inl x))));exact .inr (.inl ((j b).mpr x));exact .inl ((y b).mpr (.inr (p4 b (.inr x))));exact x.elim
 |_=>exact h.elim
theorem Trs.setD{x:D}{u:V}(a:Rep K F u x):∀{vs:LV}{ts:LT}{Z:pA}(n:Nat),Trs K F H jb vs ts Z->∃P,Trs K F H jb (vs.set n u) (ts.set n (.d x)) P/\∀b,P b->Z b
 |[],_,_,n,h=>by cases h;exact#[λ_=>False,.nil λ_ z=>z,λ_ z=>z.elim]|v::vs,_,_,n,h=>by
  let#[_,_,S1,m,rfl,r,e,j,q]:=h.invv;cases n with|zero=>exact#[λb=>False∨m b,.cons (.d a λ_ z=>z) e (λ_ z=>z.elim) λb=>Wy,λb y=>(q b).mpr (.inr (y.elim QT id))]|succ n=>let#[P,i,f]:=Trs.setD a n e;exact#[λb=>S1 b∨P b,.cons r i (λb y z=>j b y (f b z)) λb=>Wy,λb y=>(q b).mpr (y.imp id (f b))]
theorem Vh{t:T}{y x:D}{v m f:V}{Sp:pA}{N:T->Prop}{R:Hp->Prop}(r:Tr K F H jb v t Sp)(Z:Rep K F m y)(W:Rep K F f x)(h:jr t y x N)
  (k:∀t' H' S1,(∀b u,H b=jy u->¬ Sp b->H' b=jy u)->(∀b,H' b=jz->H b=jz)->Tr K F H' jb v t' S1->(∀b,S1 b->Sp b)->N t'->R H'):XW v m f H R:=by
 let#[J,i,n,rfl,rfl,B,q]:=h;cases Z.inv;let#[a,Y,L,rfl,I,G,X,C,s]:=r.inv;have p:Sp a:=(s a).mpr (.inl rfl);let#[P,A,j]:=X.setD W n;refine#[a,Y,i,n,rfl,rfl,I,by rw[X.length];exact B,k _ _ _ (cH p) rG (ZL G A λz=>C (j a z)) (λb e=>?_) q];rcases e with e|e;exact e▸p;exact(s b).mpr (.inr (j b e))
theorem Trs.part2:∀{vs:LV}{ts:LT}{Z:pA}{i:Nat}{t:T},Trs K F H jb vs ts Z->ts[i]?=jy t->∃v S1,vs[i]?=jy v/\Tr K F H jb v t S1/\(∀b,S1 b->Z b) /\
  ∀(H':Hp) t' u (W:pA),(∀b,Z b->¬ S1 b->H' b=H b)->Tr K F H' jb v t' u->(∀b,u b->S1 b∨W b)->(∀b,Z b->¬ W b)->∃P,Trs K F H' jb vs (ts.set i t') P/\∀b,P b->Z b∨W b
 |[],_,_,i,t,h,e=>by cases h;cases e|v::vs,_,_,i,t,h,e=>by
  let#[_,_,p,C,rfl,h,t,n,q]:=h.invv;cases i with|zero=>cases e;exact#[_,p,rfl,h,λb x=>(q b).mpr (.inl x),λH' t' u W k r f a=>#[λb=>u b∨C b,.cons r (t.mono (.refl _) λb x=>#[k b ((q b).mpr (.inr x)) λz=>n b z x,(t.dom b x).2]) (λb x z=>(f b x).elim (λy=>n b y z) (a b ((q b).mpr (.inr z)))) λb=>Wy,λb x=>x.elim (λy=>(f b y).imp (λy=>(q b).mpr (.inl y)) id) λy=>.inl ((q b).mpr (.inr y))]]|succ i=>let#[v,S1,A,Y,j,X]:=Trs.part2 (i:=i) t e;refine#[v,S1,A,Y,λb x=>(q b).mpr (.inr (j b x)),λH' t' u W k r f a=>?_];let#[P,B,m]:=X H' t' u W (λb x s=>k b ((q b).mpr (.inr x)) s) r f λb x=>a b ((q b).mpr (.inr x));exact#[λb=>p b∨P b,.cons (h.mono (.refl _) λb x=>#[k b ((q b).mpr (.inl x)) λz=>n b x (j b z),(h.dom b x).2]) B (λb x z=>(m b z).elim (n b x) (a b ((q b).mpr (.inl x)))) λb=>Wy,λb x=>x.elim (λy=>.inl ((q b).mpr (.inl y))) λy=>(m b y).imp (λy=>(q b).mpr (.inr y)) id]
theorem bW{v:V}{us ts:LT}{k:Nat}{Z:pA}(r:Tr K F H jb v (.tup us) Z)(e:us[k]?=jy (.lst ts)):∃a ws b vs S1,v=.ref a/\H a=jy (.tup ws)/\Z a/\ws.length=us.length/\ws[k]?=jy (.ref b)/\H b=jy (.lst vs)/\Trs K F H jb vs ts S1/\Z b/\(∀c,S1 c->Z c)/\¬ S1 b /\
  ∀(H':Hp) u y h (W:pA),(∀c,Z c->¬ S1 c->c≠b->H' c=H c)->H' b=jy (.lst u)->Trs K F H' jb u y h->(∀c,h c->S1 c∨W c)->(∀c,Z c->¬ W c)->∃P,Tr K F H' jb v (.tup (us.set k (.lst y))) P/\∀c,P c->Z c∨W c:=by
 let#[a,ws,I,rfl,A,Q,Y,m,x]:=r.inv;let#[w,S1,g1,g2,B,R]:=Y.part2 e;let#[b,vs,G,rfl,f1,f2,f3,C,f]:=g2.inv;have i:I b:=B b ((f b).mpr (.inl rfl));have n:∀c,G c->I c:=λc hc=>B c ((f c).mpr (.inr hc));refine#[a,ws,b,vs,G,rfl,A,(x a).mpr (.inl rfl),Y.length,g1,f1,f3,(x b).mpr (.inr i),λc hc=>(x c).mpr (.inr (n c hc)),C,λH' u y h W s O N q j=>?_];have L:¬ h b:=λz=>(q b z).elim C (j b ((x b).mpr (.inr i)));let#[P,J,p]:=R H' (.lst y) (λc=>c=b∨h c) W (λc hc X=>s c ((x c).mpr (.inr hc)) (λz=>X ((f c).mpr (.inr z))) λz=>X ((f c).mpr (.inl z))) (.lst O f2 N L λc=>Wy) (λc hc=>hc.elim (λe=>.inl ((f c).mpr (.inl e))) λz=>(q c z).imp (λz=>(f c).mpr (.inr z)) id) λc hc=>j c ((x c).mpr (.inr hc));have M:=s a ((x a).mpr (.inl rfl)) (λz=>m (n a z)) λz=>m (z▸i);exact#[λc=>c=a∨P c,.tup (M.trans A) Q J (λz=>(p a z).elim m (j a ((x a).mpr (.inl rfl)))) λc=>Wy,λc hc=>hc.elim (λe=>.inl ((x c).mpr (.inl e))) λz=>(p c z).imp (λz=>(x c).mpr (.inr z)) id]
end
section
variable{K:QC}{Γ:Ev}{Ψ:PEv}
noncomputable abbrev NZ(K:QC)(Γ:Ev)(Ψ:PEv)(p:PX):Prop:=∀{E:XE}{y:XK}{F H:Hp}{S:Ft}{h:zA}{x:St}{Q:TK}{R:VK},Rl K F H S h x->nF K F H S h E y->(pe Ψ p E).e h Q->oB K (CI p) F H S h x Q R->(wp K Γ p y).e x H R
theorem xU{p:PX}(f:NZ K Γ Ψ p){E:XE}{EK:XK}{F H:Hp}{S:Ft}{ρ:zA}{σ:St}{Q:Bool->zA->Prop}{R:Bool->Hp->Prop}(I:Rl K F H S ρ σ)(X:nF K F H S ρ E EK)(h:(pe Ψ p E).e ρ λt _ y=>PH t.er λb=>Q b y)(k:NH K F H S ρ σ Q R) :
  (wp K Γ p EK).e σ H λx i=>UF K x i R :=
 f I X h λv l j g z t n Z s u r q=>fW (r.tr.rep u.fh) q λc a=>k c l j g z s u a
theorem PSnd.of_e{p:PX}(f:∀E ρ Q,(pe Ψ p E).t ρ Q=(pe Ψ p E).e ρ λt _ y=>PH t.er λb=>Q b y)(z:∀EK σ H R,(wp K Γ p EK).t σ H R=(wp K Γ p EK).e σ H λx i=>UF K x i R)(g:∀E,(pe Ψ p E).a=iE.a)(u:NZ K Γ Ψ p):PSnd K Γ Ψ p where
 e:=u
 t:=λI X h k=>by rw[f]at h;rw[z];exact xU u I X h k
 a:=λI X _ h k=>by rw[g]at h;exact h.elim
theorem PSnd.of_0{p:PX}(x:∀E,(pe Ψ p E).t=iE.t)(z:∀E,(pe Ψ p E).a=iE.a)(y:NZ K Γ Ψ p):PSnd K Γ Ψ p where
 e:=y
 t:=λI X h k=>by rw[x]at h;exact h.elim
 a:=λI X _ h k=>by rw[z]at h;exact h.elim
theorem PSnd.of_t{p:PX}(m:∀E ρ Q,(pe Ψ p E).e ρ Q=(pe Ψ p E).t ρ λb z=>Q (.d (.bool b)) js z)(u:∀EK σ H R,(wp K Γ p EK).t σ H R=(wp K Γ p EK).e σ H λx o=>rR x o R)(n:∀E,(pe Ψ p E).a=iE.a)
  (g:∀{E:XE}{EK:XK}{F H:Hp}{S:Ft}{ρ:zA}{σ:St}{Q:Bool->zA->Prop}{R:VK},Rl K F H S ρ σ->nF K F H S ρ E EK->(pe Ψ p E).t ρ Q->NH K F H S ρ σ Q (λb=>R (.bl b))->(wp K Γ p EK).e σ H R):PSnd K Γ Ψ p where
 e:=λI X h k=>by rw[m]at h;exact g I X h λb l j i y s f q=>oB.d k s f (.bl b) q
 t:=λI X h k=>by rw[u];exact g I X h λb l j i y s f q=>k b l j i y s f q
 a:=λI X _ h k=>by rw[n]at h;exact h.elim
theorem Jd(i:Nat):NZ K Γ Ψ (.vx i):=by
 intro E l F H S y a Q R I X h k;have x:kr y[i]? λt=>Q t js y:=h;show(match a[i]? with|some (jy v)=>R v H|_=>False);have u:∀s,y[i]?=jy (jy s)->Q s.t js y->(match a[i]? with|some (jy v)=>R v H|_=>False):=λs e q=>by let#[v,j,g]:=I.sl i _ e;rw[j];exact k v F H S y s.t js (S i) .refl I #[g.weak,λz=>(by cases z),λ_ b f=>#[i,s,qH.mpr rfl,e,f],λz=>(by cases z)] q
 unfold kr at x;split at x;rename_i e;exact u _ e x;rename_i e;exact u _ e x;exact x.elim;exact x.elim
theorem gj{m:Mt}{v:V}{s:T}{H F:Hp}{Z:pA}(h:isMut m=jb)(x:cJ m s=jb)(r:Tr K F H jb v s Z):SZ K m.ty v H:=by
 unfold cJ at x;split at x;let#[_,_,_,rfl,y,_,_,_,_]:=r.inv;refine .inl #[?_,_,YD.of y];cases m with|append=>rfl|extend=>rfl|insert=>rfl|_=>cases h
 cases x
theorem PSnd.bad{p:PX}(h:∀E,pe Ψ p E=iE):PSnd K Γ Ψ p:=#[λ_ _ q _=>by rw[h]at q;exact q.elim,λ_ _ q _=>by rw[h]at q;exact q.elim,λ_ _ _ q _=>by rw[h]at q;exact q.elim]
theorem Ss{m:Mt}{o B:PX}(io:PSnd K Γ Ψ o)(ia:PSnd K Γ Ψ B):NZ K Γ Ψ (.mt m o B):=by
 intro E EK F H S G L Q R I X h k;show(wp K Γ o EK).e L H λx J=>SZ K m.ty x J/\(wp K Γ B EK).a L J λvs l=>Lb K m x vs l R;cases hm:isMut m with
 |false =>
  have h:(pe Ψ o E).e G λx n M=>XQ m (uA x n).vw=jb/\sq (uA x n) M ((pe Ψ B E).a []) λg y=>Ll m (uA x n).vw (XB g) λz k=>Q z k y:=by have A:(if isMut m=jb then _ else _):=h;rw[hm,eH (by simp)]at A;exact A
  refine om (P1:=λx n=>XQ m (uA x n).vw=jb) (R1:=λv J=>SZ K m.ty v J) (RR:=λv vs l=>Lb K m v vs l R) io ia I X h (λv F' H' x n Za r p=>Xo r p) λv vs F' H' S' ρ' x n g Za Y s I' X' r _ tn q=>?_;rw[NJ _ rfl]at q;exact lj s I' r tn q k
 |true =>
  have h:A2 (mU o) λj=>eF G[j]? λt=>cJ m t=jb/\(pe Ψ B E).a [] (G.set j (jy (.xx t))) λg y=>FE g=jb/\y[j]?=jy (jy (.xx t))/\ZM m t (zD g) λr s'=>Q r jb (y.set j (jy (.own s'))):=by have A:(if isMut m=jb then _ else _):=h;rw[hm,ef rfl]at A;exact A
  let#[j,rfl,h]:=T2 h;have h:eF G[j]? _:=h;unfold eF at h;split at h;rename_i t f;let#[ht,q1]:=h;let#[v0,hv,Z]:=I.sl j _ f;have IL:=I.lock1 f;have n0:=I.lock1U f;have Z:Tr K F H jb v0 t (S j):=Z;have XL:=X.lock1 f;show(match L[j]? with|some (jy v)=>_|_=>False);rw[hv];refine#[gj hm ht Z,?_];refine ia.a (md:=[]) IL XL (λ_ f=>XG f) q1 λvs F2 l S2 y g W Y N I2 C _ P=>?_;let#[he,hj2,P]:=P;have r2:Tr K F2 l jb v0 t (S j):=N.toStp.keep Z n0;have hw:=C.held;have trs:=C.av.trs fj he;have wS:∀b,S j b->¬ W b:=λb u hb2=>by rcases C.fr b hb2 with q|q;exact(Z.dom b u).1 q;exact n0 b u q
  refine Cb I2.fh r2 trs wS P λw r s' H3 S3 Zr hh dm O rr dz hf q=>?_;let#[st,I3,nw]:=jM I f hv N I2 hh dm O (λb u=>hf b (.inl u)) hw C.fr;have zr:∀b,Zr b->S j b∨W b∨l b=none:=λb u=>hf b (.inr u);refine k w F2 H3 _ _ r jb Zr st I3 #[rr,λ_ b u=>?_,λz=>(by cases z),λ_ i sl e b u z=>?_] q;rcases zr b u with q|q|q
  ·exact .inr #[j,t,f,q]
  exact(C.fr b q).imp id (lock1U f);exact .inl (N.dm b q);rcases cA e with⟨rfl,_,_⟩| ⟨n,e⟩
  ·rw[kB]at z
   exact dz b u z
  rw[UA (Qw n)]at z;exact nw b (zr b u) i sl (Qw n) e z
  all_goals exact h.elim
theorem zK{x:List (Str×V)}{y:List (Str×D)}(h:x0 (λ(p:Str×V) (q:Str×D)=>p.1=q.1/\∀F,Rep K F p.2 q.2) x y)(z:Str)(F:Hp) :
  (∀d,y.lookup z=jy d->∃v,x.lookup z=jy v/\Rep K F v d)/\Rep K F ((x.lookup z).getD .non) ((y.lookup z).getD .none):=by
 induction h with
 |nil=>exact#[λd e=>(by simp at e),.non]|@cons p q m j h t i =>
  let#[a,g]:=p;let#[f,l]:=q;let#[u,b]:=h;have u:a=f:=u;subst u;rw[Qg,Qg];cases e:z==a with|true=>exact#[λd e=>by cases e;exact#[g,rfl,b F],b F]|false=>exact i
theorem Tn.one1{Y:pA}{vs:LV}{x:D}(h:Tn K F H Y vs [.d x]):∃v,vs=[v]/\Rep K F v x:=by
 cases h with|cons r _ t=>cases t;let#[r,_]:=r.invd;exact#[_,rfl,r]
theorem Tn.two1{Y:pA}{vs:LV}{x y:D}(h:Tn K F H Y vs [.d x,.d y]):∃v w,vs=[v,w]/\Rep K F v x/\Rep K F w y:=by
 cases h with|cons r _ t=>let#[w,rfl,z]:=t.one1;let#[r,_]:=r.invd;exact#[_,w,rfl,r,z]
theorem Reps.rep{vs:LV}{x:List D}(h:Reps K F vs x):∀(k:Nat),Reps K F (QI k vs).flatten (QI k x).flatten
 |0=>.nil|k+1=>by rw[Qf,Qf,qF,qF];exact h.append (Reps.rep h k)
theorem JY{x:List (Str×V)}{y:List (Str×D)}(h:x0 (λ(p:Str×V) (q:Str×D)=>p.1=q.1/\∀F,Rep K F p.2 q.2) x y){z:Str}(l:y.lookup z=jz):x.lookup z=none:=by
 induction h with
 |nil=>rfl|@cons p q j g h t b =>
  let#[u,m]:=p;let#[a,i]:=q;have f:u=a:=h.1;subst f;rw[Qg]at l ⊢;cases e:z==u with|true=>rw[e]at l;cases l|false=>rw[e]at l;exact b l
theorem Rep.exc_i{K:QC}{F:Hp}{v:V}{x:Str}{p:Int}(h:Rep K F v (VF x p)):∃a C y,v=.ref a/\F a=jy (.ext (LG C a y))/\F y=jy (.xd (EH p))/\ExC K C x:=by
 unfold VF at h;generalize hd:PyData.dict [(.none,.list [.str x,.int p])]=d at h;cases h with
 |exc f e b=>cases hd;exact#[_,_,_,rfl,f,e,b]|cls h=>cases hd|@dct a u g z _ _ _ =>
  cases u with
  |nil=>cases hd|cons k r=>cases z with|nil=>cases hd|cons d z=>cases hd
 |_=>cases hd
theorem Rep.cls_i{K:QC}{F:Hp}{v:V}{x:Str}(h:Rep K F v (ZH x)):∃C,v=.ref C/\ExC K C x:=by
 unfold ZH at h;generalize hd:PyData.dict [(.none,.str x)]=d at h;cases h with
 |exc f e b=>cases hd|cls h=>cases hd;exact#[_,rfl,h]|@dct a z u y _ _ _ =>
  cases z with
  |nil=>cases hd|cons k r=>cases y with|nil=>cases hd|cons d y=>cases hd
 |_=>cases hd
theorem F7:∀{ks ls:LS}{y x:List D},ks.length=y.length->ls.length=x.length->OG ks y=OG ls x->ks=ls/\y=x
 |[],[],[],[],_,_,_=>#[rfl,rfl]|[],_::_,[],_::_,_,_,h=>by cases h|_::_,[],_::_,[],_,_,h=>by cases h|k::ks,l::ls,d::y,e::x,h1,h2,h=>by let#[a,b]:=QAQ h;let#[g,f]:=Wg a;let#[u,z]:=F7 (ks:=ks) (ls:=ls) (Wj h1) (Wj h2) b;exact#[by rw[PyData.str.inj g,u],by rw[f,z]]
theorem Rep.dct_i{K:QC}{F:Hp}{v:V}{ks:LS}{x:List D}(h:Rep K F v (.dict (OG ks x)))(b:ks≠[])(hl:ks.length=x.length):∃a xs,v=.ref a/\F a=jy (.dK (OB ks xs))/\Reps K F xs x:=by
 cases ks with
 |nil=>exact eN rfl b|cons k ks=>cases x with
  |nil=>cases hl|cons d x =>
   generalize hd:PyData.dict (OG (k::ks) (d::x))=y at h;cases h with|exc u z e=>cases hd|cls h=>cases hd|@dct a ls xs f u z r=>let#[rfl,rfl]:=F7 hl (z.trans r.length) (PyData.dict.inj hd);exact#[a,xs,rfl,u,r]|_=>cases hd
theorem ZX{K:QC}{F:Hp}(z:Str):∀{ks:LS}{xs:LV}{y:List D},Reps K F xs y->(∀d,(ks.zip y).lookup z=jy d->∃v,UE (OB ks xs) (.inr z)=jy v/\Rep K F v d)/\((ks.zip y).lookup z=jz->UE (OB ks xs) (.inr z)=jz)
 |[],_,_,_=>#[λd h=>(by cases h),λ_=>rfl]|_::_,_,_,.nil=>#[λd h=>(by cases h),λ_=>rfl]|k::ks,x::xs,d::y,.cons r t=>by
  have i:(∀d,(ks.zip y).lookup z=jy d->∃v,UE (OB ks xs) (.inr z)=jy v/\Rep K F v d)/\((ks.zip y).lookup z=jz->UE (OB ks xs) (.inr z)=jz):=ZX z t;let#[a,b]:=i;by_cases e:z=k;subst e;have u:(((z::ks).zip (d::y)).lookup z)=jy d:=by simp[Qg]
  have f:UE (OB (z::ks) (x::xs)) (.inr z)=jy x:=GI rfl;exact#[λj h=>#[x,f,by rw[u]at h;cases h;exact r],λh=>by rw[u]at h;cases h];have g:(z==k)=false:=by simpa using e
  have u:(((k::ks).zip (d::y)).lookup z)=(ks.zip y).lookup z:=by show wa z ((k,d)::ks.zip y)=_;rw[Qg,g]
  have f:UE (OB (k::ks) (x::xs)) (.inr z)=UE (OB ks xs) (.inr z):=HI λq=>e (QBk q).symm;rw[u,f];exact#[a,b]
theorem A9{o:Prm}{Y:pA}{vs:LV}{ts:LT}{F H B M:Hp}{S S1:Ft}{ρ j:zA}{σ:St}{Q:TK}{R:VK}{ws:LN}(g:GOk K Γ Ψ)(s:Ste F H S ρ B M S1 j)(I:Rl K B M S1 j σ)(f:Tn K B M Y vs ts)(h:PP Ψ o ts λz n=>Q z n j)(k:oB K ws F H S ρ σ Q R):eY K Γ o vs M R:=by
 cases o with
 |dget x=>let#[z,Z,rfl,e,q]:=h;let#[v,rfl,r]:=f.one1;cases r.inv;let#[u,G,p]:=g.dc _ _ e;exact#[u,G,k.d s I (zK p _ B).2 q]|dix x=>let#[z,Z,d,rfl,e,l,q]:=h;let#[v,rfl,r]:=f.one1;cases r.inv;let#[u,G,p]:=g.dc _ _ e;let#[v,N,b]:=(zK p _ B).1 d l;exact#[u,v,G,N,k.d s I b q]|dgetD x =>
  let#[z,d,Z,rfl,e,q]:=h;let#[v,w,rfl,X,b]:=f.two1;cases X.inv;let#[u,G,p]:=g.dc _ _ e;refine#[u,G,k.d s I ?_ q];cases l:Z.lookup z with|none=>rw[JY p l];exact b|some d'=>let#[v',N,r']:=(zK p _ B).1 d' l;rw[N];exact r'
 |dgt=>let#[z,ks,L,d,rfl,#[hn,hl],hd,q]:=h;let#[v,w,rfl,X,b]:=f.two1;cases b.inv;let#[a,P,rfl,ha,E]:=X.dct_i hn hl;let#[v,ev,rv]:=(ZX (ks:=ks) z E).1 d hd;exact#[a,v,rfl,.inl #[_,.inr z,.inl (I.fh _ _ ha),rfl,ev.symm],k.d s I rv q]|plc=>let#[x,p,rfl,q]:=h;let#[v,rfl,r]:=f.one1;let#[a,C,J,rfl,A,W,i]:=r.exc_i;exact#[a,C,J,p,rfl,I.fh _ _ A,I.fh _ _ W,i.ex,k.d s I (.int _) q]|isC =>
  let#[x,p,z,rfl,q]:=h;let#[v,w,rfl,X,b]:=f.two1;let#[a,C,J,rfl,A,W,i]:=X.exc_i;let#[D,rfl,O]:=b.cls_i;refine .inr #[a,C,J,.ref D,_,rfl,I.fh _ _ A,#[_,I.fh _ _ W],i.ex,.inl #[D,rfl,O.ex,rfl],k.d (n:=js) s I (.bl _) ?_];have e:decide (D=C∨D=wOf K)=decide (z=x∨z="WorldError"):=by refine decide_eq_decide.mpr ?_;rw[i.inj O,O.isW]
  rw[e];exact q
 |isT y m=>let#[rfl,x,p,rfl,q]:=h;let#[v,rfl,r]:=f.one1;let#[a,C,J,rfl,A,W,i]:=r.exc_i;exact .inr #[a,C,J,.ty "ValueError",_,rfl,I.fh _ _ A,#[_,I.fh _ _ W],i.ex,.inr #[_,rfl,by decide +kernel,rfl],k.d s I (.bl _) q]|tmul =>
  let#[L,n,rfl,h0,#[A,W,i],q]:=h;let#[v,w,rfl,X,b]:=f.two1;cases b.inv;let#[a,P,rfl,hq,E]:=X.inv;have hl:=E.length;refine#[P,I.fh.tupl hq,λz=>h0 ?_,#[A,W,by rw[hl];exact i],λz=>?_,λz p hp=>k.tupD s I hp (E.rep _) q];subst z;exact Wt.mp hl.symm;subst z;have e:∀L:List D,(QI (wd 1) L).flatten=L:=λL=>by simp
  rw[e]at q;exact k.d s I (.tup hq E) q
section
variable{F H:Hp}
theorem dR:∀{xs:List (T×Bool)},XI xs=jb->∀t∈UD xs,t.isD=jb
 |[],_,t,h=>by simp[UD]at h|p::r,h,t,y=>by
  simp only[XI,QX]at h;simp only[UD,QR]at y;rcases y with rfl|y;let#[x,n]:=p;cases n with
  |true=>rfl|false =>
   have z:=h.1;cases x with|d x=>rfl|_=>cases z
  exact dR h.2 t y
theorem Tn.bare{Y:pA}{vs:LV}{ts:LT}(h:Tn K F H Y vs ts):(∀t∈ts,t.isD=jb)->Tn K F H (λ_=>False) vs ts:=by
 induction h with
 |nil=>exact λ_=>.nil|@cons v t vs ts Z r z b y =>
  intro hd;refine .cons (Z:=λ_=>False) ?_ (λ_ z=>z) (y λu a=>hd u (QH _ a));have hd:=hd t QK;cases t with
  |d x=>cases r with|d q _=>exact .d q λ_ z=>z
  |_=>cases hd
end
theorem cK:∀(u y:List (oC×V)),((y++u).map (·.1)).Nodup->UG y u=y++u
 |[],y,_=>by rw[Qd];rfl|(k,v)::r,y,h=>by
  have a:UE y k=none:=by unfold UE;rw[Option.map_eq_none_iff,List.find?_eq_none];intro x b z;have z:x.1=k:=ei z;rw[Q6,Wx]at h;exact h.2.2 _ (Qm.mpr #[x,b,z]) _ (Qm.mpr #[(k,v),QK,rfl]) rfl
  show UG (vF y k v) r=_;rw[N3 v a,cK r _ (by rw[qd];exact h),qd];rfl
theorem pH{ks:LS}{xs:LV}(h:ks.length=xs.length):(OB ks xs).map (·.1)=ks.map λz=>(Sum.inr z:oC):=by unfold OB;exact List.map_fst_zip (by rw[QG,h];exact QU _)
theorem CQ:∀(ks:LS) (xs:LV),(ks.map V.str).zip xs=(OB ks xs).map λh=>(kV h.1,h.2)
 |[],_=>rfl|_::_,[]=>rfl|k::ks,x::xs=>by show(V.str k,x)::(ks.map V.str).zip xs=(V.str k,x)::(OB ks xs).map _;rw[CQ ks xs]
theorem Tn.keptD{K:QC}{F H:Hp}{Y:pA}:∀{vs:LV}{xs:List (T×Bool)},Tn K F H Y vs (UD xs)->XI xs=jb->Reps K F vs (ersT (zD xs))
 |_,[],.nil,_=>.nil|_,(t,n)::xs,.cons r _ tn,h=>by
  have h:=jA h;refine .cons ?_ (Tn.keptD tn h.2);have r:Tr K F H js _ (uA t n) _:=r;cases n with
  |true=>cases r with|d q _=>exact q
  |false =>
   cases t with
   |d x=>cases r with|d q _=>exact q
   |_=>exact(QD h.1).elim
theorem gk{ks:LS}{B:PX}(ia:PSnd K Γ Ψ B){E:XE}{EK:XK}{F H:Hp}{S:Ft}{ρ:zA}{σ:St}{Q:TK}{R:VK}{ws:LN}(I:Rl K F H S ρ σ)(X:nF K F H S ρ E EK)(h:(pe Ψ (.dsp ks B) E).e ρ Q)(k:oB K ws F H S ρ σ Q R):(wp K Γ (.dsp ks B) EK).e σ H R:=by
 intro p x;have L:Ste F H S ρ F (VA H p (.dK [])) S ρ:=Ste.refl.new x _;have I0:Rl K F (VA H p (.dK [])) S ρ σ:=I.new x _;refine VI ia I0 (X.from L.toStp) h λvs o J C a xs Y j l X1 tn _ #[#[nd,W,lx,ad],q]=>?_;have r:¬ U ρ S p:=λ#[i,t,e,z]=>(I.dom e z).1 x;have A:J p=jy (.dK []):=j.hh p _ vA r;have fp:F p=none:=I.fh.free x;have f:o p=none:=by
  by_cases z:o p=jz;exact z;rcases j.fn p fp z with q|q
  ·exact(r q).elim
  rw[vA]at q;cases q
 have M:=tn.keptD ad;have Z:ks.length=vs.length:=by rw[M.length,IM,lx,DL]
 have np:∀(i:Nat) g,a[i]?=jy (jy g)->¬ C i p:=λi g e z=>by
  cases g with
  |own t=>rcases j.uu p ⟨i,t,e,z⟩ with q|q;exact r q;rw[vA]at q;cases q
  |xx t =>
   cases hd:t.isD with|true=>exact l.isD e hd z|false=>let#[m,e2]:=j.bo i t e hd;rw[e2]at z;exact(I.dom m z).1 x
 refine#[A,OB ks vs,CQ ks vs,?_,?_];have:=e6 WH (pH Z);rw[QG,QG]at this;rw[this];exact W;rw[cK _ [] (by rw[Qt,pH Z];exact QA6.mpr (nd.imp λh z=>h (QBk z))),Qt];have s:=L.trans j;have N:∀{G:Hp}{b:j2}{u:HO},G b=jy u->G p=jz->b≠p:=λe z=>ZA e z;have s2:Ste F H S ρ (VA o p (.dK (OB ks vs))) (VA J p (.dK (OB ks vs))) C a:=#[#[λb u e=>by
   have m:=s.ff b u e;rw[yA (N m f)];exact m,λb u e n=>by
   rw[yA (N e x)];exact s.hh b u e n,λb e=>by
   by_cases z:b=p;rw[z];exact x;rw[yA z]at e;exact s.dm b e,λb e z=>by
   by_cases y:b=p;exact .inr (by rw[y];exact x);rw[yA y]at z;exact s.fn b e z,s.uu,s.bo],s.ow]
 have I2:Rl K (VA o p (.dK (OB ks vs))) (VA J p (.dK (OB ks vs))) C a σ:=#[λb u e=>by
   by_cases z:b=p;rw[z,vA]at e ⊢;exact e;rw[yA z]at e ⊢;exact l.fh b u e,l.len,λi g e=>by
   let#[w,g1,g2]:=l.sl i g e;refine#[w,g1,g2.mono (pB f) λb P=>?_];have O:b≠p:=λz=>np i g e (z▸P);exact#[yA O,by rw[yA O];exact(g2.dom b P).2],l.dj]
 exact k.d s2 I2 (.dct vA Z (M.mono (pB f))) q
theorem Yc{ks:LS}{B:PX}(ia:PSnd K Γ Ψ B){E:XE}{EK:XK}{F H:Hp}{S:Ft}{ρ:zA}{σ:St}{Q:List (T×Bool)->zA->Prop}{R:VK}(I:Rl K F H S ρ σ)(X:nF K F H S ρ E EK)(h:(pe Ψ B E).a [] ρ λxs x=>(ks.Nodup/\ks.length<=15/\ks.length=xs.length/\XI xs=jb)/\Q xs x)
  (k:∀p vs y j S1 x xs,H p=jz->y p=jz->Ste F H S ρ y (VA j p (.dK (OB ks vs))) S1 x->Rl K y (VA j p (.dK (OB ks vs))) S1 x σ->(∀(i:Nat) f,x[i]?=jy (jy f)->¬ S1 i p)->Reps K y vs (ersT (zD xs))->ks.length=vs.length->Q xs x->R (.ref p) (VA j p (.dK (OB ks vs)))):(wp K Γ (.dsp ks B) EK).e σ H R:=by
 intro p g;have C:Ste F H S ρ F (VA H p (.dK [])) S ρ:=Ste.refl.new g _;have I0:Rl K F (VA H p (.dK [])) S ρ σ:=I.new g _;refine VI ia I0 (X.from C.toStp) h λvs y j S1 x xs Y l o X1 tn _ #[#[P,W,lx,ad],q]=>?_;have r:¬ U ρ S p:=λ#[i,t,e,z]=>(I.dom e z).1 g;have A:j p=jy (.dK []):=l.hh p _ vA r;have fp:F p=none:=I.fh.free g;have m:y p=none:=by
  by_cases z:y p=jz;exact z;rcases l.fn p fp z with q|q
  ·exact(r q).elim
  rw[vA]at q;cases q
 have J:=tn.keptD ad;have Z:ks.length=vs.length:=by rw[J.length,IM,lx,DL]
 have np:∀(i:Nat) f,x[i]?=jy (jy f)->¬ S1 i p:=λi f e z=>by
  cases f with
  |own t=>rcases l.uu p ⟨i,t,e,z⟩ with q|q;exact r q;rw[vA]at q;cases q
  |xx t =>
   cases hd:t.isD with|true=>exact o.isD e hd z|false=>let#[e1,e2]:=l.bo i t e hd;rw[e2]at z;exact(I.dom e1 z).1 g
 refine#[A,OB ks vs,CQ ks vs,?_,?_];have:=e6 WH (pH Z);rw[QG,QG]at this;rw[this];exact W;rw[cK _ [] (by rw[Qt,pH Z];exact QA6.mpr (P.imp λh z=>h (QBk z))),Qt];have s:=C.trans l;have L:∀{G:Hp}{b:j2}{u:HO},G b=jy u->G p=jz->b≠p:=λe z=>ZA e z;have O:Ste F H S ρ y (VA j p (.dK (OB ks vs))) S1 x:=#[#[s.ff,λb u e n=>by
   rw[yA (L e g)];exact s.hh b u e n,λb e=>by
   by_cases z:b=p;rw[z];exact g;rw[yA z]at e;exact s.dm b e,s.fn,s.uu,s.bo],s.ow]
 have I2:Rl K y (VA j p (.dK (OB ks vs))) S1 x σ:=#[λb u e=>by
   rw[yA (L e m)];exact o.fh b u e,o.len,λi f e=>by
   let#[w,g1,N]:=o.sl i f e;refine#[w,g1,N.mono (.refl _) λb M=>?_];have nb:b≠p:=λz=>np i f e (z▸M);exact#[yA nb,(N.dom b M).2],o.dj]
 exact k p vs y j S1 x xs g m O I2 np J Z q
theorem CA(g:GOk K Γ Ψ):∀(p:PX),PSnd K Γ Ψ p
 | .vx i=>#[Jd i,λI X h k=>xU (Γ:=Γ) (Ψ:=Ψ) (Jd i) I X h k,λI X _ h k=>h.elim]|.int i=>#[λI X h k=>oB.d k .refl I (.int i) h,λI X h k=>k _ _ _ _ _ .refl I h,λI X _ h k=>h.elim]|.str x=>#[λI X h k=>oB.d k .refl I (.str x) h,λI X h k=>h.elim,λI X _ h k=>h.elim]|.bl b=>#[λI X h k=>oB.d k .refl I (.bl b) h,λI X h k=>k _ _ _ _ _ .refl I h,λI X _ h k=>h.elim]|.non=>#[λI X h k=>oB.d k .refl I .non h,λI X h k=>k _ _ _ _ _ .refl I h,λI X _ h k=>h.elim]|.glo x=>.of_e (λ_ _ _=>rfl) (λ_ _ _ _=>rfl) (λ_=>rfl) λ{E M F H S J G Q R} I X h k=>by have h:(match Ψ.va x with|some d=>Q (.d d) js J|none=>False):=h;split at h;rename_i d e;exact oB.d k .refl I (g.va x d e F) h;exact h.elim
 | .bty _ _=>.bad λ_=>rfl|.bin op a b=>.of_e (λ_ _ _=>rfl) (λ_ _ _ _=>rfl) (λ_=>rfl) λ{E M F H S J G Q R} I X h k =>
  uW (P:=λx n y m N=>binT op (uA x n).vw (uA y m).vw λz k=>Q z k N) (RR:=λx y H2=>Gc K op x y H2 R) (CA g a) (CA g b) I X h λv w F' O S' A x n y m Za Zb s C X' ra _ rb q=>Bk s C ra rb q k
 | .cmp op a b=>.of_t (λ_ _ _=>rfl) (λ_ _ _ _=>rfl) (λ_=>rfl) λ{E M F H S J G Q R} I X h k =>
  uW (P:=λx n y m N=>FS op x.er y.er λk=>Q k N) (RR:=λx y H2=>YH K op x y H2 R) (CA g a) (CA g b) I X h λv w F' O S' A x n y m Za Zb s C X' ra _ rb q =>
   BV (by have:=ra.rep C.fh;rwa [rJ]at this) (by have:=rb.rep C.fh;rwa [rJ]at this) q λc qc=>k c F' O S' A s C qc
 | .chn o p a b c=>.of_t (λ_ _ _=>rfl) (λ_ _ _ _=>rfl) (λ_=>rfl) λ{E M F H S J G Q R} I X h k =>
  uW (P:=λx n y m N=>FS o x.er y.er λk=>if k=jb then sq (uA y m) N (cu (pe Ψ c E).e) λz ρ3=>FS p y.er z.1.er λk=>Q k ρ3 else Q js N)
   (RR:=λx y H2=>YH K o x y H2 λz H3=>rR z H3 λk H4=>if k=jb then(wp K Γ c M).e G H4 λw' H5=>YH K p y w' H5 R else R (.bl js) H4) (CA g a) (CA g b) I X h
   λv w F' O S' A x n y m Za Zb s C X' ra _ rb q=>by
    refine BV (R:=λz H3=>rR z H3 λk H4=>if k=jb then(wp K Γ c M).e G H4 λw' H5=>YH K p w w' H5 R else R (.bl js) H4) (by have:=ra.rep C.fh;rwa [rJ]at this) (by have:=rb.rep C.fh;rwa [rJ]at this) q λkb qc=>?_;cases kb with|false=>exact k js F' O S' A s C qc|true=>rw[ef rfl]at qc;refine Xh (RR:=λw' H5=>YH K p w w' H5 R) (CA g c) C X' qc λw2 F2 H2 S2 N z l Z s2 I2 kp _ r2 q2=>?_;have rb2:=(kp _ _ _ rb).rep I2.fh;rw[rJ]at rb2;exact BV rb2 (r2.tr.rep I2.fh) q2 λcb qb=>k cb F2 H2 S2 N (s.trans s2) I2 qb
 | .and a b=>#[λ{E M F H S J G Q R} I X h k=>by
   refine(CA g a).e (Q:=λx _ B=>Tk x.er λc=>if c=jb then(pe Ψ b E).e B Q else Q (.d (.bool js)) js B) (R:=λx L=>rR x L λc H2=>if c=jb then(wp K Γ b M).e G H2 R else R (.bl js) H2) I X h λv F' O S' A x n Z s C r q=>?_;refine r8 (r.tr.rep C.fh) q λc qc=>?_;cases c with|false=>exact oB.d k s C (.bl js) qc|true=>exact(CA g b).e C (X.from s.toStp) qc ((k.from s).vars λi hi=>Qc _ hi),
  λ{E M F H S J G Q R} I X h k=>by
   refine(CA g a).t (Q:=λc B=>if c=jb then(pe Ψ b E).t B Q else Q js B) (R:=λc L=>if c=jb then(wp K Γ b M).t G L R else R js L) I X h λc F' O S' A s C qc=>?_;cases c with|false=>exact k _ F' O S' A s C qc|true=>exact(CA g b).t C (X.from s.toStp) qc (NH.from k s),λI X _ h k=>h.elim]
 | .or a b=>#[λ{E M F H S J G Q R} I X h k=>by
   refine(CA g a).e (Q:=λx _ B=>Tk x.er λc=>if c=jb then Q (.d (.bool jb)) js B else(pe Ψ b E).e B Q) (R:=λx L=>rR x L λc H2=>if c=jb then R (.bl jb) H2 else(wp K Γ b M).e G H2 R) I X h λv F' O S' A x n Z s C r q=>?_;refine r8 (r.tr.rep C.fh) q λc qc=>?_;cases c with|true=>exact oB.d k s C (.bl jb) qc|false=>exact(CA g b).e C (X.from s.toStp) qc ((k.from s).vars λi hi=>Qc _ hi),
  λ{E M F H S J G Q R} I X h k=>by
   refine(CA g a).t (Q:=λc B=>if c=jb then Q jb B else(pe Ψ b E).t B Q) (R:=λc L=>if c=jb then R jb L else(wp K Γ b M).t G L R) I X h λc F' O S' A s C qc=>?_;cases c with|true=>exact k _ F' O S' A s C qc|false=>exact(CA g b).t C (X.from s.toStp) qc (NH.from k s),λI X _ h k=>h.elim]
 | .not a=>#[λ{E M F H S J G Q R} I X h k=>by
   refine(CA g a).e (Q:=λx _ B=>PH x.er λc=>Q (.d (.bool (!c))) js B) (R:=λx L=>UF K x L λc H2=>R (.bl (!c)) H2) I X h λv F' O S' A x n Z s C r q=>?_;exact fW (r.tr.rep C.fh) q λc qc=>oB.d k s C (.bl _) qc,
  λ{E M F H S J G Q R} I X h k=>(CA g a).t (Q:=λc B=>Q (!c) B) (R:=λc L=>R (!c) L) I X h λc F' O S' A s C qc=>k _ F' O S' A s C qc,λI X _ h k=>h.elim]
 | .ife c a b=>.of_0 (λ_=>rfl) (λ_=>rfl) λ{E M F H S J G Q R} I X h k=>by
  refine(CA g c).t (Q:=λk B=>if k=jb then(pe Ψ a E).e B Q else(pe Ψ b E).e B Q) (R:=λk L=>if k=jb then(wp K Γ a M).e G L R else(wp K Γ b M).e G L R) I X h λc F' O S' A s C qc=>?_;cases c with|true=>exact(CA g a).e C (X.from s.toStp) qc ((k.from s).vars λi hi=>qQ _ hi)|false=>exact(CA g b).e C (X.from s.toStp) qc ((k.from s).vars λi hi=>Qc _ hi)
 | .call f as=>.of_e (λ_ _ _=>rfl) (λ_ _ _ _=>rfl) (λ_=>rfl) λ{E M F H S J G Q R} I X h k=>Zc g (CA g as) I X h k|.isi a c=>by
  have key:∀{E:XE}{M:XK}{F H:Hp}{S:Ft}{J:zA}{G:St}{Q:Bool->zA->Prop}{R:VK},Rl K F H S J G->nF K F H S J E M->(pe Ψ (.isi a c) E).t J Q->NH K F H S J G Q (λb=>R (.bl b))->(wp K Γ (.isi a c) M).e G H R:=by intro E M F H S J G Q R I X h k;refine(CA g a).e (Q:=λx _ B=>Ib c x.er λb=>Q b B) I X h λv F' O S' A x n Z s C r q=>?_;let#[z,n,rfl]:=Eb q;let#[b,h1,h2,q]:=q;exact Rj (r.tr.rep C.fh) h1 h2 (k b F' O S' A s C q)
  refine#[λI X h k=>key I X h λb F' O S' A s C q=>oB.d k s C (.bl b) q,λ{E M F H S J G Q R} I X h k=>?_,λI X _ h k=>h.elim];exact key (R:=λv L=>UF K v L R) I X h λb F' O S' A s C q=>k b F' O S' A s C q
 | .bi f as=>.of_e (λ_ _ _=>rfl) (λ_ _ _ _=>rfl) (λ_=>rfl) λ{E M F H S J G Q R} I X h k =>
  VI (P:=λxs B=>fP f (XB xs) λz k=>Q z k B) (RR:=λvs L=>xq K f vs L R) (CA g as) I X h λvs F' O S' A xs Y s C X' tn _ q=>by rw[NJ _ rfl]at q;exact Rk s C tn q k
 | .prm o as=>.of_e (λ_ _ _=>rfl) (λ_ _ _ _=>rfl) (λ_=>rfl) λ{E M F H S J G Q R} I X h k =>
  VI (P:=λxs B=>PP Ψ o (UD xs) λz k=>Q z k B) (RR:=λvs L=>eY K Γ o vs L R) (CA g as) I X h λvs F' O S' A xs Y s C X' tn _ q=>A9 g s C tn q k
 | .mt m o as=>.of_e (λ_ _ _=>rfl) (λ_ _ _ _=>rfl) (λ_=>rfl) (Ss (CA g o) (CA g as))|.idx a b=>by
  have he:NZ K Γ Ψ (.idx a b):=λ{E M F H S J G Q R} I X h k =>
   uW (P:=λx n y m N=>TN (uA x n).vw (uA y m).vw λz=>Q z js N) (RR:=λx y H2=>C3 K x y H2 R) (CA g a) (CA g b) I X h λv w F' O S' A x n y m Za Zb s C X' ra za rb q=>Tj s C ra za rb q k
  exact#[he,λI X h k=>xU he I X h k,λI X _ h k=>h.elim]
 | .slc a lo hi=>.of_0 (λ_=>rfl) (λ_=>rfl) λ{E M F H S J G Q R} I X h k=>by
  have part:∀(p:PX),PSnd K Γ Ψ p->∀{F H:Hp}{S:Ft}{J:zA}{x:T}{P:Option Int->zA->Prop}{RP:Option Int->Hp->Prop},Rl K F H S J G->nF K F H S J E M ->
    sq (α:=Option Int) x J (if isNop p=jb then λJ (R:Option Int->zA->Prop)=>R jz J else λJ R=>(pe Ψ p E).e J λl _ N=>yD l.er λo=>R o N) P ->
    (∀o F' O S' A,Ste F H S J F' O S' A->Rl K F' O S' A G->(∀st v Zx,Tr K F H st v x Zx->Tr K F' O st v x Zx)->P o A->RP o O) ->
    (if isNop p=jb then λ(R:Option Int->Hp->Prop)=>R jz H else λR=>(wp K Γ p M).e G H λl H2=>gM l H2 R) RP:=by
   intro p ip F H S J x P RP I X h k;cases hn:isNop p with
   |true=>simp only[hn,if_true]at h ⊢;refine k jz F H S J .refl I (λ_ _ _ r=>r) ?_;unfold sq at h;split at h<;>exact h|false =>
    simp only[hn,Qp,if_false]at h ⊢;have h2:sq x J (cu (pe Ψ p E).e) λy A=>yD y.1.er λo=>P o A:=by unfold sq at h ⊢;exact h
    refine Xh ip I X h2 λw F' O S' A y m Z s C kp _ r q=>Fa (r.tr.rep C.fh) q λo qo=>k o F' O S' A s C kp qo
  refine FH (CA g a) I X h λv F1 L S1 B x n Za s1 I1 X1 r1 _ z1 h1=>?_;refine part lo (CA g lo) I1 X1 h1 λl F2 H2 S2 N s2 I2 k2 h2=>?_;refine part hi (CA g hi) I2 (X1.from s2.toStp) h2 λu F3 H3 S3 ρ3 s3 I3 k3 h3=>?_;exact Dh (s1.trans (s2.trans s3)) I3 (k3 _ _ _ (k2 _ _ _ r1)) h3 k
 | .nop=>.bad λ_=>rfl|.dsp ks as=>.of_0 (λ_=>rfl) (λ_=>rfl) λ{E M F H S J G Q R} I X h k=>gk (CA g as) I X h k|.lst as=>.of_0 (λ_=>rfl) (λ_=>rfl) λ{E M F H S J G Q R} I X h k=>by refine(CA g as).a (md:=[]) (R:=λxs L=>xs.length<=j1/\∀p,L p=jz->R (.ref p) (VA L p (.lst xs))) I X (λ_ hj=>XG hj) h λvs F' O S' A xs W Y s C r _ q=>?_;exact#[by rw[r.av.length];exact q.2.1,λp hp=>oB.list k s C hp (r.av.trs fj q.1) r.fr r.held q.2.2]|.tup as=>.of_0 (λ_=>rfl) (λ_=>rfl) λ{E M F H S J G Q R} I X h k=>by refine(CA g as).a (md:=[]) (R:=λxs L=>xs.length<=j1/\∀p,L p=jz->R (.ref p) (VA L p (.tup xs))) I X (λ_ hj=>XG hj) h λvs F' O S' A xs W Y s C r _ q=>?_;exact#[by rw[r.av.length];exact q.2.1,λp hp=>oB.tup k s C hp (r.av.trs fj q.1) r.fr r.held q.2.2]|.comp mask tgs tg ik its cond elt=>.of_0 (λ_=>rfl) (λ_=>rfl) λ{E M F H S J G Q R} I X h k=>by
  refine VI (RR:=λvs L=>JB K ik vs L λxs st H2=>iP K xs st tg (if isNop cond=jb then λ_ H Q=>Q jb H else(wp K Γ cond (λ_ _ _=>False)).t) (wp K Γ elt (λ_ _ _=>False)).e (IF tgs.length mask G) H2 R) (CA g its) I X h λvs F1 L S1 B xs Y s1 I1 X1 tn tm q1=>?_;rw[NJ _ rfl]at q1;refine rH I1.fh tn q1 λxs ys st pr hst hc=>?_;refine O7 (us:=CI elt) ?_ ?_ s1 I1 pr (λb hb=>?_) hst hc k;intro F H S J G Q R I h k;cases hn:isNop cond with|true=>simp only[hn,if_true]at h ⊢;exact k jb F H S J .refl I h|false=>simp only[hn,Qp,if_false]at h ⊢;exact(CA g cond).t I nF.never h k
  intro F H S J G Q R I h k;exact(CA g elt).e I nF.never h k;let#[i,sl,_,h2,h3]:=tm b hb;exact I1.dom h2 h3
 | .eff p=>by
  cases p with
  |comp mask tgs tg ik its cond elt=>refine .of_0 (λ_=>rfl) (λ_=>rfl) λ{E M F H S J G Q R} I X h k=>?_;let#[#[hc,hm,ht],h]:=h;refine VI (RR:=λvs L=>JB K ik vs L λxs st H2=>iP K xs st tg (if isNop cond=jb then λ_ H Q=>Q jb H else(wp K Γ cond (λ_ _ _=>False)).t) (wp K Γ elt (λ_ _ _=>False)).e (IF tgs.length mask G) H2 R) (CA g its) I X h λvs F1 L S1 B xs Y s1 I1 X1 tn tm q1=>?_;let#[ha,q1]:=q1;rw[NJ _ rfl]at q1;have tn':=tn.bare (dR ha);refine rH I1.fh tn' q1 λxs ys st pr hst hc'=>?_;rw[ef hc];refine P7 (us:=CI elt) (λj hj=>by simpa using Qo.mp ht j hj) (λb hb=>by simpa using Qo.mp hm b hb) ?_ s1 I1 pr (λF' O e1 e2=>hst F' O e1 e2 λb z=>z.elim) hc' k;intro F H S J G Q R I h k;exact(CA g elt).e I nF.never h k|slc a lo hi =>
   cases lo with
   |nop =>
    cases hi with
    |int i =>
     refine .of_0 (λ_=>rfl) (λ_=>rfl) λ{E M F H S J G Q R} I X h k=>?_;show(wp K Γ a M).e G H λx L=>ur K x jz (jy i) L R;refine FH (CA g a) I X h λv F1 L S1 B x n Zx s1 I1 X1 _ er1 _ #[he,ds,ed,q]=>?_;have rx:=er1 he;rw[ed]at rx;let#[_,_,rfl,hp,rp]:=rx.inv;rename_i b vs _;have hl:=rp.length;by_cases w:HT.sIx vs.length 0 jz=0/\HT.sIx vs.length vs.length (jy i)=vs.length;refine .inr (.inr #[b,vs,rfl,I1.fh.tupl hp,w,?_]);have ec:ND ds jz (jy i)=ds:=by unfold ND;rw[hl]at w;rw[w.1,w.2,List.drop_zero,Nat.sub_zero,List.take_length]
     rw[ec]at q;exact oB.d k s1 I1 (.tup hp rp) q;exact .inr (.inl #[b,vs,rfl,I1.fh.tupl hp,w,λl hl=>k.tupD s1 I1 hl (rp.cut _ _) q])
    |_=>exact .bad λ_=>rfl
   |_=>exact .bad λ_=>rfl
  |_=>exact .bad λ_=>rfl
 | .kz=>#[λI X h k=>h.elim,λI X h k=>h.elim,λ{E M F H S J G md Q R} I X _ h k=>k [] F H S J [] (λ_=>False) (λ_=>False) .refl I #[.nil λ_ z=>z,λ_ z=>z.elim,λ_ z=>z.elim,λ_ _ _ _ z=>z.elim] (by cases md with|nil=>rfl|cons m r=>cases m<;>rfl) h]
 | .nz a as=>#[λI X h k=>h.elim,λI X h k=>h.elim,λ{E M F H S J G md Q R} I X hm h k=>by
  show(wp K Γ a M).e G H λx L=>(wp K Γ as M).a G L λxs H2=>R (x::xs) H2;have vr2:∀i∈CI as,i∈CI (.nz a as):=λi hi=>Qc _ hi;cases hmd:(md.headD .xy).isMut with
  |true =>
   have h2:R6 a=jb/\(pe Ψ as E).a md.tail J λxs B=>Q ((.d .none,jb)::xs) B:=by have h3:(if(md.headD .xy).isMut=jb then _ else _):=h;rw[hmd,ef rfl]at h3;exact h3
   obtain⟨m,md',rfl⟩:∃m md',md=m::md':=by
    cases md with|nil=>cases hmd|cons m md'=>exact#[m,md',rfl]
   have em:m=.chg:=by have hmd:m.isMut=true:=hmd;cases m<;>first|rfl|cases hmd
   subst em;let#[j,rfl]:=b9 h2.1;let#[v,hv]:=hm j (show j∈j::xA md' as from QK);show(match G[j]? with|some (jy v)=>_|_=>False);rw[hv];refine(CA g as).a I X (λi hi=>hm i (QH _ hi)) h2.2 λvs F' O S' A xs W Y s C r mv q=>?_;refine k (v::vs) F' O S' A _ W Y s C #[.chg hmd r.av,r.fr,(r.vars vr2).tm,r.nw] ?_ q;show(jy (jy v))::(AA md' vs).map _=G[j]?::(xA md' as).map _;have mv:(AA md' vs).map (λv=>jy (jy v))=(xA md' as).map (λj=>G[j]?):=mv;rw[hv,mv]
  |false =>
   have h2:(pe Ψ a E).e J λx n B=>sq (α:=List (T×Bool)) (if n=jb then .d .none else x) B ((pe Ψ as E).a md.tail) λxs N=>Q ((x,n)::xs) N:=by have h3:(if(md.headD .xy).isMut=jb then _ else _):=h;rw[hmd,eH (by simp)]at h3;exact h3
   have hroots:xA md (.nz a as)=xA md.tail as:=by
    cases md with|nil=>exact fO.symm▸rfl|cons m md'=>have hmd:m.isMut=false:=hmd;cases m<;>first|rfl|cases hmd
   have hmv:∀v vs,AA md (v::vs)=AA md.tail vs:=λv vs=>by unfold AA;generalize md.headD .xy=m at hmd;cases m<;>first | (cases vs<;>rfl)|cases hmd
   refine(CA g a).e I X h2 λv F1 L S1 B x n Z s1 I1 r1 q1=>?_;refine Dm (CA g as) I1 (X.from s1.toStp) (λi hi=>hm i (by rw[hroots];exact hi)) q1 λvs F2 H2 S2 N xs W Y s2 I2 kp hs r2 mv q2=>?_;have s12:=s1.trans s2;have r2':=(r2.from s1.toStp).vars vr2;have mv':(AA md (v::vs)).map (λv=>jy (jy v))=(xA md (.nz a as)).map (λj=>G[j]?):=by rw[hroots,hmv];exact mv
   cases n with
   |true =>
    have hd:=r1.held;have hd2:=hd.step s2.toStp I2;refine k (v::vs) F2 H2 S2 N _ (λb=>Z b∨W b) Y s12 I2 #[.new hmd (s2.toStp.keep r1.tr hd.nu) r2.av (λb hb hw=>?_) λb=>Wy,λb hb=>?_,r2'.tm,λi sl e b hb=>?_] mv' q2;rcases r2.fr b hw with q|q
    ·exact(hd.dom b hb).1 q
    exact hd.nu b hb q;rcases hb with hb|hb
    ·exact r1.fr rfl b hb
    exact r2'.fr b hb;rcases hb with hb|hb
    ·exact hd2.nw i sl e b hb
    exact r2.nw i sl e b hb
   |false =>
    have za:∀b,Z b->∃(i:Nat) (s:Sl),i∈CI a/\N[i]?=jy (jy s)/\S2 i b:=by
     cases hd:x.isD with
     |true =>
      intro b hb;exfalso;have tr:=r1.tr;cases x with
      |d x=>cases tr with|d r n=>exact n b hb
      |_=>cases hd
     |false=>let#[e1,e2]:=hs hd;rw[e1,e2];exact r1.tm rfl
    refine k (v::vs) F2 H2 S2 N _ W (λb=>Z b∨Y b) s12 I2 #[.tmp hmd (kp _ _ _ r1.tr) (λb hb=>.inl hb) (r2.av.sub λb hb=>.inr hb),r2'.fr,λb hb=>?_,r2.nw] mv' q2;rcases hb with hb|hb;let#[i,sl,h1,h2]:=za b hb;exact#[i,sl,qQ _ h1,h2];exact r2'.tm b hb]
end
structure Sts(C J:LN)(F H:Hp)(S:Ft)(ρ:zA)(σ:St)(F' H':Hp)(S':Ft)(ρ':zA)(σ':St):Prop where
 ff:Same F F'
 hh:∀b u,H b=jy u->¬ U ρ S b->H' b=jy u
 dm:∀b,H' b=jz->H b=jz
 fn:∀b,F b=jz->F' b≠jz->U ρ S b∨H b=jz
 uu:∀b,U ρ' S' b->U ρ S b∨H b=jz
 bo:∀(j:Nat) t,j∉J->ρ'[j]?=jy (jy (.xx t))->t.isD=js->ρ[j]?=jy (jy (.xx t))/\S' j=S j/\σ'[j]?=σ[j]?
 sg:∀j∈C,σ'[j]?=σ[j]?
structure Stc(C:LN)(F H:Hp)(S:Ft)(ρ:zA)(σ:St)(F' H':Hp)(S':Ft)(ρ':zA)(σ':St):Prop where
 ff:Same F F'
 hh:∀b u,H b=jy u->¬ U ρ S b->H' b=jy u
 dm:∀b,H' b=jz->H b=jz
 fn:∀b,F b=jz->F' b≠jz->U ρ S b∨H b=jz
 uu:∀b,U ρ' S' b->U ρ S b∨H b=jz
 sg:∀j∈C,σ'[j]?=σ[j]?
section
variable{K:QC}{Γ:Ev}{Ψ:PEv}{E:XE}{EK:XK}{F H m p A G:Hp}{S S1 B:Ft}{ρ y X:zA}{σ g Y:St}{C J:LN}
theorem Stp.sts(s:Stp F H S ρ m p S1 y):Sts C J F H S ρ σ m p S1 y σ:=#[s.ff,s.hh,s.dm,s.fn,s.uu,λj t _ e h=>let#[z,x]:=s.bo j t e h;#[z,x,rfl],λ_ _=>rfl]
theorem Sts.refl:Sts C J F H S ρ σ F H S ρ σ:=Stp.refl.sts
theorem Sts.trans(a:Sts C J F H S ρ σ m p S1 y g)(b:Sts C [] m p S1 y g A G B X Y):Sts C J F H S ρ σ A G B X Y where
 ff:=a.ff.trans b.ff
 hh:=λx u h n=>b.hh x u (a.hh x u h n) λz=>by rcases a.uu x z with q|q;exact n q;rw[q]at h;cases h
 dm:=λx h=>a.dm x (b.dm x h)
 fn:=λx h z=>by
  by_cases q:m x=jz;rcases b.fn x q z with w|w
  ·exact a.uu x w
  exact .inr (a.dm x w);exact a.fn x h q
 uu:=λx h=>by rcases b.uu x h with w|w;exact a.uu x w;exact .inr (a.dm x w)
 bo:=λj t e h n=>by let#[s,r,o]:=b.bo j t (by simp) h n;let#[l,i,f]:=a.bo j t e s n;exact#[l,r.trans i,o.trans f]
 sg:=λj e=>(b.sg j e).trans (a.sg j e)
theorem Sts.c(s:Sts C J F H S ρ σ m p S1 y g):Stc C F H S ρ σ m p S1 y g:=#[s.ff,s.hh,s.dm,s.fn,s.uu,s.sg]
theorem Stc.trans(a:Stc C F H S ρ σ m p S1 y g)(b:Stc C m p S1 y g A G B X Y):Stc C F H S ρ σ A G B X Y where
 ff:=a.ff.trans b.ff
 hh:=λx u h n=>b.hh x u (a.hh x u h n) λz=>by rcases a.uu x z with q|q;exact n q;rw[q]at h;cases h
 dm:=λx h=>a.dm x (b.dm x h)
 fn:=λx h z=>by
  by_cases q:m x=jz;rcases b.fn x q z with w|w
  ·exact a.uu x w
  exact .inr (a.dm x w);exact a.fn x h q
 uu:=λx h=>by rcases b.uu x h with w|w;exact a.uu x w;exact .inr (a.dm x w)
 sg:=λj e=>(b.sg j e).trans (a.sg j e)
theorem nF.fromS(h:nF K F H S ρ E EK)(s:Sts C J F H S ρ σ m p S1 y g):nF K m p S1 y E EK:=λx l A G B X a f r q =>
 h x l A G (λ_ _=>False) [] #[s.ff.trans a.ff,λb u e n=>a.hh b u (s.hh b u e n) (λz=>(s.uu b z).elim n λw=>(by rw[w]at e;cases e)),λb e=>s.dm b (a.dm b e),λb e z=>by
  by_cases q:m b=jz;rcases a.fn b q z with w|w
  ·exact s.uu b w
  exact .inr (s.dm b w);exact s.fn b e q,λb #[i,t,e,_]=>by simp at e,λj t e=>by simp at e] f r q
structure EndsOk(K:QC)(C:LN)(F H:Hp)(S:Ft)(ρ:zA)(σ:St)(Z:PEnds)(Dn:Ends):Prop where
 nx:∀F' H' S' ρ' σ',Sts C [] F H S ρ σ F' H' S' ρ' σ'->Rl K F' H' S' ρ' σ'->Z.nx ρ'->Dn.nx σ' H'
 rt:∀v t W F' H' S' ρ' σ',Stc C F H S ρ σ F' H' S' ρ' σ'->Rl K F' H' S' ρ' σ'->Tr K F' H' jb v t W->Held F' H' S' ρ' W->(∀b,W b->H b=jz∨U ρ S b)->Z.rt t ρ'->Dn.rt v H'
 bk:∀F' H' S' ρ' σ',Sts C [] F H S ρ σ F' H' S' ρ' σ'->Rl K F' H' S' ρ' σ'->Z.bk ρ'->Dn.bk σ' H'
 ct:∀F' H' S' ρ' σ',Sts C [] F H S ρ σ F' H' S' ρ' σ'->Rl K F' H' S' ρ' σ'->Z.ct ρ'->Dn.ct σ' H'
theorem Lu(s:Sts C J F H S ρ σ m p S1 y g){W:pA}(fr:∀b,W b->p b=jz∨U y S1 b):∀b,W b->H b=jz∨U ρ S b:=λb h=>by rcases fr b h with q|q;exact .inl (s.dm b q);exact(s.uu b q).symm
theorem EndsOk.from{Z:PEnds}{f:Ends}(ok:EndsOk K C F H S ρ σ Z f)(s:Sts C [] F H S ρ σ m p S1 y g):EndsOk K C m p S1 y g Z f :=
 #[λe b a z x u I q=>ok.nx e b a z x (s.trans u) I q,λv t W e b a z x u I r h fr q=>ok.rt v t W e b a z x (s.c.trans u) I r h (Lu s fr) q,
  λe b a z x u I q=>ok.bk e b a z x (s.trans u) I q,λe b a z x u I q=>ok.ct e b a z x (s.trans u) I q]
theorem Sts.setD(s:Sts C J F H S ρ σ m p S1 y g)(i:Nat)(f:i∉C)(v:V){t:T}(a:t.isD=jb)(Z:pA):Sts C J F H S ρ σ m p (iH S1 i Z) (y.set i (jy (.xx t))) (g.set i (jy v)) :=
 #[s.ff,s.hh,s.dm,s.fn,λb #[j,u,x,z]=>by
  rcases cA x with⟨_,e,_⟩| ⟨n,x⟩
  cases e;rw[UA (Qw n)]at z;exact s.uu b #[j,u,x,z],
 λj u h e hd=>by
  rcases cA e with⟨_,e,_⟩| ⟨n,e⟩
  injection e with e;injection e with e;subst e;rw[a]at hd;cases hd;rw[UA (Qw n),zF n];exact s.bo j u h e hd,
 λj h=>by have n:i≠j:=λe=>f (e▸h);rw[zF n];exact s.sg j h]
theorem Rl.setD(I:Rl K F H S ρ σ)(i:Nat){v:V}{x:D}(r:Rep K F v x):Rl K F H (iH S i λ_=>False) (ρ.set i (bD x)) (σ.set i (jy v)) :=
 I.setB i (.d r λ_ z=>z) λ_ _ _ _ _ z=>z.elim
theorem Rl.setN(I:Rl K F H S ρ σ)(i:Nat){v:V}{t:T}{Z:pA}(r:Tr K F H jb v t Z)(f:∀(j:Nat) s,j≠i->ρ[j]?=jy (jy s)->∀b,Z b->¬ S j b):Rl K F H (iH S i Z) (ρ.set i (jy (.own t))) (σ.set i (jy v)) where
 fh:=I.fh
 len:=by simpa using I.len
 sl:=λj s h=>by
  rcases cA h with⟨rfl,e,hl⟩| ⟨l,h⟩
  cases e;exact#[v,eW (by rw[<- I.len];exact hl),by rw[kB];exact r];rw[zF l,UA (Qw l)];exact I.sl j s h
 dj:=λj k o s n a x b z hk=>by
  rcases cA a with⟨e,_,_⟩| ⟨q,a⟩
  subst e;rw[kB]at z;rcases cA x with⟨e,_,_⟩| ⟨u,x⟩
  exact n e;rw[UA (Qw u)]at hk;exact f k s (Qw u) x b z hk;rw[UA (Qw q)]at z;rcases cA x with⟨e,_,_⟩| ⟨u,x⟩
  subst e;rw[kB]at hk;exact f j _ n a b hk z;rw[UA (Qw u)]at hk;exact I.dj j k o s n a x b z hk
theorem Sts.setN(s:Sts C J F H S ρ σ m p S1 y g)(i:Nat)(a:i∉C)(v:V)(t:T){Z:pA}(fr:∀b,Z b->H b=jz∨U ρ S b):Sts C J F H S ρ σ m p (iH S1 i Z) (y.set i (jy (.own t))) (g.set i (jy v)) :=
 #[s.ff,s.hh,s.dm,s.fn,λb #[j,u,z,x]=>by
  rcases cA z with⟨rfl,_,_⟩| ⟨n,z⟩
  rw[kB]at x;exact(fr b x).symm;rw[UA (Qw n)]at x;exact s.uu b #[j,u,z,x],
 λj u h e hd=>by
  rcases cA e with⟨_,e,_⟩| ⟨n,e⟩
  cases e;rw[UA (Qw n),zF n];exact s.bo j u h e hd,
 λj h=>by have n:i≠j:=λe=>a (e▸h);rw[zF n];exact s.sg j h]
theorem VR.strict{ws:LN}{v:V}{t:T}{n:Bool}{Z:pA}(r:VR K ws H S ρ m p S1 y v t n Z)(e:MG t n=jb):∃W,Tr K m p jb v t W/\Held m p S1 y W/\∀b,W b->H b=jz∨U ρ S b:=by
 cases n with
 |true=>exact#[Z,r.tr,r.held,r.fr rfl]|false =>
  have h:=r.tr;cases t with
  |d x=>cases h with|d q _=>exact#[λ_=>False,.d q λ_ z=>z,.none,λ_ z=>z.elim]
  |_=>cases e
theorem Rl.frz1(I:Rl K F H S ρ σ){i:Nat}{t:T}(x:ρ[i]?=jy (jy (.own t))):Rl K (gF F H (S i)) H (iH S i λ_=>False) (ρ.set i (bD t.er)) σ/\Sts C [] F H S ρ σ (gF F H (S i)) H (iH S i λ_=>False) (ρ.set i (bD t.er)) σ:=by
 let#[v,hv,r]:=I.sl i _ x;have l:=uE (H:=H) λb (h:S i b)=>(r.dom b h).2;have O:Rl K F H S (ρ.set i jz) σ:=I.drop (by simp) λj s e=>by
  rcases cA e with⟨_,z,_⟩| ⟨_,e⟩
  cases z;exact e
 have W:Held F H S (ρ.set i jz) (S i):=#[r.dom,λj s e b h z=>by
  rcases cA e with⟨_,q,_⟩| ⟨n,e⟩
  cases q;exact I.dj i j t s n x e b h z]
 have N:=O.frz W;have Z:Rep K (gF F H (S i)) v t.er:=Tr.kept l r λb u h e=>by rw[rD h];exact e
 have o:=N.setD i Z;have M:(ρ.set i jz).set i (bD t.er)=ρ.set i (bD t.er):=by simp
 have L:σ.set i (jy v)=σ:=by apply qy;intro j;rw[wW];split;rename_i e;subst e;split;exact hv.symm;rename_i n;rw[wj ()];rfl
 rw[M,L]at o;refine#[o,#[l,λb u e _=>e,λb e=>e,λb e z=>.inl ?_,λb #[j,u,a,f]=>.inl ?_,λj u _ e hd=>?_,λ_ _=>rfl]];by_cases h:S i b
 ·exact#[i,t,x,h]
 rw[aB h]at z;exact eN e z;rcases cA a with⟨_,q,_⟩| ⟨n,a⟩
 ·cases q
 rw[UA (Qw n)]at f;exact#[j,u,a,f];rcases cA e with⟨_,q,_⟩| ⟨n,e⟩
 ·injection q with q;injection q with q;subst q;cases hd
 exact#[e,UA (Qw n),rfl]
theorem TY{f:Option Sl->Option Sl}{i:Nat}:ρ.modify i f=match ρ[i]? with|some o=>ρ.set i (f o)|none=>ρ:=by
 apply qy;intro j;rw[QAI];cases h:ρ[i]? with|none=>simp only;by_cases e:i=j;subst e;simp[h];simp[e]|some o=>simp only;rw[wW];by_cases e:i=j;subst e;let#[hl,rfl]:=Qa.mp h;simp[hl];simp[e]
theorem JR{α:Type}{l:List α}{i:Nat}{o:α}(h:l[i]?=jy o):l.set i o=l:=by apply qy;intro j;rw[wW];split;rename_i e;subst e;rw[ef (Qa.mp h).1,h];rfl
theorem Rl.frzAt:∀(x:LN) {F:Hp}{S:Ft}{ρ:zA},Rl K F H S ρ σ->∃F' S',Rl K F' H S' (frzAt x ρ) σ/\Sts C [] F H S ρ σ F' H S' (frzAt x ρ) σ
 |[],F,S,ρ,I=>#[F,S,I,.refl]|i::x,F,S,ρ,I=>by
  have one:∃m S1,Rl K m H S1 (ρ.modify i pV) σ/\Sts C [] F H S ρ σ m H S1 (ρ.modify i pV) σ:=by
   rw[TY];cases h:ρ[i]? with
   |none=>exact#[F,S,I,.refl]|some o =>
    cases o with
    |none=>have e:ρ.set i (pV jz)=ρ:=JR h;simp only[e];exact#[F,S,I,.refl]|some z =>
     cases z with|xx t=>have e:ρ.set i (pV (jy (.xx t)))=ρ:=JR h;simp only[e];exact#[F,S,I,.refl]|own t=>exact#[_,_,I.frz1 h]
  let#[m,S1,f,a]:=one;let#[A,B,b,u]:=Rl.frzAt x f;exact#[A,B,b,a.trans u]
end
noncomputable def bK(C:LN):PT->Bool
 | .seq s r=>bK C s&&bK C r|.dpx i _ _ _ _ r=>!C.contains i&&bK C r|.set i _=>!C.contains i|.own i _=>!C.contains i|.ife _ a b=>bK C a&&bK C b|.for_ x _ _ h=>x.ix.all (λi=>!C.contains i)&&bK C h|.nil=>jb|.expr _=>jb|.setL i j _=>!C.contains i&&!C.contains j|.ret _=>jb|.rse _ _ _=>jb|.tryC i _ _ _ j k=>(match i with|none=>jb|some i=>!C.contains i)&&(!C.contains j&&!C.contains k)
 | .frz _ s=>bK C s|.six _ _ _=>jb|.pap _ _ _=>jb
section
variable{K:QC}{Γ:Ev}{F H:Hp}{S:Ft}{ρ:zA}{σ:St}{C:LN}
theorem tQ{i j:Nat}{s:Sl}(h:(ρ.set i jz)[j]?=jy (jy s)):j≠i/\ρ[j]?=jy (jy s):=by
 rcases cA h with⟨_,z,_⟩| ⟨n,e⟩
 cases z;exact#[Qw n,e]
theorem Rl.off{σ':St}{i:Nat}(I:Rl K F H S ρ σ)(hl:σ'.length=σ.length)(e:∀k,k≠i->σ'[k]?=σ[k]?):Rl K F H S (ρ.set i jz) σ' where
 fh:=I.fh
 len:=by rw[wr,I.len,hl]
 sl:=λk s h=>by let#[n,h]:=tQ h;rw[e k n];exact I.sl k s h
 dj:=λk l t s n y x=>I.dj k l t s n (tQ y).2 (tQ x).2
end
section
variable{K:QC}{Γ:Ev}{Ψ:PEv}{E:XE}{EK:XK}{F H M B F2 O:Hp}{S S1 R:Ft}{ρ A ρ2:zA}{σ N P:St}{C J:LN}
theorem Sts.bind{L:LN}(s:Sts C J F H S ρ σ M B S1 A N)(b:Bd L M B S1 A N F2 O R ρ2 P)(y:∀j∈L,j∈J)(a:∀j∈L,j∉C):Sts C J F H S ρ σ F2 O R ρ2 P :=
 #[s.ff.trans b.ff,λx u e n=>b.hh x u (s.hh x u e n),λx e=>s.dm x (b.dm x e),λx e z=>by
  by_cases q:M x=jz;exact .inr (s.dm x (b.fn x q z));exact s.fn x e q,λx u=>s.uu x (b.U u),λj t h e hd=>by
  let#[o,m,l]:=b.out j λz=>h (y j z);rw[o]at e;let#[i,g,f]:=s.bo j t h e hd;exact#[i,m.trans g,l.trans f],λj h=>(b.out j λz=>a j z h).2.2.trans (s.sg j h)]
theorem oX{f:Tg}{body:PEnds->zA->Prop}{tb:TS}{Z:PEnds}{l:Ends}{xs:List Item}{ys:LT}{st:Hp->Prop}{Y:pA}
  (ib:∀{F H:Hp}{S:Ft}{ρ:zA}{σ:St}{Z:PEnds}{l:Ends},Rl K F H S ρ σ->nF K F H S ρ E EK->body Z ρ->EndsOk K C F H S ρ σ Z l->tb l σ H)
  (I:Rl K F H S ρ σ) (X:nF K F H S ρ E EK) (hC:∀j∈f.ix,j∉C) (pr:x0 (IZ K F H Y) xs ys) (hy:∀b,Y b->¬ U ρ S b/\H b≠jz/\F b=jz) (hst:∀F' H',Same F F'->Same F' H'->(∀b,Y b->H' b=H b)->st H') (h:lI body f Z ys ρ)
  (onx:∀F' H' S' z σ',Sts C f.ix F H S ρ σ F' H' S' z σ'->Rl K F' H' S' z σ'->Z.nx z->l.nx σ' H')
  (ort:∀v t W F' H' S' z σ',Stc C F H S ρ σ F' H' S' z σ'->Rl K F' H' S' z σ'->Tr K F' H' jb v t W->Held F' H' S' z W->(∀b,W b->H b=jz∨U ρ S b)->Z.rt t z->l.rt v H'):Xl K xs st f tb l σ H:=by
 intro J hJ;have len:=WP pr;have yk:∀{M B:Hp}{S1:Ft}{A:zA}{N:St},Sts C f.ix F H S ρ σ M B S1 A N->∀b,Y b->B b=H b/\M b=none:=λ{M B S1 A N} s b Q=>by
  let#[n,d1,d2]:=hy b Q;refine#[?_,?_];cases e:H b with|none=>exact eN e d1|some u=>exact s.hh b u e n
  by_cases q:M b=jz
  ·exact q
  exact((s.fn b d2 q).elim n d1).elim
 refine#[λi m σ' H'=>i<=xs.length/\m=xs.length - i/\∃z F' S',Sts C f.ix F H S ρ σ F' H' S' z σ'/\Rl K F' H' S' z σ'/\lI body f Z (ys.drop i) z,#[_,QBm _,rfl,ρ,F,S,.refl,I,by simpa using h],?_];rintro i m N B ⟨hi,rfl,A,M,S1,o,I1,h1⟩;have hs:=hst M B o.ff I1.fh λb Q=>(yk o b Q).1;rcases QAi i xs.length with g|hge;refine .inr #[hJ.go i B hs g,λσ' H'=>i+1<=xs.length/\∃z F' S',Sts C f.ix F H S ρ σ F' H' S' z σ'/\Rl K F' H' S' z σ'/\lI body f Z (ys.drop (i+1)) z,λσ' H' #[a,b]=>#[_,(),a,rfl,b],λx O hyl=>?_];let#[it,hx,hm]:=hJ.yld i B x O hs g hyl;let#[y,hd,ry]:=Paired.get_of pr hx;rw[hd]at h1;unfold lI at h1;have key:L3.bindI K f it N B λP O=>tb { l with nx:=λσ' H'=>i+1<=xs.length/\∃z F' S',Sts C f.ix F H S ρ σ F' H' S' z σ'/\Rl K F' H' S' z σ'/\lI body f Z (ys.drop (i+1)) z,ct:=λσ' H'=>i+1<=xs.length/\∃z F' S',Sts C f.ix F H S ρ σ F' H' S' z σ'/\Rl K F' H' S' z σ'/\lI body f Z (ys.drop (i+1)) z,bk:=l.nx } P O:=by
  refine cN I1 (λb Q u=>?_) (ry.mono o.ff (yk o)) h1 λρ2 P F2 H3 R bd I2 h2=>?_;rcases o.uu b u with q|q
  ·exact(hy b Q).1 q
  exact(hy b Q).2.1 q;have L:=o.bind bd (λj hj=>hj) hC;exact ib I2 (X.fromS L) h2 #[λF' H' S' z σ' p G q=>#[g,z,F',S',L.trans p,G,q],λv t W F' H' S' z σ' p G r hw fr q=>ort v t W F' H' S' z σ' (L.c.trans p) G r hw (Lu L fr) q,
   λF' H' S' z σ' p G q=>onx F' H' S' z σ' (L.trans p) G q,λF' H' S' z σ' p G q=>#[g,z,F',S',L.trans p,G,q]]
 exact fN hm key;have e:ys.drop i=[]:=QBS ();rw[e]at h1;exact .inl #[hJ.stop i B hs hge,onx M B S1 A N o I1 h1]
theorem GG:∀(J:LN) (ρ:zA) (i:Nat) s,(kill J ρ)[i]?=jy (jy s)->ρ[i]?=jy (jy s)/\(i∈J->∀t,s=.xx t->t.isD=jb)
 |[],ρ,i,s,h=>#[h,λz=>by simp at z]|j::J,ρ,i,s,h=>by
  unfold kill at h;let#[x,a]:=GG J _ i s h;rw[QAI]at x;by_cases e:j=i;subst e;simp only[reduceIte]at x;cases q:ρ[j]? with
  |none=>rw[q]at x;cases x|some o =>
   rw[q]at x;have x:MC o=jy s:=by simpa using x
   cases o with
   |none=>cases x|some u =>
    cases u with
    |own t=>cases x;exact#[rfl,λ_ y z=>by cases z]|xx t =>
     have x:(if t.isD=jb then jy (Sl.xx t) else jz)=jy s:=x;cases hd:t.isD with|true=>rw[hd,ef rfl]at x;cases x;exact#[rfl,λ_ y z=>by cases z;exact hd]|false=>rw[hd]at x;simp at x
  simp only[e,if_false]at x;refine#[by simpa using x,λm=>a ((QR.mp m).elim (λz=>eN z.symm e) id)]
theorem CM:∀(J:LN) (ρ:zA),(kill J ρ).length=ρ.length
 |[],_=>rfl|j::J,ρ=>by unfold kill;rw[CM J];simp
theorem Sts.kill(s:Sts C J F H S ρ σ M B S1 A N):Sts C [] F H S ρ σ M B S1 (L3.kill J A) N :=
 #[s.ff,s.hh,s.dm,s.fn,λb #[i,t,x,h]=>s.uu b #[i,t,(GG J A i _ x).1,h],λj t _ e hd=>by let#[x,h]:=GG J A j _ e;by_cases y:j∈J;rw[h y t rfl]at hd;cases hd;exact s.bo j t y x hd,s.sg]
theorem oS:∀(L:LN) (ρ:zA) (j:Nat),(lock L ρ)[j]?=if j∈L then ρ[j]?.map DG else ρ[j]?
 |[],ρ,j=>by simp[lock]|i::L,ρ,j=>by
  have x:∀o,DG (DG o)=DG o:=λo=>by
   match o with
   |none=>rfl|some (.own _)=>rfl|some (.xx _)=>rfl
  unfold lock;rw[oS L,QAI];by_cases e:i=j;subst e;cases h:ρ[i]? with|none=>simp|some o=>simp[x]
  have y:¬ j=i:=λz=>e z.symm;simp[e,y]
theorem nS:∀(L:LN) (ρ:zA),(lock L ρ).length=ρ.length
 |[],_=>rfl|i::L,ρ=>by unfold lock;rw[nS L];simp
theorem BL:∀(L:LN) (x ρ:zA) (j:Nat),(∀i∈L,i<ρ.length)->(cD L x ρ)[j]?=if j∈L then jy (x[j]?.getD jz) else ρ[j]?
 |[],x,ρ,j,_=>by simp[cD]|i::L,x,ρ,j,h=>by unfold cD;rw[BL L x _ j (λk hk=>by simpa using h k (QH _ hk)),wW];by_cases e:i=j;subst e;simp[h i QK];have y:¬ j=i:=λz=>e z.symm;simp[e,y]
theorem UL:∀(L:LN) (h ρ:zA),(cD L h ρ).length=ρ.length
 |[],_,_=>rfl|i::L,h,ρ=>by unfold cD;rw[UL L];simp
theorem IH{ρ:zA}:∀(x:LN),∀i∈TC ρ x,∃t,ρ[i]?=jy (jy (.own t))
 |[],i,h=>by simp[TC]at h|j::x,i,h=>by
  unfold TC at h;split at h
  ·rename_i ho
   rcases QR.mp h with e|e
   ·subst e
    unfold mM at ho;split at ho;rename_i t e;exact#[t,e]
    all_goals cases ho
   exact IH x i e
  exact IH x i h
theorem lM{ρ:zA}{i:Nat}{t:T}(h:ρ[i]?=jy (jy (.own t))):∀(x:LN),i∈x->i∈TC ρ x
 |[],hi=>by simp at hi|j::x,hi=>by
  unfold TC;rcases QR.mp hi with e|e;subst e;have:mM ρ[i]?=true:=by rw[h];rfl
  rw[ef this];exact QK;have:=lM h x e;split;exact QH _ this;exact this
section
variable{L:LN}(y:∀i∈L,∃t,ρ[i]?=jy (jy (.own t)))
include y
theorem LK{i:Nat}{s:Sl}(h:(lock L ρ)[i]?=jy (jy s)):(i∈L/\∃t,ρ[i]?=jy (jy (.own t))/\s=.xx t)∨(i∉L/\ρ[i]?=jy (jy s)):=by rw[oS]at h;by_cases x:i∈L;rw[ef x]at h;let#[t,e]:=y i x;rw[e]at h;injection h with h;injection h with h;exact .inl #[x,t,e,h.symm];rw[eH x]at h;exact .inr #[x,h]
theorem TF{b:j2}(h:U (lock L ρ) S b):U ρ S b:=by
 let#[i,t,x,z]:=h;rcases LK y x with⟨_,u,_,e⟩| ⟨_,x⟩
 cases e;exact#[i,t,x,z]
theorem Rl.lock(I:Rl K F H S ρ σ):Rl K F H S (L3.lock L ρ) σ where
 fh:=I.fh
 len:=by rw[nS];exact I.len
 sl:=λi s e=>by
  rcases LK y e with⟨_,t,h,rfl⟩| ⟨_,h⟩
  let#[v,u,x]:=I.sl i _ h;exact#[v,u,x.weak];exact I.sl i s h
 dj:=λi j t s n b a=>by
  rcases LK y b with⟨_,_,_,z⟩| ⟨_,u⟩
  cases z;rcases LK y a with⟨_,f,x,_⟩| ⟨_,x⟩
  ·exact I.dj i j t _ n u x
  exact I.dj i j t s n u x
theorem Rl.lockU(I:Rl K F H S ρ σ){i:Nat}(x:i∈L){b:j2}(a:S i b):¬ U (L3.lock L ρ) S b:=λ#[j,t,h,f]=>by
 let#[g,e]:=y i x;rcases LK y h with⟨_,_,_,z⟩| ⟨u,h⟩
 cases z;exact I.dj j i t _ (λz=>u (z▸x)) h e b f a
theorem zY(I:Rl K F H S ρ σ)(s:Sts C [] F H S (lock L ρ) σ M B S1 A N)(G:Rl K M B S1 A N)(hl:∀i∈L,A[i]?=ρ[i]?.map DG) :
  ∃R,Rl K M B R (cD L ρ A) N/\Sts C [] F H S ρ σ M B R (cD L ρ A) N:=by
 classical
 have l1:∀i∈L,∃t,ρ[i]?=jy (jy (.own t))/\A[i]?=jy (jy (.xx t)):=λi h=>by let#[t,e]:=y i h;have:=hl i h;rw[e]at this;exact#[t,e,this]
 have hlt:∀i∈L,i<A.length:=λi h=>by let#[t,_,e]:=l1 i h;exact(Qa.mp e).1
 let R:Ft:=λi=>if i∈L then S i else S1 i
 have o:∀i∈L,R i=S i:=λi h=>ef h;have l:∀i,i∉L->R i=S1 i:=λi h=>eH h;have get:∀i f,(cD L ρ A)[i]?=jy (jy f)->(i∈L/\∃t,ρ[i]?=jy (jy (.own t))/\A[i]?=jy (jy (.xx t))/\f=.own t)∨(i∉L/\A[i]?=jy (jy f)):=λi f e=>by rw[BL L ρ A i hlt]at e;by_cases h:i∈L;rw[ef h]at e;let#[t,g,Z]:=l1 i h;rw[g]at e;injection e with e;have e:jy (Sl.own t)=jy f:=e;injection e with e;exact .inl #[h,t,g,Z,e.symm];rw[eH h]at e;exact .inr #[h,e]
 have Q:∀i∈L,∀k f,k∉L->A[k]?=jy (jy f)->∀b,S i b->¬ S1 k b:=λi h k f hk e b m z=>by
  let#[t,g,_]:=l1 i h;cases f with
  |own u=>rcases s.uu b ⟨k,u,e,z⟩ with q|q;exact I.lockU y h m q;exact(I.dom g m).1 q
  |xx u =>
   cases hd:u.isD with
   |true=>exact G.isD e hd z|false =>
    let#[p,X,_]:=s.bo k u (by simp) e hd;rw[X]at z;rcases LK y p with⟨q,_⟩| ⟨_,p⟩
    exact hk q;exact I.dj i k t _ (λq=>hk (q▸h)) g p b m z
 refine#[R,#[G.fh,by rw[UL];exact G.len,λi f e=>?_,λi k t f n g Z b m hk=>?_],#[s.ff,λb u e n=>s.hh b u e λz=>n (TF y z),s.dm,λb e z=>(s.fn b e z).imp (TF y) id,λb #[i,t,h1,h2]=>?_,λj t _ e hd=>?_,s.sg]];rcases get i f e with⟨h,t,g,Z,rfl⟩| ⟨h,g⟩
 ·rw[o i h]
  let#[v,p,X]:=I.sl i _ g;cases hd:t.isD with
  |true =>
   let#[v',g3,g4]:=G.sl i _ Z;refine#[v',g3,?_];have nb:∀b,¬ S i b:=λb=>I.isD g hd;cases t with|d x=>have g4:Tr K M B js v' (.d x) (S1 i):=g4;let#[r,_]:=g4.invd;exact .d r nb|_=>cases hd
  |false =>
   let#[_,_,g5]:=s.bo i t (by simp) Z hd;refine#[v,g5.trans p,?_];have X:Tr K F H jb v t (S i):=X;refine X.mono s.ff λb m=>?_;let#[d1,d2]:=X.dom b m;have nu:=I.lockU y h m;refine#[?_,?_];cases eb:H b with|none=>exact eN eb d1|some u=>exact s.hh b u eb nu
   by_cases q:M b=jz
   ·exact q
   exact((s.fn b d2 q).elim nu d1).elim
 rw[l i h];exact G.sl i f g;rcases get i _ g with⟨h,t',Y,a2,_⟩| ⟨h,Y⟩
 ·rw[o i h]at m
  rcases get k f Z with⟨a,t2,W,b2,_⟩| ⟨a,W⟩
  rw[o k a]at hk;exact I.dj i k t' _ n Y W b m hk;rw[l k a]at hk;exact Q i h k f a W b m hk
 rw[l i h]at m;rcases get k f Z with⟨a,t2,W,b2,_⟩| ⟨a,W⟩
 rw[o k a]at hk;exact Q k a i _ h Y b hk m;rw[l k a]at hk;exact G.dj i k t f n Y W b m hk;rcases get i _ h1 with⟨h,t',Y,a2,_⟩| ⟨h,Y⟩
 ·rw[o i h]at h2
  exact .inl #[i,t',Y,h2]
 rw[l i h]at h2;exact(s.uu b #[i,t,Y,h2]).imp (TF y) id;rcases get j _ e with⟨_,_,_,_,z⟩| ⟨hj,g⟩
 ·cases z
 let#[p,X,g3]:=s.bo j t (by simp) g hd;rcases LK y p with⟨q,_⟩| ⟨_,p⟩
 exact eN q hj;exact#[p,(l j hj).trans X,g3]
end
theorem kE{i:Nat}(h:(!C.contains i)=jb):i∉C:=λz=>by have:C.contains i=true:=QW.mpr z;rw[this]at h;cases h
theorem N5{x:LN}(h:(x.all λi=>!C.contains i)=jb):∀i∈x,i∉C:=λi y=>kE (Qo.mp h i y)
theorem y3{v:V}{t:T}{W:pA}{Z:PEnds}{h:Ends}(ok:EndsOk K C F H S ρ σ Z h)(s:Ste F H S ρ M B S1 A)(I:Rl K M B S1 A σ)(r:Tr K M B jb v t W)(x:Held M B S1 A W)(fr:∀b,W b->H b=jz∨U ρ S b)(q:Z.rt t A):h.rt v B :=
 ok.rt v t W M B S1 A σ (s.toStp.sts (J:=[])).c I r x fr q
theorem NP(g:GOk K Γ Ψ):∀(e:PX) {F H:Hp}{S:Ft}{ρ:zA}{σ:St}{Z:PEnds}{l:Ends},Rl K F H S ρ σ->nF K F H S ρ E EK->yE Ψ E Z.rt e ρ->EndsOk K C F H S ρ σ Z l->(wp K Γ e EK).e σ H l.rt:=by
  intro e F H S ρ σ Z l I X h ok;have p:∀e,(pe Ψ e E).e ρ (λx n A=>MG x n=jb/\Z.rt x A)->(wp K Γ e EK).e σ H l.rt:=λe h=>by refine(CA g e).e (Q:=λx n A=>MG x n=jb/\Z.rt x A) I X h λv F' H' S' m x n Za s J r #[he,q]=>?_;let#[W,Y,G,fr]:=r.strict he;exact y3 ok s J Y G fr q
  cases e with
  |ife t a b =>
   have h:(pe Ψ t E).t ρ λk A=>if k=jb then yE Ψ E Z.rt a A else yE Ψ E Z.rt b A:=h
   refine(CA g t).t I X h λk F' H' S' m s J q=>?_;cases k with|true=>exact NP g a J (X.from s.toStp) q (ok.from s.toStp.sts)|false=>exact NP g b J (X.from s.toStp) q (ok.from s.toStp.sts)
  |vx i =>
   have y:Hs ρ i Z.rt ρ[i]?:=h;show(match σ[i]? with|some (jy v)=>l.rt v _|_=>False)
   match hd:ρ[i]?,y with
   |some (jy (.own t)),y =>
    let#[v,f,r]:=I.sl i _ hd;rw[f];have I0:Rl K F H S (ρ.set i jz) σ:=I.drop (by simp) λj s e=>by
     rcases cA e with⟨_,z,_⟩| ⟨_,e⟩
     cases z;exact e
    refine ok.rt v t (S i) F H S (ρ.set i jz) σ #[.refl _,λb u e _=>e,λb e=>e,λb e z=>eN e z,λb #[j,u,f,h2]=>.inl ?_,λ_ _=>rfl] I0 r #[r.dom,λj s e b o z=>?_] (λb o=>.inr #[i,t,hd,o]) y;rcases cA f with⟨_,z,_⟩| ⟨_,f⟩
    ·cases z
    exact#[j,u,f,h2];rcases cA e with⟨_,q,_⟩| ⟨n,e⟩
    ·cases q
    exact I.dj i j t s n hd e b o z
   |some (jy (.xx t)),y =>
    let#[v,f,r]:=I.sl i _ hd;rw[f];let#[L,y]:=y;cases t with|d x=>have r:Tr K F H js v (.d x) (S i):=r;let#[q,n]:=r.invd;exact y3 (W:=λ_=>False) ok .refl I (.d q λ_ z=>z) .none (λ_ z=>z.elim) y|_=>cases L
   |some jz,y=>exact y.elim|none,y=>exact y.elim
  |_=>exact p _ h
theorem AI(g:GOk K Γ Ψ):∀(p:PT) {F H:Hp}{S:Ft}{ρ:zA}{σ:St}{Z:PEnds}{Dn:Ends},bK C p=jb->Rl K F H S ρ σ->nF K F H S ρ E EK->eB Ψ E p Z ρ->EndsOk K C F H S ρ σ Z Dn->JP K Γ EK p Dn σ H
 | .nil,_,_,_,_,_,_,_,c,I,X,h,ok=>ok.nx _ _ _ _ _ .refl I h|.dpx i ks as k e r,F,H,S,ρ,σ,Z,Dn,c,I,X,h,ok=>by
  let#[c1,c2]:=jA c;refine Yc (CA g as) I X h λp vs M B S1 A xs hp fp1 s1 I1 np rs lv #[#[hk,l14,hi],q]=>?_;have il:i<σ.length:=by rw[<- I1.len];exact(Qa.mp hi).1
  have rn:A.set i jz=A:=by apply qy;intro m;by_cases z:m=i;subst z;rw[Q3 (Qa.mp hi).1,hi];rw[Ql (Qw z)]
  have I1':Rl K M (VA B p (.dK (OB ks vs))) S1 A (σ.set i (jy (.ref p))):=by
   have:=I1.off (i:=i) (σ':=σ.set i (jy (.ref p))) (by simp) λm hm=>Ql (Qw hm)
   rwa [rn]at this
  have nU:¬ U A S1 p:=λ#[j,t,e,z]=>np j _ e z;refine FH (RR:=λw O=>(wp K Γ (.vx i) EK).e (σ.set i (jy (.ref p))) O λo H3=>(wp K Γ (.str k) EK).e (σ.set i (jy (.ref p))) H3 λy H4=>∃a H5,o=.ref a/\oR H4 a y w H5/\JP K Γ EK r Dn (σ.set i (jy (.ref p))) H5) (CA g e) I1' (X.from s1.toStp) q λw F3 H3 S3 ρ3 x n Zx s3 I3 X3 _ er _ #[he,q]=>?_;have rx:=er he;have hp3:H3 p=jy (.dK (OB ks vs)):=s3.hh p _ vA nU;have fp3:F3 p=none:=by
   by_cases z:F3 p=jz;exact z;rcases s3.fn p fp1 z with q|q
   ·exact(nU q).elim
   rw[vA]at q;cases q
  have np3:∀(j:Nat) sl,ρ3[j]?=jy (jy sl)->¬ S3 j p:=λj sl e z=>by
   cases sl with
   |own t=>rcases s3.uu p ⟨j,t,e,z⟩ with q|q;exact nU q;rw[vA]at q;cases q
   |xx t =>
    cases hd:t.isD with|true=>exact I3.isD e hd z|false=>let#[e1,e2]:=s3.bo j t e hd;rw[e2]at z;exact np j _ e1 z
  have pk:vF (OB ks vs) (Sum.inr k) w=OB (ks++[k]) (vs++[w]):=by
   have hm:((OB ks vs).any λkv=>decide (kv.1=Sum.inr k))=false:=by refine QAt.mpr λkv hkv=>?_;have:kv.1∈(OB ks vs).map (·.1):=QB0 hkv;rw[pH lv]at this;let#[z,hz,e]:=Qm.mp this;intro c;have c:=ei c;rw[<- e]at c;cases c;exact hk hz
   unfold vF;rw[hm];show OB ks vs++[(Sum.inr k,w)]=_;unfold OB;rw[Q6,List.zip_append (by rw[QG,lv])];rfl
  have hv:(σ.set i (jy (V.ref p)))[i]?=jy (jy (.ref p)):=Q3 il;show match (σ.set i (jy (V.ref p)))[i]? with|some (jy v)=>_|_=>False
  rw[hv];have lk:(OB ks vs).length<sizeLine:=by have:=e6 WH (pH lv);rw[QG,QG]at this;have:=qi;omega
  refine#[p,_,rfl,oR.k (k:=Sum.inr k) (v:=w) hp3 lk,?_];rw[pk];have ne:∀{G:Hp}{b:j2}{u:HO},G b=jy u->G p=jz->b≠p:=λe z=>ZA e z;have s:=s1.trans s3;have s2:Ste F H S ρ (VA F3 p (.dK (OB (ks++[k]) (vs++[w])))) (VA H3 p (.dK (OB (ks++[k]) (vs++[w])))) S3 ρ3:=#[#[λb u e=>by
    have e1:=s.ff b u e;rw[yA (ne e1 fp3)];exact e1,λb u e n=>by
    rw[yA (ne e hp)];exact s.hh b u e n,λb e=>by
    by_cases z:b=p;rw[z];exact hp;rw[yA z]at e;exact s.dm b e,λb e z=>by
    by_cases y:b=p;exact .inr (by rw[y];exact hp);rw[yA y]at z;exact s.fn b e z,s.uu,s.bo],s.ow]
  have I2:Rl K (VA F3 p (.dK (OB (ks++[k]) (vs++[w])))) (VA H3 p (.dK (OB (ks++[k]) (vs++[w])))) S3 ρ3 (σ.set i (jy (.ref p))):=#[λb u e=>by
    by_cases z:b=p;rw[z,vA]at e ⊢;exact e;rw[yA z]at e ⊢;exact I3.fh b u e,I3.len,λi sl e=>by
    let#[w,g1,g2]:=I3.sl i sl e;refine#[w,g1,g2.mono (pB fp3) λb hb=>?_];have nb:b≠p:=λz=>np3 i sl e (z▸hb);exact#[yA nb,by rw[yA nb];exact(g2.dom b hb).2],I3.dj]
  have rapp:∀(vs:LV) (ds:List D),Reps K M vs ds->Reps K F3 (vs++[w]) (ds++[x.er]):=λvs=>by
   induction vs with
   |nil=>intro ds h;cases h;exact .cons rx .nil|cons v vs ih =>
    intro ds h;cases h with|cons a b=>exact .cons (a.mono s3.ff) (ih _ b)
  have st:Sts C [] F H S ρ σ _ _ _ _ _:=s2.toStp.sts.setD i (kE c1) (.ref p) (t:=.d (.dict (OG (ks++[k]) (ersT (zD xs)++[x.er])))) rfl λ_=>False;have I4:=I2.setD i (Rep.dct (K:=K) vA (by rw[QL,QL,lv];rfl) ((rapp _ _ rs).mono (pB fp3)));rw[List.set_set]at I4;exact AI g r c2 I4 (X.fromS st) q (ok.from st)
 | .seq s r,_,_,_,_,_,_,_,c,I,X,h,ok=>by let#[c1,c2]:=jA c;exact AI g s c1 I X h #[λF' H' S' L σ' s' J q=>AI g r c2 J (X.fromS s') q (ok.from s'),ok.rt,ok.bk,ok.ct]|.set i e,F,H,S,ρ,σ,Z,Dn,c,I,X,h,ok=>by have hi:=kE c;refine FH (RR:=λx B=>Dn.nx (σ.set i (jy x)) B) (CA g e) I X h λv F' H' S' L x n Za s J X' r er _ #[he,q]=>?_;exact ok.nx _ _ _ _ _ (s.toStp.sts.setD i hi v rfl _) (J.setD i (er he)) q|.setL i j e,F,H,S,ρ,σ,Z,Dn,c,I,X,h,ok=>by
  let#[c1,c2]:=jA c;refine FH (RR:=λv B=>bindL K [i,j] v σ B λP O=>Dn.nx P O) (CA g e) I X h λv F' H' S' L x n Za s J X' r er _ #[he,a,b,ex,q]=>?_;have rp:=er he;rw[ex]at rp;let#[_,_,rfl,hq,hr]:=rp.inv;let#[_,_,rfl,ra,hr]:=hr.inv;let#[_,_,rfl,rb,hr]:=hr.inv;cases hr with|nil=>exact#[_,_,J.fh.seq hq,rfl,rfl,ok.nx _ _ _ _ _ ((s.toStp.sts.setD i (kE c1) _ rfl _).setD j (kE c2) _ rfl _) ((J.setD i ra).setD j rb) q]
 | .expr e,F,H,S,ρ,σ,Z,Dn,c,I,X,h,ok=>(CA g e).e I X h λv F' H' S' L x n Za s J r q=>ok.nx _ _ _ _ _ s.toStp.sts J q|.ret e,F,H,S,ρ,σ,Z,Dn,c,I,X,h,ok=>NP g e I X h ok|.ife t a b,F,H,S,ρ,σ,Z,Dn,c,I,X,h,ok=>by
  let#[c1,c2]:=jA c;refine(CA g t).t I X h λk F' H' S' L s J q=>?_;cases k with|true=>exact AI g a c1 J (X.from s.toStp) q (ok.from s.toStp.sts)|false=>exact AI g b c2 J (X.from s.toStp) q (ok.from s.toStp.sts)
 | .for_ tg ik its body,F,H,S,ρ,σ,Z,Dn,c,I,X,h,ok=>by
  let#[c1,c2]:=jA c;have hC:=N5 c1;refine VI (RR:=λvs B=>JB K ik vs B λxs st O=>Xl K xs st tg (JP K Γ EK body) Dn σ O) (CA g its) I X h λvs M B S1 A xs Y s1 I1 X1 tn tm q=>?_;rw[NJ _ rfl]at q;have ok1:=ok.from s1.toStp.sts;cases ha:XI xs with
  |true=>have tn':=tn.bare (dR ha);refine rH I1.fh tn' q λits ys st pr hst hc=>?_;rw[ha,ef rfl]at hc;refine oX (λI X h ok=>AI g body c2 I X h ok) I1 X1 hC pr (λb z=>z.elim) hst hc ?_ ?_;exact λF' H' S' L σ' s' I' q=>ok1.nx _ _ _ _ _ s'.kill (I'.drop (CM _ _) λi sl e=>(GG _ _ i sl e).1) q;exact λv t W F' H' S' L σ' s' I' r hw fr q=>ok1.rt v t W F' H' S' L σ' s' I' r hw fr q|false =>
   refine rH I1.fh tn q λits' ys st pr hst hc=>?_;rw[ha,eH (by simp)]at hc;have hL:=IH (ρ:=A) (CI its);have IL:=I1.lock hL;have sL:Sts C [] M B S1 A σ M B (λ_ _=>False) [] σ:=#[.refl _,λb u e _=>e,λb e=>e,λb e z=>eN e z,λb #[i,t,e,_]=>by simp at e,λj t _ e=>by simp at e,λ_ _=>rfl]
   have XL:nF K M B S1 (lock (TC A (CI its)) A) E EK:=λx dx F2 O R ρ2 s2 f r q =>
    X1 x dx F2 O (λ_ _=>False) [] #[s2.ff,λb u e n=>s2.hh b u e λz=>n (TF hL z),s2.dm,λb e z=>(s2.fn b e z).imp (TF hL) id,λb #[i,t,e,_]=>by simp at e,λj t e=>by simp at e] f r q
   refine oX (λI X h ok=>AI g body c2 I X h ok) IL XL hC pr (λb hb=>?_) hst hc ?_ ?_;let#[i,sl,h1,h2,h3]:=tm b hb;refine#[λu=>?_,I1.dom h2 h3];cases sl with
   |own t=>exact I1.lockU hL (lM h2 _ h1) h3 u|xx t =>
    let#[j,t',e1,e2]:=u;rcases LK hL e1 with⟨_,_,_,z⟩| ⟨_,e1⟩
    cases z;exact I1.dj j i t' _ (λz=>by subst z;rw[h2]at e1;cases e1) e1 h2 b e2 h3
   intro F' H' S' L σ' s' I' #[q1,q2];have sk:=s'.kill;have Ik:=I'.drop (CM tg.ix L) λi sl e=>(GG _ _ i sl e).1;let#[R,I2,s2]:=zY hL I1 sk Ik λi hi=>(q1 i hi).2;exact ok1.nx _ _ _ _ _ s2 I2 q2;intro v t W F' H' S' L σ' s' I' r hw fr q;exact ok1.rt v t W F' H' S' L σ' #[s'.ff,λb u e n=>s'.hh b u e λz=>n (TF hL z),s'.dm,λb e z=>(s'.fn b e z).imp (TF hL) id,λb u=>(s'.uu b u).imp (TF hL) id,s'.sg] I' r hw (λb hb=>(fr b hb).imp id (TF hL)) q
 | .own i e,F,H,S,ρ,σ,Z,Dn,c,I,X,h,ok=>by refine(CA g e).e (Q:=λx n A=>MG x n=jb/\Z.nx (A.set i (jy (.own x)))) I X h λv F' H' S' L x n Za s J r #[he,q]=>?_;let#[W,r2,hw,fr]:=r.strict he;exact ok.nx _ _ _ _ _ (s.toStp.sts.setN i (kE c) v x fr) (J.setN i r2 λj sl _ e b hb=>hw.nw j sl e b hb) q|.six j i e,F,H,S,ρ,σ,Z,Dn,c,I,X,h,ok=>by
  have h:eF ρ[j]? _:=h;unfold eF at h;split at h;rename_i t hj;let#[v0,hv,r0]:=I.sl j _ hj;have r0:Tr K F H jb v0 t (S j):=r0;show(wp K Γ e EK).e σ H λv B=>(match σ[j]? with|some (jy ov)=>(wp K Γ i EK).e σ B λiv H3=>XW ov iv v H3 λH4=>Dn.nx σ H4|_=>False)
  refine FH (CA g e) (I.lock1 hj) (X.lock1 hj) h λxv M B S1 A x n Zx s1 I1 X1 _ er1 _ #[he,q1]=>?_;have rx:=er1 he;rw[hv];refine FH (CA g i) I1 X1 q1 λiv F2 O R ρ2 y m Zy s2 I2 X2 _ er2 _ #[he2,hj2,q2]=>?_;have s12:=s1.trans s2;refine Vh (s12.toStp.keep r0 (I.lock1U hj)) (er2 he2) (rx.mono s2.ff) q2 λt' H3 S3 hh dm rt sub q=>?_;let#[st,I3,_]:=jM (W:=λ_=>False) I hj hv s12 I2 hh dm rt (λb hb=>.inl (sub b hb)) .none (λ_ z=>z.elim);exact ok.nx _ _ _ _ _ st.toStp.sts I3 q
  all_goals exact h.elim
 | .pap j k e,F,H,S,ρ,σ,Z,Dn,c,I,X,h,ok=>by
  have h:eF ρ[j]? _:=h;unfold eF at h;split at h;rename_i t hj;let#[v0,hv,r0]:=I.sl j _ hj;have r0:Tr K F H jb v0 t (S j):=r0;have later:∀{F' H':Hp}{S':Ft}{L:zA},Ste F H S (ρ.set j (jy (.xx t))) F' H' S' L->∀b,S j b->H' b=H b:=λ{F' H' S' L} s b hb=>by
   cases e:H b with|none=>exact eN e (r0.dom b hb).1|some u=>exact s.hh b u e (I.lock1U hj b hb)
  show(match σ[j]? with|some (jy ov)=>(wp K Γ k EK).e σ H λiv B=>C3 K ov iv B λw O=>SZ K "list" w O/\(wp K Γ e EK).e σ O λxv H3=>G3 w [xv] H3 λ_ H4=>Dn.nx σ H4|_=>False);rw[hv];refine FH (CA g k) (I.lock1 hj) (X.lock1 hj) h λiv M B S1 A y m Zy s1 I1 X1 _ er1 _ #[he1,us,i,n,ts,et,ey,hi,hu,q1]=>?_;subst et;have r1:=s1.toStp.keep r0 (I.lock1U hj);let#[a,ws,b,vs,P1,rfl,ha,za,wl,hw,hb,_]:=bW r1 hu;have ri:=er1 he1;rw[ey]at ri;cases ri.inv;refine#[ws,.ref b,.inr (oE.of ha),?_,.inl #[rfl,_,YD.of hb],?_];unfold zC;rw[wl,hi];exact hw;refine(CA g e).e I1 X1 q1 λxv F2 O R ρ2 x l Zx s2 I2 r2 #[he2,hj2,hl,q2]=>?_;have s12:=s1.trans s2;have r3:=s12.toStp.keep r0 (I.lock1U hj);let#[W,rw',hwd,frw]:=(r2.from s1.toStp).strict he2;let#[a',ws',b',vs',Q1,ea,ha',za',_,hw',hb',h3,zb,sub,nb,put]:=bW r3 hu;cases ea;have e2:ws'=ws:=by rw[later s12 a za,<- later s1 a za,ha]at ha';cases ha';rfl
  subst e2;rw[hw]at hw';cases hw';have wS:∀c,S j c->¬ W c:=λc hc hc2=>by rcases frw c hc2 with q|q;exact(r0.dom c hc).1 q;exact I.lock1U hj c hc q
  refine#[vs',hb',by rw[h3.length];exact hl,?_];have t0:=h3.mono (F':=F2) (H':=VA O b (.lst (vs'++[xv]))) (.refl _) λc hc=>#[yA λz=>nb (by rw[<- z];exact hc),(h3.dom c hc).2]
  have t1:=rw'.mono (F':=F2) (H':=VA O b (.lst (vs'++[xv]))) (.refl _) λc hc=>#[yA λz=>wS b zb (by rw[<- z];exact hc),(rw'.dom c hc).2]
  let#[P2,p1,p2]:=put _ _ _ _ W (λc _ _ hb=>yA hb) vA (Trs.append t0 (Trs.one t1) λc hc=>wS c (sub c hc)) (λc hc=>hc) wS;let#[st,I3,_]:=jM (W:=W) I hj hv s12 I2 (λc u e n=>(yA λz=>n (by rw[z];exact zb)).trans e) (λc=>rG c) p1 (λc hc=>(p2 c hc).imp id .inl) hwd frw;exact ok.nx _ _ _ _ _ st.toStp.sts I3 q2
  all_goals exact h.elim
 | .rse x m e,F,H,S,ρ,σ,Z,Dn,c,I,X,h,ok=>by
  let#[hm,y,hc,h]:=h;let#[C0,eC,Y]:=(g.va x _ hc F).cls_i;refine#[?_,C0,y,eC,Y,?_];cases m with|none=>trivial|some j=>let#[p,e1,e2]:=hm;let#[v,h1,r]:=I.sl j _ e1;have r:Tr K F H js v (.d (.int p)) (S j):=r;let#[q,n]:=r.invd;cases q.inv;exact#[p,h1,e2]
  refine(CA g e).e I X h λv F' H' S' L x n Za s J r #[p,ev,q]=>?_;subst ev;have ri:=r.tr;let#[ri,_]:=ri.invd;cases ri.inv;refine#[p,rfl,λea dx n1 n2 n3=>?_];have f1:F' ea=none:=by
   cases z:F' ea with|none=>rfl|some u=>have:=J.fh _ _ z;rw[n1]at this;cases this
  have f2:F' dx=none:=by
   cases z:F' dx with|none=>rfl|some u=>have:=J.fh _ _ z;rw[n2]at this;cases this
  have nn:∀(G:Hp) b u,G ea=jz->G dx=jz->G b=jy u->(VA (VA G dx (.xd (EH p))) ea (.ext (LG C0 ea dx))) b=jy u:=λG b u a1 a2 e=>by rw[yA (ZA e a1),yA (ZA e a2)];exact e
  refine X (y,p) (jy ea) (VA (VA F' dx (.xd (EH p))) ea (.ext (LG C0 ea dx))) _ (λ_ _=>False) [] #[λb u e=>nn F' b u f1 f2 (s.ff b u e),λb u e nu=>nn H' b u n1 n2 (s.hh b u e nu),λb e=>?_,λb e z=>?_,λb #[i,t,e,_]=>by simp at e,λj t e=>by simp at e] (λb u e=>?_) #[ea,rfl,.exc vA ((yA n3).trans vA) Y] q;by_cases z1:b=ea
  ·rw[z1,vA]at e;cases e
  rw[yA z1]at e;by_cases z2:b=dx;rw[z2,vA]at e;cases e;rw[yA z2]at e;exact s.dm b e;by_cases z1:b=ea
  ·exact .inr (s.dm b (by rw[z1];exact n1))
  by_cases z2:b=dx
  ·exact .inr (s.dm b (by rw[z2];exact n2))
  rw[yA z1,yA z2]at z;exact s.fn b e z;by_cases z1:b=ea
  ·rw[z1,vA]at e ⊢;exact e
  rw[yA z1]at e ⊢;by_cases z2:b=dx;rw[z2,vA]at e ⊢;exact e;rw[yA z2]at e ⊢;exact J.fh b u e
 | .tryC i f as x j k,F,H,S,ρ,σ,Z,Dn,c,I,X,h,ok=>by
  let#[#[jk,hk],hc,hJ,h]:=h;let#[C0,eC,Y]:=(g.va x _ hc F).cls_i;let#[c1,c2]:=jA c;let#[c2,c3]:=jA c2;refine#[#[C0,eC,Y],E7 g (CA g as) I hJ h (λv F' H' S' r Zr s J vr q=>?_) λy dx F' H' S' s J xr q=>?_];cases i with|none=>exact ok.nx _ _ _ _ _ s.toStp.sts J q|some i=>let#[F2,Z2,s2,J2,_,e2,_,_]:=vr.frz s J;exact ok.nx _ _ _ _ _ (s2.toStp.sts.setD i (kE c1) v rfl _) (J2.setD i (e2 rfl)) q
  let#[a,ed,rp]:=xr;refine#[a,ed,?_];have J1:=J.setD j rp;have s1:Sts C [] F H S ρ σ F' H' (iH S' j λ_=>False) (ρ.set j (bD (VF y.1 y.2))) (σ.set j (jy (.ref a))):=s.toStp.sts.setD j (kE c2) (.ref a) rfl _;have e1:(ρ.set j (jy (Sl.xx (.d (VF y.1 y.2)))))[k]?=jy none:=(Ql jk).trans hk;have e2:(ρ.set j (jy (Sl.xx (.d (VF y.1 y.2))))).set k jz=ρ.set j (bD (VF y.1 y.2)):=by apply qy;intro m;by_cases z:m=k;subst z;rw[Q3 (Qa.mp e1).1,e1];rw[Ql (Qw z)]
  have J2:=J1.off (i:=k) (σ':=(σ.set j (jy (.ref a))).set k jz) (by simp) λm hm=>Ql (Qw hm);rw[e2]at J2;refine ok.nx _ _ _ _ _ #[s1.ff,s1.hh,s1.dm,s1.fn,s1.uu,λm t hm e hd=>?_,λm hm=>?_] J2 q;have mk:m≠k:=λz=>by rw[z,e1]at e;cases e
  rw[Ql (Qw mk)];exact s1.bo m t hm e hd;rw[Ql (λz:k=m=>kE c3 (by rw[z];exact hm))];exact s1.sg m hm
 | .frz is s,F,H,S,ρ,σ,Z,Dn,c,I,X,h,ok=>by let#[F',S',I',s']:=I.frzAt (C:=C) is;exact AI g s c I' (X.fromS s') h (ok.from s')
end
noncomputable def Aq(x:Str)(n:String):Bool:=(x==("bool":Str)&&n == "bool")||(x==("int":Str)&&n == "int")||(x==("str":Str)&&n == "str")||(x==("list":Str)&&n == "list")||(x==("tuple":Str)&&n == "tuple")||(x==("ValueError":Str)&&n == "ValueError")
theorem V1{x:Str}{n:String}(h:Aq x n=jb):vb x=jy (.type n):=by simp only[Aq,qk,QX,beq_iff_eq]at h;rcases h with((((⟨rfl,rfl⟩| ⟨rfl,rfl⟩)|⟨rfl,rfl⟩)|⟨rfl,rfl⟩)|⟨rfl,rfl⟩)|⟨rfl,rfl⟩<;>kernel_rfl
structure Need where
 fn:LS
 va:LS
 no:LS
 dc:LS:=[]
noncomputable def Ln(n:Need):Prm->Bool
 | .dget x | .dix x | .dgetD x=>n.dc.contains x
 | .tmul=>jb|.plc=>jb|.dgt=>jb|.isC=>n.no.contains ("isinstance":Str)|.isT x m=>n.no.contains ("isinstance":Str)&&(n.no.contains x&&Aq x m)
noncomputable def Jt(n:Need):ItK->Bool
 | .val=>jb|.rng1=>n.no.contains ("range":Str)|.zip2=>n.no.contains ("zip":Str)|.enum | .enumA=>n.no.contains ("enumerate":Str)
noncomputable def bB(n:Need):PX->Bool
 | .glo x=>n.va.contains x|.bty x t=>n.no.contains x&&Aq x t|.bin _ a b | .cmp _ a b | .and a b | .or a b | .idx a b | .nz a b=>bB n a&&bB n b
 | .not a | .lst a | .tup a | .eff a | .dsp _ a=>bB n a
 | .chn _ _ a b c | .ife a b c | .slc a b c=>bB n a&&(bB n b&&bB n c)
 | .call f h=>n.fn.contains f&&bB n h|.bi f h=>n.no.contains f.nm&&bB n h|.prm o h=>Ln n o&&bB n h|.isi a c=>n.no.contains ("isinstance":Str)&&(bB n a&&bB n c)|.mt _ o h=>bB n o&&bB n h|.comp _ _ _ e z y u=>Jt n e&&(bB n z&&(bB n y&&bB n u))|_=>jb
noncomputable def PF(n:Need):PT->Bool
 | .seq s r=>PF n s&&PF n r|.dpx _ _ z _ e r=>bB n z&&(bB n e&&PF n r)|.set _ e=>bB n e|.own _ e=>bB n e|.expr e=>bB n e|.setL _ _ e=>bB n e|.ret e=>bB n e|.ife c a b=>bB n c&&(PF n a&&PF n b)|.for_ _ u y h=>Jt n u&&(bB n y&&PF n h)|.nil=>jb|.six _ i e=>bB n i&&bB n e|.pap j k e=>bB n (E4 j k e)|.frz _ s=>PF n s|.rse x _ e=>n.va.contains x&&(n.no.contains ("raise":Str)&&bB n e)|.tryC _ f z x _ _=>n.fn.contains f&&(bB n z&&n.va.contains x)
noncomputable def LM(h:Ev)(n:Need):Glob:=#[h,λf=>f∈n.fn,λx=>x∈n.va,λx=>x∈n.no,λx=>x∈n.dc]
theorem z7{y:Ev}{n:Need}{x:ItK}(h:Jt n x=jb):lr (LM y n) x:=by
 cases x with|val=>trivial|_=>exact QW.mp h
theorem E9{a:Ev}{n:Need}{o:Prm}(h:Ln n o=jb):Hn (LM a n) o:=by
 cases o with|tmul=>trivial|plc=>trivial|dgt=>trivial|isC=>exact QW.mp h|isT x m=>let#[u,y]:=jA h;let#[y,z]:=jA y;exact#[QW.mp u,QW.mp y,V1 z]|dget x=>exact QW.mp h|dix x=>exact QW.mp h|dgetD x=>exact QW.mp h
theorem rC{W:Ev}{n:Need}:∀(p:PX),bB n p=jb->MA (LM W n) p:=by
 intro p;induction p with
 |glo x=>intro h;exact QW.mp h|bty x t=>intro h;let#[u,z]:=jA h;exact#[QW.mp u,V1 z]|bin _ a b y e|cmp _ a b y e|and a b y e|or a b y e|idx a b y e|nz a b y e=>intro h;let#[u,z]:=jA h;exact#[y u,e z]
 |not a y|lst a y|tup a y|eff a y|dsp _ a y=>intro h;exact y h
 |chn _ _ a b c y e i|ife a b c y e i|slc a b c y e i=>intro h;let#[u,g]:=jA h;let#[z,j]:=jA g;exact#[y u,e z,i j]
 |call f l y=>intro h;let#[u,z]:=jA h;exact#[QW.mp u,y z]|bi f l y=>intro h;let#[u,z]:=jA h;exact#[QW.mp u,y z]|prm o l y=>intro h;let#[u,z]:=jA h;exact#[E9 u,y z]|isi a c y i=>intro h;let#[u,g]:=jA h;let#[z,j]:=jA g;exact#[QW.mp u,y z,i j]|mt _ o l r y=>intro h;let#[u,z]:=jA h;exact#[r u,y z]|comp _ _ _ A q m K Y X s=>intro h;let#[u,h]:=jA h;let#[z,h]:=jA h;let#[j,Z]:=jA h;exact#[z7 u,Y z,X j,s Z]|_=>intro _;trivial
theorem FY{W:Ev}{n:Need}:∀(p:PT),PF n p=jb->OF (LM W n) p:=by
 intro p;induction p with
 |seq s r l o=>intro h;let#[u,z]:=jA h;exact#[l u,o z]|dpx _ _ K _ e r o=>intro h;let#[u,z]:=jA h;let#[z,g]:=jA z;exact#[rC _ u,rC _ z,o g]|set _ e|own _ e|expr e|ret e|setL _ _ e=>intro h;exact rC _ h
 |six _ i e=>intro h;let#[u,z]:=jA h;exact#[rC _ u,rC _ z]|pap j k e=>intro h;exact rC _ h|frz _ s l=>intro h;exact l h|rse x m e=>intro h;let#[u,y]:=jA h;let#[z,g]:=jA y;exact#[QW.mp u,QW.mp z,rC _ g]|tryC i f K x j k=>intro h;let#[u,y]:=jA h;let#[z,g]:=jA y;exact#[QW.mp u,rC _ z,QW.mp g]|ife c a b Z q=>intro h;let#[u,y]:=jA h;let#[z,g]:=jA y;exact#[rC _ u,Z z,q g]|for_ _ A Y X q=>intro h;let#[u,y]:=jA h;let#[z,g]:=jA y;exact#[z7 u,rC _ z,q g]|_=>intro _;trivial
noncomputable def OM(N ps:LS)(sc:Xz):Bool:=sc.kind==.function&&!sc.isCoroutine&&!sc.isGenerator&&VG N&&N.take ps.length==ps &&
 ps.all (λx=>sc.names.lookup x==jy .local||sc.names.lookup x==jy .cell)&&sc.names.all λy=>y.2 != .free
theorem HG{N ps:LS}{sc:Xz}(h:OM N ps sc=jb):FnScope N ps sc:=by simp only[OM,QX,Qo,qk,beq_iff_eq,wu,bne_iff_ne,ne_eq]at h;let#[#[#[#[#[#[e,b],a],u],z],y],x]:=h;exact#[e,b,a,vD u,z,y,x]
noncomputable def MB(n:Need)(b:PT)(N ps:LS)(st:vl):Bool:=OM N ps (nA st)&&RQ b #[N,nA st] (VB st)&&PF n b
noncomputable def Li:Md->T->Sl
 | .chg,t=>.own t|_,t=>.xx t
noncomputable def uF:List Md->LT->zA
 |_,[]=>[]|md,t::ts=>jy (Li (md.headD .xy) t)::uF md.tail ts
noncomputable def OA(N:LS)(md:List Md)(ts:LT):zA:=uF md ts++QI (N.length - ts.length) jz
noncomputable def yC:Nat->List Md->Nat->LN
 |_,_,0=>[]|k,md,n+1=>match md.headD .xy with
  | .chg=>k::yC (k+1) md.tail n|_=>yC (k+1) md.tail n
noncomputable def z5:Option (LT)->(LT->Prop)->Prop
 |some os,Q=>Q os|none,_=>False
noncomputable def sC(P:PSp)(n:Nat)(Q:T->LT->Prop):PEnds where
 nx:=λh=>z5 (uB (yC 0 P.md n) h) (Q (.d .none))
 rt:=λt h=>z5 (uB (yC 0 P.md n) h) (Q t)
abbrev tu(Ψ:PEv)(b:PT)(p:PSp)(N ps:LS)(h:LT)(Q:T->LT->Prop):Prop:=h.length=ps.length/\pF Ψ b (sC p ps.length Q) (OA N p.md h)
abbrev RK(Ψ:PEv)(b:PT)(p:PSp)(N ps:LS):Prop:=∀(h:LT) (Q:T->LT->Prop) (E:XE),p.run h Q E->h.length=ps.length/\pF Ψ b (sC p ps.length Q) (OA N p.md h)
noncomputable def zU(h:Str->Option j0)(x:Str):V:=((h x).bind fL).getD .non
noncomputable def JZ(e:yy):Str×V:=((match e.key with | .str z _=>z|_=>""),(fL e.val).getD .non)
noncomputable def Jk(K:QC)(h:Str->Option j0)(x:Str):Option (List (Str×V)):=match h x with
 |some (.ref a)=>match K.lookup a with
  |some o=>match o.data with
   | .dict y _=>jy (y.toList.map JZ)|_=>jz
  |none=>jz
 |_=>jz
noncomputable def dk(K:QC)(h:Str->Option j0)(Ψ:PEv):Ev:=#[λf=>lift K (Ψ.sp f),zU h,Jk K h]
structure DictOk(P:Kz)(w:kl)(K:QC)(mg:Str->Option j0)(x:Str)(kds:List (Str×D)):Prop where
 at':∃a kvs,mg x=jy (.ref a)/\Jk K mg x=jy kvs/\S8 P w K a kvs/\x0 (λ(p:Str×V) (q:Str×D)=>p.1=q.1/\∀F,Rep K F p.2 q.2) kvs kds
structure ValsOk(P:Kz)(w:kl)(K:QC)(mg:Str->Option j0)(Ψ:PEv)(va dc:LS):Prop where
 dic:∀x kds,Ψ.dc x=jy kds->DictOk P w K mg x kds
 hasD:∀x∈dc,∃kds,Ψ.dc x=jy kds
 rep:∀x d,Ψ.va x=jy d->∀F,Rep K F (zU mg x) d
 has:∀x∈va,∃u v,mg x=jy u/\fL u=jy v
theorem KW{u:j0}{v:V}(h:fL u=jy v):aA v u:=by cases u<;>simp[fL]at h<;>subst h<;>first|rfl|exact#[_,rfl]
section
variable{P:Kz}{w:kl}{K:QC}{mg:Str->Option j0}{base:kt}{Ψ:PEv}
noncomputable abbrev T8(P:Kz)(w:kl)(K:QC):AT:=vd P w K (wOf K) (iOf K)
def PZ(P:Kz)(w:kl)(K:QC)(mg:Str->Option j0)(base:kt):Prop:=∃h,(∀k,FnOk P w K mg base A8 (k+1) (iOf K) h ["self","words","place"] (dO K (wOf K) (iOf K)))/\KE K h ["self","words","place"] []
def gE(P:Kz)(w:kl)(K:QC)(mg:Str->Option j0)(base:kt)(Ψ:PEv)(k:Nat)(f:Str):Prop :=
 ∃(a:j2) (x:vy) (h:LS),FnOk P w K mg base (T8 P w K) k a x h (lift K (Ψ.sp f))/\mg f=jy (.ref a)/\qe K (.ref a)=jb/\KE K x h []
theorem gE.mono{j k:Nat}{f:Str}(h:gE P w K mg base Ψ j f)(hk:j<=k):gE P w K mg base Ψ k f:=by let#[a,u,x,z,y]:=h;exact#[a,u,x,z.mono hk,y]
theorem ArgsR.length{F H:Hp}{Y:pA}:∀{md:List Md}{vs:LV}{ts:LT},ArgsR K F H Y md vs ts->vs.length=ts.length
 |_,_,_,.nil=>rfl|_,_,_,.chg _ t=>by rw[QJ,QJ,ArgsR.length t]|_,_,_,.rd _ _ _ t=>by rw[QJ,QJ,ArgsR.length t]
theorem kJ:∀(m:List Md) (ts:LT),(uF m ts).length=ts.length
 |_,[]=>rfl|m,d::ds=>by unfold uF;rw[QJ,QJ,kJ]
theorem A4{m:Md}(h:m≠.chg)(t:T):Li m t=.xx t:=by cases m<;>first|rfl|exact eN rfl h
theorem xI(md:List Md)(v:V)(vs:LV):AA md (v::vs)=match md.headD .xy with | .chg=>v::AA md.tail vs|_=>AA md.tail vs:=by first | (rw[AA];done) | (rw[AA];cases md.headD .xy<;>rfl)
theorem YM(md:List Md)(v:T)(vs:LT):UB md (v::vs)=match md.headD .xy with | .chg=>v::UB md.tail vs|_=>UB md.tail vs:=by first | (rw[UB];done) | (rw[UB];cases md.headD .xy<;>rfl)
theorem rO(md:List Md)(t:T)(ts:LT):uF md (t::ts)=jy (Li (md.headD .xy) t)::uF md.tail ts:=by rw[uF]
theorem cR{F H:Hp}{Y:pA}:∀{md:List Md}{vs:LV}{ts:LT}{M:pA},ArgsR K F H Y md vs ts->Trs K F H jb (AA md vs) (UB md ts) M ->
  ∃Z:Ft,(∀(i:Nat) s,(uF md ts)[i]?=jy (jy s)->∃v,vs[i]?=jy v/\Tr K F H s.st v s.t (Z i))/\(∀(i:Nat) t,(uF md ts)[i]?=jy (jy (.own t))->∀b,Z i b->M b)/\(∀(i:Nat) t,(uF md ts)[i]?=jy (jy (.xx t))->∀b,Z i b->Y b) /\
   ∀(i j:Nat) t u,i≠j->(uF md ts)[i]?=jy (jy (.own t))->(uF md ts)[j]?=jy (jy (.own u))->∀b,Z i b->¬ Z j b
 |md,_,_,M,.nil,_=>#[λ_ _=>False,λi s e=>by simp[uF]at e,λi t e=>by simp[uF]at e,λi t e=>by simp[uF]at e,λi j t u _ e=>by simp[uF]at e]|md,_,_,M,.chg (v:=v) (vs:=vs) (t:=t) (ts:=ts) hm tl,r=>by
  have W:AA md (v::vs)=v::AA md.tail vs:=by rw[xI,hm]
  have X:UB md (t::ts)=t::UB md.tail ts:=by rw[YM,hm]
  rw[W,X]at r;cases r with
  |@cons _ _ _ _ _ _ A C g B n q =>
   let#[Z,o,y,m,l]:=cR tl B;have p:uF md (t::ts)=jy (.own t)::uF md.tail ts:=by rw[rO,hm];rfl
   rw[p];refine#[λi=>match i with|0=>A|i+1=>Z i,λi s e=>?_,λi u e b h=>?_,λi u e b h=>?_,λi j u w f e a b h x=>?_];cases i with|zero=>simp at e;subst e;exact#[v,rfl,g]|succ i=>exact o i s (by simpa using e)
   cases i with|zero=>exact(q b).mpr (.inl h)|succ i=>exact(q b).mpr (.inr (y i u (by simpa using e) b h))
   cases i with|zero=>simp at e|succ i=>exact m i u (by simpa using e) b h
   cases i with
   |zero =>
    cases j with|zero=>exact f rfl|succ j=>exact n b h (y j w (by simpa using a) b x)
   |succ i =>
    cases j with|zero=>exact n b x (y i u (by simpa using e) b h)|succ j=>exact l i j u w (λz=>f (by rw[z])) (by simpa using e) (by simpa using a) b h x
 |md,_,_,M,.rd (v:=v) (vs:=vs) (t:=t) (ts:=ts) (Z:=A) hm g hz tl,r=>by
  have W:AA md (v::vs)=AA md.tail vs:=by rw[xI];cases e:md.headD .xy<;>first|exact eN e hm|rfl
  have X:UB md (t::ts)=UB md.tail ts:=by rw[YM];cases e:md.headD .xy<;>first|exact eN e hm|rfl
  rw[W,X]at r;let#[Z,o,y,m,l]:=cR tl r;have p:uF md (t::ts)=jy (.xx t)::uF md.tail ts:=by rw[rO,A4 hm]
  rw[p];refine#[λi=>match i with|0=>A|i+1=>Z i,λi s e=>?_,λi u e b h=>?_,λi u e b h=>?_,λi j u w f e a b h x=>?_];cases i with|zero=>simp at e;subst e;exact#[v,rfl,g]|succ i=>exact o i s (by simpa using e)
  cases i with|zero=>simp at e|succ i=>exact y i u (by simpa using e) b h
  cases i with|zero=>exact hz b h|succ i=>exact m i u (by simpa using e) b h
  cases i with
  |zero=>simp at e|succ i =>
   cases j with|zero=>simp at a|succ j=>exact l i j u w (λz=>f (by rw[z])) (by simpa using e) (by simpa using a) b h x
theorem T1{F H:Hp}{N:LS}{Y M:pA}{md:List Md}{vs:LV}{ts:LT}(f:Same F H)(h:ArgsR K F H Y md vs ts)(o:Trs K F H jb (AA md vs) (UB md ts) M)(W:∀b,Y b->¬ M b) :
  ∃S,Rl K F H S (OA N md ts) (GE N vs)/\∀b,U (OA N md ts) S b->M b:=by
 let#[Z,r,a,q,p]:=cR h o;have hl:=h.length;have get:∀(i:Nat) s,(OA N md ts)[i]?=jy (jy s)->(uF md ts)[i]?=jy (jy s):=λi s e=>by
  unfold OA at e;rcases QAi i ts.length with z|z
  ·rwa [Q9 (by rw[kJ];exact z)]at e
  rw[Q5 (by rw[kJ];exact z),wT]at e;split at e<;>cases e
 refine#[Z,#[f,?_,λi s e=>?_,λi j t s n m l b y x=>?_],λb #[i,t,e,y]=>a i t (get i _ e) b y];unfold OA GE;rw[QL,QL,kJ,QG,Q7,Q7,hl];let#[v,g,X]:=r i s (get i s e);refine#[v,?_,X];unfold GE;rw[Q9 (by rw[QG];exact(Qa.mp g).1),Qj,g];rfl;cases s with|own u=>exact p i j t u n (get i _ m) (get j _ l) b y x|xx u=>exact W b (q j u (get j _ l) b x) (a i t (get i _ m) b y)
theorem kP:∀{md:List Md}{k n:Nat}{vs:LV}{σ:St},vs.length=n->(∀(i:Nat) v,vs[i]?=jy v->σ[k+i]?=jy (jy v))->(AA md vs).map (λv=>jy (jy v))=(yC k md n).map λj=>σ[j]?
 |md,k,0,vs,σ,h,g=>by
  cases vs with|nil=>rfl|cons _ _=>cases h
 |md,k,n+1,vs,σ,h,g=>by
  cases vs with
  |nil=>cases h|cons v vs =>
   have x:=kP (md:=md.tail) (k:=k+1) (n:=n) (vs:=vs) (σ:=σ) (by simpa using h) λi w y=>by have:=g (i+1) w (by simpa using y);rw[show k+1+i=k+(i+1) by omega];exact this
   have z:=g 0 v rfl;rw[xI];unfold yC;cases e:md.headD .xy with|chg=>simp only[QN,x];rw[show σ[k]?=jy (jy v) from z]|_=>exact x
theorem xN:∀{md:List Md}{k n j:Nat},j∈yC k md n->k<=j
 |md,k,0,j,h=>by simp[yC]at h|md,k,n+1,j,h=>by
  unfold yC at h;cases e:md.headD .xy with
  |chg=>rw[e]at h;rcases QR.mp h with z|z;omega;have:=xN z;omega
  |_=>rw[e]at h;have:=xN h;omega
theorem GS:∀(md:List Md) (k n:Nat),(yC k md n).Nodup
 |md,k,0=>QBj|md,k,n+1=>by
  have h:=GS md.tail (k+1) n;unfold yC;cases e:md.headD .xy with|chg=>exact wC.mpr #[λz=>by have:=xN z;omega,h]|_=>exact h
theorem xk{i:AT}{k:Nat}{f:j2}{z:vy}{ps:LS}{y:Sp}(F:FnOk P w K mg base A8 k f z ps y):FnOk P w K mg base i k f z ps y :=
 #[F.len,λA x s H args u vs Q E a b c d e=>WG (F.run A x s H args u vs Q E a b c d e) λr j h=>by
  cases r with|error v=>exact QT h|ok g=>cases g<;>exact h]
theorem B0{W fI:j2}{l:List Env}{H:Hp}{s:j3}{v:j0}{s':j3}(h:vd P w K W fI l H s (λ_ _ _=>False) v s'):False:=by let#[_,_,_,_,_,_,_,_,_,_,_,_,z]:=h;exact z
theorem pX{R:PSp}{x B:Str}{st:vl}{f:j2}{fd:vy}{N ps:LS}{k:Nat}{b:PT}{n:Need}(F:Fun K x B st f fd)(ZB:MB n b N ps st=jb)(hc:bK (yC 0 R.md ps.length) b=jb)
  (fns:∀g∈n.fn,gE P w K mg base Ψ k g) (o:ValsOk P w K mg Ψ n.va n.dc) (nos:∀y∈n.no,mg y=jz) (er:n.no.contains ("raise":Str)=jb->2<=k/\PZ P w K mg base)
  (body:∀ts Q E,R.run ts Q E->ts.length=ps.length/\∃E':XE,(∀x,E' x->E x)/\eB Ψ E' b (sC R ps.length Q) (OA N R.md ts)):FnOk P w K mg base (T8 P w K) (k+1) f fd ps (lift K R):=by
 let#[c12,c3]:=jA ZB;let#[c1,c2]:=jA c12;have S:=HG c1;let#[oc,od,kV,doc,pm,an,cdv,ct,osl,rfl,lk,hcd]:=F.ex;refine Ve lk hcd S (λvs H Q E h=>?_) λA C s H vs Q E hr h=>?_;let#[F',ts,M,Y,h1,L,h3,h4,h5]:=h;rw[L.length];exact(body ts _ _ h5).1;let#[F',ts,M,Y,h1,L,h3,h4,h5]:=h;let#[hlen,E',hE',q]:=body ts _ _ h5;refine#[JP K (dk K mg Ψ) E b,λpins s1 σ1 H1 D I1 J=>?_,?_];have ok:OkS ((nK (T8 P w K) P w K mg base N B (nA st) f cdv A C s H E).wish (SX (nK (T8 P w K) P w K mg base N B (nA st) f cdv A C s H E) (wOf K) (iOf K) E)) #[N,nA st] (LM (dk K mg Ψ) n) E:={
  N:=rfl
  sc:=rfl
  calm:=rfl
  un:=by have:=hr.un;show(A.deeper _).units+66<gi;omega
  fn:=λg hg=>by let#[a,gd,gps,g1,g2,g3,g4]:=fns g hg;exact#[T8 P w K,k,a,gd,gps,g1,hr,g2,g3,g4,O4 rfl λ_ _ z=>z,λ_ _ _ _ _ z=>B0 z]
  val:=λy hy=>by let#[u,v,e1,e2]:=o.has y hy;refine#[u,e1,?_];show aA (zU mg y) u;unfold zU;rw[e1];show aA ((fL u).getD .non) u;rw[e2];exact KW e2
  no:=λy hy=>nos y hy
  dic:=λy hy=>by let#[kds,e]:=o.hasD y hy;let#[a,O,h1,L,h3,_]:=(o.dic y kds e).at';exact#[a,O,h1,L,h3]
  po:=Ha (EK:=E) rfl rfl I1.ok.frames rfl
  nd:=S.nd
  cel:=λ_=>rfl
  rs:=sY rfl λ_ _ z=>z
  er:=λhx=>by let#[h2k,fdI,FI,BI]:=er (QW.mpr hx);exact#[1,fdI,FI 0,hr.mono h2k,BI]
  cx:=λg hg=>by let#[a,gd,gps,g1,g2,g3,g4]:=fns g hg;exact#[k,a,gd,gps,g1,hr,g2,g3,g4]
  st:=rfl
  fr:=rfl }
 refine qL ((Vs b ok c2 (FY b c3)).1 pins s1 σ1 H1 D (I1.wish _) J) (λ_ _ q=>q.unwish) λv s2 hx=>?_;exact EY I1.ok.frames (λ_ _ z=>z) hx;let#[S0,I,hU]:=T1 (N:=N) h1 L h3 h4;have g:GOk K (dk K mg Ψ) Ψ:=#[λ_ _ _ _ _ h=>h,λy d e F=>o.rep y d e F,λy kds e=>by let#[a,O,_,L,_,h4]:=(o.dic y kds e).at';exact#[O,L,h4]]
 have hvl:vs.length=ps.length:=L.length.trans hlen;have fin:∀v t W X p G l m,Stc (yC 0 R.md ps.length) F' H S0 (OA N R.md ts) (GE N vs) X p G l m->Rl K X p G l m->Tr K X p jb v t W->Held X p G l W->(∀b,W b->H b=jz∨U (OA N R.md ts) S0 b) ->
   z5 (uB (yC 0 R.md ps.length) l) (λos=>∀v F3 H3 Z M',Frm M F' H F3 H3->Tr K F3 H3 jb v t Z->Trs K F3 H3 jb (AA R.md vs) os M'->(∀b,Z b->¬ M' b)->(∀b,Z b∨M' b->M b∨H b=jz)->Q v H3)->Q v p:=by
  intro v t W X p G l m s I2 r J fr q;cases eo:uB (yC 0 R.md ps.length) l with
  |none=>rw[eo]at q;exact q.elim|some os =>
   rw[eo]at q;have hv:(AA R.md vs).map (λv=>jy (jy v))=(yC 0 R.md ps.length).map λj=>m[j]?:=by rw[kP (md:=R.md) (k:=0) (n:=ps.length) (vs:=vs) (σ:=GE N vs) hvl λi w J=>?_];exact QB1 λj hj=>(s.sg j hj).symm;unfold GE;rw[W5,Q9 (by rw[QG];exact(Qa.mp J).1),Qj,J];rfl
   have trs:=I2.trs (GS _ _ _) eo hv;have own:∀j∈yC 0 R.md ps.length,∃t,l[j]?=jy (jy (.own t)):=λj hj=>by let#[i,hi]:=W9.mp hj;let#[t,_,e]:=(OE eo).2 i j hi;exact#[t,e]
   have lk:∀b,U (OA N R.md ts) S0 b∨H b=jz->M b∨H b=none:=λb hb=>hb.imp (hU b) id;refine q v X p W _ #[s.ff,I2.fh,λb u e n=>s.hh b u e λz=>n (hU b z),s.dm,λb e z=>lk b (s.fn b e z)] r trs (λb hb #[j,hj,z]=>?_) λb hb=>?_;let#[t',e]:=own j hj;exact J.nw j _ e b hb z;rcases hb with hb|⟨j,hj,z⟩
   ·exact lk b (fr b hb).symm
   let#[t',e]:=own j hj;exact lk b (s.uu b #[j,t',e,z])
 refine AI g b hc I (λx dx X p G l s fh xr ex=>?_) q #[?_,?_,λ_ _ _ _ _ _ _ z=>z.elim,λ_ _ _ _ _ _ _ z=>z.elim];exact hE' x ex dx X p #[s.ff,fh,λb u e n=>s.hh b u e λz=>n (hU b z),s.dm,λb e z=>(s.fn b e z).imp (hU b) id] xr;intro X p G l m s I2 q;exact fin .non (.d .none) (λ_=>False) X p G l m s.c I2 (.d .non λ_ z=>z) .none (λ_ z=>z.elim) q;intro v t W X p G l m s I2 r J fr q;exact fin v t W X p G l m s I2 r J fr q
theorem dZ{R:PSp}{Ψ':PEv}{x z:Str}{st:vl}{f:j2}{e:vy}{N ps:LS}{k:Nat}{b:PT}{n:Need}(F:Fun K x z st f e)(i:mg x=jy (.ref f))(j:KE K e ps [])(ZB:MB n b N ps st=jb)(hc:bK (yC 0 R.md ps.length) b=jb)
  (a:∀g∈n.fn,gE P w K mg base Ψ k g) (h:ValsOk P w K mg Ψ n.va n.dc) (u:∀y∈n.no,mg y=jz)
  (er:n.no.contains ("raise":Str)=jb->2<=k/\PZ P w K mg base) (body:∀ts Q E,R.run ts Q E->ts.length=ps.length/\∃E':XE,(∀x,E' x->E x)/\eB Ψ E' b (sC R ps.length Q) (OA N R.md ts)) (l:Ψ'.sp x=R):gE P w K mg base Ψ' (k+1) x :=
 #[f,e,ps,by rw[l];exact pX F ZB hc a h u er body,i,F.kp,j]
theorem uc{x y:Str}{st:vl}{f:j2}{a:vy}{N ps:LS}{k:Nat}{b:PT}{n:Need}(F:Fun K x y st f a)(g:mg x=jy (.ref f))(i:KE K a ps [])(ZB:MB n b N ps st=jb)(e:∀ts Q E,¬ (Ψ.sp x).run ts Q E):gE P w K mg base Ψ (k+1) x:=by refine#[f,a,ps,xk (F.ok (HG (jA (jA ZB).1).1) (λvs H Q E h=>?_) (λp A z s H vs Q E r h=>?_)),g,F.kp,i];let#[q,ts,M,Y,o,m,l,j,u]:=h;exact(e _ _ _ u).elim;let#[q,ts,M,Y,o,m,l,j,u]:=h;exact(e _ _ _ u).elim
end
noncomputable def vQ:PSp where
 md:=[.xz]
 run:=λx Q _=>∃h:LJ,h.length<=63/\(∀n∈h,qT n<=1048576)/\x=[.lst ((h.map Jy).map T.d)]/\Q (.d (.bool jb)) []
noncomputable def Hl:PSp:=#[[],λ_ _ _=>False,λ_ _ h=>h]
theorem gO{K:QC}{F:Hp}:∀(ns:LJ),Reps K F (ns.map V.int) (ns.map Jy)
 |[]=>.nil|n::r=>.cons (.int n) (gO r)
theorem Xj(K:QC)(H:Hp)(a:j2)(ns:LJ)(hl:ns.length<=63)(h:∀n∈ns,qT n<=1048576)(x:YD K H a (ns.map V.int)):lift K vQ [.ref a] H (λv _=>v=.bl jb) λ_ _ _=>False:=by refine#[H,[.lst ((ns.map Jy).map T.d)],λ_=>False,λ_=>False,.refl _,.rd (Z:=λ_=>False) (by simp[vQ]) (.lstF x (gO ns) λ_ z=>z) (λ_ z=>z) .nil,.nil λ_ z=>z,λ_ z=>z.elim,ns,hl,h,rfl,λv b u Z y _ r _ _ _=>?_];let#[r,_]:=r.invd;cases r.inv;rfl
theorem jU{ns:LJ}:∀n∈ns,QAJ (.int n)<=w4 (ns.map QAR.int):=by
 induction ns with|nil=>intro n h;cases h|cons m ns x=>intro n h;show _<=QAJ (.int m)+1+w4 (ns.map QAR.int);rcases QR.mp h with rfl|h;omega;have:=x n h;omega
theorem Dc{ns:LJ}(h:QAR.layableAll [.list (ns.map .int)]=jb):∀n∈ns,qT n<=1048576:=by
 intro n z;have a:=(PySem.W.layableW_iff.mp (PySem.W.layableW_arg h _ QK)).2.2;have e:w4 (ns.map QAR.int)<=2 ^ 20:=a;have y:=jU n z;have u:QAJ (.int n)=if n==0 then 0 else n.natAbs.log2+1:=rfl
 rw[PySem.intBits_le_iff];by_cases x:n=0;subst x;exact Nat.pow_pos (by decide);have:(n==0)=false:=by simpa using x
 rw[u,this]at y;have b:n.natAbs.log2+1<=1048576:=by have:n.natAbs.log2+1<=w4 (ns.map QAR.int):=y;omega
 exact(QBE (show n.natAbs≠0 by omega)).mp ()
def GT(K:QC)(x:Str)(st:vl):Prop:=∃f h,qp K ke x=jy (jy (.ref f))/\Fun K x x st f h
def tN(K:QC)(x:Str)(d:D):Prop:=∃u v,qp K ke x=jy (jy u)/\fL u=jy v/\∀F,Rep K F v d
noncomputable def mY:j0->Option (V×D)
 | .int i _=>jy (.int i,.int i)|.str z _=>jy (.str z,.str z)|.bool b=>jy (.bl b,.bool b)|.none=>jy (.non,.none)|_=>jz
theorem lU{K:QC}{u:j0}{v:V}{d:D}(h:mY u=jy (v,d)):aA v u/\∀F,Rep K F v d:=by unfold mY at h;split at h<;>cases h;exact#[#[_,rfl],λ_=>.int _];exact#[#[_,rfl],λ_=>.str _];exact#[rfl,λ_=>.bl _];exact#[rfl,λ_=>.non]
theorem V3{K:QC}{f:j2}{x:List D}{j:Option j2}{its:LW}{n:Nat}{b:Array (Option j0)}
  (l:K.lookup f=jy #[.type "tuple",j,.seq its.toArray n,b]) (h:(its.map mY).map (λo=>o.map QCK)=x.map jy) (r:x.length<=j1):∀F,Rep K F (.ref f) (.tuple x):=by
 have a:∀(its:LW) (x:List D),(its.map mY).map (λo=>o.map QCK)=x.map jy->∃vs,iA vs its/\∀F,Reps K F vs x:=by
  intro its;induction its with
  |nil =>
   intro x h;cases x with|nil=>exact#[[],.nil,λ_=>.nil]|cons _ _=>simp at h
  |cons u its m =>
   intro x h;cases x with
   |nil=>simp at h|cons d x =>
    simp only[QN,wb]at h;let#[vs,z,y]:=m x h.2;cases e:mY u with|none=>rw[e]at h;cases h.1|some p=>rw[e]at h;let#[v,q]:=p;have:=QY h.1;have:q=d:=this;subst this;let#[i,g]:=lU (K:=K) e;exact#[v::vs,.cons i z,λF=>.cons (g F) (y F)]
 let#[vs,z,y]:=a its x h;intro F;refine .tup (.inr #[_,its.toArray,n,l,rfl,rfl,?_,by simpa using z]) (y F);have X:=z.length;have s:=(y F).length;simp;omega
inductive Ent(K:QC)(w:kl):List yy->List (Str×D)->Prop where
 |nil:Ent K w [] []
 |cons {x:Str}{t:Tok}{u:j0}{v:V}{d:D}{es:List yy}{kds:List (Str×D)}:fL u=jy v->(∀F,Rep K F v d)->Ent K w es kds->Ent K w (#[WY w.params x,.str x t,u]::es) ((x,d)::kds)
theorem Ent.sc{K:QC}{w:kl}{x:Str}{t:Tok}{u:j0}{d:D}{z:List yy}{y:List (Str×D)}(h:(mY u).map QCK=jy d)(r:Ent K w z y):Ent K w (#[WY w.params x,.str x t,u]::z) ((x,d)::y):=by
 cases e:mY u with|none=>rw[e]at h;cases h|some p=>rw[e]at h;let#[v,a]:=p;have:a=d:=QY h;subst this;have ok:=(lU (K:=K) e).2;unfold mY at e;split at e<;>cases e;exact .cons rfl ok r;exact .cons rfl ok r;exact .cons rfl ok r;exact .cons rfl ok r
theorem Ent.tup{K:QC}{w:kl}{x:Str}{t:Tok}{f:j2}{z:List D}{b:Option j2}{its:LW}{n:Nat}{a:Array (Option j0)}{u:List yy}{y:List (Str×D)}
  (l:K.lookup f=jy #[.type "tuple",b,.seq its.toArray n,a]) (h:(its.map mY).map (λo=>o.map QCK)=z.map jy) (e:z.length<=j1) (r:Ent K w u y):Ent K w (#[WY w.params x,.str x t,.ref f]::u) ((x,.tuple z)::y) :=
 .cons rfl (V3 l h e) r
def BN(w:kl)(K:QC)(x:Str)(h:List (Str×D)):Prop:=∃(a:j2) (y:Array yy) (z:Nat),qp K ke x=jy (jy (.ref a))/\(a==v6)=js/\K.lookup a=jy #[.type "dict",jz,.dict y z,#[]]/\Ent K w y.toList h/\(h.map wK).Nodup
theorem Ent.all{K:QC}{w:kl}{P:Kz}{a:List yy}{y:List (Str×D)}(h:Ent K w a y):∃us:List (Str×j0),us.map wK=y.map wK/\KV (a.map JZ) us/\Pairs (Wq P w) a us/\(∀e∈a,∃k,(Wq P w).is k e.key=jb/\e.hash=(Wq P w).hash k) /\
  x0 (λ(p:Str×V) (q:Str×D)=>p.1=q.1/\∀F,Rep K F p.2 q.2) (a.map JZ) y:=by
 induction h with
 |nil=>exact#[[],rfl,.nil,.nil,λ_ z=>(by cases z),.nil]|@cons x t u v d a y f j _ i =>
  let#[us,r,o,n,m,l]:=i;have g:JZ #[WY w.params x,.str x t,u]=(x,v):=by unfold JZ;show(x,(fL u).getD .non)=(x,v);rw[f];rfl
  refine#[(x,u)::us,by simp[r],?_,.cons (QDC P w x t) rfl n,λe b=>?_,?_];rw[QN,g];exact .cons #[rfl,KW f] o;rcases QR.mp b with rfl|b
  ·exact#[x,QDC P w x t,rfl]
  exact m e b;rw[QN,g];exact .cons #[rfl,j] l
section
variable{P:Kz}{w:kl}{K:QC}{mg:Str->Option j0}{base h:kt}{Ψ:PEv}
theorem BN.inMg(X:K.In h)(G:h.Ns ke mg){x:Str}{y:List (Str×D)}(v:BN w K x y):DictOk P w K mg x y:=by let#[a,u,r,q,p,z,o,n]:=v;have e:=QAS X G q;let#[b,l,j,i,g,f]:=o.all (P:=P);refine#[a,u.toList.map JZ,e,?_,#[p,b,j,λs hk=>#[_,u,r,hk a _ z,#[rfl,rfl,rfl],rfl,λe m=>g e (by simpa using m),i,by rw[l];exact n]],f];unfold Jk;rw[e];simp only[z]
theorem tN.inMg(X:K.In h)(G:h.Ns ke mg){x:Str}{d:D}(v:tN K x d):(∀F,Rep K F (zU mg x) d)/\∃u v,mg x=jy u/\fL u=jy v:=by
 let#[u,v,a,y,z]:=v;have e:=QAS X G a;refine#[λF=>?_,u,v,e,y];have:zU mg x=v:=by unfold zU;rw[e];show(fL u).getD .non=v;rw[y];rfl
 rw[this];exact z F
theorem g7{R:PSp}{Ψ':PEv}{x:Str}{st:vl}{N ps:LS}{k:Nat}{b:PT}{n:Need}(X:K.In h)(G:h.Ns ke mg)(D:GT K x st)(ZB:MB n b N ps st=jb)(hc:bK (yC 0 R.md ps.length) b=jb)
  (o:∀(kV i l:j0) (q:Option j2) (j ct:j0) (us:LW),us.length=ps.length->Hx (qP x x (bC st) (VB st) (nA st) .none kV i l q j ct) #[us,[]]=ez (ps.zip us))
  (e:∀g∈n.fn,gE P w K mg base Ψ k g) (z:ValsOk P w K mg Ψ n.va n.dc) (u:∀y∈n.no,qp K ke y=jy jz)
  (er:n.no.contains ("raise":Str)=jb->2<=k/\PZ P w K mg base) (body:∀ts Q E,R.run ts Q E->ts.length=ps.length/\∃E':XE,(∀x,E' x->E x)/\eB Ψ E' b (sC R ps.length Q) (OA N R.md ts)) (p:Ψ'.sp x=R):gE P w K mg base Ψ' (k+1) x:=by
 let#[f,r,a,F]:=D;exact dZ F (QAS X G a) (F.binds o) ZB hc e z (λy m=>QAk X G (u y m)) er body p
theorem Nl{x:Str}{st:vl}{N ps:LS}{k:Nat}{b:PT}{n:Need}(X:K.In h)(G:h.Ns ke mg)(D:GT K x st)(ZB:MB n b N ps st=jb)
  (e:∀(kV y u:j0) (i:Option j2) (z ct:j0) (us:LW),us.length=ps.length->Hx (qP x x (bC st) (VB st) (nA st) .none kV y u i z ct) #[us,[]]=ez (ps.zip us))
  (g:∀ts Q E,¬ (Ψ.sp x).run ts Q E):gE P w K mg base Ψ (k+1) x:=by
 let#[f,j,a,F]:=D;exact uc F (QAS X G a) (F.binds e) ZB g
theorem gE.to{Ψ':PEv}{x:Str}{k:Nat}(h:gE P w K mg base Ψ k x)(e:Ψ'.sp x=Ψ.sp x):gE P w K mg base Ψ' k x:=by let#[f,a,y,u,z]:=h;exact#[f,a,y,by rw[e];exact u,z]
theorem Uj{x:Str}{st:vl}{ps:LS}{k:Nat}{j:j2}(X:K.In h)(G:h.Ns ke mg)(D:GT K "law" st)(q:ps=[x])(g:mg "law"=jy (.ref j))(p:Ψ.sp "law"=vQ)
  (Y:∀(kV z i:j0) (l:Option j2) (b ct:j0) (us:LW),us.length=ps.length->Hx (qP "law" "law" (bC st) (VB st) (nA st) .none kV z i l b ct) #[us,[]]=ez (ps.zip us))
  (H:∀base:kt,K.In base->base.Ns ke mg->∀f y,Fun K "law" "law" st f y->mg "law"=jy (.ref f)->FnOk P w K mg base (T8 P w K) k f y ps (lift K (Ψ.sp "law"))) :
  ∃y:vy,(∀(s:j3) (u:j0),hR s y #[[u],[]] [(x,u)])/\∀base:kt,K.In base->base.Ns ke mg->FnOk P w K mg base (T8 P w K) k j y [x] (lift K vQ):=by
 let#[f,y,a,F]:=D;have e:=g.symm.trans (QAS X G a);cases e;subst q;refine#[y,λs u=>?_,λbase o n=>?_];let#[W,Z,kV,z,i,l,b,ct,m,rfl,A,r]:=F.ex;exact .of_eq (Y kV z i l b ct [u] rfl);rw[<- p];exact H base o n j y F g
end
theorem NC{α:Type}{body:T->(Option T->Prop)->Prop}(g f:α->T):∀(l:List α) (h:LT) (Q:LT->Prop),(∀x∈l,∀R:Option T->Prop,R (jy (f x))->body (g x) R)->h.length+l.length<=j1->Q (h++l.map f)->CD body (l.map g) h Q
 |[],h,Q,_,hl,q=>by simp only[wx,CD];exact#[by simpa using hl,by simpa using q]|x::r,h,Q,hb,hl,q=>by simp only[QN,CD];refine hb x QK _ ?_;simp only[QJ]at hl;refine#[(),NC g f r _ Q (λy z=>hb y (QH _ z)) (by simp;omega) (by simpa using q)]
theorem jG{α:Type}{body:T->(Option T->Prop)->Prop}(g f:α->T)(p:α->Bool):∀(l:List α) (h:LT) (Q:LT->Prop),(∀x∈l,∀R:Option T->Prop,R (if p x=jb then jy (f x) else jz)->body (g x) R)->h.length+l.length<=j1->Q (h++(l.filter p).map f)->CD body (l.map g) h Q
 |[],h,Q,_,hl,q=>by simp only[wx,CD];exact#[by simpa using hl,by simpa using q]|x::r,h,Q,hb,hl,q=>by
  simp only[QN,CD];refine hb x QK _ ?_;simp only[QJ]at hl;cases u:p x with|true=>refine#[(),jG g f p r _ Q (λy z=>hb y (QH _ z)) (by simp;omega) ?_];rw[QDD,ef u]at q;simpa using q|false=>refine jG g f p r _ Q (λy z=>hb y (QH _ z)) () ?_;rw[QDD,eH (by rw[u];simp)]at q;exact q
theorem tH{α:Type}{xs:List α}{i:Int}(y:0<=i)(x:i<xs.length):∃v,zC xs i=jy v/\xs[i.toNat]?=jy v:=by
 have h:i.toNat<xs.length:=()
 have e:((i.toNat:Nat):Int)=i:=()
 have q:=NA (wL h);rw[e]at q;exact#[xs[i.toNat],q,wL h]
theorem cG{α h:Type}(f:α->h)(xs:List α)(i:Int):zC (xs.map f) i=(zC xs i).map f:=by
 unfold zC;rw[QG];cases F6 xs.length i with|none=>rfl|some j=>exact Qj
theorem sD{Ψ:PEv}{E:XE}{α:Type}{body:PT}{u:Tg}{Z:PEnds}(g:α->T)(W:List α->zA->Prop)(b:∀ρ,W [] ρ->Z.nx ρ)
  (a:∀x xs ρ (N:zA->Prop),(∀y,W xs y->N y)->W (x::xs) ρ->dN u (g x) ρ λz=>eB Ψ E body { Z with nx:=N,ct:=N,bk:=Z.nx } z):∀(xs:List α) (ρ:zA),W xs ρ->lI (eB Ψ E body) u Z (xs.map g) ρ
 |[],ρ,w=>b ρ w|x::xs,ρ,w=>a x xs ρ (λh=>lI (eB Ψ E body) u Z (xs.map g) h) (λh e=>sD g W b a xs h e) w
noncomputable def Kd(y:List (Str×PSp))(h:List (Str×D))(z:List (Str×List (Str×D))):PEv:=#[λf=>(y.lookup f).getD Hl,λx=>h.lookup x,λx=>z.lookup x]
theorem xW{P:Kz}{w:kl}{K:QC}{g:Str->Option j0}{h:kt}{l:List (Str×PSp)}{tbl:List (Str×D)}{y:List (Str×List (Str×D))}{f j:LS}(X:K.In h)(G:h.Ns ke g)(i:∀p∈tbl,tN K p.1 p.2)(hd:∀p∈y,BN w K p.1 p.2)
  (a:(f.all λx=>(tbl.map wK).contains x)=jb) (b:(j.all λx=>(y.lookup x).isSome)=jb):ValsOk P w K g (Kd l tbl y) f j:=by
 refine#[λx z e=>(hd (x,z) (qJ e)).inMg X G,λx u=>QAy.mp (Qo.mp b x u),λx d e F=>((i (x,d) (qJ e)).inMg X G).1 F,λx u=>?_];have:=Qo.mp a x u;let#[p,m,e]:=Qm.mp (QW.mp this);rw[<- e];exact((i p m).inMg X G).2
theorem CP{α:Type}[BEq α][LawfulBEq α]{l m:List α}(h:(l.all λx=>m.contains x)=jb):∀x∈l,x∈m:=λx y=>QW.mp (Qo.mp h x y)
def iF{α:Type}(o:Option α)(K:α->Prop):Prop:=∃a,o=jy a/\K a
theorem iF.mk{α:Type}{o:Option α}{a:α}{K:α->Prop}(e:o=jy a)(k:K a):iF o K:=#[a,e,k]
theorem eE{α:Type}{a:α}{K:α->Prop}:iF (jy a) K=K a:=eI #[λ#[_,e,k]=>by cases e;exact k,λk=>#[a,rfl,k]]
theorem gC{α:Type}{o:Option α}{a:α}{K:α->Prop}(h:o=jy a):iF o K=K a:=by rw[h];exact eE
theorem jI{α h:Type}{o:Option α}{f:α->h}{K:h->Prop}:iF (o.map f) K=iF o λa=>K (f a):=by
 cases o with|none=>exact eI #[λ#[_,e,_]=>(by cases e),λ#[_,e,_]=>(by cases e)]|some a=>rw[qC,eE,eE]
def vB(Ψ:PEv)(e:PX)(E:XE)(ρ:zA)(K:TK):Prop:=(pe Ψ e E).e ρ K
def kQ(Ψ:PEv)(e:PX)(E:XE)(ρ:zA)(K:Bool->zA->Prop):Prop:=(pe Ψ e E).t ρ K
def DN(Ψ:PEv)(e:PX)(E:XE)(md:List Md)(ρ:zA)(K:List (T×Bool)->zA->Prop):Prop:=(pe Ψ e E).a md ρ K
def RJ(p:PSp)(ts:LT)(K:T->LT->Prop)(E:XE):Prop:=p.run ts K E
def e9(x:T)(n:Bool)(Ψ:PEv)(b:PX)(E:XE)(ρ:zA)(K:TK):Prop:=sq (uA x n) ρ (cu (pe Ψ b E).e) λy h=>K y.1 y.2 h
def tW(x:T)(n:Bool)(Ψ:PEv)(b:PX)(E:XE)(md:List Md)(ρ:zA)(K:List (T×Bool)->zA->Prop):Prop:=sq (if n=jb then .d .none else x) ρ ((pe Ψ b E).a md) K
def Ks(x:T)(n:Bool)(Ψ:PEv)(b:PX)(E:XE)(ρ:zA)(K:List (T×Bool)->zA->Prop):Prop:=sq (uA x n) ρ ((pe Ψ b E).a []) K
def uL(i:Nat)(σ ρ:zA)(K:TK):Prop:=kr σ[i]? λt=>K t js ρ
def J3(i:Nat)(σ:zA)(ρ:zA)(j:Nat)(R:T->zA->Prop):Prop:=Hs ρ j R σ[i]?
def fY(Ψ:PEv)(E:XE)(r:PT)(Z:PEnds)(i:Nat)(x:T)(n:Bool)(ρ:zA):Prop:=MG x n=jb/\eB Ψ E r Z (ρ.set i (bD x.er))
def jo(Ψ:PEv)(E:XE)(r:PT)(Z:PEnds)(i:Nat)(x:T)(n:Bool)(ρ:zA):Prop:=MG x n=jb/\eB Ψ E r Z (ρ.set i (jy (.own x)))
def JE(x:T)(n:Bool)(P:Prop):Prop:=MG x n=jb/\P
def PB(h:yx)(x:T)(n:Bool)(y:T)(m:Bool)(Q:T->Bool->Prop):Prop:=binT h (uA x n).vw (uA y m).vw Q
def OC(h:Z1)(x y:T)(Q:Bool->Prop):Prop:=FS h x.er y.er Q
def d9(x:T)(Q:Bool->Prop):Prop:=PH x.er Q
def xu(x:T)(Q:Bool->Prop):Prop:=Tk x.er Q
def P6(c:PX)(x:T)(Q:Bool->Prop):Prop:=Ib c x.er Q
def GJ(f:Bi)(xs:List (T×Bool))(Q:T->Bool->Prop):Prop:=fP f (XB xs) Q
def nG(Ψ:PEv)(o:Prm)(xs:List (T×Bool))(Q:T->Bool->Prop):Prop:=PP Ψ o (UD xs) Q
def DE(x:T)(n:Bool)(y:T)(m:Bool)(Q:T->Prop):Prop:=TN (uA x n).vw (uA y m).vw Q
def GF(x:T)(n:Bool)(l u:Option Int)(Q:T->Bool->Prop):Prop:=sE (uA x n).vw l u Q
def XM(xs:List (T×Bool))(C:LT->Prop):Prop:=FE xs=jb/\C (zD xs)
def RN(h:ItK)(xs:List (T×Bool))(R:LT->Prop):Prop:=nC h (XB xs) R
def y9(m:Mt)(x:T)(n:Bool)(xs:List (T×Bool))(Q:T->Bool->Prop):Prop:=Ll m (uA x n).vw (XB xs) Q
def dC(md:List Md)(xs:List (T×Bool))(C:LT->Prop):Prop:=iF (BA md xs []) C
noncomputable def EO(Ψ:PEv)(E:XE)(x:List Bool)(y:LS)(u:Tg)(h z:PX)(ρ:zA):T->(Option T->Prop)->Prop:=RG u (mK y.length x (lockA ρ)) (if isNop h=jb then λρ R=>R jb ρ else(pe Ψ h E).t) (pe Ψ z E).e
def gf(h:Tg)(x:T)(ρ:zA)(K:zA->Prop):Prop:=dN h x ρ K
section
variable{Ψ:PEv}{E:XE}{ρ:zA}{K:TK}{L:Bool->zA->Prop}{M:List (T×Bool)->zA->Prop}{a b c v its g q:PX}{w:T->zA->Prop}
theorem Bg{i:Nat}:vB Ψ (.vx i) E ρ K=uL i ρ ρ K:=rfl
theorem Lg{i:Int}:vB Ψ (.int i) E ρ K=K (.d (.int i)) js ρ:=rfl
theorem Dg{x:Str}:vB Ψ (.str x) E ρ K=K (.d (.str x)) js ρ:=rfl
theorem Gg:vB Ψ .non E ρ K=K (.d .none) js ρ:=rfl
theorem TD{x:Str}{d:D}(h:Ψ.va x=jy d):vB Ψ (.glo x) E ρ K=K (.d d) js ρ:=by show(match Ψ.va x with|some d=>K (.d d) js ρ|none=>False)=_;rw[h]
theorem Sg{e:yx}:vB Ψ (.bin e a b) E ρ K=vB Ψ a E ρ λx n u=>e9 x n Ψ b E u λy m h=>PB e x n y m λz k=>K z k h:=rfl
theorem Pf{u:Z1}:kQ Ψ (.cmp u a b) E ρ L=vB Ψ a E ρ λx n z=>e9 x n Ψ b E z λy m h=>OC u x y λk=>L k h:=rfl
theorem Pg{x:Z1}:vB Ψ (.cmp x a b) E ρ K=kQ Ψ (.cmp x a b) E ρ λk h=>K (.d (.bool k)) js h:=rfl
theorem Rf{o p:Z1}:kQ Ψ (.chn o p a b c) E ρ L=vB Ψ a E ρ λx n e=>e9 x n Ψ b E e λy m h=>OC o x y λk=>if k=jb then e9 y m Ψ c E h λz l u=>OC p y z λk=>L k u else L js h:=rfl
theorem Rg{o p:Z1}:vB Ψ (.chn o p a b c) E ρ K=kQ Ψ (.chn o p a b c) E ρ λk h=>K (.d (.bool k)) js h:=rfl
theorem Ag:vB Ψ (.and a b) E ρ K=vB Ψ a E ρ λx _ h=>xu x λc=>if c=jb then vB Ψ b E h K else K (.d (.bool js)) js h:=rfl
theorem Sf:kQ Ψ (.and a b) E ρ L=kQ Ψ a E ρ λc h=>if c=jb then kQ Ψ b E h L else L js h:=rfl
theorem Lq:vB Ψ (.or a b) E ρ K=vB Ψ a E ρ λx _ h=>xu x λc=>if c=jb then K (.d (.bool jb)) js h else vB Ψ b E h K:=rfl
theorem aq:kQ Ψ (.or a b) E ρ L=kQ Ψ a E ρ λc h=>if c=jb then L jb h else kQ Ψ b E h L:=rfl
theorem Nf:kQ Ψ (.not a) E ρ L=kQ Ψ a E ρ λc h=>L (!c) h:=rfl
theorem XR:∀(md:List Md) (v:PX),(md.all λm=>!m.isMut)=jb->xA md v=[]:=by
 intro md;induction md with
 |nil=>intro v _;cases v<;>rfl|cons m md x =>
  intro v h;rw[Q8,QX]at h;cases m with
  |chg=>cases h.1|_=>cases v with|nz a v=>exact x v h.2|_=>rfl
theorem fA{f:Str}{p:PSp}{md:List Md}(h:Ψ.sp f=p)(l:p.md=md)(j:(md.all λm=>!m.isMut)=jb):vB Ψ (.call f v) E ρ K=DN Ψ v E md ρ λxs x=>dC md xs λts=>RJ p ts (λr os=>os=[]/\K r jb x) E:=by
 have i:=XR;show(∃os,uB (xA (Ψ.sp f).md v) ρ=jy os/\(xA (Ψ.sp f).md v).Nodup/\(pe Ψ v E).a (Ψ.sp f).md (clear (xA (Ψ.sp f).md v) ρ) λxs x=>∃ts,BA (Ψ.sp f).md xs os=jy ts/\(Ψ.sp f).run ts (λr z=>∃y,RC (xA (Ψ.sp f).md v) z x=jy y/\K r jb y) E)=_;rw[h,l,i md v j];have u:∀(r:T) (os:LT) (x:zA),(∃y,RC [] os x=jy y/\K r jb y)=(os=[]/\K r jb x):=by
  intro r os x;cases os with|nil=>exact eI #[λ#[_,e,k]=>by cases e;exact#[rfl,k],λk=>#[_,rfl,k.2]]|cons _ _=>exact eI #[λ#[_,e,k]=>(by cases e),λk=>(by cases k.1)]
 have:=λ(x:zA)=>funext λr=>funext λos=>u r os x;simp only[this];exact eI #[λ#[_,e,_,k]=>by cases e;exact k,λk=>#[_,rfl,QBj,k]]
theorem X8{f:Str}:kQ Ψ (.call f v) E ρ L=vB Ψ (.call f v) E ρ λt _ h=>d9 t λb=>L b h:=rfl
theorem Of:kQ Ψ (.isi a c) E ρ L=vB Ψ a E ρ λx _ h=>P6 c x λb=>L b h:=rfl
theorem Mq{f:Bi}:vB Ψ (.bi f v) E ρ K=DN Ψ v E [] ρ λxs h=>GJ f xs λz k=>K z k h:=rfl
theorem Fg{o:Prm}:vB Ψ (.prm o v) E ρ K=DN Ψ v E [] ρ λxs h=>nG Ψ o xs λz k=>K z k h:=rfl
theorem x6{m:Mt}{z:Str}{n:Bool}(h:isMut m=js):XQ m (uA (.d (.str z)) n).vw=true:=by cases n<;>cases m<;>first|rfl|cases h
theorem OX:vB Ψ (.mt .split a v) E ρ K=vB Ψ a E ρ λx n y=>XQ .split (uA x n).vw=jb/\Ks x n Ψ v E y λxs h=>y9 .split x n xs λz k=>K z k h:=rfl
theorem FT{j:Nat}:vB Ψ (.mt .append (.vx j) v) E ρ K=eF ρ[j]? λt=>cJ .append t=jb/\DN Ψ v E [] (ρ.set j (jy (.xx t))) λxs h=>FE xs=jb/\h[j]?=jy (jy (.xx t))/\ZM .append t (zD xs) λr s'=>K r jb (h.set j (jy (.own s'))):=rfl
theorem Mg:vB Ψ (.idx a b) E ρ K=vB Ψ a E ρ λx n u=>e9 x n Ψ b E u λy m h=>DE x n y m λz=>K z js h:=rfl
theorem UT{i:Int}:vB Ψ (.slc a (.int i) .nop) E ρ K=vB Ψ a E ρ λx n h=>GF x n (jy i) jz λz k=>K z k h:=by
 show(pe Ψ a E).e ρ (λx n h=>sq (uA x n) h (λρ (R:Option Int->zA->Prop)=>R (jy i) ρ) λl f=>sq (uA x n) f (λρ (R:Option Int->zA->Prop)=>R jz ρ) λu y=>sE (uA x n).vw l u λz k=>K z k y)=_;have:∀x n h,(sq (uA x n) h (λρ (R:Option Int->zA->Prop)=>R (jy i) ρ) λl f=>sq (uA x n) f (λρ (R:Option Int->zA->Prop)=>R jz ρ) λu y=>sE (uA x n).vw l u λz k=>K z k y)=sE (uA x n).vw (jy i) jz λz k=>K z k h:=by intro x n h;unfold sq;split<;>rfl
 simp only[this];rfl
theorem Hg:vB Ψ (.lst v) E ρ K=DN Ψ v E [] ρ λxs x=>xs.length<=j1/\XM xs λts=>K (.lst ts) jb x:=by have:∀(xs:List (T×Bool)) x,(xs.length<=j1/\XM xs λts=>K (.lst ts) jb x)=(FE xs=jb/\xs.length<=j1/\K (.lst (zD xs)) jb x):=λxs x=>eI #[λh=>#[h.2.1,h.1,h.2.2],λh=>#[h.2.1,h.1,h.2.2]];simp only[this];rfl
theorem Cg:vB Ψ (.tup v) E ρ K=DN Ψ v E [] ρ λxs x=>xs.length<=j1/\XM xs λts=>K (ZF ts) jb x:=by have:∀(xs:List (T×Bool)) x,(xs.length<=j1/\XM xs λts=>K (ZF ts) jb x)=(FE xs=jb/\xs.length<=j1/\K (ZF (zD xs)) jb x):=λxs x=>eI #[λh=>#[h.2.1,h.1,h.2.2],λh=>#[h.2.1,h.1,h.2.2]];simp only[this];rfl
theorem R8{h:List Bool}{z:LS}{u:Tg}{e:ItK}:vB Ψ (.comp h z u e its q g) E ρ K=DN Ψ its E [] ρ λxs y=>RN e xs λx =>
   CD (EO Ψ (λ_=>False) h z u q g y) x [] λys=>K (.lst ys) jb y:=rfl
theorem Zf{t:Str}{x:T}{R:Option T->Prop}:EO Ψ E [] [t] (.nm 0) .nop g ρ x R=vB Ψ g E (jy (.xx x)::lockA ρ) λy n _=>JE y n (R (jy y)):=rfl
theorem V8{t u:Str}{x y:D}{R:Option T->Prop}:EO Ψ E [] [t,u] (.tp [0,1]) .nop g ρ (.d (.tuple [x,y])) R=vB Ψ g E (bD x::bD y::lockA ρ) λy n _=>JE y n (R (jy y)):=eE
theorem Kf{t:Str}{x:T}{R:Option T->Prop}{z:Z1}:EO Ψ E [] [t] (.nm 0) (.cmp z a b) g ρ x R=kQ Ψ (.cmp z a b) E (jy (.xx x)::lockA ρ) λk h=>if k=jb then vB Ψ g E h λy n _=>JE y n (R (jy y)) else R none:=rfl
theorem Ig{md:List Md}:DN Ψ .kz E md ρ M=M [] ρ:=rfl
theorem j9:DN Ψ (.nz a v) E [] ρ M=vB Ψ a E ρ λx n y=>tW x n Ψ v E [] y λxs h=>M ((x,n)::xs) h:=rfl
theorem OT{md:List Md}:DN Ψ (.nz a v) E (.xz::md) ρ M=vB Ψ a E ρ λx n y=>tW x n Ψ v E md y λxs h=>M ((x,n)::xs) h:=rfl
theorem RT{md:List Md}:DN Ψ (.nz a v) E (.xx::md) ρ M=vB Ψ a E ρ λx n y=>tW x n Ψ v E md y λxs h=>M ((x,n)::xs) h:=rfl
theorem cg{i:Nat}:yE Ψ E w (.vx i) ρ=J3 i ρ ρ i w:=rfl
theorem ig:yE Ψ E w (.ife c a b) ρ=kQ Ψ c E ρ λk h=>if k=jb then yE Ψ E w a h else yE Ψ E w b h:=rfl
theorem lg:yE Ψ E w .non ρ=w (.d .none) ρ:=eI #[λh=>h.2,λh=>#[rfl,h]]
theorem Jq{x:Bool}:yE Ψ E w (.bl x) ρ=w (.d (.bool x)) ρ:=eI #[λh=>h.2,λh=>#[rfl,h]]
theorem L8{f:Str}:yE Ψ E w (.call f v) ρ=vB Ψ (.call f v) E ρ λx n h=>JE x n (w x h):=rfl
theorem Zg{y:yx}:yE Ψ E w (.bin y a b) ρ=vB Ψ (.bin y a b) E ρ λx n h=>JE x n (w x h):=rfl
theorem Yg{y:Z1}:yE Ψ E w (.cmp y a b) ρ=vB Ψ (.cmp y a b) E ρ λx n h=>JE x n (w x h):=rfl
theorem Kg:yE Ψ E w (.and a b) ρ=vB Ψ (.and a b) E ρ λx n h=>JE x n (w x h):=rfl
theorem iq:yE Ψ E w (.or a b) ρ=vB Ψ (.or a b) E ρ λx n h=>JE x n (w x h):=rfl
theorem Yq{f:Bi}:yE Ψ E w (.bi f v) ρ=vB Ψ (.bi f v) E ρ λx n h=>JE x n (w x h):=rfl
theorem Jg:yE Ψ E w (.idx a b) ρ=vB Ψ (.idx a b) E ρ λx n h=>JE x n (w x h):=rfl
theorem ng:yE Ψ E w (.lst v) ρ=vB Ψ (.lst v) E ρ λx n h=>JE x n (w x h):=rfl
theorem G8{h:List Bool}{y:LS}{u:Tg}{e:ItK}:yE Ψ E w (.comp h y u e its q g) ρ=vB Ψ (.comp h y u e its q g) E ρ λx n z=>JE x n (w x z):=rfl
theorem Sv{i:Nat}{s:Option Sl}{σ:zA}:uL (i+1) (s::σ) ρ K=uL i σ ρ K:=rfl
theorem jw{t:T}{σ:zA}:uL 0 (jy (.xx t)::σ) ρ K=K t js ρ:=rfl
theorem Tv{t:T}{σ:zA}:uL 0 (jy (.own t)::σ) ρ K=K t js ρ:=rfl
theorem Iv{i:Nat}{σ:zA}:uL i (lockA σ) ρ K=uL i σ ρ K:=by
 unfold uL lockA;rw[Qj];cases σ[i]? with
 |none=>rfl|some s=>cases s with|none=>rfl|some s=>cases s<;>rfl
theorem Ov{i j:Nat}{s:Option Sl}{σ:zA}:J3 (i+1) (s::σ) ρ j w=J3 i σ ρ j w:=rfl
theorem Rv{x:D}{j:Nat}{σ:zA}:J3 0 (bD x::σ) ρ j w=w (.d x) ρ:=eI #[λh=>h.2,λh=>#[rfl,h]]
theorem Pv{t:T}{j:Nat}{σ:zA}:J3 0 (jy (.own t)::σ) ρ j w=w t (ρ.set j jz):=rfl
theorem Eu{x:D}{n:Bool}:e9 (.d x) n Ψ b E ρ K=vB Ψ b E ρ K:=by cases n<;>rfl
theorem Tu{x:T}:e9 x jb Ψ b E ρ K=vB Ψ b E ρ K:=rfl
theorem Au{ts:LT}:e9 (.lst ts) js Ψ b E ρ K=vB Ψ b E (lockA ρ) λy m _=>K y m ρ:=rfl
theorem Gv{x:D}{n:Bool}{md:List Md}:tW (.d x) n Ψ b E md ρ M=DN Ψ b E md ρ M:=by cases n<;>rfl
theorem Dv{x:T}{md:List Md}:tW x jb Ψ b E md ρ M=DN Ψ b E md ρ M:=rfl
theorem Fv{ts:LT}{md:List Md}:tW (.lst ts) js Ψ b E md ρ M=DN Ψ b E md (lockA ρ) λxs _=>M xs ρ:=rfl
theorem Uv{x:D}{n:Bool}:Ks (.d x) n Ψ b E ρ M=DN Ψ b E [] ρ M:=by cases n<;>rfl
end
section
variable{Ψ:PEv}{E:XE}{ρ σ:zA}{Z:PEnds}{s r q:PT}{i:Nat}{e c its:PX}{o:Option Sl}{n:Bool}{v:D}{P:Prop}{z:List D}{x:T}
theorem dA:eB Ψ E .nil Z ρ=Z.nx ρ:=rfl
theorem jg:eB Ψ E (.seq (.set i e) r) Z (o::σ)=vB Ψ e E (o::σ) λx n h=>fY Ψ E r Z i x n h:=rfl
theorem vg:eB Ψ E (.seq (.own i e) r) Z (o::σ)=vB Ψ e E (o::σ) λx n h=>jo Ψ E r Z i x n h:=rfl
theorem F8:eB Ψ E (.seq (.expr e) r) Z (o::σ)=vB Ψ e E (o::σ) λ_ _ h=>eB Ψ E r Z h:=rfl
theorem zg:eB Ψ E (.seq (.ret e) r) Z (o::σ)=yE Ψ E Z.rt e (o::σ):=rfl
theorem yg{x:Str}{m:Option Nat}:eB Ψ E (.seq (.rse x m e) r) Z ρ=(Mb m ρ/\∃y,Ψ.va x=jy (ZH y)/\vB Ψ e E ρ λv _ _=>∃p,v=.d (.int p)/\E (y,p)):=rfl
theorem xg:eB Ψ E (.seq (.ife c s .nil) r) Z (o::σ)=kQ Ψ c E (o::σ) λk h=>if k=jb then eB Ψ E s { Z with nx:=λy=>eB Ψ E r Z y } h else eB Ψ E r Z h:=rfl
theorem ug{a:Tg}{f:ItK}:eB Ψ E (.seq (.for_ a f its q) r) Z (o::σ)=DN Ψ its E [] (o::σ) λxs h=>RN f xs λy =>
   if XI xs=jb then lI (eB Ψ E q) a { Z with nx:=λu=>eB Ψ E r Z (kill a.ix u) } y h
   else lI (eB Ψ E q) a { Z with nx:=λu=>A0 a.ix (TC h (CI its)) h (λb=>eB Ψ E r Z b) (kill a.ix u) } y (lock (TC h (CI its)) h):=rfl
theorem Vl:fY Ψ E r Z i (.d v) n ρ=eB Ψ E r Z (ρ.set i (bD v)):=eI #[λh=>h.2,λh=>#[by cases n<;>rfl,h]]
theorem Kl:fY Ψ E r Z i (.lst (z.map T.d)) jb ρ=eB Ψ E r Z (ρ.set i (bD (.list z))):=by unfold fY T.er;rw[fB];exact eI #[λh=>h.2,λh=>#[rfl,h]]
theorem bv:jo Ψ E r Z i x jb ρ=eB Ψ E r Z (ρ.set i (jy (.own x))):=eI #[λh=>h.2,λh=>#[rfl,h]]
theorem zw:JE (.d v) n P=P:=eI #[λh=>h.2,λh=>#[by cases n<;>rfl,h]]
theorem yw:JE x jb P=P:=eI #[λh=>h.2,λh=>#[rfl,h]]
theorem AW:(([]:LT)=[]/\P)=P:=eI #[λh=>h.2,λh=>#[rfl,h]]
theorem Io{A B:Prop}:(if(true:Bool)=jb then A else B)=A:=rfl
theorem xp{A B:Prop}:(if(false:Bool)=jb then A else B)=B:=rfl
theorem Vv{v h:Option Sl}:eB Ψ E r Z (QAT (h::σ) 0 v)=eB Ψ E r Z (v::σ):=rfl
theorem Kv{v h y:Option Sl}:eB Ψ E r Z (QAT (h::y::σ) 1 v)=eB Ψ E r Z (h::v::σ):=rfl
theorem Zv{v y h u:Option Sl}:eB Ψ E r Z (QAT (y::h::u::σ) 2 v)=eB Ψ E r Z (y::h::v::σ):=rfl
theorem Yv{v u y h a:Option Sl}:eB Ψ E r Z (QAT (u::y::h::a::σ) 3 v)=eB Ψ E r Z (u::y::h::v::σ):=rfl
theorem Jv{v a u y h b:Option Sl}:eB Ψ E r Z (QAT (a::u::y::h::b::σ) 4 v)=eB Ψ E r Z (a::u::y::h::v::σ):=rfl
theorem sv{v b a u y h f:Option Sl}:eB Ψ E r Z (QAT (b::a::u::y::h::f::σ) 5 v)=eB Ψ E r Z (b::a::u::y::h::v::σ):=rfl
theorem pv{v f b a u y h g:Option Sl}:eB Ψ E r Z (QAT (f::b::a::u::y::h::g::σ) 6 v)=eB Ψ E r Z (f::b::a::u::y::h::v::σ):=rfl
theorem nv{v g f b a u y h j:Option Sl}:eB Ψ E r Z (QAT (g::f::b::a::u::y::h::j::σ) 7 v)=eB Ψ E r Z (g::f::b::a::u::y::h::v::σ):=rfl
theorem gv{v j g f b a u y h l:Option Sl}:eB Ψ E r Z (QAT (j::g::f::b::a::u::y::h::l::σ) 8 v)=eB Ψ E r Z (j::g::f::b::a::u::y::h::v::σ):=rfl
theorem fv{v l j g f b a u y h m:Option Sl}:eB Ψ E r Z (QAT (l::j::g::f::b::a::u::y::h::m::σ) 9 v)=eB Ψ E r Z (l::j::g::f::b::a::u::y::h::v::σ):=rfl
end
section
variable{d:D}{n m:Bool}{i j:Int}{z y:Str}{b:Bool}{xs:List (T×Bool)}{ts:LT}{v w:List D}{md:List Md}{t:T}{C:LT->Prop}{Q:T->Bool->Prop}{L:Bool->Prop}{R:T->Prop}{W:LT->Prop}
theorem yX{α:Type}(f:α->D)(l:List α):l.map (λc=>T.d (f c))=(l.map f).map T.d:=by rw[wF];rfl
theorem LD:(uA (.lst (v.map T.d)) n).vw=.ls (v.map T.d):=by cases n;rfl;show Vw.ls ((ersT (v.map T.d)).map T.d)=_;rw[fB]
theorem Vg:dC md [] C=C []:=eE
theorem zv:dC [] ((.d d,n)::xs) C=dC [] xs λts=>C (.d d::ts):=by
 have e:BA [] ((.d d,n)::xs) []=(BA [] xs []).map (.d d::·):=by cases n<;>rfl
 unfold dC;rw[e,jI]
theorem jv:dC [] ((.lst (v.map T.d),jb)::xs) C=dC [] xs λts=>C (.d (.list v)::ts):=by have e:BA [] ((.lst (v.map T.d),jb)::xs) []=(BA [] xs []).map (.d (.list (ersT (v.map T.d)))::·):=rfl;unfold dC;rw[e,jI,fB]
theorem vv:dC (.xx::md) ((t,js)::xs) C=dC md xs λts=>C (t::ts):=by have e:BA (.xx::md) ((t,js)::xs) []=(BA md xs []).map (t::·):=rfl;unfold dC;rw[e,jI]
theorem Nh:OD (.lst (v.map T.d))=jy (.lst (v.map T.d)):=by simp only[OD,T.vw,gA,qC]
theorem Iu{u:T}(h:OD (uA t n)=jy u):dC (.xz::md) ((t,n)::xs) C=dC md xs λts=>C (u::ts):=by
 have e:BA (.xz::md) ((t,n)::xs) []=(BA md xs []).map (u::·):=by show(match OD (uA t n) with|some t=>(BA md xs []).map (t::·)|none=>jz)=_;rw[h]
 unfold dC;rw[e,jI]
theorem Zq:dC (.xz::md) ((.lst (v.map T.d),n)::xs) C=dC md xs λts=>C (.lst (v.map T.d)::ts):=Iu (by cases n;exact Nh;show OD (.d (.list (ersT (v.map T.d))))=_;rw[fB];simp only[OD,T.vw,gA,qC])
theorem Ug:XM [] C=C []:=eI #[λh=>h.2,λh=>#[rfl,h]]
theorem Cv:XM ((.d d,n)::xs) C=XM xs λts=>C (.d d::ts):=by show((MG (.d d) n&&FE xs)=jb/\C (.d d::zD xs))=(FE xs=jb/\C (.d d::zD xs));rw[show MG (.d d) n=jb by cases n<;>rfl,QAN]
theorem Eg{i j:Nat}{x y:D}{ρ:zA}{P:zA->Prop}:gf (.tp [i,j]) (.d (.tuple [x,y])) ρ P=P ((ρ.set i (bD x)).set j (bD y)):=eE
theorem Tp{h:Tg}{ρ:zA}{P:zA->Prop}:dN h t ρ P=gf h t ρ P:=rfl
theorem Lf:PB .Add (.d (.int i)) n (.d (.int j)) m Q=Q (.d (.int (i+j))) false:=by unfold PB;rw[kA,kA];exact Pk i j
theorem Hf:PB .Add (.d (.str z)) n (.d (.str y)) m Q=(z.length+y.length<=j1/\Q (.d (.str (z++y))) js):=by unfold PB;rw[kA,kA];exact Nk z y
theorem Vf:PB .Sub (.d (.int i)) n (.d (.int j)) m Q=Q (.d (.int (i - j))) false:=by unfold PB;rw[kA,kA];exact Hk i j
theorem Bf:PB .Mult (.d (.int i)) n (.d (.int j)) m Q=(ft i j/\Q (.d (.int (i * j))) js):=by unfold PB;rw[kA,kA];exact Gk i j
theorem Xf:PB .Mult (.d (.str z)) n (.d (.int j)) m Q=((-(2 ^ 31)<=j/\j<2 ^ 31/\z.length * j.toNat<=j1)/\Q (.d (.str (TH z j))) js):=by unfold PB;rw[kA,kA];exact Fk z j
theorem Gf:PB .FloorDiv (.d (.int i)) n (.d (.int j)) m Q=((0<j/\j<2 ^ 200)/\Q (.d (.int (i / j))) js):=by unfold PB;rw[kA,kA];exact Dk i j
theorem Cf:PB .Mod (.d (.int i)) n (.d (.int j)) m Q=(0<j/\Q (.d (.int (i % j))) js):=by unfold PB;rw[kA,kA];exact Ck i j
theorem Uf:PB .Pow (.d (.int i)) n (.d (.int j)) m Q=(E8 i j/\Q (.d (.int (i ^ j.toNat))) js):=by unfold PB;rw[kA,kA];exact Fc i j
theorem ul:PB .Add (.lst (v.map T.d)) n (.lst (w.map T.d)) m Q=(v.length+w.length<=j1/\Q (.lst ((v++w).map T.d)) jb):=by unfold PB;rw[LD,LD,g8,gA,gA];exact eI #[λ#[_,_,x,h,k]=>by cases x;cases h;exact k,λk=>#[_,_,rfl,rfl,k]]
theorem mq:PB .Add (.d (.tuple v)) n (.d (.tuple w)) m Q=((v≠[]/\w≠[]/\v.length+w.length<=j1)/\Q (.d (.tuple (v++w))) js):=by unfold PB;rw[kA,kA];show binT .Add (.tp (v.map T.d)) (.tp (w.map T.d)) Q=_;rw[Mk,gA,gA];exact eI #[λ#[_,_,e,a,u,x,h,k]=>by cases e;cases a;exact#[#[u,x,h],k],λ#[#[u,x,h],k]=>#[_,_,rfl,rfl,u,x,h,k]]
theorem tq:PB .Add t n (.lst [.d d]) m Q=PB .Add t n (.lst ([d].map T.d)) m Q:=rfl
theorem Ff:PB .Add (.lst [.d d]) n t m Q=PB .Add (.lst ([d].map T.d)) n t m Q:=rfl
theorem pq{e:D}:PB .Add t n (.lst [.d d,.d e]) m Q=PB .Add t n (.lst ([d,e].map T.d)) m Q:=rfl
theorem Do:ZF [.d d]=.d (.tuple [d]):=rfl
theorem uf:OC .Eq (.d (.int i)) (.d (.int j)) L=L (decide (i=j)):=rfl
theorem xf:OC .Eq (.d (.str z)) (.d (.str y)) L=L (decide (z=y)):=rfl
theorem Re:OC .NotEq (.d (.int i)) (.d (.int j)) L=L (!decide (i=j)):=rfl
theorem Pe:OC .NotEq (.d (.str z)) (.d (.str y)) L=L (!decide (z=y)):=rfl
theorem Mp:OC .Lt (.d (.int i)) (.d (.int j)) L=L (decide (i<j)):=rfl
theorem Np:OC .LtE (.d (.int i)) (.d (.int j)) L=L (decide (i<=j)):=rfl
theorem Ee:OC .Is (.d .none) (.d .none) L=L true:=rfl
theorem jf:OC .Is (.d (.int i)) (.d .none) L=L false:=rfl
theorem Ae:OC .Is (.d (.tuple v)) (.d .none) L=L false:=rfl
theorem Ie:OC .Is (.lst ts) (.d .none) L=L false:=rfl
theorem Me:OC .IsNot (.d .none) (.d .none) L=L false:=rfl
theorem Oe:OC .IsNot (.d (.list v)) (.d .none) L=L true:=rfl
theorem vf:OC .In (.d (.str z)) (.d (.str y)) L=L (inStr y z):=rfl
theorem yf:OC .In (.d (.str z)) (.d (.tuple v)) L=(((zB (.str z)=jb/\v.all zB=jb)∨(oG (.str z)/\oG (.list v)))/\L (v.any λy=>Qz y (.str z))):=rfl
theorem x8:OC .NotIn (.d (.str z)) (.d (.tuple v)) L=(((zB (.str z)=jb/\v.all zB=jb)∨(oG (.str z)/\oG (.list v)))/\L (!(v.any λy=>Qz y (.str z)))):=rfl
theorem zf:OC .In (.d (.str z)) (.lst (v.map T.d)) L=(((zB (.str z)=jb/\v.all zB=jb)∨(oG (.str z)/\oG (.list v)))/\L (v.any λy=>Qz y (.str z))):=by unfold OC T.er;rw[fB];rfl
theorem c8:OC .In (.d .none) (.lst (v.map T.d)) L=(((zB .none=jb/\v.all zB=jb)∨(oG .none/\oG (.list v)))/\L (v.any λy=>Qz y .none)):=by unfold OC T.er;rw[fB];rfl
theorem Bu:d9 (.d (.bool b)) L=L b:=rfl
theorem Ou:xu (.d (.bool b)) L=L b:=rfl
theorem Ej{x:Str}{k:String}(h:isD k d=jy b)(hk:BO k=jb):P6 (.bty x k) (.d d) L=L b:=by show(∃b,isD k d=jy b/\BO k=jb/\L b)=_;exact eI #[λ#[_,e,_,q]=>by rw[h]at e;cases e;exact q,λq=>#[_,h,hk,q]]
theorem gp{x:Str}:P6 (.bty x "int") (.d (.int i)) L=L true:=Ej rfl rfl
theorem Jp{x:Str}:P6 (.bty x "bool") (.d (.int i)) L=L false:=Ej rfl rfl
theorem bp{x:Str}:P6 (.bty x "tuple") (.d (.tuple v)) L=L true:=Ej rfl rfl
theorem fe:GJ .len [(.d (.str z),n)] Q=(z.length<=j1/\Q (.d (.int z.length)) js):=by unfold GJ XB;rw[kA];exact vq z
theorem Yo:GJ .len [(.d (.list v),n)] Q=Q (.d (.int v.length)) false:=by unfold GJ XB;rw[kA];refine(sf _).trans ?_;rw[QG]
theorem uo:GJ .len [(.d (.tuple v),n)] Q=Q (.d (.int v.length)) false:=by unfold GJ XB;rw[kA];refine(kq _).trans ?_;rw[QG]
theorem Jo:GJ .len [(.lst (v.map T.d),n)] Q=Q (.d (.int v.length)) false:=by unfold GJ XB;rw[LD];refine(sf _).trans ?_;rw[QG]
theorem ae:GJ .all [(.lst (v.map T.d),n)] Q=∃bs:List Bool,v=bs.map PyData.bool/\Q (.d (.bool (bs.all id))) false:=by unfold GJ XB;rw[LD];refine(zq _).trans ?_;simp only[gA,Qu]
theorem Vo:GJ .int [(.d (.bool b),n)] Q=Q (.d (.int (if b then 1 else 0))) false:=by unfold GJ XB;rw[kA];exact yq b
theorem Ko:GJ .int [(.d (.str z),n)] Q=(z.length<=640/\iF (intText? z) λi=>Q (.d (.int i)) js):=by unfold GJ XB;rw[kA];exact jq z
theorem ao:GJ .str [(.d (.int i),n)] Q=(i.natAbs.log2<1920/\Q (.d (.str (eg i))) js):=by unfold GJ XB;rw[kA];exact Ip i
theorem mo:GJ .str [(.d (.str z),n)] Q=Q (.d (.str z)) false:=by unfold GJ XB;rw[kA];exact Ep z
theorem Ku:DE (.lst (v.map T.d)) n (.d (.int i)) m R=iF (zC v i) λd=>R (.d d):=by unfold DE;rw[LD,kA];refine(u7 _ _).trans ?_;show iF (zC (v.map T.d) i) R=_;rw[cG,jI]
theorem Tl:DE (.d (.list v)) n (.d (.int i)) m R=iF (zC v i) λd=>R (.d d):=by unfold DE;rw[kA,kA];refine(u7 _ _).trans ?_;show iF (zC (v.map T.d) i) R=_;rw[cG,jI]
theorem vh:DE (.d (.tuple v)) n (.d (.int i)) m R=iF (zC v i) λd=>R (.d d):=by unfold DE;rw[kA,kA];refine(v7 _ _).trans ?_;show iF (zC (v.map T.d) i) R=_;rw[cG,jI]
theorem jm{e:D}:DE (.lst [.d d,.d e]) n t m R=DE (.lst ([d,e].map T.d)) n t m R:=rfl
theorem Zu:DE (.d (.str z)) n (.d (.int i)) m R=(z.length<=j1/\iF (zC z.cps.toList i) λc=>R (.d (.str #[(List.toArray [c])]))):=by unfold DE;rw[kA,kA];exact Aj _ _
theorem Du{l u:Option Int}:GF (.d (.str z)) n l u Q=(z.length<=j1/\Q (.d (.str (W8 z l u))) js):=by unfold GF;rw[kA];exact Hh z
theorem Ds{l u:Option Int}:GF (.d (.list v)) n l u Q=Q (.lst ((ND v l u).map T.d)) true:=by unfold GF;rw[kA];refine(Gh _).trans ?_;rw[gA];exact eE
theorem Cs{l u:Option Int}(h:ND v l u=w):GF (.d (.list v)) n l u Q=Q (.lst (w.map T.d)) true:=by rw[<- h];exact Ds
theorem Lo:y9 .split (.d (.str z)) n [(.d (.str y),m)] Q=((z.length<=j1/\0<y.length/\(qS z y).length<=j1)/\Q (.lst (((qS z y).map Jx).map T.d)) jb):=by unfold y9 XB;rw[kA,kA];refine(Bo z y).trans ?_;rw[and_assoc,and_assoc]
theorem Go{P:Prop}:(XQ .split (uA (.d (.str z)) n).vw=jb/\P)=P:=eI #[λh=>h.2,λh=>#[x6 rfl,h]]
theorem Vu:RN .val [(.d (.str z),n)] W=W (z.cps.toList.map λc=>.d (.str #[(List.toArray [c])])):=by unfold RN XB;rw[kA];exact O6 z
theorem Xu:RN .val [(.d (.list v),n)] W=W (v.map T.d):=by unfold RN XB;rw[kA];exact tS _
theorem vm:RN .val [(.lst (v.map T.d),n)] W=W (v.map T.d):=by unfold RN XB;rw[LD];exact tS _
theorem km:RN .rng1 [(.d (.int j),n)] W=((-(2 ^ 62)<=j/\j<2 ^ 62)/\W ((Qe j.toNat).map λ(i:Nat)=>.d (.int (i:Int)))):=by unfold RN XB;rw[kA];exact M6 j
theorem o0{x y:Vw}(u:x.seq=jy (v.map T.d))(h:y.seq=jy (w.map T.d)):nC .zip2 [x,y] W=W ((v.zip w).map λp=>.d (.tuple [p.1,p.2])):=by rw[L6];exact eI #[λ#[_,_,_,_,g,f,e,a,k]=>by rw[u]at g;rw[h]at f;cases g;cases f;rw[gA]at e a;cases e;cases a;exact k,λk=>#[_,_,_,_,u,h,gA _,gA _,k]]
theorem ym:RN .zip2 [(.d (.tuple v),n),(.d (.tuple w),m)] W=W ((v.zip w).map λp=>.d (.tuple [p.1,p.2])):=by unfold RN XB XB;rw[kA,kA];exact o0 rfl rfl
theorem ud:RN .zip2 [(.d (.tuple v),n),(.lst (w.map T.d),m)] W=W ((v.zip w).map λp=>.d (.tuple [p.1,p.2])):=by unfold RN XB XB;rw[kA,LD];exact o0 rfl rfl
theorem xm:RN .enumA [(.d (.list v),n),(.d (.int i),m)] W=((0<=i/\i<2 ^ 62)/\W (v.zipIdx.map λp=>.d (.tuple [.int ((i.toNat+p.2:Nat):Int),p.1]))):=by unfold RN XB XB;rw[kA,kA];refine(G6 _ _).trans ?_;exact eI #[λ#[_,_,x,h,k]=>by cases x;rw[gA]at h;cases h;exact k,λk=>#[_,_,rfl,gA _,k]]
theorem ze{Ψ:PEv}{x:Str}{u:List (Str×D)}(h:Ψ.dc x=jy u):nG Ψ (.dget x) [(.d (.str z),n)] Q=Q (.d ((u.lookup z).getD .none)) false:=by unfold nG UD;rw[kA];refine(Yi x z).trans ?_;rw[h];exact eE
theorem iU{Ψ:PEv}{x:Str}{u:List (Str×D)}(h:Ψ.dc x=jy u)(e:(u.lookup z).getD .none=d):nG Ψ (.dget x) [(.d (.str z),n)] Q=Q (.d d) false:=by rw[<- e];exact ze h
theorem Ni{Ψ:PEv}{x:Str}{u:List (Str×D)}(h:Ψ.dc x=jy u)(e:u.lookup z=jy d):nG Ψ (.dix x) [(.d (.str z),n)] Q=Q (.d d) false:=by unfold nG UD;rw[kA];refine(Ji x z).trans ?_;rw[h];exact eI #[λ#[_,_,f,a,k]=>by cases f;rw[e]at a;cases a;exact k,λk=>#[_,_,rfl,e,k]]
theorem Rn{Ψ:PEv}:nG Ψ .tmul [(.d (.tuple v),n),(.d (.int i),m)] Q=((v≠[]/\1<=i/\i<2 ^ 31/\v.length * i.toNat<=j1)/\Q (.d (.tuple (QI i.toNat v).flatten)) js):=by unfold nG UD UD;rw[kA,kA];refine(ai v i).trans ?_;exact eI #[λ#[u,x,h]=>#[#[u,x],h],λ#[#[u,x],h]=>#[u,x,h]]
noncomputable def eZ(Q:T->LT->Prop):PEnds:={ nx:=λ_=>Q (.d .none) [],rt:=λt _=>Q t [] }
theorem Fe{Q:T->LT->Prop}{t:T}{ρ:zA}:(eZ Q).rt t ρ=Q t []:=rfl
theorem Ge{Q:T->LT->Prop}{ρ:zA}:(eZ Q).nx ρ=Q (.d .none) []:=rfl
theorem rA{Ψ:PEv}{b:PT}{p:PSp}{N ps:LS}{v:LT}{Q:T->LT->Prop}(ρ:zA)(h:pF Ψ b (eZ Q) ρ)(hl:autoParam (v.length=ps.length) zzr._auto_1)(hc:autoParam (yC 0 p.md ps.length=[]) zzr._auto_1)(x:autoParam (OA N p.md v=ρ) zzr._auto_1):v.length=ps.length/\pF Ψ b (sC p ps.length Q) (OA N p.md v):=by
 have e:sC p ps.length Q=eZ Q:=by unfold sC;rw[hc];rfl
 rw[e,x];exact#[hl,h]
end
noncomputable def yr:T->Bool
 | .d .none=>jb|.d (.bool _)=>jb|.d (.int _)=>jb|.d (.str _)=>jb|_=>js
noncomputable def xY(P:PSp)(md:List Md):PSp where
 md:=md
 run:=λx Q E=>P.run (x.map λ(t:T)=>T.d t.er) (λr os=>yr r=jb/\Q r []) E
 mono:=λ{x Q Q' E E'} h g q=>P.mono (Q:=λr _=>yr r=jb/\Q r []) (Q':=λr _=>yr r=jb/\Q' r []) (E:=E) (E':=E') (λ_ _ q=>#[q.1,h _ _ q.2]) g q
section
variable{K:QC}{F H:Hp}
theorem t8{Y:pA}{x:Hp}(i:Same F x)(g:∀b,Y b->F b=jz->x b=H b):∀{md:List Md}{vs:LV}{ts:LT},(md.all λm=>!m.isMut)=jb->ArgsR K F H Y md vs ts->ArgsR K x H (λ_=>False) [] vs (ts.map λ(t:T)=>T.d t.er):=by
 intro md vs ts y h;induction h with
 |nil=>exact .nil|@chg md v vs t ts e _ _ =>
  exfalso;cases md with|nil=>cases e|cons m md=>have e:m=.chg:=e;subst e;cases y
 |@rd md v vs t ts Z e r z _ f =>
  rw[QN];refine .rd (Z:=λ_=>False) (by simp) (.d (r.kept i λb u a e=>?_) λ_ z=>z) (λ_ z=>z) (f ?_);rw[g b (z b a) (r.dom b a).2];exact e;cases md with|nil=>rfl|cons m md=>exact(jA y).2
theorem bJ:∀{md:List Md}(vs:LV),(md.all λm=>!m.isMut)=jb->AA md vs=[]
 |md,[],_=>by cases md<;>rfl|[],v::vs,h=>by rw[AA];exact bJ vs rfl|m::md,v::vs,h=>by
  let#[y,x]:=jA h;rw[AA];cases m with|chg=>cases y|_=>exact bJ vs x
theorem JM:∀{md:List Md}(vs:LT),(md.all λm=>!m.isMut)=jb->UB md vs=[]
 |md,[],_=>by cases md<;>rfl|[],v::vs,h=>by rw[UB];exact JM vs rfl|m::md,v::vs,h=>by
  let#[y,x]:=jA h;rw[UB];cases m with|chg=>cases y|_=>exact JM vs x
theorem Tr.ownB:(∀{st:Bool}{v:V}{t:T}{S:pA},Tr K F H st v t S->∀b,S b->∃vs,H b=jy (.lst vs)∨H b=jy (.tup vs))/\∀{st:Bool}{vs:LV}{ts:LT}{S:pA},Trs K F H st vs ts S->∀b,S b->∃vs,H b=jy (.lst vs)∨H b=jy (.tup vs) :=
 Tr.ind (λ_ n b z=>(n b z).elim) (λh _ _ _ e i b z=>((e b).mp z).elim (λz=>by subst z;exact#[_,.inl h]) (i b)) (λh _ _ _ e i b z=>((e b).mp z).elim (λz=>by subst z;exact#[_,.inr h]) (i b)) (λ_ _ n b z=>(n b z).elim) (λn b z=>(n b z).elim) (λ_ _ _ e i j b z=>((e b).mp z).elim (i b) (j b))
theorem Tr.own:∀{st:Bool}{v:V}{t:T}{S:pA},Tr K F H st v t S->∀b,S b->∃vs,H b=jy (.lst vs)∨H b=jy (.tup vs):=(Tr.ownB ).1
theorem Trs.own:∀{st:Bool}{vs:LV}{ts:LT}{S:pA},Trs K F H st vs ts S->∀b,S b->∃vs,H b=jy (.lst vs)∨H b=jy (.tup vs):=(Tr.ownB ).2
theorem ArgsR.own{Y:pA}{md:List Md}{vs:LV}{ts:LT}(h:ArgsR K F H Y md vs ts):ArgsR K F H (λb=>Y b/\∃vs,H b=jy (.lst vs)∨H b=jy (.tup vs)) md vs ts:=by
 induction h with|nil=>exact .nil|chg e _ x=>exact .chg e x|rd e r z _ x=>exact .rd e r (λb y=>#[z b y,r.own b y]) x
theorem V6{P:PSp}{md:List Md}(hP:P.md=[])(S:(md.all λm=>!m.isMut)=jb){vs:LV}{Q:VK}{E:XK}(h:lift K (xY P md) vs H Q E):lift K P vs H Q E:=by
 let#[F,J,M,Y0,fh,O,mt,dj,s]:=h;obtain⟨Y,hY,O⟩:∃Y:j2->Prop,(∀b,Y b->∃vs,H b=jy (.lst vs)∨H b=jy (.tup vs))/\ArgsR K F H Y (xY P md).md vs J:=#[_,λb z=>z.2,O.own]
 have N:Same F (gF F H λb=>Y b/\F b=jz):=uE λb X=>X.2;refine#[gF F H (λb=>Y b/\F b=jz),J.map λ(t:T)=>T.d t.er,λ_=>False,λ_=>False,nX fh,?_,?_,λ_ z=>z.elim,?_];rw[hP];exact t8 N (λb X hf=>rD #[X,hf]) S O;rw[hP,bJ _ rfl,JM _ rfl];exact .nil λ_ z=>z;have s:P.run (J.map λ(t:T)=>T.d t.er) (λr _=>yr r=jb/\∀v o l Z I,Frm M F H o l->Tr K o l jb v r Z->Trs K o l jb (AA md vs) [] I->(∀b,Z b->¬ I b)->(∀b,Z b∨I b->M b∨H b=jz)->Q v l) (λx=>∀j o l,Frm M F H o l->Sc K o l x j->E .none j l):=s;refine P.mono (λr os #[sc,q] v o l Z I p tr _ _ _=>?_) (λx q j o l p xr=>?_) s;let#[a,rfl,rp]:=xr;let#[a',C,j,e,G,B,h3]:=rp.exc_i;cases e;have R:∀b u,F b=jy u->o b=jy u:=λb u z=>p.ff b u (N b u z);have A:∀b u,(b=a∨b=j)->o b=jy u->gF F o (λb=>(b=a∨b=j)/\F b=jz) b=jy u:=λb u X z=>by
  by_cases n:F b=jz;rw[rD #[X,n]];exact z;rw[aB λq=>n q.2];cases f:F b with|none=>exact eN f n|some w=>rw[R b w f]at z;exact z
 refine q (jy a) (gF F o λb=>(b=a∨b=j)/\F b=jz) l #[uE λb X=>X.2,λb u e=>?_,λb u e _=>p.hh b u e λz=>z,p.dm,λb e z=>?_] #[a,rfl,.exc (A a _ (.inl rfl) G) (A j _ (.inr rfl) B) h3];by_cases w:(b=a∨b=j)/\F b=jz
 ·rw[rD (W:=λb=>(b=a∨b=j)/\F b=jz) w]at e;exact p.fh b u e
 rw[aB (W:=λb=>(b=a∨b=j)/\F b=jz) w]at e;exact p.fh b u (R b u e);by_cases w:(b=a∨b=j)/\F b=jz
 ·by_cases g:gF F H (λb=>Y b/\F b=jz) b=jz
  ·refine .inr ((p.fn b g ?_).elim (λz=>z.elim) id)
   rcases w.1 with rfl|rfl;rw[G];exact λz=>by cases z
   rw[B];exact λz=>by cases z
  exfalso;by_cases y:Y b/\F b=jz;let#[vs,hv]:=hY b y.1;have e2:∀u,H b=jy u->o b=jy u:=λu hu=>p.ff b u (by rw[rD (W:=λb=>Y b/\F b=jz) y];exact hu);rcases w.1 with rfl|rfl<;>rcases hv with hv|hv<;>have z:=e2 _ hv;rw[G]at z;cases z;rw[G]at z;cases z;rw[B]at z;cases z;rw[B]at z;cases z;rw[aB (W:=λb=>Y b/\F b=jz) y]at g;exact g e
 rw[aB (W:=λb=>(b=a∨b=j)/\F b=jz) w]at z;exact eN e z;have L:Frm M F H F l:=#[.refl _,(N.trans p.ff).trans p.fh,λb u e _=>p.hh b u e λz=>z,p.dm,λb e z=>eN e z]
 refine q v F l (λ_=>False) (λ_=>False) L ?_ (by rw[bJ _ S];exact .nil λ_ z=>z) (λ_ z=>z.elim) (λ_ z=>z.elim (λz=>z.elim) λz=>z.elim);cases tr with
 |d r n =>
  cases r with|non=>exact .d .non λ_ z=>z|bl b=>exact .d (.bl b) λ_ z=>z|int i=>exact .d (.int i) λ_ z=>z|str x=>exact .d (.str x) λ_ z=>z|_=>cases sc
 |_=>cases sc
theorem gE.tmp{P:Kz}{w:kl}{z:Str->Option j0}{y:kt}{Ψ Ψ':PEv}{x:Str}{k:Nat}{md:List Md}(h:gE P w K z y Ψ k x)(b:(Ψ.sp x).md=[])(a:(md.all λm=>!m.isMut)=jb)(e:Ψ'.sp x=xY (Ψ.sp x) md):gE P w K z y Ψ' k x:=by let#[f,j,u,i,g]:=h;refine#[f,j,u,?_,g];rw[e];exact i.imp λvs H Q E q=>V6 b a q
end
section
variable{Ψ:PEv}{E:XE}{ρ σ:zA}{o:Option Sl}{K:TK}{L:Bool->zA->Prop}{M:List (T×Bool)->zA->Prop}{a b c e v its h u:PX}{w:T->zA->Prop}{r s:PT}{Z:PEnds}{j:Nat}
theorem D8{x:LN}:eB Ψ E (.seq (.frz x s) r) Z (o::σ)=eB Ψ E (.seq s r) Z (frzAt x (o::σ)):=rfl
theorem Ef:eB Ψ E (.seq (.six j a e) r) Z (o::σ)=eF (o::σ)[j]? λt=>vB Ψ e E ((o::σ).set j (jy (.xx t))) λx n f=>JE x n (vB Ψ a E f λy m z=>JE y m (z[j]?=jy (jy (.xx t))/\jr t y.er x.er λt'=>eB Ψ E r Z (z.set j (jy (.own t'))))):=rfl
theorem kg:eB Ψ E (.seq (.pap j a e) r) Z (o::σ)=eF (o::σ)[j]? λt=>vB Ψ a E ((o::σ).set j (jy (.xx t))) λy m f=>JE y m (Mi t y.er λus n ts=>vB Ψ e E f λx l z=>JE x l (z[j]?=jy (jy (.xx t))/\ts.length<j1/\eB Ψ E r Z (z.set j (jy (.own (.tup (us.set n (.lst (ts++[x]))))))))):=rfl
theorem P8:vB Ψ (.mt .join a v) E ρ K=vB Ψ a E ρ λx n f=>XQ .join (uA x n).vw=jb/\Ks x n Ψ v E f λxs y=>y9 .join x n xs λz k=>K z k y:=rfl
theorem DT:vB Ψ (.mt .extend (.vx j) v) E ρ K=eF ρ[j]? λt=>cJ .extend t=jb/\DN Ψ v E [] (ρ.set j (jy (.xx t))) λxs x=>FE xs=jb/\x[j]?=jy (jy (.xx t))/\ZM .extend t (zD xs) λr s'=>K r jb (x.set j (jy (.own s'))):=rfl
theorem CT:vB Ψ (.mt .insert (.vx j) v) E ρ K=eF ρ[j]? λt=>cJ .insert t=jb/\DN Ψ v E [] (ρ.set j (jy (.xx t))) λxs x=>FE xs=jb/\x[j]?=jy (jy (.xx t))/\ZM .insert t (zD xs) λr s'=>K r jb (x.set j (jy (.own s'))):=rfl
theorem Og{x:List Bool}{y:LS}{i:Tg}{l:ItK}:vB Ψ (.eff (.comp x y i l its u h)) E ρ K=((isNop u=jb/\(x.all λb=>!b)=jb/\(i.ix.all λj=>decide (j<y.length))=jb)/\DN Ψ its E [] ρ λxs g=>XI xs=jb/\RN l xs λz=>aJ i y.length (pe Ψ h (λ_=>False)).e z [] g λm f=>K (.lst (m.map T.d)) jb f):=rfl
theorem dg:yE Ψ E w (.tup v) ρ=vB Ψ (.tup v) E ρ λx n y=>JE x n (w x y):=rfl
theorem fg:yE Ψ E w (.slc a b c) ρ=vB Ψ (.slc a b c) E ρ λx n y=>JE x n (w x y):=rfl
theorem gq{b:Bool}{m:List Bool}{t:Str}{x:T}{R:Option T->Prop}:EO Ψ E (b::m) [t] (.nm 0) .nop h ρ x R=vB Ψ h E (jy (.xx x)::PD (b::m) (lockA ρ)) λy n _=>JE y n (R (jy y)):=rfl
theorem Av{i:Nat}{b:Bool}{m:List Bool}{s:Option Sl}{σ:zA}:uL (i+1) (PD (b::m) (lockA (s::σ))) ρ K=uL i (PD m (lockA σ)) ρ K:=rfl
theorem Gq{m:List Bool}{s:Option Sl}{σ:zA}:uL 0 (PD (false::m) (lockA (s::σ))) ρ K=uL 0 (lockA (s::σ)) ρ K:=rfl
end
section
variable{d:D}{v w:List D}{n m:Bool}{xs:List (T×Bool)}{C:LT->Prop}{Q:T->Bool->Prop}{R:T->Prop}{L:Bool->Prop}{t u:T}{z y:Str}{i k:Int}
theorem Bv:XM ((.lst (v.map T.d),jb)::xs) C=XM xs λts=>C (.lst (v.map T.d)::ts):=by show((MG (.lst (v.map T.d)) jb&&FE xs)=jb/\C (.lst (v.map T.d)::zD xs))=(FE xs=jb/\C (.lst (v.map T.d)::zD xs));rw[show MG (.lst (v.map T.d)) jb=jb from rfl,QAN]
theorem Gw{ts:LT}:XM ((.lst ts,jb)::xs) C=XM xs λus=>C (.lst ts::us):=by show((MG (.lst ts) jb&&FE xs)=jb/\C (.lst ts::zD xs))=(FE xs=jb/\C (.lst ts::zD xs));rw[show MG (.lst ts) jb=jb from rfl,QAN]
theorem Co{e:D}:ZF [.d d,.d e]=.d (.tuple [d,e]):=rfl
theorem Op:OC .Gt (.d (.int i)) (.d (.int k)) L=L (decide (k<i)):=rfl
theorem Pp:OC .GtE (.d (.int i)) (.d (.int k)) L=L (decide (k<=i)):=rfl
theorem kf:OC .In (.d (.str z)) (.d (.list v)) L=(((zB (.str z)=jb/\v.all zB=jb)∨(oG (.str z)/\oG (.list v)))/\L (v.any λy=>Qz y (.str z))):=rfl
theorem u8:OC .NotIn (.d (.str z)) (.d (.list v)) L=(((zB (.str z)=jb/\v.all zB=jb)∨(oG (.str z)/\oG (.list v)))/\L (!(v.any λy=>Qz y (.str z)))):=rfl
theorem Se{ws:List D}:OC .In (.d (.tuple ws)) (.d (.list v)) L=(((zB (.tuple ws)=jb/\v.all zB=jb)∨(oG (.tuple ws)/\oG (.list v)))/\L (v.any λy=>Qz y (.tuple ws))):=rfl
theorem re:GJ .any [(.lst (v.map T.d),n)] Q=∃bs:List Bool,v=bs.map PyData.bool/\Q (.d (.bool (bs.any id))) false:=by unfold GJ XB;rw[LD];show(∃x,∃bs:List Bool,[Vw.ls (v.map T.d)]=[.ls x]/\BE x=jy (bs.map PyData.bool)/\_)=_;exact eI #[λ#[_,bs,e,h,q]=>by cases e;rw[gA]at h;cases h;exact#[bs,rfl,q],λ#[bs,e,q]=>#[_,bs,rfl,by rw[e,gA],q]]
theorem me:GJ .list [(.d (.tuple v),n)] Q=Q (.lst (v.map T.d)) true:=by unfold GJ XB;rw[kA];exact eI #[λh=>h.elim (λ#[_,_,e,_]=>(by cases e)) λ#[_,_,e,h,q]=>by cases e;rw[gA]at h;cases h;exact q,λq=>.inr #[_,_,rfl,gA _,q]]
theorem ce:GJ .tuple [(.lst (v.map T.d),n)] Q=Q (.d (.tuple v)) false:=by unfold GJ XB;rw[LD];exact eI #[λ#[_,_,e,h,q]=>by cases e;rw[gA]at h;cases h;exact q,λq=>#[_,_,rfl,gA _,q]]
theorem de:GJ .tuple [(.d (.list v),n)] Q=Q (.d (.tuple v)) false:=by unfold GJ XB;rw[kA];exact eI #[λ#[_,_,e,h,q]=>by cases e;rw[gA]at h;cases h;exact q,λq=>#[_,_,rfl,gA _,q]]
theorem rj{ys:LS}:y9 .join (.d (.str z)) n [(.lst ((ys.map Jx).map T.d),m)] Q=((ys.map (·.length)).sum+ys.length * z.length<=16777216/\Q (.d (.str (we z ys))) js):=by unfold y9 XB;rw[kA,LD];exact eI #[λ#[_,_,_,f,x,h,l,q]=>by cases f;cases x;rw[gA]at h;injection h with h;rw[List.map_inj_right λa b e=>by injection e]at h;subst h;exact#[l,q],λ#[l,q]=>#[_,_,ys,rfl,rfl,gA _,l,q]]
theorem Mo{ys:LS}:y9 .join (.d (.str z)) n [(.d (.list (ys.map Jx)),m)] Q=((ys.map (·.length)).sum+ys.length * z.length<=16777216/\Q (.d (.str (we z ys))) js):=by
 have:y9 .join (.d (.str z)) n [(.d (.list (ys.map Jx)),m)] Q=y9 .join (.d (.str z)) n [(.lst ((ys.map Jx).map T.d),js)] Q:=by unfold y9 XB;rw[kA,kA];rfl
 rw[this,rj]
theorem Ho{P:Prop}:(XQ .join (uA (.d (.str z)) n).vw=jb/\P)=P:=eI #[λh=>h.2,λh=>#[x6 rfl,h]]
theorem Il{e f:D}:DE (.lst [.d d,.d e,.d f]) n t m R=DE (.lst ([d,e,f].map T.d)) n t m R:=rfl
theorem El{e f g:D}:DE (.lst [.d d,.d e,.d f,.d g]) n t m R=DE (.lst ([d,e,f,g].map T.d)) n t m R:=rfl
theorem Al{e f g h k:D}:DE (.lst [.d d,.d e,.d f,.d g,.d h,.d k]) n t m R=DE (.lst ([d,e,f,g,h,k].map T.d)) n t m R:=rfl
theorem Bs{l u:Option Int}(h:¬ (HT.sIx v.length 0 l=0/\HT.sIx v.length v.length u=v.length)):GF (.d (.tuple v)) n l u Q=Q (.d (.tuple (ND v l u))) false:=by unfold GF;rw[kA];exact(Fh _).trans (eI #[λ#[_,e,_,q]=>by rw[gA]at e;cases e;exact q,λq=>#[_,gA _,h,q]])
theorem zm{W:LT->Prop}:RN .val [(.d (.tuple v),n)] W=W (v.map T.d):=by unfold RN XB;rw[kA];exact N6 _
theorem j5{Ψ:PEv}{x:Str}{a:List (Str×D)}(h:Ψ.dc x=jy a){e:D}(f:(a.lookup z).getD d=e):nG Ψ (.dgetD x) [(.d (.str z),n),(.d d,m)] Q=Q (.d e) false:=by subst f;unfold nG UD UD;rw[kA,kA];exact eI #[λ#[_,_,_,g,b,q]=>by cases g;rw[h]at b;cases b;exact q,λq=>#[_,_,_,rfl,h,q]]
end
theorem yW:∀{ks ls:LS}{y h:List D},ks.length=y.length->ls.length=h.length->OG ks y=OG ls h->ks=ls/\y=h
 |[],[],[],[],_,_,_=>#[rfl,rfl]|[],_::_,[],_::_,_,_,e=>by cases e|_::_,[],_::_,[],_,_,e=>by cases e|k::ks,l::ls,d::y,x::h,h1,h2,e=>by have e:(Jx k,d)::OG ks y=(Jx l,x)::OG ls h:=e;injection e with e1 e2;injection e1 with e1 e3;injection e1 with e1;let#[rfl,rfl]:=yW (Wj h1) (Wj h2) e2;exact#[by rw[e1],by rw[e3]]
def J9(x:T)(n:Bool)(Ψ:PEv)(b:PX)(E:XE)(ρ:zA)(K:Option Int->zA->Prop):Prop:=sq (α:=Option Int) (uA x n) ρ (λρ R=>(pe Ψ b E).e ρ λl _ h=>yD l.er λo=>R o h) K
section
variable{Ψ:PEv}{E:XE}{ρ σ:zA}{o:Option Sl}{K:TK}{L:Bool->zA->Prop}{M:List (T×Bool)->zA->Prop}{a b c e v:PX}{w:T->zA->Prop}{r s:PT}{Z:PEnds}{j:Nat}{i:Nat}
theorem Mf{o:Prm}:kQ Ψ (.prm o v) E ρ L=vB Ψ (.prm o v) E ρ λt _ h=>d9 t λb=>L b h:=rfl
theorem C8{i j:Nat}:eB Ψ E (.seq (.setL i j e) r) Z (o::σ)=vB Ψ e E (o::σ) λx n h=>JE x n (∃a b,x.er=.list [a,b]/\eB Ψ E r Z ((h.set i (bD a)).set j (bD b))):=rfl
theorem bg{ks:LS}{k:Str}{i:Nat}:eB Ψ E (.dpx i ks v k e r) Z (o::σ)=DN Ψ v E [] (o::σ) λxs h=>(ks.Nodup/\ks.length<=15/\ks.length=xs.length/\XI xs=jb)/\(k∉ks/\ks.length<=14/\h[i]?=jy jz)/\vB Ψ e E h λx n y=>JE x n (eB Ψ E r Z (y.set i (bD (.dict (OG (ks++[k]) (ersT (zD xs)++[x.er])))))):=rfl
theorem Zl{p:PSp}{x f:Str}{q:Option Nat}{k:Nat}(h:Ψ.sp f=p)(m:p.md=[])(hv:Ψ.va x=jy (ZH "WorldError")):eB Ψ E (.seq (.tryC q f v x j k) r) Z (o::σ)=((j≠k/\(o::σ)[k]?=jy jz)/\DN Ψ v (λ_=>False) [] (o::σ) λxs z=>z=o::σ/\dC [] xs λts=>p.run ts (λt _=>eB Ψ E r Z (Nm q t (o::σ))) λy=>eB Ψ E r Z ((o::σ).set j (bD (VF y.1 y.2)))):=by show(_/\Ψ.va x=_/\xA (Ψ.sp f).md v=[]/\(pe Ψ v (λ_=>False)).a (Ψ.sp f).md (o::σ) λxs z=>z=(o::σ)/\∃ts,BA (Ψ.sp f).md xs []=jy ts/\(Ψ.sp f).run ts _ _)=_;rw[h,m];have l:xA [] v=[]:=fO;exact eI #[λ#[g,_,_,u]=>#[g,u],λ#[g,u]=>#[g,hv,l,u]]
theorem yd(g:isNop b=js):vB Ψ (.slc a b .nop) E ρ K=vB Ψ a E ρ λx n y=>J9 x n Ψ b E y λl h=>GF x n l jz λz k=>K z k h:=by
 have:∀x n y,(sq (α:=Option Int) (uA x n) y (if isNop b=jb then λρ (R:Option Int->zA->Prop)=>R jz ρ else λρ R=>(pe Ψ b E).e ρ λl _ h=>yD l.er λo=>R o h) λl h=>sq (uA x n) h (λρ (R:Option Int->zA->Prop)=>R jz ρ) λu f=>sE (uA x n).vw l u λz k=>K z k f)=J9 x n Ψ b E y λl h=>GF x n l jz λz k=>K z k h:=by
  intro x n y;unfold J9 GF;rw[g];have:∀(h:zA) (l:Option Int),(sq (uA x n) h (λρ (R:Option Int->zA->Prop)=>R jz ρ) λu f=>sE (uA x n).vw l u λz k=>K z k f)=sE (uA x n).vw l jz λz k=>K z k h:=by intro h l;unfold sq;split<;>rfl
  simp only[this];rfl
 exact e6 (λk=>(pe Ψ a E).e ρ k) (funext λx=>funext λn=>funext λy=>this x n y)
theorem zd(g:isNop b=js):vB Ψ (.slc a .nop b) E ρ K=vB Ψ a E ρ λx n h=>J9 x n Ψ b E h λu y=>GF x n jz u λz k=>K z k y:=by
 have:∀x n h,(sq (α:=Option Int) (uA x n) h (λρ (R:Option Int->zA->Prop)=>R jz ρ) λl y=>sq (α:=Option Int) (uA x n) y (if isNop b=jb then λρ (R:Option Int->zA->Prop)=>R jz ρ else λρ R=>(pe Ψ b E).e ρ λl _ y=>yD l.er λo=>R o y) λu f=>sE (uA x n).vw l u λz k=>K z k f)=J9 x n Ψ b E h λu y=>GF x n jz u λz k=>K z k y:=by
  intro x n h;unfold J9 GF;rw[g];have:∀(k:Option Int->zA->Prop),(sq (α:=Option Int) (uA x n) h (λρ (R:Option Int->zA->Prop)=>R jz ρ) k)=k jz h:=by intro k;unfold sq;split<;>rfl
  rw[this];rfl
 exact e6 (λk=>(pe Ψ a E).e ρ k) (funext λx=>funext λn=>funext λh=>this x n h)
theorem VT{k:Nat}:vB Ψ (.slc a (.vx k) .nop) E ρ K=vB Ψ a E ρ λx n y=>J9 x n Ψ (.vx k) E y λl h=>GF x n l jz λz k=>K z k h:=yd rfl
theorem XT{k:Nat}:vB Ψ (.slc a .nop (.vx k)) E ρ K=vB Ψ a E ρ λx n y=>J9 x n Ψ (.vx k) E y λl h=>GF x n jz l λz k=>K z k h:=zd rfl
theorem Mm{x:D}{n:Bool}{W:Option Int->zA->Prop}:J9 (.d x) n Ψ b E ρ W=vB Ψ b E ρ λy _ h=>yD y.er λo=>W o h:=by cases n<;>rfl
theorem On{i:Int}{W:Option Int->Prop}:yD (T.er (.d (.int i))) W=W (jy i):=rfl
end
section
variable{Ψ:PEv}{d:D}{v w:List D}{n m:Bool}{xs:List (T×Bool)}{C:LT->Prop}{Q:T->Bool->Prop}{R:T->Prop}{L:Bool->Prop}{t u:T}{z y:Str}{i k:Int}
theorem Xp:T.er (.d d)=d:=rfl
theorem Sn:nG Ψ .plc [(.d (VF z i),n)] Q=Q (.d (.int i)) false:=by unfold nG UD;rw[kA];exact eI #[λ#[_,_,e,q]=>by cases e;exact q,λq=>#[z,i,rfl,q]]
theorem En:nG Ψ .isC [(.d (VF z i),n),(.d (ZH y),m)] Q=Q (.d (.bool (decide (y=z∨y="WorldError")))) false:=by unfold nG UD UD;rw[kA,kA];exact eI #[λ#[_,_,_,e,q]=>by cases e;exact q,λq=>#[z,i,y,rfl,q]]
theorem An{x:Str}:nG Ψ (.isT x "ValueError") [(.d (VF z i),n)] Q=Q (.d (.bool jb)) false:=by
 unfold nG UD;rw[kA];have h:FN.contains (.type "ValueError")=true:=by decide +kernel
 exact eI #[λ#[_,_,_,e,q]=>by cases e;rw[h]at q;exact q,λq=>#[rfl,z,i,rfl,by rw[h];exact q]]
theorem Rs{ks:LS}(h:ks≠[]/\ks.length=v.length)(hd:(ks.zip v).lookup z=jy d):nG Ψ .dgt [(.d (.dict (OG ks v)),n),(.d (.str z),m)] Q=Q (.d d) false:=by unfold nG UD UD;rw[kA,kA];refine eI #[λ#[_,x,b,_,e,a,g,q]=>?_,λq=>#[z,ks,v,d,rfl,h,hd,q]];injection e with e1 e2;injection e2 with e2 _;injection e1 with e1;injection e1 with e1;injection e2 with e2;injection e2 with e2;let#[rfl,rfl]:=yW h.2 a.2 e1;subst e2;rw[hd]at g;cases g;exact q
theorem nq:PB .Mult (.lst (v.map T.d)) n (.d (.int k)) m Q=((-(2 ^ 31)<=k/\k<2 ^ 31/\v.length * k.toNat<=j1)/\Q (.lst ((QI k.toNat v).flatten.map T.d)) jb):=by
 unfold PB;rw[LD,kA];refine eI #[λh=>?_,λh=>.inr (.inr #[_,_,_,rfl,rfl,gA _,h])];rcases h with⟨_,_,e,_⟩| ⟨_,_,e,_⟩| ⟨_,_,_,b,a,x,h⟩
 cases e;cases e;cases b;cases a;rw[gA]at x;cases x;exact h
theorem Df:PB .Mult (.lst [.d d]) n t m Q=PB .Mult (.lst ([d].map T.d)) n t m Q:=rfl
theorem ml:PB .Add (.d (.list v)) n (.lst (w.map T.d)) m Q=(v.length+w.length<=j1/\Q (.lst ((v++w).map T.d)) jb):=by unfold PB;rw[kA,LD];show binT .Add (.ls (v.map T.d)) (.ls (w.map T.d)) Q=_;rw[g8,gA,gA];exact eI #[λ#[_,_,x,h,k]=>by cases x;cases h;exact k,λk=>#[_,_,rfl,rfl,k]]
theorem oq{e f:D}:PB .Add t n (.lst [.d d,.d e,.d f]) m Q=PB .Add t n (.lst ([d,e,f].map T.d)) m Q:=rfl
theorem b8:OC .NotEq (.d (.list v)) (.lst (w.map T.d)) L=(oG (.list v)/\oG (.list w)/\L (!PyData.eqv (.list v) (.list w))):=by unfold OC T.er;rw[fB];rfl
theorem Te:OC .Is (.d (VF z i)) (.d .none) L=L false:=rfl
end
end L2.L3
namespace L2.L3.Lib
open PySem PySem.Spec PyProof.Rows L2 L2.L3
noncomputable def DJ:LS:=["word","allowed"]
noncomputable def CH:LS:=["word","allowed"]
noncomputable def KQ:Need:=#[[],[],["all"],[]]
noncomputable def vG:PT :=
  %[.ret (.bi .all %[.comp [] ["sign"] (.nm 0) .val %[.vx 0|1] .nop (.cmp .In (.vx 0) (.vx 2))|1])|2]
noncomputable def sP:LS:=["word"]
noncomputable def uM:LS:=["word"]
noncomputable def NY:Need:=#[["is_made_of"],["LETTERS","MOST_LETTERS"],["len"],[]]
noncomputable def aK:PT :=
  %[.ret (.and (.chn .LtE .LtE (.int 1) (.bi .len %[.vx 0|1]) (.glo "MOST_LETTERS")) (.call "is_made_of" %[.vx 0,.glo "LETTERS"|1]))|2]
noncomputable def eP:LS:=["word"]
noncomputable def cM:LS:=["word"]
noncomputable def PY:Need:=#[["is_word"],["KEYWORDS"],[],[]]
noncomputable def eK:PT :=
  %[.ret (.and (.call "is_word" %[.vx 0|1]) (.cmp .NotIn (.vx 0) (.glo "KEYWORDS")))|2]
noncomputable def CJ:LS:=["_law_heads"]
noncomputable def BH:LS:=[]
noncomputable def ZQ:Need:=#[[],[],[],[]]
noncomputable def zG:PT :=
  %[.set 0 (.str "person matter against see tell by at who what since tellers wordings apart leans hidden strike quote"),.ret (.bin .Add (.mt .split (.vx 0) %[.str " "|1]) (.lst %[.str "ground",.str "cut"|1]))|2]
noncomputable def AK:LS:=["word"]
noncomputable def II:LS:=["word"]
noncomputable def vS:Need:=#[["is_made_of"],["FIGURES","MOST_FIGURES"],["len","int"],[]]
noncomputable def jH:PT :=
  %[.ife (.or (.not (.chn .LtE .LtE (.int 1) (.bi .len %[.vx 0|1]) (.glo "MOST_FIGURES"))) (.not (.call "is_made_of" %[.vx 0,.glo "FIGURES"|1]))) %[.ret .non|2] .nil,.ife (.and (.cmp .Eq (.idx (.vx 0) (.int 0)) (.str "0")) (.cmp .NotEq (.vx 0) (.str "0"))) %[.ret .non|2] .nil,.ret (.bi .int %[.vx 0|1])|2]
noncomputable def cF(w a:Str):Bool:=w.cps.toList.all λc=>decide (c∈a.cps.toList)
noncomputable def xE:Str:="abcdefghijklmnopqrstuvwxyz"
noncomputable def mB(w:Str):Bool:=decide (1<=w.length)&&(decide (w.length<=8)&&cF w xE)
noncomputable def keys:LS:=["person","matter","against","see","tell","by","at","who","what","since","tellers","wordings","apart","leans","hidden","strike","quote","ground","cut"]
noncomputable def YA(w:Str):Bool:=mB w&&!((keys.map Jx).any λy=>Qz y (.str w))
noncomputable def pC:PSp where
 run:=λh Q _=>∃w a:Str,h=[.d (.str w),.d (.str a)]/\w.length<=j1/\Q (.d (.bool (cF w a))) []
noncomputable def kD:PSp where
 run:=λh Q _=>∃w:Str,h=[.d (.str w)]/\w.length<=j1/\Q (.d (.bool (mB w))) []
noncomputable def rE:PSp where
 run:=λh Q _=>∃w:Str,h=[.d (.str w)]/\w.length<=j1/\Q (.d (.bool (YA w))) []
noncomputable def GC:PSp where
 run:=λh Q _=>h=[]/\Q (.lst ((keys.map Jx).map T.d)) []
theorem eG{w a:Str}{K:T->LT->Prop}{E:XE}(hl:w.length<=j1):RJ pC [.d (.str w),.d (.str a)] K E=K (.d (.bool (cF w a))) []:=eI #[λ#[_,_,e,_,q]=>by cases e;exact q,λq=>#[w,a,rfl,hl,q]]
theorem ON{Ψ:PEv}:RK Ψ vG pC DJ CH:=by rintro _ Q _ ⟨w,a,rfl,hl,q⟩;refine rA [bD (.str w),bD (.str a)] ?_;delta vG;simp![↓dA];refine NC (λc=>.d (.str #[(List.toArray [c])])) (λc=>.d (.bool (decide (c∈a.cps.toList)))) _ _ _ (λc _ R h=>?_) (by simpa[QCV]using hl) ?_;simp![↓dA];exact h;rw[Qt,yX];simp![↓dA];refine#[w.cps.toList.map λc=>decide (c∈a.cps.toList),by rw[wF];rfl,?_];rw[QCw];exact q
theorem JK{w:Str}{K:T->LT->Prop}{E:XE}(hl:w.length<=j1):RJ kD [.d (.str w)] K E=K (.d (.bool (mB w))) []:=eI #[λ#[_,e,_,q]=>by cases e;exact q,λq=>#[w,rfl,hl,q]]
theorem VU{Ψ:PEv}(z:Ψ.sp "is_made_of"=pC)(a:Ψ.va "LETTERS"=jy (.str xE))(u:Ψ.va "MOST_LETTERS"=jy (.int 8))(ds Q E)(h:kD.run ds Q E) :
  tu Ψ aK kD sP uM ds Q:=by
 let#[w,rfl,hl,q]:=h;refine rA [bD (.str w)] ?_;delta aK;simp![↓fA (md:=[]) z rfl rfl,↓TD a,↓TD u,↓eG hl];refine#[hl,?_];unfold mB at q;split;rename_i z;have y:decide (1<=w.length)=true:=by simp at z ⊢;omega
 rw[y]at q;split;rename_i h2;have x:decide (w.length<=8)=true:=by simp at h2 ⊢;omega
 rw[x]at q;exact q;rename_i h2;have x:decide (w.length<=8)=false:=by simp at h2 ⊢;omega
 rw[x]at q;exact q;rename_i z;have y:decide (1<=w.length)=false:=by simp at z ⊢;omega
 rw[y]at q;exact q
theorem KO:(keys.map Jx).all zB=true:=by rfl
theorem ZR{w:Str}{K:T->LT->Prop}{E:XE}(hl:w.length<=j1):RJ rE [.d (.str w)] K E=K (.d (.bool (YA w))) []:=eI #[λ#[_,e,_,q]=>by cases e;exact q,λq=>#[w,rfl,hl,q]]
theorem UU{Ψ:PEv}(z:Ψ.sp "is_word"=kD)(y:Ψ.va "KEYWORDS"=jy (.tuple (keys.map Jx)))(ds Q E)(h:rE.run ds Q E) :
  tu Ψ eK rE eP cM ds Q:=by
 let#[w,rfl,hl,q]:=h;refine rA [bD (.str w)] ?_;delta eK;simp![↓fA (md:=[]) z rfl rfl,↓TD y,↓JK hl];unfold YA at q;cases x:mB w with|true=>rw[x]at q;exact#[.inl #[rfl,KO],q]|false=>rw[x]at q;exact q
theorem iR:qS (QA "person matter against see tell by at who what since tellers wordings apart leans hidden strike quote") (QA " ")=keys.take 17:=by decide +kernel
theorem SI{K:T->LT->Prop}{E:XE}:RJ GC [] K E=K (.lst ((keys.map Jx).map T.d)) []:=eI #[λ#[_,q]=>q,λq=>#[rfl,q]]
theorem SR{Ψ:PEv}:RK Ψ zG GC CJ BH:=by rintro _ Q _ ⟨rfl,q⟩;refine rA [jz] ?_;delta zG;simp![iR];exact#[by decide +kernel,by decide +kernel,by decide +kernel,by decide,by decide +kernel,q]
theorem lZ(xs:List (Array Nat)):∀(h:Array Nat),(xs.foldl (·++·) h).toList=h.toList++(xs.map QCo).flatten:=by
 induction xs with|nil=>intro h;simp|cons a xs x=>intro h;rw[WI,x];simp
theorem AL(x:Str)(k:Int):(TH x k).cps.toList=(QI k.toNat x.cps.toList).flatten:=by
 unfold TH Txt.mul;split;rename_i h;have:k.toNat=0:=()
 rw[this];rfl;rename_i h;split;rename_i y;rw[qk]at y;rcases y with y|y;have:k=1:=by simpa using y
 subst this;simp;have z:x.length=0:=by simpa using y
 have:x.cps.toList=[]:=by
  have:x.cps.toList.length=0:=by rw[Q4];exact z
  exact Wt.mp this
 rw[this];simp;show((QI k.toNat x.cps).foldl (·++·) #[]).toList=_;rw[lZ];simp
theorem TL(x:Str)(k:Int):(TH x k).length=k.toNat * x.length:=by have h:=e6 WH (AL x k);rw[Q4,aL,Q4]at h;exact h
noncomputable def EF:Str:="0123456789"
noncomputable def CO(w:Str):Bool:=decide (1<=w.length)&&(decide (w.length<=9)&&(cF w EF&&(w.cps.toList.head? != jy 48||decide (w.length=1))))
noncomputable def mC(w:Str):Int:=((QCg w.cps.toList:Nat):Int)
noncomputable def KG(w:Str):D:=if CO w=jb then .int (mC w) else .none
noncomputable def PC:PSp where
 run:=λh Q _=>∃w:Str,h=[.d (.str w)]/\w.length<=j1/\Q (.d (KG w)) []
theorem nZ:EF.cps.toList=(Qe 10).map (·+48):=by decide +kernel
theorem rX(c:Nat):decide (c∈EF.cps.toList)=(decide (48<=c)&&decide (c<=57)):=by rw[nZ,<- Bool.decide_and];refine decide_eq_decide.mpr #[λh=>?_,λh=>Qm.mpr #[c - 48,qV.mpr (),()]];let#[i,x,rfl]:=Qm.mp h;have:=qV.mp x;omega
theorem TV{w:Str}(h:cF w EF=jb):QCh w.cps.toList:=by intro c hc;have:=Qo.mp h c hc;rw[rX,QX]at this;exact#[ei this.1,ei this.2]
theorem V0:QA "0"=#[(List.toArray [48])]:=by decide +kernel
theorem LI{a b:Str}(h:a.cps.toList=b.cps.toList):a=b:=by let#[a]:=a;let#[b]:=b;exact e6 Str.mk (QBJ.mp h)
theorem UH{w:Str}{d:D}{K:T->LT->Prop}{E:XE}(hl:w.length<=j1)(h:KG w=d):RJ PC [.d (.str w)] K E=K (.d d) []:=by subst h;exact eI #[λ#[_,e,_,q]=>by cases e;exact q,λq=>#[w,rfl,hl,q]]
theorem rQ{Ψ:PEv}(s:Ψ.sp "is_made_of"=pC)(p:Ψ.va "FIGURES"=jy (.str EF))(o:Ψ.va "MOST_FIGURES"=jy (.int 9))(ds Q E)(h:PC.run ds Q E) :
  tu Ψ jH PC AK II ds Q:=by
 let#[w,rfl,hl,q]:=h;refine rA [bD (.str w)] ?_;delta jH;simp![↓fA (md:=[]) s rfl rfl,↓TD p,↓TD o,↓eG hl];refine#[hl,?_];unfold KG CO at q;by_cases m:1<=w.length;have u:decide ((1:Int)<=(w.length:Int))=true:=by simp;omega
 rw[dT m]at q;simp only[u,wz,Qp,if_false,if_true];by_cases l:w.length<=9;have f:decide ((w.length:Int)<=9)=true:=by simp;omega
 rw[dT l]at q;simp only[f,wz,Qp,if_false];cases b:cF w EF with
 |false=>rw[b]at q;exact q|true =>
  rw[b]at q;simp only[wz,Qp,if_false];refine#[hl,?_];have x:w.cps.toList.length=w.length:=Q4;cases hc:w.cps.toList with
  |nil=>rw[hc]at x;simp at x;omega|cons c i =>
   refine iF.mk (a:=c) (NA (j:=0) rfl) ?_;rw[hc]at q x;rw[V0];have Y:decide ((#[(List.toArray [c])]:Str)=#[(List.toArray [48])])=decide (c=48):=by by_cases z:c=48;subst z;simp;have:¬ (#[(List.toArray [c])]:Str)=#[(List.toArray [48])]:=λe=>z (by injection e with e;injection e with e;injection e);rw[dF this,dF z]
   rw[Y];have X:decide (w=#[(List.toArray [48])])=(decide (c=48)&&decide (w.length=1)):=by
    by_cases z:w=#[(List.toArray [48])];rw[dT z];rw[z]at hc;injection hc with hc1 hc2;subst hc1;rw[z];rfl;rw[dF z];symm;rw[Bool.and_eq_false_iff];by_cases y:c=48;refine .inr (dF λZ=>z ?_);subst y;apply LI;rw[hc];have:i=[]:=by
     cases i with|nil=>rfl|cons _ _=>simp at x;omega
    rw[this];exact .inl (dF y)
   rw[X];have fin:(w.length<=640/\∃n,intText? w=jy n/\Q (.d (.int n)) [])↔Q (.d (.int (mC w))) []:=by have e:intText? w=jy (mC w):=PySem.intText_digits (TV b) (by rw[hc];simp) ();constructor;rintro⟨_,n,u,q⟩;rw[e]at u;cases u;exact q;intro q;exact#[(),_,e,q]
   by_cases z:c=48;subst z;by_cases y:w.length=1;rw[dT y]at q ⊢;simp only[decide_true,QCL,wz,Qp,if_false,if_true];refine fin.mpr ?_;simpa using q;rw[dF y]at q ⊢;simp only[decide_true,QAn,WW,if_true];simpa using q;rw[dF z];simp only[Qp,if_false];refine fin.mpr ?_;have:((jy c:Option Nat) != jy 48)=true:=by simp[z]
   have r:(if(jb&&(jb&&(jb&&(((jy c:Option Nat) != jy 48)||decide (w.length=1)))))=jb then Jy (mC w) else PyData.none)=Jy (mC w):=by rw[this];rfl
   have g:Q (.d (if(jb&&(jb&&(jb&&(((jy c:Option Nat) != jy 48)||decide (w.length=1)))))=jb then Jy (mC w) else PyData.none)) []:=q;rw[r]at g;exact g
 have f:decide ((w.length:Int)<=9)=false:=by simp;omega
 rw[dF l]at q;simp only[f,WW,if_true];exact q;have u:decide ((1:Int)<=(w.length:Int))=false:=by simp;omega
 rw[dF m]at q;simp only[u,WW,if_true];exact q
noncomputable def wc:LN->LN->List (LN)
 |[],cur=>if cur.isEmpty then[] else[cur]|c::cs,cur=>if c=32 then(if cur.isEmpty then wc cs [] else cur::wc cs []) else wc cs (cur++[c])
theorem KP:∀(w r x:LN),32∉w->wc (w++r) x=wc r (x++w)
 |[],r,x,_=>by simp|c::w,r,x,h=>by have hc:¬ c=32:=λe=>h (by simp[e]);rw[Wc,wc,eH hc,KP w r _ λz=>h (QH _ z)];simp
theorem aR(r h:LN):wc (32::r) h=(if h.isEmpty then[] else[h])++wc r []:=by rw[wc,ef rfl];split<;>simp
theorem MJ:∀(n:Nat) (r:LN),wc (QI n 32++r) []=wc r []
 |0,r=>rfl|n+1,r=>by rw[Qf,Wc,aR,MJ n r];rfl
noncomputable def XO:List (LN)->LN
 |[]=>[]|[x]=>x|x::y::r=>x++32::XO (y::r)
theorem ZP:∀(ps:List (LN)),(∀p∈ps,32∉p)->wc (XO ps) []=ps.filter λp=>!p.isEmpty
 |[],_=>rfl|[x],h=>by
  have:=KP x [] [] (h x (by simp));rw[Qd]at this;rw[XO,this];cases x with|nil=>rfl|cons _ _=>rfl
 |x::y::r,h=>by
  rw[XO,KP _ _ _ (h x (by simp)),aR,ZP (y::r) λp z=>h p (QH _ z)];cases x with|nil=>rfl|cons _ _=>rfl
theorem cI:∀(ps:LS),(QAl #[(List.toArray [32])] ps).cps.toList=XO (ps.map λp=>p.cps.toList)
 |[]=>rfl|[x]=>rfl|x::y::r=>by show((x.cps++(List.toArray [32]))++(QAl #[(List.toArray [32])] (y::r)).cps).toList=_;have h:=cI (y::r);rw[QN]at h;rw[QN,QN,XO,<- h];simp
noncomputable def wordsOf(r:Str):LS:=(qS r #[(List.toArray [32])]).filter λw=>decide (w≠#[#[]])
theorem VH(r:Str):(wordsOf r).map (λw=>w.cps.toList)=wc r.cps.toList []:=by
 have h:=cI (qS r #[(List.toArray [32])]);rw[QCM]at h;rw[h,ZP _ λp y=>by let#[q,x,rfl]:=Qm.mp y;exact QCN r 32 q x];unfold wordsOf;rw[List.filter_map];congr 1;apply List.filter_congr;intro w _;let#[#[l]]:=w;cases l with|nil=>rfl|cons a l=>simp[Function.comp]
theorem jP{a:LS}:∀{ws:LS},a.map (λw=>w.cps.toList)=ws.map (λw=>w.cps.toList)->a=ws:=by
 induction a with
 |nil =>
  intro ws e;cases ws with|nil=>rfl|cons _ _=>simp at e
 |cons x a h =>
  intro ws e;cases ws with|nil=>simp at e|cons y ws=>simp only[QN,wb]at e;rw[LI e.1,h e.2]
theorem OH{r:Str}{ws:LS}(h:wc r.cps.toList []=ws.map λw=>w.cps.toList):wordsOf r=ws:=jP ((VH r).trans h)
noncomputable def UC(n:Int):Str:=QA (eg n)
theorem ZG(m:Nat):QCh (UC (m:Int)).cps.toList:=by intro c hc;unfold UC at hc;rw[WO]at hc;let#[x,h,e]:=Qm.mp hc;rw[<- e];exact digit_range (Nat.isDigit_of_mem_toDigits (by decide) (by decide) h)
theorem jS(m:Nat):QCg (UC (m:Int)).cps.toList=m:=by unfold UC;rw[WO];exact PySem.W.KIN.val_back m
theorem jN:∀(h:LN),(h.dropWhile (·==48)).length<=h.length
 |[]=>QU _|c::h=>by rw[QB2];split;exact Nat.le_succ_of_le (jN h);exact QU _
theorem DY(m:Nat):((UC (m:Int)).cps.toList.head? != jy 48||decide ((UC (m:Int)).length=1))=true:=by
 have hd:=ZG m;have hv:=jS m;have z:(UC (m:Int)).cps.toList=(QCx 10 m).map Char.toNat:=WO m;have hl:(UC (m:Int)).cps.toList.length=(UC (m:Int)).length:=Q4;generalize (UC (m:Int)).cps.toList=cs at hd hv z hl;have y:=NumText.toDigits_all cs hd;rw[hv]at y;cases cs with
 |nil=>rfl|cons c r =>
  by_cases e:c=48;subst e;have h:(QCx 10 m).length=r.length+1:=by have:=e6 WH z;rw[QG]at this;rw[<- this];rfl
  rw[y,QB2]at h;have x:=jN r;simp only[beq_self_eq_true,if_true]at h;have:r.length=0:=by revert h;split;rename_i h0;intro h;simp at h;exact h.symm▸rfl;rename_i c2 r2 h0;intro h;rw[h0]at x;rw[QG]at h;omega
  rw[<- hl,QJ,this];rfl;have:((jy c:Option Nat) != jy 48)=true:=by simp[e]
  show((jy c:Option Nat) != jy 48||_)=jb;rw[this];rfl
theorem sM{n:Int}(h:0<=n)(y:n<=999999999):1<=(UC n).length/\(UC n).length<=9:=by refine#[?_,toString_length_le h (by decide) (by rw[show(10:Int) ^ 9=1000000000 from rfl];omega)];let#[m,rfl]:=wV h;have x:(UC (m:Int)).cps.toList=(QCx 10 m).map Char.toNat:=WO m;have hl:(UC (m:Int)).cps.toList.length=(UC (m:Int)).length:=Q4;rw[x,QG]at hl;rw[<- hl];exact Nat.length_toDigits_pos
theorem FU{n:Int}(h:0<=n)(a:n<=999999999):KG (UC n)=.int n:=by
 let#[y,x]:=sM h a;let#[m,rfl]:=wV h;have u:cF (UC (m:Int)) EF=true:=by unfold cF;rw[Qo];intro c hc;have:=ZG m c hc;rw[rX,dT this.1,dT this.2];rfl
 have z:CO (UC (m:Int))=true:=by unfold CO;rw[dT y,dT x,u,DY m];rfl
 unfold KG;rw[ef z];unfold mC;rw[jS]
noncomputable def iN:LS:=["row"]
noncomputable def YK:LS:=["row"]
noncomputable def PU:Need:=#[[],[],[],[]]
noncomputable def tI:PT :=
  %[.ret (.comp [] ["word"] (.nm 0) .val %[.mt .split (.vx 0) %[.str " "|1]|1] (.cmp .NotEq (.vx 0) (.str "")) (.vx 0))|2]
noncomputable def XN:LS:=["words","form","quoted"]
noncomputable def FK:LS:=["words"]
noncomputable def IU:Need:=#[[],["MOST_QUOTED"],["len"],["FORMS"]]
noncomputable def xG:PT :=
  %[.ret (.bin .Add (.bin .Add (.vx 1) (.tup %[.str "by"|1])) (.prm .tmul %[.tup %[.str "name"|1],.vx 2|1]))|2]
noncomputable def uG:PT :=
  %[.ife (.chn .LtE .LtE (.int 1) (.vx 2) (.glo "MOST_QUOTED")) xG .nil,.ret (.vx 1)|2]
noncomputable def bG:PT :=
  (.seq (.set 1 (.prm (.dget "FORMS") %[.idx (.vx 0) (.int 0)|1]))
  (.seq (.ife (.cmp .NotEq (.idx (.vx 0) (.int 0)) (.str "tell")) %[.ret (.vx 1)|2] .nil)
  (.seq (.set 2 (.bin .Sub (.bin .Sub (.bi .len %[.vx 0|1]) (.bi .len %[.vx 1|1])) (.int 2)))
  uG)))
noncomputable def mG:LS:=["bounds","word","number"]
noncomputable def aF:LS:=["bounds","word"]
noncomputable def vL:Need:=#[["number_in"],[],[],[]]
noncomputable def XC:PT :=
  %[.set 2 (.call "number_in" %[.vx 1|1]),.ife (.or (.cmp .Is (.vx 2) .non) (.not (.chn .LtE .LtE (.idx (.vx 0) (.int 0)) (.vx 2) (.idx (.vx 0) (.int 1))))) %[.ret .non|2] .nil,.ret (.vx 2)|2]
noncomputable def FJ:LS:=["values","pair"]
noncomputable def DH:LS:=["values"]
noncomputable def VQ:Need:=#[[],[],[],["UNLIKE"]]
noncomputable def fE:PT :=
  %[.set 1 (.prm (.dget "UNLIKE") %[.idx (.vx 0) (.int 0)|1]),.ret (.or (.cmp .Is (.vx 1) .non) (.cmp .NotEq (.idx (.vx 0) (.idx (.vx 1) (.int 0))) (.idx (.vx 0) (.idx (.vx 1) (.int 1)))))|2]
theorem DZ:QA " "=#[(List.toArray [32])]:=by decide +kernel
theorem YZ:QA ""=#[#[]]:=by decide +kernel
noncomputable def HE:PSp where
 run:=λh Q _=>∃r:Str,h=[.d (.str r)]/\r.length<=100000/\Q (.lst ((wordsOf r).map λw=>.d (.str w))) []
theorem MP{r:Str}{K:T->LT->Prop}{E:XE}(hl:r.length<=100000):RJ HE [.d (.str r)] K E=K (.lst (((wordsOf r).map Jx).map T.d)) []:=by rw[<- yX];exact eI #[λ#[_,e,_,q]=>by cases e;exact q,λq=>#[r,rfl,hl,q]]
theorem LR{Ψ:PEv}:RK Ψ tI HE iN YK:=by rintro _ Q _ ⟨r,rfl,hl,q⟩;refine rA [bD (.str r)] ?_;delta tI;simp![DZ,YZ];refine#[(),by decide,?_,?_];have:=QDe r #[(List.toArray [32])];omega;rw[wF];refine jG (λw:Str=>T.d (.str w)) (λw=>T.d (.str w)) (λw=>decide (w≠#[#[]])) _ _ _ (λw _ R h=>?_) ?_ q;simp![↓dA];by_cases e:w=#[#[]];subst e;simpa using h;rw[dF e];simp only[WW,if_true];simpa[e]using h;have:=QDe r #[(List.toArray [32])];simp;omega
noncomputable def HC(a b:Int)(w:Str):D:=match KG w with
 | .int n=>if(decide (a<=n)&&decide (n<=b))=jb then .int n else .none|_=>.none
noncomputable def xC:PSp where
 run:=λh Q _=>∃(a b:Int) (w:Str),h=[.d (.tuple [.int a,.int b]),.d (.str w)]/\w.length<=j1/\Q (.d (HC a b w)) []
theorem RI{a b:Int}{w:Str}{K:T->LT->Prop}{E:XE}(hl:w.length<=j1):RJ xC [.d (.tuple [.int a,.int b]),.d (.str w)] K E=K (.d (HC a b w)) []:=eI #[λ#[_,_,_,e,_,q]=>by cases e;exact q,λq=>#[a,b,w,rfl,hl,q]]
theorem uK{Ψ:PEv}(z:Ψ.sp "number_in"=PC):RK Ψ XC xC mG aF:=by
 rintro _ Q _ ⟨a,b,w,rfl,hl,q⟩;refine rA [bD (.tuple [.int a,.int b]),bD (.str w),jz] ?_;have f:zC [Jy a,.int b] 0=jy (.int a):=rfl;have u:zC [Jy a,.int b] 1=jy (.int b):=rfl;unfold HC at q;cases h:CO w with
 |false =>
  have e:KG w=.none:=by unfold KG;rw[h];rfl
  rw[e]at q;delta XC;simp![↓fA (md:=[]) z rfl rfl,↓UH hl e];exact q
 |true =>
  have e:KG w=.int (mC w):=by unfold KG;rw[h];rfl
  rw[e]at q;have q:Q (.d (if(decide (a<=mC w)&&decide (mC w<=b))=jb then .int (mC w) else .none)) []:=q;delta XC;simp![↓fA (md:=[]) z rfl rfl,↓UH hl e,↓gC f,↓gC u];cases y:decide (a<=mC w) with
  |false=>rw[y]at q;exact q|true =>
   rw[y]at q;cases x:decide (mC w<=b) with|false=>rw[x]at q;exact q|true=>rw[x]at q;exact q
noncomputable def gI:List (Str×LS):=[("person",["name","rank","floor","needs"]),("matter",["name"]),("against",["name","name"]),("see",["time","name","name","word"]),("tell",["time","name","name","name","word"])]
noncomputable def LQ:List (Str×D):=gI.map λp=>(p.1,.tuple (p.2.map Jx))
noncomputable def ED:List (Str×D):=[("against",.tuple [.int 1,.int 2]),("tell",.tuple [.int 2,.int 3])]
noncomputable def FR:Option (LS)->D
 |none=>.none|some f=>.tuple (f.map Jx)
theorem mS{α h:Type}(f:α->h)(x:Str):∀(l:List (Str×α)),(l.map λp=>(p.1,f p.2)).lookup x=(l.lookup x).map f
 |[]=>rfl|p::r=>by
  let#[a,b]:=p;rw[QN,Qg,Qg];cases x==a with|true=>rfl|false=>exact mS f x r
theorem NM(x:Str):(LQ.lookup x).getD .none=FR (gI.lookup x):=by unfold LQ;rw[mS (λf:LS=>PyData.tuple (f.map Jx)) x gI];cases gI.lookup x<;>rfl
noncomputable def kC:LS:=["time","name","name","name","word"]
noncomputable def df(k:Nat):LS:=QA "by"::QI k (QA "name")
noncomputable def jC(h:Str)(n:Nat):Option (LS):=if decide (h="tell")=jb then(if 8<=n/\n<=13 then jy (kC++df (n - 7)) else jy kC) else gI.lookup h
theorem bY:gI.lookup (QA "tell")=jy kC:=by decide +kernel
noncomputable def aG:PSp where
 run:=λy Q _=>∃(h:Str) (x:LS),y=[.d (.list ((h::x).map Jx))]/\x.length<=1000/\Q (.d (FR (jC h (x.length+1)))) []
theorem Y3(k:Nat):(QI k [Jx (QA "name")]).flatten=(QI k (QA "name")).map Jx:=by
 induction k with|zero=>rfl|succ k h=>rw[Qf,Qf,qF,h];rfl
theorem zk{Ψ:PEv}{Z:PEnds}{a:Option Sl}{k:Nat}(h:k+1<=6)(q:∀ρ,Z.rt (.d (.tuple ((kC++df (k+1)).map Jx))) ρ):pF Ψ xG Z [a,bD (.tuple (kC.map Jx)),bD (.int ((k+1:Nat):Int))]:=by
 have y:(WD Jx kC).length=5:=by rfl
 have x:¬ WD Jx kC=[]:=by intro z;rw[z]at y;cases y
 delta xG;simp![↓dA];rw[QA4,Y3];have b:WD Jx kC++[Jx (QA "by")]++(QI (k+1) (QA "name")).map Jx=(kC++df (k+1)).map Jx:=by unfold df;rw[Q6,QN,qd];rfl
 have u:(WD Jx (QI (k+1) (QA "name"))).length=k+1:=by rw[QG,Q7]
 rw[b,QL,y,u];exact#[(),x,(),(),(),(),(),λz=>x (List.append_eq_nil_iff.mp z).1,λz=>(by rw[z]at u;cases u),by show 5+1+(k+1)<=_;omega,q _]
theorem vk{Ψ:PEv}(u:Ψ.va "MOST_QUOTED"=jy (.int 6)){Z:PEnds}{a:Option Sl}{n:Nat}(q:∀ρ,Z.rt (.d (FR (if 8<=n/\n<=13 then jy (kC++df (n - 7)) else jy kC))) ρ):pF Ψ uG Z [a,bD (.tuple (kC.map Jx)),bD (.int ((n:Int) - 7))]:=by
 delta uG;simp![↓TD u];have y:¬ (8<=n/\n<=13)->∀ρ,Z.rt (T.d (PyData.tuple (WD Jx kC))) ρ:=λc=>by rw[eH c]at q;exact q
 refine fF (λx=>fF (λh=>?_) λh=>y (λz=>h (dT ())) _) λx=>y (λz=>x (dT ())) _;have x:1<=(n:Int) - 7:=ei x;have h:(n:Int) - 7<=6:=ei h;obtain⟨k,hk⟩:∃k:Nat,n=k+8:=#[n - 8,()]
 subst hk;rw[ef #[(),()]]at q;have e:((k+8:Nat):Int) - 7=((k+1:Nat):Int):=()
 rw[e];exact zk () q
theorem TR{Ψ:PEv}(y:Ψ.dc "FORMS"=jy LQ)(u:Ψ.va "MOST_QUOTED"=jy (.int 6)):RK Ψ bG aG XN FK:=by
 rintro _ Q _ ⟨h,x,rfl,hl,q⟩;refine rA [bD (.list ((h::x).map Jx)),jz,jz] ?_;have z:zC (WD Jx (h::x)) 0=jy (.str h):=NA (j:=0) rfl;unfold jC at q;by_cases e:h="tell";rw[dT e]at q;have q:Q (.d (FR (if 8<=x.length+1/\x.length+1<=13 then jy (kC++df (x.length+1 - 7)) else jy kC))) []:=q;have a:(LQ.lookup h).getD .none=.tuple (kC.map Jx):=by rw[NM,e,bY];rfl
 delta bG;simp![↓iU y a,↓gC z,dT e];have b:(((h::x).map Jx).length:Int) - ((kC.map Jx).length:Int) - 2=((x.length+1:Nat):Int) - 7:=by rw[QG,QJ,show(kC.map Jx).length=5 by rfl];omega
 rw[b];exact vk u λ_=>q;rw[dF e]at q;delta bG;simp![↓ze y,↓gC z,NM,dF e];exact q
noncomputable def yF:PSp where
 md:=[.xx]
 run:=λf Q _=>∃(h:Str) (vs:List D),f=[.lst ((.str h::vs).map T.d)]/\((ED.lookup h=jz/\Q (.d (.bool jb)) [])∨∃i j a b,ED.lookup h=jy (.tuple [.int i,.int j])/\zC (.str h::vs) i=jy (.str a)/\zC (.str h::vs) j=jy (.str b)/\Q (.d (.bool (!decide (a=b)))) [])
 mono:=λh _ z=>by let#[p,w,e,q]:=z;exact#[p,w,e,q.imp (λq=>#[q.1,h _ _ q.2]) λ#[i,j,a,b,u,y,x,q]=>#[i,j,a,b,u,y,x,h _ _ q]]
theorem PN{Ψ:PEv}(z:Ψ.dc "UNLIKE"=jy ED):RK Ψ fE yF FJ DH:=by
 rintro _ Q _ ⟨h,vs,rfl,q⟩;refine rA [jy (.xx (.lst ((.str h::vs).map T.d))),jz] ?_;have y:zC (Jx h::vs) 0=jy (.str h):=NA (j:=0) rfl;generalize (Jx h::vs)=L at y q ⊢;rcases q with⟨e,q⟩| ⟨i,j,a,b,e,l,g,q⟩
 have x:(ED.lookup h).getD .none=.none:=by rw[e];rfl
 delta fE;simp![↓iU z x,↓gC y];exact q;have f:zC [Jy i,.int j] 0=jy (.int i):=rfl;have u:zC [Jy i,.int j] 1=jy (.int j):=rfl;have x:(ED.lookup h).getD .none=.tuple [.int i,.int j]:=by rw[e];rfl
 delta fE;simp![↓iU z x,↓gC y,↓gC f,↓gC u,↓gC l,↓gC g];exact q
end L2.L3.Lib
namespace L2.L3.K3
open PySem PySem.Spec PyProof.Rows L2 L2.L3 L2.L3.Lib
noncomputable def top(i:Nat):Stmt:=QZ.main.body.getD i (.Pass #[0,0,0,0])
theorem MS:MB PU tI iN YK (top 14)=true:=by kernel_rfl
theorem jO:MB KQ vG DJ CH (top 15)=true:=by kernel_rfl
theorem MV:MB NY aK sP uM (top 16)=true:=by kernel_rfl
theorem OV:MB PY eK eP cM (top 17)=true:=by kernel_rfl
theorem TQ:MB vS jH AK II (top 18)=true:=by kernel_rfl
noncomputable def iT:LS:=["row","place","words","values"]
noncomputable def EJ:LS:=["row","place"]
noncomputable def S5:Need:=#[["words_in","values_by","form_for","are_unlike"],["BadRow"],["len","raise"],[]]
noncomputable def gN:PT :=
  %[.set 2 (.call "words_in" %[.vx 0|1]),.ife (.cmp .Eq (.bi .len %[.vx 2|1]) (.int 0)) %[.ret .non|2] .nil,.own 3 (.call "values_by" %[.call "form_for" %[.vx 2|1],.vx 2|1]),.ife (.or (.cmp .Is (.vx 3) .non) (.not (.call "are_unlike" %[.vx 3|1]))) %[.rse "BadRow" (jy 1) (.vx 1)|2] .nil,.ret (.vx 3)|2]
theorem VZ:MB S5 gN iT EJ (top 25)=true:=by kernel_rfl
noncomputable def SK:LS:=["form","words","values"]
noncomputable def EI:LS:=["form","words"]
noncomputable def kS:Need:=#[["value_of"],[],["len","zip"],[]]
noncomputable def EE:PT :=
  %[.ife (.or (.cmp .Is (.vx 0) .non) (.cmp .NotEq (.bi .len %[.vx 1|1]) (.bin .Add (.int 1) (.bi .len %[.vx 0|1])))) %[.ret .non|2] .nil,.own 2 (.bin .Add (.lst %[.idx (.vx 1) (.int 0)|1]) (.comp [] ["part","word"] (.tp [0,1]) .zip2 %[.vx 0,.slc (.vx 1) (.int 1) .nop|1] .nop (.call "value_of" %[.vx 0,.vx 1|1]))),.ret (.ife (.cmp .In .non (.vx 2)) .non (.vx 2))|2]
theorem SQ:MB kS EE SK EI (top 26)=true:=by kernel_rfl
theorem ES:MB IU bG XN FK (top 27)=true:=by kernel_rfl
noncomputable def JN:LS:=["part","word"]
noncomputable def ZK:LS:=["part","word"]
noncomputable def RU:Need:=#[["is_name","is_word","number_within"],["NAMED"],[],["RANGES"]]
noncomputable def ZJ:PT :=
  %[.ret (.ife (.call "is_name" %[.vx 1|1]) (.vx 1) .non)|2]
noncomputable def iJ:PT :=
  %[.ret (.call "number_within" %[.prm (.dix "RANGES") %[.vx 0|1],.vx 1|1])|2]
noncomputable def JJ:PT :=
  %[.ret (.ife (.cmp .Eq (.vx 1) (.str "by")) (.vx 1) .non)|2]
noncomputable def YJ:PT :=
  %[.ret (.ife (.call "is_word" %[.vx 1|1]) (.vx 1) .non)|2]
noncomputable def aI:PT :=
  (.seq (.ife (.cmp .In (.vx 0) (.glo "NAMED")) ZJ .nil)
  (.seq (.ife (.cmp .Eq (.vx 0) (.str "word")) YJ .nil)
  (.seq (.ife (.cmp .Eq (.vx 0) (.str "by")) JJ .nil)
  iJ)))
theorem NS:MB RU aI JN ZK (top 28)=true:=by kernel_rfl
theorem pK:MB vL XC mG aF (top 29)=true:=by kernel_rfl
theorem yO:MB VQ fE FJ DH (top 30)=true:=by kernel_rfl
noncomputable def BJ:LS:=["text","world","rows","place","row","values"]
noncomputable def xF:LS:=["text"]
noncomputable def YQ:Need:=#[["row_of","check_row","entry_of"],["Unfinished"],["enumerate","len","raise"],["SECTIONS"]]
noncomputable def IG:PT :=
  %[.set 5 (.call "row_of" %[.vx 4,.vx 3|1]),.ife (.cmp .IsNot (.vx 5) .non) %[.expr (.call "check_row" %[.vx 1,.vx 5,.vx 3|1]),.pap 1 (.prm (.dix "SECTIONS") %[.idx (.vx 5) (.int 0)|1]) (.call "entry_of" %[.vx 5|1])|2] .nil|2]
noncomputable def yG:PT :=
  %[.own 1 (.tup %[.lst .kz,.lst .kz,.lst .kz,.lst .kz|1]),.set 2 (.mt .split (.vx 0) %[.str "\n"|1]),.for_ (.tp [3,4]) .enumA %[.vx 2,.int 1|1] IG,.ife (.or (.cmp .Eq (.bi .len %[.idx (.vx 1) (.int 0)|1]) (.int 0)) (.cmp .Eq (.bi .len %[.idx (.vx 1) (.int 1)|1]) (.int 0))) %[.rse "Unfinished" jz (.bi .len %[.vx 2|1])|2] .nil,.ret (.vx 1)|2]
theorem EN:MB YQ yG BJ xF (top 37)=true:=by kernel_rfl
noncomputable def yL:List Str:=["world","values","place","section"]
noncomputable def MF:List Str:=["world","values","place"]
noncomputable def bS:Need:=#[["is_told","has_stranger"],["Misplaced","Twice","NoName","MOST","TooMany"],["any","len","raise"],["SECTIONS"]]
noncomputable def vH:PT :=
  %[.set 3 (.prm (.dix "SECTIONS") %[.idx (.vx 1) (.int 0)|1]),.ife (.bi .any %[.comp [] ["later"] (.nm 0) .val %[.slc (.vx 0) (.bin .Add (.vx 3) (.int 1)) .nop|1] .nop (.cmp .Gt (.bi .len %[.vx 0|1]) (.int 0))|1]) %[.rse "Misplaced" (jy 2) (.vx 2)|2] .nil,.ife (.call "is_told" %[.vx 0,.vx 1|1]) %[.rse "Twice" (jy 2) (.vx 2)|2] .nil,.ife (.call "has_stranger" %[.vx 0,.vx 1|1]) %[.rse "NoName" (jy 2) (.vx 2)|2] .nil,.ife (.cmp .GtE (.bi .len %[.idx (.vx 0) (.vx 3)|1]) (.idx (.glo "MOST") (.vx 3))) %[.rse "TooMany" (jy 2) (.vx 2)|2] .nil|2]
theorem IQ:MB bS vH yL MF (top 38)=true:=by kernel_rfl
noncomputable def tP:List Str:=["world","values"]
noncomputable def bM:List Str:=["world","values"]
noncomputable def OY:Need:=#[["names_of"],[],[],[]]
noncomputable def kG:PT :=
  %[.ret (.bl js)|2]
noncomputable def dE:PT :=
  (.seq (.ife (.cmp .Eq (.idx (.vx 1) (.int 0)) (.str "against")) %[.ret (.or (.cmp .In (.tup %[.idx (.vx 1) (.int 1),.idx (.vx 1) (.int 2)|1]) (.idx (.vx 0) (.int 2))) (.cmp .In (.tup %[.idx (.vx 1) (.int 2),.idx (.vx 1) (.int 1)|1]) (.idx (.vx 0) (.int 2))))|2] .nil)
  kG)
noncomputable def jD:PT :=
  (.seq (.ife (.cmp .Eq (.idx (.vx 1) (.int 0)) (.str "matter")) %[.ret (.cmp .In (.idx (.vx 1) (.int 1)) (.idx (.vx 0) (.int 1)))|2] .nil)
  dE)
noncomputable def uD:PT :=
  (.seq (.ife (.cmp .Eq (.idx (.vx 1) (.int 0)) (.str "person")) %[.ret (.cmp .In (.idx (.vx 1) (.int 1)) (.call "names_of" %[.vx 0|1]))|2] .nil)
  jD)
theorem NV:MB OY uD tP bM (top 39)=true:=by kernel_rfl
noncomputable def bH:List Str:=["world","values","names","people","matters"]
noncomputable def lG:List Str:=["world","values"]
noncomputable def iM:Need:=#[["names_of","quote_in"],[],["any"],["MATTERS_AT","PEOPLE_AT"]]
noncomputable def ZE:PT :=
  %[.set 2 (.call "names_of" %[.vx 0|1]),.set 3 (.bin .Add (.comp [] ["at"] (.nm 0) .val %[.prm (.dgetD "PEOPLE_AT") %[.idx (.vx 1) (.int 0),.tup .kz|1]|1] .nop (.idx (.vx 2) (.vx 0))) (.call "quote_in" %[.vx 1|1])),.set 4 (.comp [] ["at"] (.nm 0) .val %[.prm (.dgetD "MATTERS_AT") %[.idx (.vx 1) (.int 0),.tup .kz|1]|1] .nop (.idx (.vx 2) (.vx 0))),.ret (.or (.bi .any %[.comp [] ["name"] (.nm 0) .val %[.vx 3|1] .nop (.cmp .NotIn (.vx 0) (.vx 3))|1]) (.bi .any %[.comp [] ["name"] (.nm 0) .val %[.vx 4|1] .nop (.cmp .NotIn (.vx 0) (.idx (.vx 1) (.int 1)))|1]))|2]
theorem dL:MB iM ZE bH lG (top 40)=true:=by kernel_rfl
noncomputable def ZN:List Str:=["world"]
noncomputable def BK:List Str:=["world"]
noncomputable def TU:Need:=#[[],[],[],[]]
noncomputable def JI:PT :=
  %[.ret (.comp [] ["person"] (.nm 0) .val %[.idx (.vx 0) (.int 0)|1] .nop (.idx (.vx 0) (.int 0)))|2]
theorem RS:MB TU JI ZN BK (top 41)=true:=by kernel_rfl
noncomputable def YN:List Str:=["values"]
noncomputable def UK:List Str:=["values"]
noncomputable def SU:Need:=#[[],["WORDING_ENDS"],[],[]]
noncomputable def iI:PT :=
  %[.ret (.slc (.vx 0) (.bin .Add (.glo "WORDING_ENDS") (.int 1)) .nop)|2]
theorem OS:MB SU iI YN UK (top 42)=true:=by kernel_rfl
noncomputable def UN:List Str:=["values"]
noncomputable def GK:List Str:=["values"]
noncomputable def jV:Need:=#[["quote_in"],["WORDING_ENDS"],["tuple"],[]]
noncomputable def mF:PT :=
  %[.ret (.bi .tuple %[.slc (.vx 0) (.int 1) .nop|1])|2]
noncomputable def JD:PT :=
  (.seq (.ife (.cmp .Eq (.idx (.vx 0) (.int 0)) (.str "tell")) %[.ret (.bi .tuple %[.bin .Add (.slc (.vx 0) .nop (.glo "WORDING_ENDS")) (.lst %[.bi .tuple %[.call "quote_in" %[.vx 0|1]|1]|1])|1])|2] .nil)
  mF)
noncomputable def iC:PT :=
  (.seq (.ife (.cmp .Eq (.idx (.vx 0) (.int 0)) (.str "see")) %[.ret (.bi .tuple %[.vx 0|1])|2] .nil)
  JD)
noncomputable def CC:PT :=
  (.seq (.ife (.cmp .Eq (.idx (.vx 0) (.int 0)) (.str "matter")) %[.ret (.idx (.vx 0) (.int 1))|2] .nil)
  iC)
theorem IS:MB jV CC UN GK (top 43)=true:=by kernel_rfl
theorem IN:MB ZQ zG CJ BH (top 45)=true:=by kernel_rfl
noncomputable def ZT:List Str:=["_law_script","_law_k","_law_cell","_law_factor"]
noncomputable def nO:List Str:=["_law_script","_law_k"]
noncomputable def E5:Need:=#[[],[],["len"],[]]
noncomputable def zH:PT :=
  %[.set 3 (.bin .Add (.int 91343852333181432387730302044767688731) (.bin .Mult (.bin .Mult (.int 7919000003) (.vx 1)) (.vx 1))),.ret (.bin .Mod (.bin .Mult (.bin .Add (.bin .Add (.vx 2) (.vx 1)) (.int 1)) (.vx 3)) (.int 170141183460469231731687303715884105727))|2]
noncomputable def rN:PT :=
  (.seq (.set 2 (.int 0))
  (.seq (.ife (.cmp .Gt (.bi .len %[.vx 0|1]) (.int 0)) %[.set 2 (.idx (.vx 0) (.bin .Mod (.vx 1) (.bi .len %[.vx 0|1])))|2] .nil)
  zH))
theorem BZ:MB E5 rN ZT nO (top 46)=true:=by kernel_rfl
noncomputable def JT:List Str:=["_law_script","_law_at"]
noncomputable def lO:List Str:=["_law_script","_law_at"]
noncomputable def T5:Need:=#[["_law_draw"],[],[],[]]
noncomputable def oN:PT :=
  %[.six 1 (.int 0) (.bin .Add (.idx (.vx 1) (.int 0)) (.int 1)),.ret (.call "_law_draw" %[.vx 0,.idx (.vx 1) (.int 0)|1])|2]
theorem XZ:MB T5 oN JT lO (top 47)=true:=by kernel_rfl
noncomputable def YT:List Str:=["_law_seed","_law_k","_law_letters","_law_size","_law_spot","_law_word","_law_two"]
noncomputable def mO:List Str:=["_law_seed","_law_k"]
noncomputable def A5:Need:=#[["_law_keywords"],[],["range"],[]]
noncomputable def PK:PT :=
  %[.ret (.vx 5)|2]
noncomputable def pN:PT :=
  (.seq (.set 2 (.str "abcdefghijklmnopqrstuvwxyz"))
  (.seq (.set 3 (.bin .Add (.int 2) (.bin .Mod (.vx 0) (.int 6))))
  (.seq (.set 4 (.bin .Mod (.bin .FloorDiv (.vx 0) (.int 6)) (.bin .Sub (.vx 3) (.int 1))))
  (.seq (.set 5 (.mt .join (.str "") %[.comp [] ["_law_j"] (.nm 0) .rng1 %[.vx 3|1] .nop (.idx (.vx 3) (.bin .Mod (.bin .Add (.bin .FloorDiv (.vx 1) (.int 42)) (.bin .Mult (.bin .Mult (.vx 0) (.vx 0)) (.bin .Mod (.bin .FloorDiv (.vx 1) (.int 1100)) (.int 5)))) (.int 26)))|1]))
  (.seq (.set 6 (.bin .Add (.idx (.vx 2) (.bin .Mod (.bin .Add (.bin .FloorDiv (.vx 0) (.int 7)) (.bin .FloorDiv (.vx 1) (.int 26))) (.int 26))) (.idx (.vx 2) (.bin .Mod (.bin .Add (.bin .FloorDiv (.vx 0) (.int 3)) (.vx 1)) (.int 26)))))
  (.seq (.set 5 (.bin .Add (.bin .Add (.slc (.vx 5) .nop (.vx 4)) (.vx 6)) (.slc (.vx 5) (.bin .Add (.vx 4) (.int 2)) .nop)))
  (.seq (.ife (.cmp .In (.vx 5) (.call "_law_keywords" .kz)) %[.set 5 (.bin .Add (.vx 5) (.str "z"))|2] .nil)
  PK)))))))
theorem UZ:MB A5 pN YT mO (top 48)=true:=by kernel_rfl
noncomputable def jL:List Str:=["_law_script","_law_at","_law_matters","_law_pairs","_law_j","_law_k","_law_n","_law_pair"]
noncomputable def yJ:List Str:=["_law_script","_law_at","_law_matters"]
noncomputable def uS:Need:=#[["_law_next"],[],["range","len"],[]]
noncomputable def iD:PT :=
  %[.set 6 (.call "_law_next" %[.vx 0,.vx 1|1]),.set 7 (.idx (.lst %[.tup %[.idx (.vx 2) (.vx 4),.idx (.vx 2) (.vx 5)|1],.tup %[.idx (.vx 2) (.vx 5),.idx (.vx 2) (.vx 4)|1]|1]) (.bin .Mod (.bin .FloorDiv (.vx 6) (.int 3)) (.int 2))),.ife (.cmp .Gt (.bin .Mod (.vx 6) (.int 3)) (.int 0)) %[.expr (.mt .insert (.vx 3) %[.bin .Mod (.bin .FloorDiv (.vx 6) (.int 9)) (.bin .Add (.bi .len %[.vx 3|1]) (.int 1)),.vx 7|1])|2] .nil|2]
noncomputable def tD:PT :=
  %[.for_ (.nm 5) .rng1 %[.vx 4|1] iD|2]
noncomputable def kH:PT :=
  %[.own 3 (.lst .kz),.for_ (.nm 4) .rng1 %[.bi .len %[.vx 2|1]|1] tD,.ret (.vx 3)|2]
theorem EQ:MB uS kH jL yJ (top 49)=true:=by kernel_rfl
noncomputable def rP:List Str:=["_law_script","_law_at","_law_people","_law_matters","_law_n","_law_time","_law_many","_law_p","_law_f","_law_word","_law_q","_law_quoted","_law_by"]
noncomputable def xM:List Str:=["_law_script","_law_at","_law_people","_law_matters"]
noncomputable def MY:Need:=#[["_law_next","_law_keywords","_law_name"],[],["len","int","range","tuple"],[]]
noncomputable def lP:PT :=
  %[.set 4 (.call "_law_next" %[.vx 0,.vx 1|1]),.set 5 (.idx (.lst %[.bin .Mod (.bin .FloorDiv (.vx 4) (.int 7)) (.int 5),.bin .Mod (.bin .FloorDiv (.vx 4) (.int 7)) (.int 60),.bin .Mod (.bin .FloorDiv (.vx 4) (.int 7)) (.bin .Pow (.int 10) (.int 9)),.idx (.lst %[.int 0,.int 999999999|1]) (.bin .Mod (.bin .FloorDiv (.vx 4) (.int 7)) (.int 2))|1]) (.bin .Mod (.vx 4) (.int 4))),.set 6 (.bi .len %[.vx 2|1]),.set 7 (.bin .Mod (.bin .FloorDiv (.vx 4) (.int 100)) (.vx 6)),.set 8 (.idx (.vx 3) (.bin .Mod (.bin .FloorDiv (.vx 4) (.int 1000)) (.bi .len %[.vx 3|1]))),.set 9 (.idx (.lst %[.call "_law_name" %[.bin .Mod (.bin .FloorDiv (.vx 4) (.bin .Pow (.int 10) (.int 6))) (.bin .Pow (.int 10) (.int 12)),.int 3|1],.idx (.call "_law_keywords" .kz) (.bin .Mod (.bin .FloorDiv (.vx 4) (.bin .Pow (.int 10) (.int 6))) (.int 19))|1]) (.bi .int %[.cmp .Eq (.bin .Mod (.bin .FloorDiv (.vx 4) (.int 20)) (.int 6)) (.int 0)|1])),.ife (.or (.cmp .Eq (.vx 6) (.int 1)) (.cmp .Eq (.bin .Mod (.bin .FloorDiv (.vx 4) (.int 4)) (.int 3)) (.int 0))) %[.ret (.tup %[.str "see",.vx 5,.idx (.idx (.vx 2) (.vx 7)) (.int 0),.vx 8,.vx 9|1])|2] .nil,.set 10 (.bin .Mod (.bin .Add (.bin .Add (.vx 7) (.int 1)) (.bin .Mod (.bin .FloorDiv (.vx 4) (.bin .Pow (.int 10) (.int 4))) (.bin .Sub (.vx 6) (.int 1)))) (.vx 6)),.set 11 (.idx (.lst %[.int 0,.int 0,.int 1,.int 2,.int 6,.int 3|1]) (.bin .Mod (.bin .FloorDiv (.vx 4) (.int 12)) (.int 6))),.set 12 (.eff (.comp [] ["_law_j"] (.nm 0) .rng1 %[.vx 11|1] .nop (.idx (.idx (.vx 3) (.bin .Mod (.call "_law_next" %[.vx 1,.vx 2|1]) (.vx 7))) (.int 0)))),.ret (.tup %[.str "tell",.vx 5,.idx (.idx (.vx 2) (.vx 7)) (.int 0),.idx (.idx (.vx 2) (.vx 10)) (.int 0),.vx 8,.vx 9,.bi .tuple %[.vx 12|1]|1])|2]
theorem HV:MB MY lP rP xM (top 50)=true:=by kernel_rfl
noncomputable def oP:List Str:=["_law_script","_law_at","_law_seed","_law_n","_law_people","_law_j","_law_m","_law_matters","_law_against_here","_law_count","_law_events"]
noncomputable def kM:List Str:=["_law_script"]
noncomputable def HY:Need:=#[["_law_draw","_law_next","_law_name","_law_against","_law_event"],[],["range"],[]]
noncomputable def DD:PT :=
  %[.set 6 (.call "_law_next" %[.vx 0,.vx 1|1]),.expr (.mt .append (.vx 4) %[.tup %[.call "_law_name" %[.vx 2,.vx 5|1],.bin .Mod (.vx 6) (.int 100),.idx (.lst %[.int 0,.bin .Mod (.bin .FloorDiv (.vx 6) (.int 100)) (.int 100),.int 99|1]) (.bin .Mod (.bin .FloorDiv (.vx 6) (.bin .Pow (.int 10) (.int 4))) (.int 3)),.bin .Add (.int 1) (.bin .Mod (.bin .FloorDiv (.vx 6) (.bin .Pow (.int 10) (.int 5))) (.int 4))|1]|1])|2]
noncomputable def xR:PT :=
  %[.set 10 (.eff (.comp [] ["_law_k"] (.nm 0) .rng1 %[.vx 9|1] .nop (.call "_law_event" %[.vx 1,.vx 2,.vx 5,.vx 8|1]))),.ret (.tup %[.vx 4,.vx 7,.vx 8,.vx 10|1])|2]
noncomputable def gP:PT :=
  (.seq (.own 1 (.lst %[.int 0|1]))
  (.seq (.set 2 (.bin .Mod (.call "_law_draw" %[.vx 0,.int 0|1]) (.bin .Pow (.int 10) (.int 12))))
  (.seq (.set 3 (.call "_law_next" %[.vx 0,.vx 1|1]))
  (.seq (.own 4 (.lst .kz))
  (.seq (.for_ (.nm 5) .rng1 %[.bin .Add (.int 1) (.bin .Mod (.vx 3) (.int 10))|1] DD)
  (.seq (.frz [4] (.set 7 (.comp [js,js,js,js,js,jb] ["_law_j"] (.nm 0) .rng1 %[.bin .Add (.int 1) (.bin .Mod (.bin .FloorDiv (.vx 3) (.int 10)) (.int 6))|1] .nop (.call "_law_name" %[.vx 3,.idx (.lst %[.vx 0,.bin .Add (.int 50) (.vx 0)|1]) (.bin .Mod (.bin .Add (.bin .FloorDiv (.vx 4) (.int 60)) (.vx 0)) (.int 2))|1]))))
  (.seq (.set 8 (.call "_law_against" %[.vx 0,.vx 1,.vx 7|1]))
  (.seq (.set 9 (.bin .Mod (.bin .FloorDiv (.vx 3) (.int 1000)) (.int 26)))
  (.seq (.ife (.cmp .Eq (.bin .Mod (.bin .FloorDiv (.vx 3) (.int 100)) (.int 8)) (.int 1)) %[.set 9 (.int 80)|2] .nil)
  xR)))))))))
theorem FV:MB HY gP oP kM (top 51)=true:=by kernel_rfl
noncomputable def pP:List Str:=["_law_world_here","_law_lines_here","_law_event_here","_law_words"]
noncomputable def vM:List Str:=["_law_world_here"]
noncomputable def LY:Need:=#[[],[],["str","len","list"],[]]
noncomputable def cE:PT :=
  %[.expr (.mt .append (.vx 1) %[.vx 3|1])|2]
noncomputable def FD:PT :=
  (.seq (.set 3 (.comp [] ["_law_word"] (.nm 0) .val %[.eff (.slc (.vx 2) .nop (.int 6))|1] .nop (.bi .str %[.vx 0|1])))
  (.seq (.ife (.and (.cmp .Eq (.idx (.vx 2) (.int 0)) (.str "tell")) (.cmp .Gt (.bi .len %[.idx (.vx 2) (.int 6)|1]) (.int 0))) %[.set 3 (.bin .Add (.bin .Add (.vx 3) (.lst %[.str "by"|1])) (.bi .list %[.idx (.vx 2) (.int 6)|1]))|2] .nil)
  cE))
noncomputable def tK:PT :=
  %[.own 1 (.comp [] ["_law_person"] (.nm 0) .val %[.idx (.vx 0) (.int 0)|1] .nop (.bin .Add (.lst %[.str "person"|1]) (.comp [] ["_law_word"] (.nm 0) .val %[.vx 0|1] .nop (.bi .str %[.vx 0|1])))),.expr (.mt .extend (.vx 1) %[.comp [] ["_law_matter"] (.nm 0) .val %[.idx (.vx 0) (.int 1)|1] .nop (.lst %[.str "matter",.vx 0|1])|1]),.expr (.mt .extend (.vx 1) %[.comp [] ["_law_pair"] (.nm 0) .val %[.idx (.vx 0) (.int 2)|1] .nop (.lst %[.str "against",.idx (.vx 0) (.int 0),.idx (.vx 0) (.int 1)|1])|1]),.for_ (.nm 2) .val %[.idx (.vx 0) (.int 3)|1] FD,.ret (.vx 1)|2]
theorem GV:MB LY tK pP vM (top 52)=true:=by kernel_rfl
noncomputable def KN:List Str:=["_law_lines_here","_law_script","_law_rows","_law_places","_law_empty","_law_k","_law_words","_law_n"]
noncomputable def CK:List Str:=["_law_lines_here","_law_script"]
noncomputable def AU:Need:=#[["_law_draw"],[],["enumerate","len"],[]]
noncomputable def aC:PT :=
  %[.expr (.mt .append (.vx 2) %[.bin .Add (.bin .Mult (.str " ") (.bin .Mod (.bin .FloorDiv (.vx 7) (.int 15)) (.int 2))) (.mt .join (.str " ") %[.vx 6|1])|1]),.expr (.mt .append (.vx 3) %[.bi .len %[.vx 2|1]|1])|2]
noncomputable def bE:PT :=
  (.seq (.set 7 (.call "_law_draw" %[.vx 1,.bin .Add (.int 900) (.vx 5)|1]))
  (.seq (.ife (.and (.cmp .Eq (.bin .Mod (.vx 7) (.int 5)) (.int 0)) (.cmp .Lt (.vx 4) (.int 40))) %[.expr (.mt .append (.vx 2) %[.bin .Mult (.str " ") (.bin .Mod (.bin .FloorDiv (.vx 7) (.int 5)) (.int 3))|1]),.set 4 (.bin .Add (.vx 4) (.int 1))|2] .nil)
  aC))
noncomputable def YI:PT :=
  %[.own 2 (.lst .kz),.own 3 (.lst .kz),.set 4 (.int 0),.for_ (.tp [5,6]) .enum %[.vx 0|1] bE,.frz [3] (.ret (.lst %[.bin .Add (.vx 2) (.bin .Mult (.lst %[.str ""|1]) (.bin .Mod (.call "_law_draw" %[.vx 1,.int 890|1]) (.int 3))),.vx 3|1]))|2]
theorem SS:MB AU YI KN CK (top 53)=true:=by kernel_rfl
noncomputable def uH:List Str:=["_law_caught_here","_law_which","_law_place","_law_kinds"]
noncomputable def hG:List Str:=["_law_caught_here","_law_which","_law_place"]
noncomputable def eM:Need:=#[[],["WorldError","Twice","Misplaced","BadRow","Unfinished","TooMany","NoName"],["isinstance","ValueError","range","bool","int"],[]]
noncomputable def IC:PT :=
  %[.ife (.or (.cmp .Is (.vx 0) .non) (.or (.not (.prm (.isT "ValueError" "ValueError") %[.vx 0|1])) (.not (.prm .isC %[.vx 0,.glo "WorldError"|1])))) %[.ret (.bl js)|2] .nil,.set 3 (.lst %[.prm .isC %[.vx 0,.glo "BadRow"|1],.prm .isC %[.vx 0,.glo "Misplaced"|1],.prm .isC %[.vx 0,.glo "Twice"|1]|1]),.set 3 (.bin .Add (.vx 3) (.lst %[.prm .isC %[.vx 0,.glo "NoName"|1],.prm .isC %[.vx 0,.glo "TooMany"|1],.prm .isC %[.vx 0,.glo "Unfinished"|1]|1])),.ife (.cmp .NotEq (.vx 3) (.comp [] ["_law_k"] (.nm 0) .rng1 %[.int 6|1] .nop (.cmp .Eq (.vx 0) (.vx 2)))) %[.ret (.bl js)|2] .nil,.ife (.or (.not (.isi (.prm .plc %[.vx 0|1]) (.bty "int" "int"))) (.isi (.prm .plc %[.vx 0|1]) (.bty "bool" "bool"))) %[.ret (.bl js)|2] .nil,.ret (.cmp .Eq (.prm .plc %[.vx 0|1]) (.vx 2))|2]
theorem cL:MB eM IC uH hG (top 54)=true:=by kernel_rfl
noncomputable def IK:List Str:=["_law_lines_here","_law_head","_law_later","_law_words"]
noncomputable def jJ:List Str:=["_law_lines_here","_law_head"]
noncomputable def xS:Need:=#[[],[],[],[]]
noncomputable def lF:PT :=
  %[.ife (.cmp .In (.idx (.vx 3) (.int 0)) (.prm .dgt %[.vx 2,.vx 1|1])) %[.ret (.bl jb)|2] .nil|2]
noncomputable def yH:PT :=
  (.dpx 2 ["person","matter"] %[.lst %[.str "matter",.str "against",.str "see",.str "tell"|1],.lst %[.str "against",.str "see",.str "tell"|1]|1] "against" (.lst %[.str "see",.str "tell"|1])
  %[.for_ (.nm 3) .val %[.vx 0|1] lF,.ret (.bl js)|2])
theorem AQ:MB xS yH IK jJ (top 55)=true:=by kernel_rfl
noncomputable def NX:List Str:=["_law_n","_law_x","_law_y"]
noncomputable def UR:List Str:=["_law_n","_law_x","_law_y"]
noncomputable def Bb:Need:=#[[],[],[],[]]
noncomputable def uR:PT :=
  %[.ife (.cmp .Eq (.bin .Mod (.vx 0) (.int 3)) (.int 0)) %[.ret (.lst %[.str "person",.vx 1,.str "5",.str "0",.str "2"|1])|2] .nil,.ife (.cmp .Eq (.bin .Mod (.vx 0) (.int 3)) (.int 1)) %[.ret (.lst %[.str "matter",.vx 1|1])|2] .nil,.ret (.lst %[.str "against",.vx 1,.vx 2|1])|2]
theorem T7:MB Bb uR NX UR (top 56)=true:=by kernel_rfl
noncomputable def VN:List Str:=["_law_rows","_law_caught_here","e"]
noncomputable def DK:List Str:=["_law_rows"]
noncomputable def EU:Need:=#[["read_world"],["WorldError"],[],[]]
noncomputable def ZI:PT :=
  %[.set 1 .non,.tryC jz "read_world" %[.mt .join (.str "\n") %[.vx 0|1]|1] "WorldError" 1 2,.ret (.vx 1)|2]
theorem AS:MB EU ZI VN DK (top 57)=true:=by kernel_rfl
noncomputable def Xg:List Str:=["_law_script","_law_world_here","_law_lines_here","_law_seed","_law_k","_law_n","_law_name_here","_law_row_here","_law_at","_law_bad","_law_some","_law_rows","_law_places","_law_found","_law_one","_law_other"]
noncomputable def T3:List Str:=["_law_script"]
noncomputable def Zo:Need:=#[["_law_world","_law_lines","_law_draw","_law_name","_law_row","_law_is_late","_law_spread","_law_is_refused","_law_caught","read_world"],[],["range","len","isinstance","tuple","zip"],[]]
noncomputable def lN:PT :=
  %[.set 8 (.bin .Sub (.bi .len %[.vx 2|1]) (.bin .Mod (.bin .FloorDiv (.vx 5) (.int 6)) (.bin .Add (.bi .len %[.vx 2|1]) (.int 1)))),.set 9 (.bin .Mod (.bin .FloorDiv (.vx 5) (.int 1000003)) (.int 2)),.ife (.call "_law_is_late" %[.slc (.vx 2) .nop (.vx 8),.idx (.vx 7) (.int 0)|1]) %[.set 10 (.bin .Add (.bin .Add (.slc (.vx 2) .nop (.vx 8)) (.lst %[.bin .Add (.vx 7) (.bin .Mult (.lst %[.str "9"|1]) (.vx 9))|1])) (.slc (.vx 2) (.vx 8) .nop)),.setL 11 12 (.call "_law_spread" %[.vx 10,.vx 0|1]),.ife (.not (.call "_law_is_refused" %[.call "_law_caught" %[.vx 11|1],.bin .Sub (.int 1) (.vx 9),.idx (.vx 12) (.vx 8)|1])) %[.ret (.bl js)|2] .nil|2] .nil|2]
noncomputable def mN:PT :=
  (.seq (.set 7 (.call "_law_row" %[.vx 5,.vx 6,.call "_law_name" %[.vx 3,.int 601|1]|1]))
  lN)
noncomputable def nN:PT :=
  (.seq (.set 6 (.idx (.lst %[.idx (.idx (.idx (.vx 1) (.int 0)) (.int 0)) (.int 0),.call "_law_name" %[.vx 3,.int 600|1]|1]) (.bin .Mod (.bin .FloorDiv (.vx 5) (.int 3)) (.int 2))))
  mN)
noncomputable def vR:PT :=
  (.seq (.set 5 (.call "_law_draw" %[.vx 0,.bin .Add (.int 500) (.vx 4)|1]))
  nN)
noncomputable def kR:PT :=
  %[.ife (.cmp .NotEq (.bi .len %[.vx 14|1]) (.bi .len %[.vx 15|1])) %[.ret (.bl js)|2] .nil|2]
noncomputable def uT:PT :=
  %[.set 13 (.call "read_world" %[.mt .join (.str "\n") %[.idx (.call "_law_spread" %[.vx 2,.vx 0|1]) (.int 0)|1]|1]),.ife (.or (.not (.isi (.vx 13) (.bty "tuple" "tuple"))) (.cmp .NotEq (.bi .len %[.vx 13|1]) (.int 4))) %[.ret (.bl js)|2] .nil,.for_ (.tp [14,15]) .zip2 %[.vx 13,.vx 1|1] kR,.ret (.bl jb)|2]
noncomputable def bT:PT :=
  (.seq (.set 3 (.bin .Mod (.call "_law_draw" %[.vx 0,.int 0|1]) (.bin .Pow (.int 10) (.int 12))))
  (.seq (.for_ (.nm 4) .rng1 %[.int 8|1] vR)
  uT))
noncomputable def gT:PT :=
  (.seq (.set 2 (.call "_law_lines" %[.vx 1|1]))
  bT)
noncomputable def l8:PT :=
  (.seq (.set 1 (.call "_law_world" %[.vx 0|1]))
  gT)
theorem Yk:MB Zo l8 Xg T3 (top 58)=true:=by kernel_rfl
noncomputable def XH:D->Str
 | .str z=>z|.int n=>UC n|_=>#[#[]]
def fC(w:Str):Prop:=w.cps.toList≠[]/\w.length<=9/\∀c∈w.cps.toList,33<=c/\c<=126
theorem fC.free{w:Str}(h:fC w):32∉w.cps.toList:=λz=>by have:=h.2.2 32 z;omega
theorem nD:xE.cps.toList=(Qe 26).map (·+97):=by decide +kernel
theorem AD{w:Str}(h:mB w=jb):fC w:=by unfold mB at h;rw[QX,QX,decide_eq_true_eq,decide_eq_true_eq]at h;let#[a,u,y]:=h;refine#[λz=>?_,(),λc hc=>?_];have:w.cps.toList.length=w.length:=Q4;rw[z]at this;simp at this;omega;have:=Qo.mp y c hc;rw[decide_eq_true_eq,nD]at this;let#[i,x,rfl]:=Qm.mp this;have:=qV.mp x;omega
theorem aO{w:Str}(h:YA w=jb):mB w=true:=by unfold YA at h;rw[QX]at h;exact h.1
theorem cj{n:Int}(h:0<=n)(y:n<=999999999):fC (UC n):=by let#[u,x]:=sM h y;refine#[λz=>?_,x,λc hc=>?_];have:(UC n).cps.toList.length=(UC n).length:=Q4;rw[z]at this;simp at this;omega;let#[m,rfl]:=wV h;have:=ZG m c hc;omega
noncomputable def HH:LS:=["name","person","matter"]
noncomputable def zE:List (Str×D):=[("rank",.tuple [.int 0,.int 99]),("floor",.tuple [.int 0,.int 99]),("needs",.tuple [.int 1,.int 4]),("time",.tuple [.int 0,.int 999999999]),("number",.tuple [.int 0,.int 999999999])]
def mL(p:Str)(d:D):Prop:=(p="name"/\∃w,d=.str w/\YA w=jb)∨(p="word"/\∃w,d=.str w/\mB w=jb)∨(p="by"/\d=.str "by") ∨
 ((p∉HH/\p≠"word"/\p≠"by")/\∃a b n:Int,zE.lookup p=jy (.tuple [.int a,.int b])/\d=.int n/\a<=n/\n<=b/\0<=a/\b<=999999999)
inductive FitsL:LS->List D->Prop where
 |nil:FitsL [] []
 |cons {p:Str}{d:D}{ps:LS}{ds:List D}:mL p d->FitsL ps ds->FitsL (p::ps) (d::ds)
theorem mL.txts{p:Str}{d:D}(h:mL p d):fC (XH d)/\((∃z,d=.str z)∨∃n:Int,d=.int n/\0<=n/\n<=999999999):=by
 rcases h with⟨_,w,rfl,x⟩| ⟨_,w,rfl,x⟩| ⟨_,rfl⟩| ⟨_,a,b,n,_,rfl,f,e,u,y⟩
 exact#[AD (aO x),.inl #[w,rfl]];exact#[AD x,.inl #[w,rfl]];exact#[AD (by decide +kernel),.inl #[_,rfl]];exact#[cj () (),.inr #[n,rfl,(),()]]
theorem FitsL.len{f:LS}{vs:List D}(h:FitsL f vs):f.length=vs.length:=by
 induction h with|nil=>rfl|cons _ _ x=>rw[QJ,QJ,x]
theorem FitsL.all{f:LS}{vs:List D}(h:FitsL f vs):∀d∈vs,fC (XH d)/\((∃z,d=.str z)∨∃n:Int,d=.int n/\0<=n/\n<=999999999):=by
 induction h with|nil=>intro d hd;cases hd|cons a _ x=>intro d hd;rcases QR.mp hd with rfl|hd;exact a.txts;exact x d hd
noncomputable def yB(p w:Str):D:=if decide (p∈HH)=jb then(if YA w=jb then .str w else .none) else if decide (p=QA "word")=jb then(if mB w=jb then .str w else .none) else
 if decide (p=QA "by")=jb then(if decide (w=QA "by")=jb then .str w else .none) else match zE.lookup p with
 |some (.tuple [.int a,.int b])=>HC a b w|_=>.none
def M8(p:Str):Prop:=p∈HH∨p="word"∨p="by"∨∃a b:Int,zE.lookup p=jy (.tuple [.int a,.int b])
noncomputable def tG:PSp where
 run:=λh Q _=>∃(p w:Str),h=[.d (.str p),.d (.str w)]/\M8 p/\w.length<=j1/\Q (.d (yB p w)) []
theorem OU:(HH.map Jx).all zB=true:=by rfl
theorem j7(p:Str):((HH.map Jx).any λy=>Qz y (.str p))=decide (p∈HH):=by
 rw[QCy];have:∀l:LS,(l.any ((λy=>Qz y (.str p))∘Jx))=decide (p∈l):=by
  intro l;induction l with|nil=>rfl|cons x l h=>rw[qB,h];show(decide (x=p)||decide (p∈l))=_;by_cases e:x=p;subst e;simp;have u:¬ p=x:=λz=>e z.symm;simp[e,u]
 exact this HH
theorem MR{Ψ:PEv}(j:Ψ.sp "is_name"=rE)(i:Ψ.sp "is_word"=kD)(g:Ψ.sp "number_within"=xC)(u:Ψ.va "NAMED"=jy (.tuple (HH.map Jx)))(y:Ψ.dc "RANGES"=jy zE):RK Ψ aI tG JN ZK:=by
 rintro _ Q _ ⟨p,w,rfl,f,hl,q⟩;refine rA [bD (.str p),bD (.str w)] ?_;unfold yB at q;delta aI;simp![↓TD u,OU,j7];refine#[.inl rfl,fF (λc=>?_) λc=>fF (λh=>?_) λh=>fF (λx=>?_) λx=>?_];rw[ef c]at q;delta ZJ;simp![↓fA (md:=[]) j rfl rfl,↓ZR hl];refine fF (λd=>?_) λd=>?_;rw[ef d]at q;exact q;rw[eH d]at q;exact q;rw[eH c,ef h]at q;delta YJ;simp![↓fA (md:=[]) i rfl rfl,↓JK hl];refine fF (λd=>?_) λd=>?_;rw[ef d]at q;exact q;rw[eH d]at q;exact q;rw[eH c,eH h,ef x]at q;delta JJ;simp![↓dA];refine fF (λd=>?_) λd=>?_;rw[ef d]at q;exact q;rw[eH d]at q;exact q;rw[eH c,eH h,eH x]at q;rcases f with z|z|z|⟨a,b,e⟩
 exact eN (dT z) c;exact eN (dT z) h;exact eN (dT z) x;rw[e]at q;delta iJ;simp![↓fA (md:=[]) g rfl rfl,↓Ni y e,↓RI hl];exact q
noncomputable def vC(f ws:LS):List D:=(f.zip ws).map λp=>yB p.1 p.2
noncomputable def KL(o:Option (LS))(ws:LS):Option (List D):=match o with
 |none=>jz|some f=>if ws.length=f.length then(if(vC f ws).any CB=jb then jz else jy (vC f ws)) else jz
noncomputable def Ma(h:Str):Option (List D)->T
 |none=>.d .none|some vs=>.lst ((Jx h::vs).map T.d)
noncomputable def CF:PSp where
 run:=λy Q _=>∃(h:Str) (o:Option (LS)) (x:LS),y=[.d (FR o),.d (.list ((h::x).map Jx))]/\x.length<=1000/\(∀w∈x,w.length<=j1)/\(∀f,o=jy f->f.length<=1000/\∀p∈f,M8 p)/\Q (Ma h (KL o x)) []
theorem rc{y:D}(h:zB y=jb):Qz y .none=CB y:=by cases y<;>first|rfl|cases h
theorem M5(a b:Int)(w:Str):zB (HC a b w)=true:=by
 unfold HC KG;cases CO w with|false=>rfl|true=>show zB (if(decide (a<=mC w)&&decide (mC w<=b))=jb then .int (mC w) else .none)=jb;split<;>rfl
theorem R0(p w:Str):zB (yB p w)=true:=by
 unfold yB
 repeat' split
 all_goals first|rfl|exact M5 _ _ _
theorem J8(f ws:LS):(vC f ws).all zB=true:=by unfold vC;rw[QCw];exact Qo.mpr λp _=>R0 p.1 p.2
theorem Oc{l:List D}(h:l.all zB=jb):(l.any λy=>Qz y .none)=l.any CB:=by
 induction l with|nil=>rfl|cons x l z=>rw[Q8,QX]at h;rw[qB,qB,z h.2,rc h.1]
theorem oQ{Ψ:PEv}(X:Ψ.sp "value_of"=tG):RK Ψ EE CF SK EI:=by
 rintro _ Q _ ⟨h,o,x,rfl,C,m,r,q⟩;refine rA [bD (FR o),bD (.list ((h::x).map Jx)),jz] ?_;cases o with
 |none=>delta EE;simp![FR];exact q|some f =>
  let#[B,n]:=r f rfl;have K:zC (WD Jx (h::x)) 0=jy (.str h):=NA (j:=0) rfl;have g:((h::x).map Jx).length=x.length+1:=by simp
  have i:(WD Jx f).length=f.length:=by simp
  have W:ND ((h::x).map Jx) (jy 1) jz=x.map Jx:=by unfold ND;simp[HT.sIx];exact qr (by simp)
  have Y:WD (λp=>T.d (PyData.tuple [p.fst,p.snd])) ((WD Jx f).zip (x.map Jx))=(f.zip x).map λp:Str×Str=>T.d (PyData.tuple [.str p.1,.str p.2]):=by rw[List.zip_map,wF];rfl
  have q:Q (Ma h (if x.length=f.length then(if(vC f x).any CB=jb then jz else jy (vC f x)) else jz)) []:=q;delta EE;simp![FR,↓gC K,↓Cs W,g,i,Y];refine fF (λc=>?_) λc=>?_;rw[eH (λz=>by rw[dT ()]at c;cases c)]at q;exact q;have e:x.length=f.length:=by by_cases z:((x.length+1:Nat):Int)=1+(f.length:Int);omega;rw[dF z]at c;exact eN rfl c
  rw[ef e]at q;refine#[(),NC (λp:Str×Str=>T.d (PyData.tuple [.str p.1,.str p.2])) (λp=>T.d (yB p.1 p.2)) _ _ _ (λp y R s=>?_) ?_ ?_];simp![↓fA (md:=[]) X rfl rfl];have a:=QAW y;refine#[_,_,rfl,(n p.1 a.1),(m p.2 a.2),?_];simp![↓dA];exact s;simp;omega;rw[Qt,yX (λp:Str×Str=>yB p.1 p.2)];have u:=J8 f x;have b:=Oc u;have l:(vC f x).length<=1000:=by unfold vC;rw[QG,QBb];omega
  have Z:WD (λp:Str×Str=>yB p.1 p.2) (f.zip x)=vC f x:=rfl;rw[Z];generalize vC f x=A at u b l q;simp![↓dA];refine#[by first|omega | (simp;omega),.inl #[rfl,?_],?_];rw[Q8,u];rfl;rw[qB,b];have:(Qz (.str h) .none||A.any CB)=A.any CB:=rfl;rw[this];refine fF (λc=>?_) λc=>?_;rw[ef c]at q;exact q;rw[eH c]at q;exact q
theorem sK{Ψ:PEv}{b:PT}{p:PSp}{N ps:LS}{y:LT}{Q:T->LT->Prop}{E:XE}(ρ:zA)(hl:y.length=ps.length)(hc:yC 0 p.md ps.length=[])(z:OA N p.md y=ρ)(h:eB Ψ E b (eZ Q) ρ):y.length=ps.length/\∃E':XE,(∀x,E' x->E x)/\eB Ψ E' b (sC p ps.length Q) (OA N p.md y):=by
 have e:sC p ps.length Q=eZ Q:=by unfold sC;rw[hc];rfl
 rw[e,z];exact#[hl,E,λ_ h=>h,h]
def Cw(h:Str)(vs:List D):Prop:=ED.lookup h=jz∨∃i j a b,ED.lookup h=jy (.tuple [.int i,.int j])/\zC (.str h::vs) i=jy (.str a)/\zC (.str h::vs) j=jy (.str b)/\a≠b
structure Good(h:Str)(vs:List D):Prop where
 hd:fC h
 fm:∃f,jC h (vs.length+1)=jy f/\FitsL f vs
 un:Cw h vs
noncomputable def rW(vs:List D)(k:Nat):Str:=match vs[k]? with
 |some (.str a)=>a|_=>#[#[]]
noncomputable def zL(h:Str)(vs:List D):Bool:=if decide (h=QA "against")=jb then !decide (rW vs 0=rW vs 1) else if decide (h=QA "tell")=jb then !decide (rW vs 1=rW vs 2) else jb
noncomputable def HN(h:Str)(ws:LS):Option (List D):=match KL (jC h (ws.length+1)) ws with
 |none=>jz|some vs=>if zL h vs=jb then jy vs else jz
theorem Oo{α:Type}{x:Str}{l:List (Str×α)}{v:α}(h:l.lookup x=jy v):∃p∈l,p.1=x/\p.2=v:=by
 induction l with
 |nil=>cases h|cons p l y =>
  let#[a,b]:=p;rw[Qg]at h;cases e:x==a with|true=>rw[e]at h;exact#[(a,b),QK,(Qi e).symm,QY h]|false=>rw[e]at h;let#[p,u,z]:=y h;exact#[p,QH _ u,z]
theorem oO:M8 (QA "name"):=.inl (by decide +kernel)
theorem yK:∀p∈[QA "name","rank","floor","needs","time","word","by"],M8 p:=by intro p h;simp only[QR,qK,or_false]at h;rcases h with rfl|rfl|rfl|rfl|rfl|rfl|rfl;exact oO;exact .inr (.inr (.inr #[0,99,by kernel_rfl]));exact .inr (.inr (.inr #[0,99,by kernel_rfl]));exact .inr (.inr (.inr #[1,4,by kernel_rfl]));exact .inr (.inr (.inr #[0,999999999,by kernel_rfl]));exact .inr (.inl rfl);exact .inr (.inr (.inl rfl))
theorem eS:∀q∈gI,q.2.length<=5/\∀p∈q.2,p∈[QA "name","rank","floor","needs","time","word","by"]:=by decide +kernel
theorem BF:kC.length=5/\∀p∈kC,p∈[QA "name","rank","floor","needs","time","word","by"]:=by decide +kernel
theorem sV{h:Str}{n:Nat}{f:LS}(e:jC h n=jy f):f.length<=1000/\∀p∈f,M8 p:=by
 unfold jC at e;split at e;split at e
 ·rename_i c
  cases e;refine#[?_,λp x=>?_];unfold df;rw[QL,BF.1,QJ,Q7];omega;rcases Qy.mp x with x|x
  ·exact yK p (BF.2 p x)
  rcases QR.mp x with rfl|x
  ·exact .inr (.inr (.inl rfl))
  rw[wM x];exact oO
 cases e;exact#[by rw[BF.1];decide,λp x=>yK p (BF.2 p x)];let#[q,y,_,rfl]:=Oo e;let#[u,z]:=eS q y;exact#[(),λp x=>yK p (z p x)]
theorem DI{w:Str}(h:CB (yB (QA "name") w)=js):yB (QA "name") w=.str w:=by
 unfold yB at h ⊢;rw[ef (show decide (QA "name"∈HH)=jb by decide +kernel)]at h ⊢;cases c:YA w with|true=>rfl|false=>rw[c]at h;cases h
theorem Y1{h:Str}{ws:LS}{vs:List D}(e:KL (jC h (ws.length+1)) ws=jy vs):(ED.lookup h=jz/\zL h vs=jb)∨∃i j a b,ED.lookup h=jy (.tuple [.int i,.int j])/\zC (.str h::vs) i=jy (.str a)/\zC (.str h::vs) j=jy (.str b)/\(!decide (a=b))=zL h vs:=by
 cases y:jC h (ws.length+1) with
 |none=>rw[y]at e;cases e|some f =>
  rw[y]at e;have e:(if ws.length=f.length then(if(vC f ws).any CB=jb then jz else jy (vC f ws)) else jz)=jy vs:=e;split at e;rename_i el;split at e;cases e;rename_i x;cases e;rw[Bool.not_eq_true]at x;by_cases n:h=QA "against";subst n;have:f=[QA "name","name"]:=by
   have:jC (QA "against") (ws.length+1)=jy [QA "name","name"]:=by unfold jC;rw[eH (by decide +kernel)];decide +kernel
   rw[this]at y;exact(QY y).symm
  subst this
  match ws,el with
  |[w1,w2],_ =>
   have x:(CB (yB (QA "name") w1)||(CB (yB (QA "name") w2)||false))=false:=x;rw[wP,wP]at x;have l:=DI x.1;have u:=DI x.2.1;have z:vC [QA "name","name"] [w1,w2]=[.str w1,.str w2]:=by show[yB (QA "name") w1,yB (QA "name") w2]=_;rw[l,u]
   rw[z];refine .inr #[1,2,w1,w2,by kernel_rfl,rfl,rfl,?_];unfold zL;rw[ef (by decide +kernel)];rfl
  by_cases m:h=QA "tell"
  ·subst m
   obtain⟨g,rfl⟩:∃g,f=QA "time"::QA "name"::QA "name"::g:=by unfold jC at y;rw[ef (by decide +kernel)]at y;split at y;cases y;exact#[_,rfl];cases y;exact#[_,rfl]
   match ws,el with
   |w0::w1::w2::ws',_ =>
    have x:(CB (yB (QA "time") w0)||(CB (yB (QA "name") w1)||(CB (yB (QA "name") w2)||(vC g ws').any CB)))=false:=x;rw[wP,wP,wP]at x;have l:=DI x.2.1;have u:=DI x.2.2.1;have z:vC (QA "time"::QA "name"::QA "name"::g) (w0::w1::w2::ws')=yB (QA "time") w0::.str w1::.str w2::vC g ws':=by show yB (QA "time") w0::yB (QA "name") w1::yB (QA "name") w2::vC g ws'=_;rw[l,u]
    rw[z];refine .inr #[2,3,w1,w2,by kernel_rfl,NA (j:=2) rfl,NA (j:=3) rfl,?_];unfold zL;rw[eH (by decide +kernel),ef (by decide +kernel)];rfl
  refine .inl #[?_,?_]
  ·show wa h [(QA "against",_),(QA "tell",_)]=jz
   rw[Qg,Qg,show(h==QA "against")=js from beq_eq_false_iff_ne.mpr n,show(h==QA "tell")=js from beq_eq_false_iff_ne.mpr m];rfl
  unfold zL;rw[dF n,dF m];rfl;cases e
noncomputable def FC:PSp where
 run:=λg Q E=>∃(r:Str) (x:Int),g=[.d (.str r),.d (.int x)]/\(r.length<=900/\0<=x/\x<=10000/\∀w∈Lib.wordsOf r,w.length<=100)/\((Lib.wordsOf r=[]/\Q (.d .none) [])∨∃h y,Lib.wordsOf r=h::y/\((∃vs,HN h y=jy vs/\Q (.lst (WD T.d (Jx h::vs))) [])∨HN h y=jz/\E ("BadRow",x)))
 mono:=λk u #[p,w,e,l,q]=>#[p,w,e,l,q.imp (λq=>#[q.1,k _ _ q.2]) λ#[a,b,f,q]=>#[a,b,f,q.imp (λ#[vs,z,q]=>#[vs,z,k _ _ q]) λ#[z,q]=>#[z,u _ q]]]
theorem jY(r:Str):(Lib.wordsOf r).length<=r.length+2:=qZ (List.length_filter_le _ _) (QDe r #[(List.toArray [32])])
theorem UY{Ψ:PEv}(P:Ψ.sp "words_in"=HE)(O:Ψ.sp "values_by"=CF)(N:Ψ.sp "form_for"=aG)(M:Ψ.sp "are_unlike"=yF)(v:Ψ.va "BadRow"=jy (ZH "BadRow"))(ds Q E)(h:FC.run ds Q E):ds.length=EJ.length/\∃E':XE,(∀x,E' x->E x)/\eB Ψ E' gN (sC FC EJ.length Q) (OA iT FC.md ds):=by
 let#[r,u,rfl,#[hl,J,R,X],q]:=h;refine sK [bD (.str r),bD (.int u),jz,jz] rfl rfl rfl ?_;have l:=jY r;have Z:∀w∈Lib.wordsOf r,w.length<=sizeLine:=λw h=>by have:=X w h;omega
 have er:∀(K W:Option Sl),E ("BadRow",u)->Mb (jy 1) [bD (.str r),bD (.int u),K,W]/\∃y,Ψ.va "BadRow"=jy (ZH y)/\∃p,T.d (Jy u)=.d (.int p)/\E (y,p):=λK W z=>by refine#[#[u,rfl,?_],"BadRow",v,u,rfl,z];let#[m,rfl]:=wV J;show Nat.log2 m<1920;by_cases Y:m=0;subst Y;decide;exact Qh ((QBE Y).mpr (show m<2 ^ 14 by omega)) (by decide)
 delta gN;simp![↓fA (md:=[]) P rfl rfl,↓MP (show r.length<=100000 by omega)];rcases q with⟨e,q⟩| ⟨h,n,e,q⟩
 rw[e];exact q;rw[e]at l Z ⊢;refine fF (λc=>?_) λ_=>?_;simp at c;omega;have A:n.length<=1000:=by rw[QJ]at l;omega
 simp![↓fA (md:=[]) O rfl rfl,↓fA (md:=[]) N rfl rfl];refine#[_,_,rfl,A,?_];simp![↓dA];refine#[_,_,_,rfl,A,(λw X=>Z w (QH _ X)),(λf L=>sV L),?_];unfold HN at q;cases hv:KL (jC h (n.length+1)) n with
 |none=>rw[hv]at q;have q:E ("BadRow",u):=q.elim (λ#[_,z,_]=>by cases z) λz=>z.2;simp![Ma];exact er _ _ q|some vs =>
  rw[hv]at q;have q:(∃g,(if zL h vs=jb then jy vs else jz)=jy g/\Q (.lst (WD T.d (Jx h::g))) [])∨(if zL h vs=jb then jy vs else jz)=jz/\E ("BadRow",u):=q;simp![Ma,↓fA (md:=[.xx]) M rfl rfl];refine#[_,_,rfl,?_];have fin:∀b,b=zL h vs->(b=jb->Q (.lst (WD T.d (Jx h::vs))) [])/\(b=js->E ("BadRow",u)):=by
   rintro _ rfl;refine#[λz=>?_,λz=>?_];rw[ef z]at q;exact q.elim (λ#[_,e,q]=>by cases e;exact q) λe=>by cases e.1
   rw[z]at q;exact q.elim (λ#[_,e,_]=>by cases e) λe=>e.2
  rcases Y1 hv with⟨s,o⟩| ⟨i,j,a,b,s,o,I,G⟩
  refine .inl #[s,?_];simp![↓dA];exact(fin jb o.symm).1 rfl;refine .inr #[i,j,a,b,s,o,I,?_];let#[F,C]:=fin _ G;simp![↓dA];cases B:decide (a=b) with|true=>rw[B]at C;simp![↓dA];exact er _ _ (C rfl)|false=>rw[B]at F;simp![↓dA];exact F rfl
theorem AB{x:Str}(h:YA x=jb):mL "name" (.str x):=.inl #[rfl,x,rfl,h]
theorem NO{x:Str}(h:mB x=jb):mL "word" (.str x):=.inr (.inl #[rfl,x,rfl,h])
theorem bc:mL "by" (.str "by"):=.inr (.inr (.inl #[rfl,rfl]))
theorem sJ{p:Str}{a b n:Int}(u:p∉HH/\p≠"word"/\p≠"by")(z:zE.lookup p=jy (.tuple [.int a,.int b]))(y:a<=n)(x:n<=b)(e:0<=a)(h:b<=999999999):mL p (.int n):=.inr (.inr (.inr #[u,a,b,n,z,rfl,y,x,e,h]))
theorem mZ{n:Int}(x:0<=n)(h:n<=99):mL "rank" (.int n):=sJ (by decide +kernel) (show zE.lookup (QA "rank")=jy (.tuple [.int 0,.int 99]) by kernel_rfl) x h (by decide) (by decide)
theorem JV{n:Int}(x:0<=n)(h:n<=99):mL "floor" (.int n):=sJ (by decide +kernel) (show zE.lookup (QA "floor")=jy (.tuple [.int 0,.int 99]) by kernel_rfl) x h (by decide) (by decide)
theorem iV{n:Int}(x:1<=n)(h:n<=4):mL "needs" (.int n):=sJ (by decide +kernel) (show zE.lookup (QA "needs")=jy (.tuple [.int 1,.int 4]) by kernel_rfl) x h (by decide) (by decide)
theorem OO{n:Int}(x:0<=n)(h:n<=999999999):mL "time" (.int n):=sJ (by decide +kernel) (show zE.lookup (QA "time")=jy (.tuple [.int 0,.int 999999999]) by kernel_rfl) x h (by decide) (by decide)
section
variable{α:Type}(a b c d e f g:α)(l:List α)
theorem GD:zC (a::l) 0=jy a:=NA (j:=0) rfl
theorem Mc:zC (a::b::l) 1=jy b:=NA (j:=1) rfl
theorem uq:zC (a::b::c::l) 2=jy c:=NA (j:=2) rfl
theorem ku:zC (a::b::c::d::l) 3=jy d:=NA (j:=3) rfl
theorem Bw:zC (a::b::c::d::e::l) 4=jy e:=NA (j:=4) rfl
theorem Nu:zC (a::b::c::d::e::f::g::l) 6=jy g:=NA (j:=6) rfl
theorem kN(xs:List α){k:Int}(h:0<=k):ND xs (jy k) jz=xs.drop k.toNat:=by unfold ND HT.sIx;simp only;rw[eH ()];rcases Nat.le_total k.toNat xs.length with q|q;rw[QDW (),qr (by simp)];rw[QDE (),QBM,QBS q];simp
theorem M7(xs:List α){k:Int}(h:0<=k):ND xs jz (jy k)=xs.take k.toNat:=by unfold ND HT.sIx;simp only;rw[eH ()];rcases Nat.le_total k.toNat xs.length with q|q;rw[QDW ()];simp;rw[QDE (),qr (by simp),qr q];simp
end
theorem BD{α:Type}{body:T->(Option T->Prop)->Prop}(h:α->D)(f:α->T)(l:List α)(Q:LT->Prop)(y:∀x∈l,∀R:Option T->Prop,R (jy (f x))->body (.d (h x)) R)(hl:l.length<=j1)(q:Q (l.map f)):CD body ((l.map h).map T.d) [] Q:=by
 have e:(l.map h).map T.d=l.map λx=>T.d (h x):=by simp
 rw[e];exact NC (λx=>T.d (h x)) f l [] Q y (by simpa using hl) q
theorem pj{α:Type}(h:α->D)(l:List α):l.map (λx=>T.d (h x))=(l.map h).map T.d:=by simp
inductive Ev where
 |see (t:Int) (p m w:Str)
 |tell (t:Int) (p q m w:Str) (b:LS)
noncomputable abbrev P4:=Str×Int×Int×Int
set_option genInjectivity true in
inductive Rw where
 |per (p:P4)|mat (m:Str)|aga (a b:Str)|ev (e:Ev)
noncomputable def pD(p:P4):D:=.tuple [.str p.1,.int p.2.1,.int p.2.2.1,.int p.2.2.2]
noncomputable def aD(p:Str×Str):D:=.tuple [.str p.1,.str p.2]
noncomputable def eD:Ev->D
 | .see t p m w=>.tuple [.str "see",.int t,.str p,.str m,.str w]|.tell t p q m w b=>.tuple [.str "tell",.int t,.str p,.str q,.str m,.str w,.tuple (b.map Jx)]
noncomputable def Rw.hd:Rw->Str
 | .per _=>"person"|.mat _=>"matter"|.aga _ _=>"against"|.ev (.see _ _ _ _)=>"see"|.ev (.tell _ _ _ _ _ _)=>"tell"
noncomputable def Uk:LS->List D
 |[]=>[]|b=>.str "by"::b.map Jx
noncomputable def Rw.vs:Rw->List D
 | .per p=>[.str p.1,.int p.2.1,.int p.2.2.1,.int p.2.2.2]|.mat m=>[.str m]|.aga a b=>[.str a,.str b]|.ev (.see t p m w)=>[.int t,.str p,.str m,.str w]|.ev (.tell t p q m w b)=>[.int t,.str p,.str q,.str m,.str w]++Uk b
noncomputable def Rw.ent:Rw->D
 | .per p=>pD p|.mat m=>.str m|.aga a b=>aD (a,b)|.ev e=>eD e
noncomputable def YB(l:List Rw):List P4:=l.filterMap fun | .per p=>jy p|_=>jz
noncomputable def cB(l:List Rw):LS:=l.filterMap fun | .mat p=>jy p|_=>jz
noncomputable def gB(l:List Rw):v9:=l.filterMap fun | .aga a b=>jy (a,b)|_=>jz
noncomputable def rF(l:List Rw):List Ev:=l.filterMap fun | .ev p=>jy p|_=>jz
noncomputable def vI(l:List Rw):LS:=(YB l).map wK
noncomputable def W4(l:List Rw):D:=.tuple [.list ((YB l).map pD),.list ((cB l).map Jx),.list ((gB l).map aD),.list ((rF l).map eD)]
noncomputable def T4(l:List Rw):T:=.tup [.lst (((YB l).map pD).map T.d),.lst (((cB l).map Jx).map T.d),.lst (((gB l).map aD).map T.d),.lst (((rF l).map eD).map T.d)]
theorem Tf(l:List Rw):(T4 l).er=W4 l:=by simp only[T4,W4,T.er,ersT,fB]
structure RowOk(l:List Rw)(r:Rw):Prop where
 good:Good r.hd r.vs
 few:r.vs.length<=12
 sec:match r with
  | .per p=>cB l=[]/\gB l=[]/\rF l=[]/\p.1∉vI l/\(YB l).length<10|.mat m=>gB l=[]/\rF l=[]/\m∉cB l/\(cB l).length<6|.aga a b=>rF l=[]/\(a,b)∉gB l/\(b,a)∉gB l/\a∈cB l/\b∈cB l/\(gB l).length<15|.ev (.see _ p m _)=>p∈vI l/\m∈cB l/\(rF l).length<80|.ev (.tell _ p q m _ b)=>p∈vI l/\q∈vI l/\m∈cB l/\(∀x∈b,x∈vI l)/\(rF l).length<80
def gL(l:List Rw):Prop:=∀a r b,l=a++r::b->RowOk a r
theorem dG(l:LS)(x:Str):((l.map Jx).any λy=>Qz y (.str x))=decide (x∈l):=by
 induction l with
 |nil=>rfl|cons y l z =>
  rw[QN,qB,z];have:Qz (.str y) (.str x)=decide (y=x):=by unfold Qz;exact wY.mpr (by simp)
  rw[this];by_cases h:y=x;simp[h];have u:¬ x=y:=λe=>h e.symm;simp[h,u]
theorem r9(x y:Str):(x==y)=decide (x=y):=wY.mpr (by simp)
theorem e8(l:v9)(a b:Str):((l.map aD).any λy=>Qz y (.tuple [.str a,.str b]))=decide ((a,b)∈l):=by
 induction l with
 |nil=>rfl|cons y l f =>
  rw[QN,qB,f];have:Qz (aD y) (.tuple [.str a,.str b])=decide (y=(a,b)):=by let#[u,z]:=y;simp only[aD,Qz,PyData.eqvAll,QAM,r9];by_cases g:u=a<;>by_cases x:z=b<;>simp[g,x]
  rw[this];by_cases h:y=(a,b);simp[h];have x:¬ (a,b)=y:=λe=>h e.symm;simp[h,x]
theorem mE(l:LS):(l.map Jx).all zB=true:=by rw[QCw];exact Qo.mpr λ_ _=>rfl
theorem C5{x:Str}(h:fC x):PyData.strOk x=true:=by unfold PyData.strOk;rw[<- Array.all_toList];exact Qo.mpr λc hc=>by have:=h.2.2 c hc;simp;omega
theorem pQ{a b:Str}(x:fC a)(h:fC b):oG (.tuple [.str a,.str b]):=by refine#[?_,by show WL _<=64;simp only[WL,wE];decide];simp only[W0,qw,C5 x,C5 h,QAM]
theorem OR{l:v9}(h:∀p∈l,fC p.1/\fC p.2):oG (.list (l.map aD)):=by
 have:qw (l.map aD)=jb/\wE (l.map aD)<=1:=by
  induction l with
  |nil=>exact#[rfl,by simp[wE]]|cons p l y =>
   let#[z,g]:=y λq u=>h q (QH _ u);let#[b,a]:=h p QK;let#[x,f]:=pQ b a;rw[QN];refine#[?_,?_];simp only[qw,z,QAM];exact x;have e:WL (aD p)=1:=by simp only[aD,WL,wE];decide
   simp only[wE,e];omega
 refine#[?_,?_];simp only[W0];exact this.1;simp only[WL];omega
noncomputable def uC:List (Str×D):=[("person",.int 0),("matter",.int 1),("against",.int 2),("see",.int 3),("tell",.int 3)]
noncomputable def Je:D:=.tuple [.int 10,.int 6,.int 15,.int 80]
noncomputable def RA:List (Str×D):=[("see",.tuple [.int 2]),("tell",.tuple [.int 2,.int 3])]
noncomputable def DA:List (Str×D):=[("against",.tuple [.int 1,.int 2]),("see",.tuple [.int 3]),("tell",.tuple [.int 4])]
theorem pW(s:Str)(l:LS):we s l=QAl s l:=StrLaws.glued_eq_join s l
theorem rS(s:Str)(l:LS):(we s l).length=(l.map (·.length)).sum+(l.length - 1) * s.length:=size_glued s l
noncomputable def DM(c:Nat):List (LN)->LN
 |[]=>[]|[x]=>x|x::y::r=>x++c::DM c (y::r)
theorem AE(c:Nat):∀(ps:LS),(QAl #[(List.toArray [c])] ps).cps.toList=DM c (ps.map λp=>p.cps.toList)
 |[]=>rfl|[x]=>rfl|x::y::r=>by show((x.cps++(List.toArray [c]))++(QAl #[(List.toArray [c])] (y::r)).cps).toList=_;have h:=AE c (y::r);rw[QN]at h;rw[QN,QN,DM,<- h];simp
noncomputable def Ch(c:Nat):LN->LN->List (LN)
 |[],cur=>[cur]|x::xs,cur=>if x=c then cur::Ch c xs [] else Ch c xs (cur++[x])
theorem NL(c:Nat):∀(w r y:LN),c∉w->Ch c (w++r) y=Ch c r (y++w)
 |[],r,y,_=>by simp|x::w,r,y,h=>by have u:¬ x=c:=λe=>h (by simp[e]);rw[Wc,Ch,eH u,NL c w r _ λz=>h (QH _ z)];simp
theorem ML(c:Nat):∀(ps:List (LN)),ps≠[]->(∀p∈ps,c∉p)->Ch c (DM c ps) []=ps
 |[],h,_=>eN rfl h|[x],_,h=>by have:=NL c x [] [] (h x (by simp));rw[Qd]at this;rw[DM,this];rfl|x::y::r,_,h=>by rw[DM,NL c _ _ _ (h x (by simp)),Ch,ef rfl,ML c (y::r) (by simp) λp z=>h p (QH _ z)];rfl
theorem cU{c:Nat}{ps:LS}(e:ps≠[])(h:∀p∈ps,c∉p.cps.toList):qS (we #[(List.toArray [c])] ps) #[(List.toArray [c])]=ps:=by
 have a:=AE c (qS (we #[(List.toArray [c])] ps) #[(List.toArray [c])]);rw[QCM]at a;have u:=AE c ps;rw[<- pW]at u;have b:qS (we #[(List.toArray [c])] ps) #[(List.toArray [c])]≠[]:=λz=>by have:=split_pos (we #[(List.toArray [c])] ps) #[(List.toArray [c])];rw[z]at this;simp at this
 have g:=ML c ((qS (we #[(List.toArray [c])] ps) #[(List.toArray [c])]).map λp=>p.cps.toList) (by simpa using b) λp y=>by let#[q,x,rfl]:=Qm.mp y;exact QCN _ c q x
 have f:=ML c (ps.map λp=>p.cps.toList) (by simpa using e) λp y=>by let#[q,x,rfl]:=Qm.mp y;exact h q x
 exact jP (by rw[<- g,<- f,<- a,<- u])
theorem ET{ws:LS}(h:∀w∈ws,fC w):Lib.wordsOf (we " " ws)=ws:=by
 apply OH;have z:QA " "=#[(List.toArray [32])]:=by decide +kernel
 rw[pW,z,cI,ZP];apply List.filter_eq_self.mpr;intro p y;let#[w,x,rfl]:=Qm.mp y;have:=(h w x).1;cases e:w.cps.toList with|nil=>exact eN e this|cons _ _=>rfl
 intro p y;let#[w,x,rfl]:=Qm.mp y;exact(h w x).free
noncomputable def VD:PSp where
 run:=λh Q _=>∃l,h=[.d (W4 l)]/\(YB l).length<=400/\Q (.lst (((vI l).map Jx).map T.d)) []
theorem PR{Ψ:PEv}:RK Ψ JI VD ZN BK:=by
 rintro _ Q _ ⟨l,rfl,hl,q⟩;refine rA [bD (W4 l)] ?_;delta W4;delta JI;simp![↓GD];refine BD pD (λp:P4=>T.d (.str p.1)) (YB l) _ (λp _ R h=>?_) () ?_;delta pD;simp![↓GD];exact h;have e:((vI l).map Jx).map T.d=(YB l).map λp=>T.d (.str p.1):=by simp[vI]
 rw[e]at q;exact q
noncomputable def KD:PSp where
 run:=λx Q _=>∃h:List D,x=[.d (.list h)]/\Q (.lst ((h.drop 7).map T.d)) []
theorem nR{Ψ:PEv}{E:XE}{ρ:zA}{K:TK}{a b c:PX}{g:yx}:vB Ψ (.slc a (.bin g b c) .nop) E ρ K=vB Ψ a E ρ λx n f=>sq (α:=Option Int) (uA x n) f (λρ R=>vB Ψ (.bin g b c) E ρ λl _ h=>yD l.er λo=>R o h) λl h=>GF x n l jz λz k=>K z k h:=by
 show(pe Ψ a E).e ρ (λx n f=>sq (α:=Option Int) (uA x n) f (λρ R=>(pe Ψ (.bin g b c) E).e ρ λl _ h=>yD l.er λo=>R o h) λl h=>sq (α:=Option Int) (uA x n) h (λρ (R:Option Int->zA->Prop)=>R jz ρ) λu y=>sE (uA x n).vw l u λz k=>K z k y)=_;have:∀(x:T) (n:Bool) (h:zA) (l:Option Int),(sq (α:=Option Int) (uA x n) h (λρ (R:Option Int->zA->Prop)=>R jz ρ) λu y=>sE (uA x n).vw l u λz k=>K z k y)=sE (uA x n).vw l jz λz k=>K z k h:=by intro x n h l;unfold sq;split<;>rfl
 simp only[this];rfl
theorem kd{Ψ:PEv}{E:XE}{ρ:zA}{K:TK}{a:PX}{x:Str}{i:Int}(h:Ψ.va x=jy (.int i)):vB Ψ (.slc a .nop (.glo x)) E ρ K=vB Ψ a E ρ λy n b=>GF y n jz (jy i) λz k=>K z k b:=by
 show(pe Ψ a E).e ρ (λy n b=>sq (α:=Option Int) (uA y n) b (λρ (R:Option Int->zA->Prop)=>R jz ρ) λl g=>sq (α:=Option Int) (uA y n) g (λρ R=>(match Ψ.va x with|some d=>yD (T.d d).er λo=>R o ρ|none=>False)) λu f=>sE (uA y n).vw l u λz k=>K z k f)=_;rw[h];have:∀(y:T) (n:Bool) (b:zA),(sq (α:=Option Int) (uA y n) b (λρ (R:Option Int->zA->Prop)=>R jz ρ) λl g=>sq (α:=Option Int) (uA y n) g (λρ R=>yD (T.d (Jy i)).er λo=>R o ρ) λu f=>sE (uA y n).vw l u λz k=>K z k f)=sE (uA y n).vw jz (jy i) λz k=>K z k b:=by intro y n b;unfold sq;split<;>rfl
 simp only[this];rfl
theorem Uh{α:Type}{x:D}{n:Bool}{ρ:zA}{b:zA->(α->zA->Prop)->Prop}{K:α->zA->Prop}:sq (uA (.d x) n) ρ b K=b ρ K:=by rw[kA];rfl
theorem O3{i:Int}{P:Option Int->Prop}:yD (T.d (.int i)).er P=P (jy i):=rfl
theorem NR{Ψ:PEv}(x:Ψ.va "WORDING_ENDS"=jy (.int 6)):RK Ψ iI KD YN UK:=by rintro _ Q _ ⟨h,rfl,q⟩;refine rA [bD (.list h)] ?_;delta iI;simp![↓nR,↓Uh,↓TD x,↓O3];rw[kN _ (by decide)];exact q
theorem vT(b:LS):(Uk b).drop 1=b.map Jx:=by
 cases b with|nil=>rfl|cons x b=>rfl
noncomputable def aE(r:Rw):D:=.list (.str r.hd::r.vs)
noncomputable def ME:PSp where
 run:=λh Q _=>∃r:Rw,h=[.d (aE r)]/\r.vs.length<=12/\Q (.d r.ent) []
theorem Ke:decide (QA "matter"=QA "person")=js/\decide (QA "against"=QA "person")=js/\decide (QA "see"=QA "person")=js/\decide (QA "tell"=QA "person")=js /\
  decide (QA "against"=QA "matter")=js/\decide (QA "see"=QA "matter")=js/\decide (QA "tell"=QA "matter")=js/\decide (QA "see"=QA "against")=js/\decide (QA "tell"=QA "against")=false:=by decide +kernel
theorem Yp:decide (QA "person"=QA "matter")=js/\decide (QA "person"=QA "see")=js/\decide (QA "person"=QA "tell")=js/\decide (QA "against"=QA "see")=js/\decide (QA "against"=QA "tell")=js/\decide (QA "tell"=QA "see")=false:=by decide +kernel
theorem ER{Ψ:PEv}(o:Ψ.sp "quote_in"=KD)(x:Ψ.va "WORDING_ENDS"=jy (.int 6)):RK Ψ CC ME UN GK:=by
 rintro _ Q _ ⟨r,rfl,hl,q⟩;refine rA [bD (aE r)] ?_;let#[A,K,W,Z,n,l,j,Y,X]:=Ke;let#[i,g,f,u,z,y]:=Yp;cases r with
 |per p=>delta aE Rw.hd Rw.vs;delta CC iC JD mF;simp![↓GD,i,g,f,kN _ (show(0:Int)<=1 by decide)];exact q|mat m=>delta aE Rw.hd Rw.vs;delta CC;simp![↓GD,↓Mc];exact q|aga a b=>delta aE Rw.hd Rw.vs;delta CC iC JD mF;simp![↓GD,n,u,z,kN _ (show(0:Int)<=1 by decide)];exact q|ev e =>
  cases e with|see t p m w=>delta aE Rw.hd Rw.vs;delta CC iC;simp![↓GD,l];exact q|tell t p h m w b=>delta aE Rw.hd Rw.vs;delta CC iC JD;simp![↓GD,j,y,↓kd x,M7 _ (show(0:Int)<=6 by decide),↓fA (md:=[]) o rfl rfl];refine#[_,rfl,?_];have e:List.drop 7 (Jx "tell"::.int t::.str p::.str h::.str m::.str w::Uk b)=b.map Jx:=vT b;have s:List.take (wd 6) (Jx "tell"::.int t::.str p::.str h::.str m::.str w::Uk b)=[Jx "tell",.int t,.str p,.str h,.str m,.str w]:=rfl;rw[e];simp![↓dA];rw[s];exact#[(),by show 6+1<=_;omega,q]
structure Sml(l:List Rw):Prop where
 p:(YB l).length<=400
 ok:∀p∈gB l,fC p.1/\fC p.2
noncomputable def RH:PSp where
 run:=λh Q _=>∃l r,h=[.d (W4 l),.d (aE r)]/\Sml l/\RowOk l r/\Q (.d (.bool js)) []
theorem XU{Ψ:PEv}(W:Ψ.sp "names_of"=VD):RK Ψ uD RH tP bM:=by
 rintro _ Q _ ⟨l,r,rfl,hl,o,q⟩;refine rA [bD (W4 l),bD (aE r)] ?_;let#[Z,Y,X,s,n,j,i,g,u]:=Ke;have h:=o.sec;have z:=o.good;cases r with
 |per p=>delta aE Rw.hd Rw.vs;delta uD;simp![↓GD,↓Mc,↓fA (md:=[]) W rfl rfl];refine#[_,rfl,hl.p,?_];simp![↓dA];refine#[.inl #[rfl,mE _],?_];rw[dG,dF h.2.2.2.1];exact q|mat m=>delta W4 aE Rw.hd Rw.vs;delta uD jD;simp![↓GD,↓Mc,Z];refine#[.inl #[rfl,mE _],?_];rw[dG,dF h.2.2.1];exact q|aga a b =>
  have x:fC a/\fC b:=by let#[f,_,y]:=z.fm;exact#[(y.all (.str a) (by simp[Rw.vs])).1,(y.all (.str b) (by simp[Rw.vs])).1]
  delta W4 aE Rw.hd Rw.vs;delta uD jD dE;simp![↓GD,↓Mc,↓uq,Y,n,e8,dF h.2.1,dF h.2.2.1];exact#[(),.inr #[pQ x.1 x.2,OR hl.ok],(),.inr #[pQ x.2 x.1,OR hl.ok],q]
 |ev e =>
  cases e with|see t p m w=>delta W4 aE Rw.hd Rw.vs;delta uD jD dE kG;simp![↓GD,X,j,g];exact q|tell t p K m w b=>delta W4 aE Rw.hd Rw.vs;delta uD jD dE kG;simp![↓GD,s,i,u];exact q
theorem ij:RA.lookup (QA "person")=jz/\RA.lookup (QA "matter")=jz/\RA.lookup (QA "against")=jz/\RA.lookup (QA "see")=jy (.tuple [.int 2])/\RA.lookup (QA "tell")=jy (.tuple [.int 2,.int 3]) :=
 #[by kernel_rfl,by kernel_rfl,by kernel_rfl,by kernel_rfl,by kernel_rfl]
theorem Jj:DA.lookup (QA "person")=jz/\DA.lookup (QA "matter")=jz/\DA.lookup (QA "against")=jy (.tuple [.int 1,.int 2])/\DA.lookup (QA "see")=jy (.tuple [.int 3])/\DA.lookup (QA "tell")=jy (.tuple [.int 4]) :=
 #[by kernel_rfl,by kernel_rfl,by kernel_rfl,by kernel_rfl,by kernel_rfl]
theorem SW{body:T->(Option T->Prop)->Prop}(xs:LS)(Q:LT->Prop)(h:∀x∈xs,∀R:Option T->Prop,R (jy (.d (.bool js)))->body (.d (.str x)) R)(hl:xs.length<=j1)(q:Q (((xs.map λ_=>js).map PyData.bool).map T.d)):CD body ((xs.map Jx).map T.d) [] Q :=
 BD Jx (λ_=>T.d (.bool js)) xs Q h hl (by
  have e:((xs.map λ_=>js).map PyData.bool).map T.d=xs.map λ_=>T.d (.bool js):=by simp[QCi]
  rw[e]at q;exact q)
theorem i8(xs:LS):((xs.map λ_=>js).any id)=false:=by
 induction xs with|nil=>rfl|cons x xs h=>rw[QN,qB,h];rfl
noncomputable def bZ(l:List Rw)(v:D)(y x h:Option Sl):zA:=[bD (W4 l),bD v,y,x,h]
noncomputable abbrev sL(xs:LS):Option Sl:=bD (.list (xs.map Jx))
section
variable{Ψ:PEv}{Z:PEnds}{l:List Rw}{v:D}{u z h:Option Sl}{q:PT}
theorem Zt{xs ys:LS}(f:∀x∈xs,x∈vI l)(e:∀y∈ys,y∈cB l)(i:xs.length<=400)(g:ys.length<=400){Q:T->LT->Prop}(k:Q (.d (.bool js)) []) :
  pF Ψ %[.ret (.or (.bi .any %[.comp [] ["name"] (.nm 0) .val %[.vx 3|1] .nop (.cmp .NotIn (.vx 0) (.vx 3))|1]) (.bi .any %[.comp [] ["name"] (.nm 0) .val %[.vx 4|1] .nop (.cmp .NotIn (.vx 0) (.idx (.vx 1) (.int 1)))|1]))|2] (eZ Q) (bZ l v (sL (vI l)) (sL xs) (sL ys)):=by
 delta bZ sL W4;simp![↓dA];refine SW xs _ (λx a R b=>?_) () ?_;simp![↓dA];refine#[.inl #[rfl,mE _],?_];rw[dG,dT (f x a)];exact b;simp![↓dA];refine#[_,rfl,?_];rw[i8];simp![↓dA];refine SW ys _ (λx a R b=>?_) () ?_;simp![↓Mc];refine#[.inl #[rfl,mE _],?_];rw[dG,dT (e x a)];exact b;simp![↓dA];refine#[_,rfl,?_];rw[i8];exact k
end
theorem Fo:ZF []=.d (.tuple []):=rfl
section
variable{Ψ:PEv}{Z:PEnds}{l:List Rw}{v:D}{z y x:Option Sl}{q:PT}{h:Str}{vs:List D}
theorem Ut(u:Ψ.sp "names_of"=VD)(hl:(YB l).length<=400)(k:pF Ψ q Z (bZ l v (sL (vI l)) y x)):pF Ψ (.seq (.set 2 (.call "names_of" %[.vx 0|1])) q) Z (bZ l v z y x):=by delta bZ;simp![↓fA (md:=[]) u rfl rfl];refine#[_,rfl,hl,?_];simp![↓dA];exact k
theorem Vt(j:Ψ.sp "quote_in"=KD)(u:Ψ.dc "PEOPLE_AT"=jy RA)(ps:List (Int×Str))(bs:LS)(b:(RA.lookup h).getD (.tuple [])=.tuple (ps.map λp=>.int p.1))(g:∀p∈ps,zC (.str h::vs) p.1=jy (.str p.2))(f:vs.drop 6=bs.map Jx)(hl:ps.length<=20)(n:bs.length<=20)
  (k:pF Ψ q Z (bZ l (.list (.str h::vs)) z (sL (ps.map (·.2)++bs)) x)):pF Ψ (.seq (.set 3 (.bin .Add (.comp [] ["at"] (.nm 0) .val %[.prm (.dgetD "PEOPLE_AT") %[.idx (.vx 1) (.int 0),.tup .kz|1]|1] .nop (.idx (.vx 2) (.vx 0))) (.call "quote_in" %[.vx 1|1]))) q) Z (bZ l (.list (.str h::vs)) z y x):=by
 delta bZ;simp![↓GD,↓Fo,↓j5 u b];refine#[(),?_];refine BD (λp:Int×Str=>Jy p.1) (λp=>T.d (.str p.2)) ps _ (λp a R i=>?_) () ?_;simp![g p a];exact i;have e:ps.map (λp=>T.d (Jx p.2))=((ps.map (·.2)).map Jx).map T.d:=by simp
 rw[e];simp![↓fA (md:=[]) j rfl rfl];refine#[_,rfl,?_];have m:(Jx h::vs).drop 7=bs.map Jx:=f;rw[m];simp![<- Q6,QL,QG];exact#[(),k]
theorem Kt(u:Ψ.dc "MATTERS_AT"=jy DA)(ps:List (Int×Str))(b:(DA.lookup h).getD (.tuple [])=.tuple (ps.map λp=>.int p.1))(f:∀p∈ps,zC (.str h::vs) p.1=jy (.str p.2))(hl:ps.length<=20)
  (k:pF Ψ q Z (bZ l (.list (.str h::vs)) z y (sL (ps.map (·.2))))):pF Ψ (.seq (.set 4 (.comp [] ["at"] (.nm 0) .val %[.prm (.dgetD "MATTERS_AT") %[.idx (.vx 1) (.int 0),.tup .kz|1]|1] .nop (.idx (.vx 2) (.vx 0)))) q) Z (bZ l (.list (.str h::vs)) z y x):=by
 delta bZ;simp![↓GD,↓Fo,↓j5 u b];refine#[(),?_];refine BD (λp:Int×Str=>Jy p.1) (λp=>T.d (.str p.2)) ps _ (λp a R g=>?_) () ?_;simp![f p a];exact g;have e:ps.map (λp=>T.d (Jx p.2))=((ps.map (·.2)).map Jx).map T.d:=by simp
 rw[e];simp![↓dA];exact k
end
noncomputable def HD:PSp where
 run:=λh Q _=>∃l r,h=[.d (W4 l),.d (aE r)]/\Sml l/\RowOk l r/\Q (.d (.bool js)) []
theorem kL{Ψ:PEv}(N:Ψ.sp "names_of"=VD)(M:Ψ.sp "quote_in"=KD)(j:Ψ.dc "PEOPLE_AT"=jy RA)(i:Ψ.dc "MATTERS_AT"=jy DA):RK Ψ ZE HD bH lG:=by
 rintro _ Q _ ⟨l,r,rfl,hl,o,q⟩;refine rA (bZ l (aE r) jz jz jz) ?_;let#[W,Z,Y,X,s]:=ij;let#[E,C,B,A,K]:=Jj;have h:=o.sec;have g:=o.few;have f:∀(y u:List (Int×Str)) (bs:LS),(RA.lookup r.hd).getD (.tuple [])=.tuple (y.map λp=>.int p.1)->(DA.lookup r.hd).getD (.tuple [])=.tuple (u.map λp=>.int p.1)->(∀p∈y,zC (.str r.hd::r.vs) p.1=jy (.str p.2))->(∀p∈u,zC (.str r.hd::r.vs) p.1=jy (.str p.2))->r.vs.drop 6=bs.map Jx->y.length<=20->u.length<=20->bs.length<=20 ->
   (∀x∈y.map (·.2)++bs,x∈vI l)->(∀x∈u.map (·.2),x∈cB l)->pF Ψ ZE (eZ Q) (bZ l (aE r) jz jz jz):=λy u bs R P H S O I G F L J =>
  Ut N hl.p (Vt M j y bs R H O I F (Kt i u P S G (Zt L J (by simp;omega) (by simp;omega) q)))
 cases r with
 |per p=>exact f [] [] [] (by show(RA.lookup (QA "person")).getD _=_;rw[W];rfl) (by show(DA.lookup (QA "person")).getD _=_;rw[E];rfl) (λ_ z=>by cases z) (λ_ z=>by cases z) rfl (by simp) (by simp) (by simp) (λ_ z=>by cases z) (λ_ z=>by cases z)|mat m=>exact f [] [] [] (by show(RA.lookup (QA "matter")).getD _=_;rw[Z];rfl) (by show(DA.lookup (QA "matter")).getD _=_;rw[C];rfl) (λ_ z=>by cases z) (λ_ z=>by cases z) rfl (by simp) (by simp) (by simp) (λ_ z=>by cases z) (λ_ z=>by cases z)|aga a b=>exact f [] [(1,a),(2,b)] [] (by show(RA.lookup (QA "against")).getD _=_;rw[Y];rfl) (by show(DA.lookup (QA "against")).getD _=_;rw[B];rfl) (λ_ z=>by cases z) (Qv.mpr #[Mc ..,Qv.mpr #[uq ..,λ_ z=>by cases z]]) rfl (by simp) (by simp) (by simp) (λ_ z=>by cases z) (Qv.mpr #[h.2.2.2.1,Qv.mpr #[h.2.2.2.2.1,λ_ z=>by cases z]])|ev e =>
  cases e with
  |see t p m w=>exact f [(2,p)] [(3,m)] [] (by show(RA.lookup (QA "see")).getD _=_;rw[X];rfl) (by show(DA.lookup (QA "see")).getD _=_;rw[A];rfl) (Qv.mpr #[uq ..,λ_ z=>by cases z]) (Qv.mpr #[ku ..,λ_ z=>by cases z]) rfl (by simp) (by simp) (by simp) (Qv.mpr #[h.1,λ_ z=>by cases z]) (Qv.mpr #[h.2.1,λ_ z=>by cases z])|tell t p n m w b =>
   have lb:b.length<=12:=by
    simp only[Rw.vs,QL]at g;cases b with|nil=>simp|cons x b=>simp only[Uk,QJ,QG]at g ⊢;omega
   exact f [(2,p),(3,n)] [(4,m)] b (by show(RA.lookup (QA "tell")).getD _=_;rw[s];rfl) (by show(DA.lookup (QA "tell")).getD _=_;rw[K];rfl) (Qv.mpr #[uq ..,Qv.mpr #[ku ..,λ_ z=>by cases z]]) (Qv.mpr #[Bw ..,λ_ z=>by cases z]) (vT b) (by simp) (by simp) () (Qv.mpr #[h.1,Qv.mpr #[h.2.1,h.2.2.2.1]]) (Qv.mpr #[h.2.2.1,λ_ z=>by cases z])
theorem fu{Ψ:PEv}{E:XE}{ρ:zA}{L:Bool->zA->Prop}{f:Bi}{x:PX}:kQ Ψ (.bi f x) E ρ L=vB Ψ (.bi f x) E ρ λt _ h=>d9 t λb=>L b h:=rfl
theorem sj:uC.lookup (QA "person")=jy (.int 0)/\uC.lookup (QA "matter")=jy (.int 1)/\uC.lookup (QA "against")=jy (.int 2)/\uC.lookup (QA "see")=jy (.int 3)/\uC.lookup (QA "tell")=jy (.int 3) :=
 #[by kernel_rfl,by kernel_rfl,by kernel_rfl,by kernel_rfl,by kernel_rfl]
noncomputable def Rw.sec:Rw->Nat
 | .per _=>0|.mat _=>1|.aga _ _=>2|.ev _=>3
theorem J6(r:Rw):uC.lookup r.hd=jy (.int r.sec):=by
 let#[u,z,y,x,h]:=sj;cases r with
 |per p=>exact u|mat m=>exact z|aga a b=>exact y|ev e =>
  cases e with|see t p m w=>exact x|tell t p q m w b=>exact h
noncomputable def tE(l:List Rw):List (List D):=[(YB l).map pD,(cB l).map Jx,(gB l).map aD,(rF l).map eD]
theorem Tc(l:List Rw):W4 l=.tuple ((tE l).map PyData.list):=rfl
theorem lY{l:List Rw}{r:Rw}(o:RowOk l r):∀x∈(tE l).drop (r.sec+1),x=[]:=by
 have y:=o.sec;cases r with|per p=>intro x h;have:x∈[(cB l).map Jx,(gB l).map aD,(rF l).map eD]:=h;rw[y.1,y.2.1,y.2.2.1]at this;simpa using this|mat m=>intro x h;have:x∈[(gB l).map aD,(rF l).map eD]:=h;rw[y.1,y.2.1]at this;simpa using this|aga a b=>intro x h;have:x∈[(rF l).map eD]:=h;rw[y.1]at this;simpa using this|ev e=>intro x h;cases h
noncomputable def r6:LN:=[10,6,15,80]
theorem YW{l:List Rw}{r:Rw}(o:RowOk l r):∃x n,(tE l)[r.sec]?=jy x/\r6[r.sec]?=jy n/\x.length<n:=by
 have h:=o.sec;cases r with
 |per p=>exact#[_,_,rfl,rfl,by rw[QG];exact h.2.2.2.2]|mat m=>exact#[_,_,rfl,rfl,by rw[QG];exact h.2.2.2]|aga a b=>exact#[_,_,rfl,rfl,by rw[QG];exact h.2.2.2.2.2]|ev e =>
  cases e with|see t p m w=>exact#[_,_,rfl,rfl,by rw[QG];exact h.2.2]|tell t p q m w b=>exact#[_,_,rfl,rfl,by rw[QG];exact h.2.2.2.2]
theorem Sh(r:Rw):r.sec<4:=by cases r<;>simp[Rw.sec]
def N8(l:List Rw)(r:Rw):Prop:=∃x∈(tE l).drop (r.sec+1),x≠[]
noncomputable def GB:PSp where
 run:=λy Q E=>∃l r x,y=[.d (W4 l),.d (aE r),.d (.int x)]/\(Sml l/\0<=x/\x<=10000)/\((RowOk l r/\Q (.d .none) [])∨N8 l r/\E ("Misplaced",x))
 mono:=λh g #[l,r,x,e,c,q]=>#[l,r,x,e,c,q.imp (λ#[o,q]=>#[o,h _ _ q]) λ#[o,q]=>#[o,g _ q]]
theorem Eh{Ψ:PEv}{ρ:zA}{j:Nat}{x:Str}{pl:Int}{E:XE}(h:ρ[j]?=jy (bD (.int pl)))(a:0<=pl)(b:pl<=10000)(v:Ψ.va x=jy (ZH x))(z:E (x,pl)):Mb (jy j) ρ/\∃y,Ψ.va x=jy (ZH y)/\∃p,T.d (Jy pl)=.d (.int p)/\E (y,p):=by refine#[#[pl,h,?_],x,v,pl,rfl,z];let#[m,rfl]:=wV a;show Nat.log2 m<1920;by_cases u:m=0;subst u;decide;exact Qh ((QBE u).mpr (show m<2 ^ 14 by omega)) (by decide)
theorem sQ{Ψ:PEv}(K:Ψ.sp "is_told"=RH)(W:Ψ.sp "has_stranger"=HD)(g:Ψ.dc "SECTIONS"=jy uC)(e:Ψ.va "MOST"=jy Je)(f:Ψ.va "Misplaced"=jy (ZH "Misplaced"))(ds Q E)(h:GB.run ds Q E):ds.length=MF.length/\∃E':XE,(∀x,E' x->E x)/\eB Ψ E' vH (sC GB MF.length Q) (OA yL GB.md ds):=by
 let#[l,r,i,rfl,#[hl,m,j],q]:=h;refine sK [bD (W4 l),bD (aE r),bD (.int i),jz] rfl rfl rfl ?_;have ls:=Sh r;have a:¬ (HT.sIx ((tE l).map PyData.list).length 0 (jy ((r.sec:Int)+1))=0/\HT.sIx ((tE l).map PyData.list).length ((tE l).map PyData.list).length jz=((tE l).map PyData.list).length):=by intro #[z,_];unfold HT.sIx at z;simp only[QG,tE,QJ,qf]at z;rw[eH ()]at z;omega
 have X:aE r=.list (.str r.hd::r.vs):=rfl;rw[Tc];delta vH;rw[X];simp![↓fu,↓GD,↓nR,↓Uh,↓O3,↓Ni g (J6 r),↓Bs a];have C:ND ((tE l).map PyData.list) (jy ((r.sec:Int)+1)) jz=((tE l).drop (r.sec+1)).map PyData.list:=by rw[kN _ (),show((r.sec:Int)+1).toNat=r.sec+1 by omega,QCO]
 rw[C];refine BD PyData.list (λy=>T.d (.bool (decide ((0:Int)<(y.length:Int))))) _ _ (λy I R Z=>?_) (by simp only[qW,tE,QJ,qf];omega) ?_;simp![↓dA];exact Z;have B:((tE l).drop (r.sec+1)).map (λy=>T.d (PyData.bool (decide ((0:Int)<(y.length:Int)))))=((((tE l).drop (r.sec+1)).map λy=>decide ((0:Int)<(y.length:Int))).map PyData.bool).map T.d:=by rw[wF,wF];rfl
 rw[B];simp![↓dA];refine#[_,rfl,?_];rcases q with⟨o,q⟩| ⟨⟨x,u,p⟩,q⟩
 rotate_left
 have b:((((tE l).drop (r.sec+1)).map λy=>decide ((0:Int)<(y.length:Int))).any id)=true:=by rw[QCy];refine QAC.mpr #[x,u,?_];have:=QAb.mpr p;exact dT ()
 rw[b];simp![↓dA];exact Eh rfl m j f q;have b:((((tE l).drop (r.sec+1)).map λy=>decide ((0:Int)<(y.length:Int))).any id)=false:=by rw[QCy];refine QAt.mpr λx u=>?_;rw[lY o x u];decide
 rw[b];let#[x,n,u,Y,s]:=YW o;have G:zC ((tE l).map PyData.list) (r.sec:Int)=jy (.list x):=by refine NA ?_;rw[Qj,u];rfl
 have F:zC [Jy 10,.int 6,.int 15,.int 80] (r.sec:Int)=jy (.int (n:Int)):=by refine NA ?_;have:[Jy 10,.int 6,.int 15,.int 80]=r6.map λ(k:Nat)=>Jy (k:Int):=rfl;rw[this,Qj,Y];rfl
 simp![↓fA (md:=[]) K rfl rfl];refine#[_,_,rfl,hl,o,?_];simp![↓fA (md:=[]) W rfl rfl];refine#[_,_,rfl,hl,o,?_];have A:decide ((n:Int)<=(x.length:Int))=false:=dF ();delta Je at e;simp![↓TD e,G,F,A];exact q
theorem T0{p:Str}{d:D}(h:mL p d):yB p (XH d)=d/\CB d=false:=by
 rcases h with⟨rfl,w,rfl,x⟩| ⟨rfl,w,rfl,x⟩| ⟨rfl,rfl⟩| ⟨⟨u,z,y⟩,a,b,n,e,rfl,g,f,j,i⟩
 refine#[?_,rfl];show yB (QA "name") w=.str w;unfold yB;rw[ef (by decide +kernel),ef x];refine#[?_,rfl];show yB (QA "word") w=.str w;unfold yB;rw[eH (by decide +kernel),ef (by decide +kernel),ef x];refine#[?_,rfl];show yB (QA "by") (QA "by")=.str (QA "by");unfold yB;rw[eH (by decide +kernel),eH (by decide +kernel),ef (by decide +kernel),ef (by decide +kernel)];refine#[?_,rfl];show yB p (UC n)=.int n;unfold yB;rw[eH (by simpa using u),eH (by simpa using z),eH (by simpa using y),e];show HC a b (UC n)=.int n;unfold HC;rw[FU () ()];simp only[dT g,dT f,QCL,if_true]
theorem Y8{f:LS}{vs:List D}(h:FitsL f vs):vC f (vs.map XH)=vs/\vs.any CB=false:=by
 induction h with|nil=>exact#[rfl,rfl]|@cons p d y z a _ x=>let#[b,u]:=T0 a;refine#[?_,?_];show yB p (XH d)::vC y (z.map XH)=_;rw[b,x.1];rw[qB,u,x.2];rfl
theorem hZ{h:Str}{vs:List D}(g:Good h vs):HN h (vs.map XH)=jy vs:=by
 let#[f,e,m]:=g.fm;let#[Y,X]:=Y8 m;have e:jC h ((vs.map XH).length+1)=jy f:=by rw[QG];exact e
 have hv:KL (jC h ((vs.map XH).length+1)) (vs.map XH)=jy vs:=by rw[e];show(if(vs.map XH).length=f.length then(if(vC f (vs.map XH)).any CB=jb then jz else jy (vC f (vs.map XH))) else jz)=_;rw[ef (by rw[QG,m.len]),Y,X];rfl
 have s:zL h vs=true:=by
  rcases Y1 hv with⟨_,u⟩| ⟨i,j,a,b,x,l,y,r⟩
  exact u;rcases g.un with z|⟨W,Z,A,K,q,p,o,n⟩
  ·rw[z]at x
   cases x
  rw[q]at x;cases x;rw[p]at l;rw[o]at y;cases l;cases y;rw[<- r,dF n];rfl
 unfold HN;rw[hv];show(if zL h vs=jb then jy vs else jz)=_;rw[ef s]
section
variable{r h:Str}{pl:Int}{K:T->LT->Prop}{E:XE}
theorem OI(x:Lib.wordsOf r=[])(hl:r.length<=900)(u:0<=pl)(y:pl<=10000)(q:K (.d .none) []):RJ FC [.d (.str r),.d (.int pl)] K E:=#[r,pl,rfl,#[hl,u,y,by rw[x];exact λ_ z=>by cases z],.inl #[x,q]]
theorem LF{vs:List D}(y:Lib.wordsOf r=h::vs.map XH)(g:Good h vs)(hl:r.length<=900)(u:0<=pl)(z:pl<=10000)(q:K (.lst (WD T.d (Jx h::vs))) []):RJ FC [.d (.str r),.d (.int pl)] K E:=by refine#[r,pl,rfl,#[hl,u,z,?_],.inr #[h,_,y,.inl #[vs,hZ g,q]]];rw[y];intro w x;rcases QR.mp x with rfl|x;have:=g.hd.2.1;omega;let#[d,hd,rfl]:=Qm.mp x;let#[f,_,a]:=g.fm;have:=(a.all d hd).1.2.1;omega
theorem YR{ws:LS}(x:Lib.wordsOf r=h::ws)(u:∀w∈h::ws,w.length<=100)(n:HN h ws=jz)(hl:r.length<=900)(z:0<=pl)(y:pl<=10000)(q:E ("BadRow",pl)):RJ FC [.d (.str r),.d (.int pl)] K E:=#[r,pl,rfl,#[hl,z,y,by rw[x];exact u],.inr #[h,ws,x,.inr #[n,q]]]
end
inductive Reads:LS->List Rw->Prop where
 |nil:Reads [] []
 |blank {r:Str}{rs:LS}{ws:List Rw}:Lib.wordsOf r=[]->r.length<=900->Reads rs ws->Reads (r::rs) ws
 |row {r:Str}{rs:LS}{x:Rw}{ws:List Rw}:Lib.wordsOf r=x.hd::x.vs.map XH->r.length<=900->Reads rs ws->Reads (r::rs) (x::ws)
theorem Reads.inv{r:Str}{z:LS}{ws:List Rw}(h:Reads (r::z) ws):r.length<=900/\((Lib.wordsOf r=[]/\Reads z ws)∨∃x y,ws=x::y/\Lib.wordsOf r=x.hd::x.vs.map XH/\Reads z y):=by
 cases h with|blank a b c=>exact#[b,.inl #[a,c]]|row a b c=>exact#[b,.inr #[_,_,rfl,a,c]]
inductive BadAt(l:List Rw)(r:Str):Str->Prop where
 |form {h:Str}{ws:LS}:Lib.wordsOf r=h::ws->(∀w∈h::ws,w.length<=100)->HN h ws=jz->BadAt l r "BadRow"
 |late {x:Rw}:Lib.wordsOf r=x.hd::x.vs.map XH->Good x.hd x.vs->x.vs.length<=12->N8 l x->BadAt l r "Misplaced"
noncomputable def TB:PSp where
 run:=λm Q E=>∃(x:Str) (y:List Rw),m=[.d (.str x)]/\(x.length<=1000000/\(qS x "\n").length<=9000)/\gL y/\((Reads (qS x "\n") y/\YB y≠[]/\cB y≠[]/\Q (T4 y) []) ∨
  ∃z bad u c,qS x "\n"=z++bad::u/\Reads z y/\bad.length<=900/\BadAt y bad c/\E (c,(z.length:Int)+1))
 mono:=λh g #[l,r,e,a,b,q]=>#[l,r,e,a,b,q.imp (λ#[c,d,f,q]=>#[c,d,f,h _ _ q]) λ#[a,b,c,d,e,f,i,j,q]=>#[a,b,c,d,e,f,i,j,g _ q]]
structure Sm(l:List Rw):Prop where
 p:(YB l).length<=10
 ok:∀p∈gB l,fC p.1/\fC p.2
 m:(cB l).length<=6
 a:(gB l).length<=15
 e:(rF l).length<=80
theorem Sm.add{l:List Rw}{r:Rw}(h:Sm l)(o:RowOk l r):Sm (l++[r]):=by
 have x:=o.sec;have s:=o.good;let#[j,z,i,g,u]:=h;cases r with
 |per p=>have:=x.2.2.2.2;exact#[by simp only[YB,qU,QL]at this ⊢;simp;omega,by simpa[gB]using z,by simpa[cB]using i,by simpa[gB]using g,by simpa[rF]using u]|mat m=>have x:=x.2.2.2;exact#[by simpa[YB]using j,by simpa[gB]using z,by simp only[cB,qU,QL]at x ⊢;simp;omega,by simpa[gB]using g,by simpa[rF]using u]|aga a b =>
  have x:=x.2.2.2.2.2;refine#[by simpa[YB]using j,λp y=>?_,by simpa[cB]using i,by simp only[gB,qU,QL]at x ⊢;simp;omega,by simpa[rF]using u];have y:p∈gB l∨p=(a,b):=by simpa[gB]using y
  rcases y with y|rfl;exact z p y;let#[f,_,n]:=s.fm;exact#[(n.all (.str a) (by simp[Rw.vs])).1,(n.all (.str b) (by simp[Rw.vs])).1]
 |ev e =>
  have x:(rF l).length<80:=by
   cases e with|see t p m w=>exact x.2.2|tell t p q m w b=>exact x.2.2.2.2
  exact#[by simpa[YB]using j,by simpa[gB]using z,by simpa[cB]using i,by simpa[gB]using g,by simp only[rF,qU,QL]at x ⊢;simp;omega]
noncomputable def lT(x:List D):T:=.lst (x.map T.d)
theorem Yl(l:List Rw)(r:Rw){x:List D}(h:(tE l)[r.sec]?=jy x):T4 (l++[r])=.tup (((tE l).map lT).set r.sec (.lst (x.map T.d++[.d r.ent]))):=by cases r<;>cases h<;>simp[T4,tE,lT,Rw.sec,YB,cB,gB,rF,Rw.ent]
theorem Pn{l:List Rw}{r:Rw}{Q:LT->Nat->LT->Prop}{x:List D}(h:(tE l)[r.sec]?=jy x)(q:Q ((tE l).map lT) r.sec (x.map T.d)):Mi (T4 l) (.int (r.sec:Int)) Q :=
 #[(tE l).map lT,_,r.sec,_,rfl,rfl,by cases r<;>rfl,by rw[Qj,h];rfl,q]
theorem Hw{Ψ:PEv}{E:XE}{ρ:zA}{M:List (T×Bool)->zA->Prop}{b:PX}{l:List Rw}{md:List Md}:tW (T4 l) js Ψ b E md ρ M=DN Ψ b E md (lockA ρ) λxs _=>M xs ρ:=rfl
noncomputable def Cm:PT:=.seq (.ife (.cmp .IsNot (.vx 5) .non) %[.expr (.call "check_row" %[.vx 1,.vx 5,.vx 3|1]),.pap 1 (.prm (.dix "SECTIONS") %[.idx (.vx 5) (.int 0)|1]) (.call "entry_of" %[.vx 5|1])|2] .nil) .nil
noncomputable def Gd(h:Str)(x:D)(l:List Rw)(u z y:Option Sl):zA:=[bD (.str h),oW (T4 l),bD x,u,z,y]
section
variable{Ψ:PEv}{Z:PEnds}{E:XE}{h r:Str}{z:D}{l:List Rw}{x:Rw}{pl:Int}
theorem VW{u y:Option Sl}(k:Z.nx (Gd h z l u y (bD .none))):eB Ψ E Cm Z (Gd h z l u y (bD .none)):=by delta Gd at k ⊢;simp![Cm];exact k
theorem pU(K:Ψ.sp "check_row"=xY GB [.xx])(W:Ψ.sp "entry_of"=ME)(g:Ψ.dc "SECTIONS"=jy uC){u:Option Sl}(a:x.vs.length<=12)(b:Sm l)(j:0<=pl)(i:pl<=10000)(k:(RowOk l x/\∀s u q,Z.nx (Gd h z (l++[x]) s u q))∨N8 l x/\E ("Misplaced",pl)) :
  eB Ψ E Cm Z (Gd h z l (bD (.int pl)) u (bD (aE x))):=by
 have f:aE x=.list (.str x.hd::x.vs):=rfl;rw[f];delta Gd at k ⊢;simp![Cm,↓GD,↓fA (md:=[.xx]) K rfl rfl,↓Hw,↓Ni g (J6 x)];refine#[l,x,pl,by rw[<- f,<- Tf];rfl,#[#[by have:=b.p;omega,b.ok],j,i],?_];rcases k with⟨o,k⟩| k;refine .inl #[o,rfl,?_];let#[y,n,e,Y,X]:=YW o;have A:n<=80:=by
  have:∀m∈r6,m<=80:=by decide
  exact this n (qm Y)
 refine#[rfl,Pn e ?_];simp![↓fA (md:=[]) W rfl rfl];refine#[_,rfl,a,?_];simp![↓dA];have k:=k (bD (.int pl)) u (bD (aE x));rw[Yl l x e]at k;refine#[by rw[QG];omega,k];exact .inr k
end
theorem Fw{Ψ:PEv}{E:XE}{ρ:zA}{K:TK}{b:PX}{ts:LT}:e9 (.tup ts) js Ψ b E ρ K=vB Ψ b E (lockA ρ) λy m _=>K y m ρ:=rfl
theorem uw{ts:LT}{i:Int}{m:Bool}{R:T->Prop}:DE (.tup ts) js (.d (.int i)) m R=iF (zC ts i) R:=by unfold DE;rw[kA];exact v7 _ _
theorem aM:(QA "\n").length=1:=by decide +kernel
theorem MN{Ψ:PEv}(h1:Ψ.sp "row_of"=FC)(H:Ψ.sp "check_row"=xY GB [.xx])(S:Ψ.sp "entry_of"=ME)(P:Ψ.dc "SECTIONS"=jy uC)(ds Q E)(h:TB.run ds Q E):ds.length=xF.length/\∃E':XE,(∀x,E' x->E x)/\eB Ψ E' yG (sC TB xF.length Q) (OA BJ TB.md ds):=by
 let#[n,l,rfl,#[hl,R],K,q]:=h;refine sK [bD (.str n),jz,jz,jz,jz,jz] rfl rfl rfl ?_;have hs:=QDe n (QA "\n");have t0:ZF [T.lst [],T.lst [],T.lst [],T.lst []]=T4 []:=rfl;have b1:IG=.seq (.set 5 (.call "row_of" %[.vx 4,.vx 3|1])) Cm:=rfl;delta yG;simp![aM,t0,↓Gw];refine#[(),(),(),(),(),(),by decide,(),?_];refine sD (λ(p:D×Nat)=>T.d (.tuple [.int ((wd 1+p.2:Nat):Int),p.1])) (λxs M=>∃(y j:List Rw) (s:LS) (k:Nat) (C B G:Option Sl),l=y++j/\xs=(s.map Jx).zipIdx k/\k+s.length<=9000/\Sm y /\
  ((Reads s j/\YB l≠[]/\cB l≠[]/\Q (T4 l) [])∨∃u bad m c,s=u++bad::m/\Reads u j/\bad.length<=900/\BadAt l bad c/\E (c,((k+u.length:Nat):Int)+1)) /\
  M=Gd n (.list ((qS n (QA "\n")).map Jx)) y C B G) ?_ ?_ _ _ #[[],l,qS n (QA "\n"),0,jz,jz,jz,rfl,rfl,by rw[W5];exact R,#[by simp[YB],by simp[gB],by simp[cB],by simp[gB],by simp[rF]],q.imp id λ#[u,bad,m,c,a,b,d,e,f]=>#[u,bad,m,c,a,b,d,e,by rw[W5];exact f],rfl]
 ·rintro M ⟨y,j,s,k,C,B,G,e,I,_,A,rd,rfl⟩
  have:s=[]:=by
   cases s with|nil=>rfl|cons _ _=>simp at I
  subst this;rcases rd with⟨rd,hp,hm,q⟩| ⟨u,bad,m,c,z,_⟩
  rotate_left
  cases u<;>cases z;have:j=[]:=by cases rd;rfl
  subst this;rw[Qd]at e;subst e;have Y:0<(YB l).length:=QAb.mpr hp;have m1:0<(cB l).length:=QAb.mpr hm;have e0:decide (((YB l).length:Int)=0)=false:=dF ();have e1:decide (((cB l).length:Int)=0)=false:=dF ();change eB _ _ _ _ [bD (.str n),oW (T4 l),bD _,MC C,MC B,G];generalize MC C=C;generalize MC B=B;delta T4 at q ⊢;simp![e0,e1,↓GD,↓Mc,↓Fw,↓uw,QG];exact q
 ·rintro⟨x,i⟩ xs M N J ⟨y,j,s,k,C,B,G,e,I,hk,A,rd,rfl⟩
  cases s with
  |nil=>simp at I|cons r s =>
   rw[QN,QAD,wb,QCP]at I;let#[#[rfl,rfl],rfl]:=I;rw[QJ]at hk;have Z:(0:Int)<=((wd 1+i:Nat):Int):=()
   have Y:((wd 1+i:Nat):Int)<=10000:=by show((1+i:Nat):Int)<=10000;omega
   have W:i+1+s.length<=9000:=()
   rw[b1];delta Gd;simp![↓fA (md:=[]) h1 rfl rfl];rcases rd with⟨rd,q⟩| ⟨u,bad,m,c,z,rd,L,ba,q⟩
   ·let#[hl,rd]:=rd.inv
    rcases rd with⟨O,rd⟩| ⟨x,X,rfl,F,rd⟩
    ·refine OI O hl Z Y #[rfl,?_]
     rw[Vl];exact VW (J _ #[y,j,s,_,_,_,_,e,rfl,W,A,.inl #[rd,q],rfl])
    ·have o:RowOk y x:=K y x X e
     refine LF F o.good hl Z Y #[rfl,?_];rw[Kl];exact pU H S P o.few A Z Y (.inl #[o,λC B G=>J _ #[y++[x],X,s,_,_,_,_,by rw[e];simp,rfl,W,A.add o,.inl #[rd,q],rfl]])
   ·cases u with
    |nil =>
     cases z;have:j=[]:=by cases rd;rfl
     subst this;rw[Qd]at e;subst e;have ep:((i+([]:LS).length:Nat):Int)+1=((wd 1+i:Nat):Int):=by show((i+0:Nat):Int)+1=((1+i:Nat):Int);omega
     rw[ep]at q;cases ba with|form F w2 w3=>exact YR F w2 w3 L Z Y q|late F g few la=>refine LF F g L Z Y #[rfl,?_];rw[Kl];exact pU H S P few A Z Y (.inr #[la,q])
    |cons p u =>
     cases z;let#[hl,rd]:=rd.inv;have q:E (c,((i+1+u.length:Nat):Int)+1):=by rw[QJ,show i+(u.length+1)=i+1+u.length by omega]at q;exact q
     rcases rd with⟨O,rd⟩| ⟨x,X,rfl,F,rd⟩
     ·refine OI O hl Z Y #[rfl,?_]
      rw[Vl];exact VW (J _ #[y,j,_,_,_,_,_,e,rfl,W,A,.inr #[u,bad,m,c,rfl,rd,L,ba,q],rfl])
     ·have o:RowOk y x:=K y x X e
      refine LF F o.good hl Z Y #[rfl,?_];rw[Kl];exact pU H S P o.few A Z Y (.inl #[o,λC B G=>J _ #[y++[x],X,_,_,_,_,_,by rw[e];simp,rfl,W,A.add o,.inr #[u,bad,m,c,rfl,rd,L,ba,q],rfl]])
noncomputable def TZ(l:List Rw):List Rw:=(YB l).map .per++((cB l).map .mat++((gB l).map (λp=>.aga p.1 p.2)++(rF l).map .ev))
def Af(d:D):Prop:=(∃z:Str,d=.str z/\z.length<=100)∨∃n:Int,d=.int n/\0<=n/\n<=999999999
theorem Af.len{d:D}(h:Af d):(XH d).length<=100:=by
 rcases h with⟨z,rfl,h⟩| ⟨n,rfl,y,x⟩
 exact h;have:=(sM y x).2;show(UC n).length<=100;omega
theorem OJ{α:Type}(f:α->Nat)(k:Nat):∀(l:List α),(∀x∈l,f x<=k)->(l.map f).sum<=l.length * k
 |[],_=>by simp|x::l,h=>by have a:=h x QK;have u:=OJ f k l λy z=>h y (QH _ z);simp only[QN,List.sum_cons,QJ,Nat.add_mul,Nat.one_mul];omega
theorem oI:(QA " ").length=1:=by decide +kernel
theorem O1{d:D}{n:Bool}(h:Af d){Q:T->Bool->Prop}(q:Q (.d (.str (XH d))) js):GJ .str [(.d d,n)] Q:=by
 rcases h with⟨z,rfl,h⟩| ⟨m,rfl,y,x⟩
 simp! -implicitDefEqProofs[↓dA];exact q;simp! -implicitDefEqProofs[↓dA];refine#[?_,q];by_cases e:m.natAbs=0;rw[e];decide;rw[QBE e];exact QCI (show m.natAbs<=2 ^ 30 by omega) (Nat.pow_lt_pow_right (by decide) (by decide))
theorem f7(x:Rw):Af (.str x.hd):=by
 refine .inl #[_,rfl,?_];have h:∀s∈(["person","matter","against","see","tell"]:LS),s.length<=100:=by decide +kernel
 cases x with|ev e=>cases e<;>exact h _ (by simp[Rw.hd])|_=>exact h _ (by simp[Rw.hd])
noncomputable def Us:D->T
 | .list l=>.lst (l.map T.d)|x=>.d x
theorem Oh(x:D):OD (.d x)=jy (Us x):=by
 cases x with|list l=>simp only[OD,T.vw,gA,qC,Us]|_=>rfl
theorem ou{x:D}{n:Bool}{md:List Md}{xs:List (T×Bool)}{C:LT->Prop}:dC (.xz::md) ((.d x,n)::xs) C=dC md xs λts=>C (Us x::ts):=Iu (by rw[kA];exact Oh x)
noncomputable def xc(t:T):LT->LT
 |u::us=>u::t::us|[]=>[t]
theorem fG{Ψ:PEv}{E:XE}{ρ:zA}{K:TK}{a i:PX}{f:Str}{p:PSp}{md:List Md}{j:Nat}(h:Ψ.sp f=p)(A:p.md=.xz::.chg::md)(W:(md.all λm=>!m.isMut)=jb):vB Ψ (.call f (.nz a (.nz (.vx j) i))) E ρ K=eF ρ[j]? λt=>vB Ψ a E (ρ.set j jz) λx n y=>tW x n Ψ i E md y λxs b=>dC (.xz::md) ((x,n)::xs) λts=>RJ p (xc t ts) (λr os=>∃t',os=[t']/\K r jb (b.set j (jy (.own t')))) E:=by
 have Z:=XR;show(∃os,uB (xA (Ψ.sp f).md (.nz a (.nz (.vx j) i))) ρ=jy os/\(xA (Ψ.sp f).md (.nz a (.nz (.vx j) i))).Nodup/\(pe Ψ (.nz a (.nz (.vx j) i)) E).a (Ψ.sp f).md (clear (xA (Ψ.sp f).md (.nz a (.nz (.vx j) i))) ρ) λxs y=>∃ts,BA (Ψ.sp f).md xs os=jy ts/\(Ψ.sp f).run ts (λr g=>∃b,RC (xA (Ψ.sp f).md (.nz a (.nz (.vx j) i))) g y=jy b/\K r jb b) E)=_;rw[h,A];have B:xA (.xz::.chg::md) (.nz a (.nz (.vx j) i))=[j]:=by show j::xA md i=[j];rw[Z md i W]
 rw[B];have q:∀(r:T) (os:LT) (y:zA),(∃b,RC [j] os y=jy b/\K r jb b)=(∃t',os=[t']/\K r jb (y.set j (jy (.own t')))):=by
  intro r os y
  match os with
  |[]=>exact eI #[λ#[_,e,k]=>(by cases e),λ#[_,e,k]=>(by cases e)]|[t]=>exact eI #[λ#[_,e,k]=>by cases e;exact#[t,rfl,k],λ#[_,e,k]=>by cases e;exact#[_,rfl,k]]|_::_::_=>exact eI #[λ#[_,e,k]=>(by cases e),λ#[_,e,k]=>(by cases e)]
 have s:=λ(y:zA)=>funext λr=>funext λos=>q r os y;simp only[s];have X:∀(t x:T) (n:Bool) (xs:List (T×Bool)) (G:LT->Prop),(∃ts,BA (.xz::.chg::md) ((x,n)::(.d .none,jb)::xs) [t]=jy ts/\G ts)=dC (.xz::md) ((x,n)::xs) λts=>G (xc t ts):=by
  intro t x n xs G;show(∃ts,(match OD (uA x n) with|some u=>((BA md xs []).map (t::·)).map (u::·)|none=>jz)=jy ts/\G ts)=iF (match OD (uA x n) with|some u=>(BA md xs []).map (u::·)|none=>jz) λts=>G (xc t ts);cases OD (uA x n) with
  |none=>exact eI #[λ#[_,e,_]=>(by cases e),λ#[_,e,_]=>(by cases e)]|some u =>
   cases BA md xs []with|none=>exact eI #[λ#[_,e,_]=>(by cases e),λ#[_,e,_]=>(by cases e)]|some ts=>exact eI #[λ#[_,e,k]=>by cases e;exact#[_,rfl,k],λ#[_,e,k]=>by cases e;exact#[_,rfl,k]]
 have Y:∀t,ρ[j]?=jy (jy (.own t))->uB [j] ρ=jy [t]:=λt e=>by unfold uB;rw[e];rfl
 have o:∀(x:T) (n:Bool) (y:zA) (M:List (T×Bool)->zA->Prop),tW x n Ψ (.nz (.vx j) i) E (.chg::md) y M=tW x n Ψ i E md y λxs b=>M ((.d .none,jb)::xs) b:=by intro x n y M;have l:∀(y:zA) (M:List (T×Bool)->zA->Prop),((pe Ψ (.nz (.vx j) i) E).a (.chg::md) y M)=(pe Ψ i E).a md y λxs b=>M ((.d .none,jb)::xs) b:=λy M=>eI #[λh=>h.2,λh=>#[rfl,h]];unfold tW sq;simp only[l]
 have l:∀(os:LT),((pe Ψ (.nz a (.nz (.vx j) i)) E).a (.xz::.chg::md) (clear [j] ρ) λxs y=>∃ts,BA (.xz::.chg::md) xs os=jy ts/\p.run ts (λr g=>∃t',g=[t']/\K r jb (y.set j (jy (.own t')))) E)=(vB Ψ a E (ρ.set j jz) λx n y=>tW x n Ψ i E md y λxs b=>∃ts,BA (.xz::.chg::md) ((x,n)::(.d .none,jb)::xs) os=jy ts/\p.run ts (λr g=>∃t',g=[t']/\K r jb (b.set j (jy (.own t')))) E):=λos=>by show(vB Ψ a E (ρ.set j jz) λx n y=>tW x n Ψ (.nz (.vx j) i) E (.chg::md) y λxs b=>∃ts,BA (.xz::.chg::md) ((x,n)::xs) os=jy ts/\p.run ts (λr g=>∃t',g=[t']/\K r jb (b.set j (jy (.own t')))) E)=_;simp only[o]
 simp only[l]
 match e:ρ[j]? with
 |some (jy (.own t))=>show _=(vB Ψ a E (ρ.set j jz) λx n y=>tW x n Ψ i E md y λxs b=>dC (.xz::md) ((x,n)::xs) λts=>RJ p (xc t ts) (λr os=>∃t',os=[t']/\K r jb (b.set j (jy (.own t')))) E);rw[Y t e];have:=λx n xs (y:zA)=>X t x n xs λts=>p.run ts (λr g=>∃t',g=[t']/\K r jb (y.set j (jy (.own t')))) E;refine eI #[λ#[_,e,_,k]=>?_,λk=>#[_,rfl,by simp,?_]];cases e;simp only[this]at k;exact k;simp only[this];exact k|some (jy (.xx t))=>exact eI #[λ#[_,z,_]=>(by unfold uB at z;rw[e]at z;cases z),λk=>k.elim]|some jz=>exact eI #[λ#[_,z,_]=>(by unfold uB at z;rw[e]at z;cases z),λk=>k.elim]|none=>exact eI #[λ#[_,z,_]=>(by unfold uB at z;rw[e]at z;cases z),λk=>k.elim]
noncomputable def GX(ns:LJ)(k:Int):Int:=if 0<(ns.length:Int) then ns.getD (k % (ns.length:Int)).toNat 0 else 0
noncomputable def oA(ns:LJ)(k:Int):Int:=(GX ns k+k+1) * (91343852333181432387730302044767688731+7919000003 * k * k) % 170141183460469231731687303715884105727
theorem YX(ns:LJ)(k:Int):0<=oA ns k:=Qs _ (by decide)
def DB(ns:LJ):Prop:=ns.length<=63/\∀n∈ns,qT n<=1048576
theorem DV{ns:LJ}(h:DB ns)(k:Int):qT (GX ns k)<=1048576:=by
 unfold GX;split;rw[Qx];cases e:ns[(k % (ns.length:Int)).toNat]? with|none=>decide|some v=>exact h.2 v (qm e)
 decide
noncomputable abbrev EB(ns:LJ):T:=.lst ((ns.map Jy).map T.d)
noncomputable def ID:PSp where
 md:=[.xz]
 run:=λx Q _=>∃(h:LJ) (k:Int),x=[EB h,.d (.int k)]/\DB h/\(0<=k/\k<=1000000)/\Q (.d (.int (oA h k))) []
theorem JX{Ψ:PEv}{ns:LJ}{k c:Int}(hc:qT c<=1048576)(h:0<=k)(x:k<=1000000){Q:T->LT->Prop}(y:Option Sl)(q:Q (.d (.int ((c+k+1) * (91343852333181432387730302044767688731+7919000003 * k * k) % 170141183460469231731687303715884105727))) []) :
  pF Ψ zH (eZ Q) [jy (.xx (EB ns)),bD (.int k),bD (.int c),y]:=by
 delta zH;simp![↓dA];have z:qT (c+k+1)<=1048578:=by have:=Bx (Bx hc (show qT k<=64 from QB8 () ())) (show qT 1<=64 by decide);omega
 refine#[RZ.ok (.inr #[(),()]),RZ.ok (.inr #[(),()]),IntMulOk.of_le (n:=256) z ?_ (by decide),q];have a:0<=k * k:=Int.mul_nonneg h h;have u:k * k<=1000000 * 1000000:=Int.mul_le_mul x x h (by decide);rw[intBits_le_iff,Int.mul_assoc];have:(2:Nat) ^ 256=115792089237316195423570985008687907853269984665640564039457584007913129639936:=by decide
 rw[this];omega
theorem Kb{Ψ:PEv}:RK Ψ rN ID ZT nO:=by
 rintro _ Q _ ⟨ns,k,rfl,y,⟨x,h⟩,q⟩;refine rA [jy (.xx (EB ns)),bD (.int k),jz,jz] ?_;have hc:=DV y k;delta rN;simp![QG];unfold oA at q;unfold GX at q hc;refine fF (λc=>?_) λc=>?_;have c:0<(ns.length:Int):=by simpa using c
 rw[ef c]at q hc;let#[v,u,z]:=tH (xs:=ns) (i:=k % (ns.length:Int)) (Qs _ ()) (Qb _ c);rw[Qx,z]at q hc;refine#[c,iF.mk (a:=.int v) (by rw[cG,u];rfl) ?_];refine JX (ns:=ns) (c:=v) hc x h _ q;have c:¬ 0<(ns.length:Int):=by simpa using c
 rw[eH c]at q hc;refine JX (ns:=ns) (c:=0) hc x h _ q
noncomputable abbrev FZ(a:Int):T:=.lst ([Jy a].map T.d)
theorem Bm{d e:D}{Q:T->Prop}:jr (.lst ([d].map T.d)) (.int 0) e Q=Q (.lst ([e].map T.d)) :=
 eI #[λ#[_,_,n,y,x,h,q]=>by cases y;cases x;cases h;exact q,λq=>#[_,_,0,rfl,rfl,rfl,q]]
noncomputable def eC(Q:T->LT->Prop):PEnds:={ nx:=λh=>z5 (uB [1] h) (Q (.d .none)),rt:=λt h=>z5 (uB [1] h) (Q t) }
theorem rK{Ψ:PEv}{b:PT}{p:PSp}{N ps:LS}{x:LT}{Q:T->LT->Prop}(ρ:zA)(h:pF Ψ b (eC Q) ρ)(hl:autoParam (x.length=ps.length) zzr._auto_1)(hc:autoParam (yC 0 p.md ps.length=[1]) zzr._auto_1)(y:autoParam (OA N p.md x=ρ) zzr._auto_1):x.length=ps.length/\pF Ψ b (sC p ps.length Q) (OA N p.md x):=by
 have e:sC p ps.length Q=eC Q:=by unfold sC;rw[hc];rfl
 rw[e,y];exact#[hl,h]
theorem iX{Q:T->LT->Prop}{t u:T}{o:Option Sl}{σ:zA}:(eC Q).rt t (o::jy (.own u)::σ)=Q t [u]:=rfl
noncomputable def ZC:PSp where
 md:=[.xz,.chg]
 run:=λx Q _=>∃(h:LJ) (a:Int),x=[EB h,FZ a]/\DB h/\(0<=a/\a<1000000)/\Q (.d (.int (oA h (a+1)))) [FZ (a+1)]
theorem Jb{Ψ:PEv}(z:Ψ.sp "_law_draw"=ID):RK Ψ oN ZC JT lO:=by rintro _ Q _ ⟨h,a,rfl,x,⟨u,y⟩,q⟩;refine rK [jy (.xx (EB h)),jy (.own (FZ a))] ?_;delta oN;simp![↓fA (md:=[.xz]) z rfl rfl,↓GD,↓Bm,↓iX];refine#[_,_,rfl,x,#[(),()],?_];simp![↓iX];exact q
noncomputable def bI(n:Int):Nat:=97+(n % 26).toNat
noncomputable def gU(c:Nat):Str:=#[(List.toArray [c])]
theorem UM(n:Int):zC xE.cps.toList (n % 26)=jy (bI n):=by
 have hl:xE.cps.toList.length=26:=by rw[nD];simp
 let#[v,x,h]:=tH (xs:=xE.cps.toList) (i:=n % 26) () (by rw[hl];omega);rw[x];rw[nD,Qj,Wf ()]at h;have h:(n % 26).toNat+97=v:=by simpa using h
 unfold bI;rw[<- h,Nat.add_comm]
theorem A1{x:Str}{j:Int}(y:0<=j)(h:j<=x.length):W8 x jz (jy j)=#[(x.cps.toList.take j.toNat).toArray]:=by show QCj x jz (jy j)=_;rw[StrLaws.sliceText_to #[y,by rw[Q4];exact h],List.drop_zero,Int.sub_zero]
theorem fU{x:Str}{j:Int}(y:0<=j)(h:j<=x.length):W8 x (jy j) jz=#[(x.cps.toList.drop j.toNat).toArray]:=by show QCj x (jy j) jz=_;rw[StrLaws.sliceText_from #[y,by rw[Q4];exact h],qr (by simp;omega)]
theorem C6(l:LN):we (QA "") (l.map gU)=#[l.toArray]:=by
 have h:∀l:LN,(QAl (QA "") (l.map gU)).cps.toList=l:=by
  intro l;induction l with
  |nil=>rfl|cons x l z =>
   cases l with
   |nil=>rfl|cons y r =>
    have e:QAl (QA "") ((x::y::r).map gU)=gU x++QA ""++QAl (QA "") ((y::r).map gU):=rfl;have u:(QA "").cps=#[]:=by decide +kernel
    rw[e];show((gU x).cps++(QA "").cps++(QAl (QA "") ((y::r).map gU)).cps).toList=_;rw[w6,z,u];simp[gU]
 rw[pW];exact LI (by rw[h l])
noncomputable def pR(h:Int):LN:=(Qe (2+h % 6).toNat).map λ(j:Nat)=>bI (h / 42+(j:Int) * (j:Int) * (h / 1100 % 5))
noncomputable def eR(h:Int):Int:=h / 6 % (2+h % 6 - 1)
noncomputable def P5(h k:Int):LN:=(pR h).take (eR h).toNat++[bI (h / 7+k / 26),bI (h / 3+k)]++(pR h).drop ((eR h).toNat+2)
noncomputable def NU(h k:Int):Str:=#[(P5 h k).toArray]
noncomputable def YF(h k:Int):Str:=if NU h k∈keys then NU h k++"z" else NU h k
noncomputable def dD:PSp where
 run:=λh Q _=>∃(s k:Int),h=[.d (.int s),.d (.int k)]/\(0<=s/\s<2 ^ 60)/\(0<=k/\k<676)/\Q (.d (.str (YF s k))) []
theorem Sb:QA "abcdefghijklmnopqrstuvwxyz"=xE:=by decide +kernel
theorem bV(n:Int):97<=bI n/\bI n<=122:=by unfold bI;omega
theorem zW{w:Str}(y:1<=w.length)(x:w.length<=8)(h:∀c∈w.cps.toList,97<=c/\c<=122):mB w=true:=by unfold mB;rw[dT y,dT x];show cF w xE=jb;unfold cF;rw[Qo];intro c hc;have:=h c hc;rw[decide_eq_true_eq,nD];exact Qm.mpr #[c - 97,qV.mpr (),()]
theorem Bh{s:Int}(h:0<=s):0<=eR s/\eR s+2<=2+s % 6:=by unfold eR;have y:0<=s / 6 % (2+s % 6 - 1):=Qs _ ();have x:s / 6 % (2+s % 6 - 1)<2+s % 6 - 1:=Qb _ ();omega
theorem Ub{s k:Int}(h:0<=s):(P5 s k).length=(2+s % 6).toNat:=by
 have x:(pR s).length=(2+s % 6).toNat:=by simp[pR]
 let#[z,y]:=Bh h;unfold P5;rw[QL,QL,wN,qW,x];simp only[QJ,qf];omega
theorem JQ{s k:Int}(h:0<=s):(NU s k).length=(2+s % 6).toNat:=by show(P5 s k).toArray.size=_;rw[QM,Ub h]
theorem be(s k:Int):∀c∈P5 s k,97<=c/\c<=122:=by
 intro c hc;have h:∀c∈pR s,97<=c/\c<=122:=λc hc=>by let#[j,_,rfl]:=Qm.mp hc;exact bV _
 unfold P5 at hc;rcases Qy.mp hc with hc|hc;rcases Qy.mp hc with hc|hc
 ·exact h c (WV hc)
 rcases QR.mp hc with rfl|hc
 ·exact bV _
 rw[qH.mp hc];exact bV _;exact h c (QAK hc)
theorem Cj:∀x∈keys,¬ (x++QA "z")∈keys:=by decide +kernel
theorem EW{w:Str}(h:mB w=jb)(n:¬ w∈keys):YA w=true:=by unfold YA;rw[h,dG,dF n];rfl
theorem JF{s k:Int}(x:0<=s):YA (YF s k)=true:=by
 have hl:=JQ (k:=k) x;have h:(QA "z").length=1:=by decide +kernel
 unfold YF;split;rename_i hk;refine EW (zW (by rw[qN,hl];omega) (by rw[qN,hl,h];omega) λc hc=>?_) (Cj _ hk);have hc:c∈((NU s k).cps++(QA "z").cps).toList:=hc;rw[w6]at hc;rcases Qy.mp hc with hc|hc;exact be s k c (by simpa[NU]using hc);have:(QA "z").cps.toList=[122]:=by decide +kernel
 rw[this]at hc;rw[qH.mp hc];omega;rename_i hk;exact EW (zW (by rw[hl];omega) (by rw[hl];omega) λc hc=>be s k c (by simpa[NU]using hc)) hk
theorem TW{s k j:Int}(n:0<=s)(q:0<=k)(k1:k<676)(X:0<=j)(r:j<676)(h:NU s k=NU s j):k=j:=by
 have h:P5 s k=P5 s j:=by have:=e6 (λz:Str=>z.cps.toList) h;simpa[NU]using this
 unfold P5 at h;rw[qd,qd]at h;have h:=List.append_cancel_left h;have h:=QA7 h;simp only[wb,and_true]at h;let#[g,f]:=h;unfold bI at g f;have b:(s / 7+k / 26) % 26=(s / 7+j / 26) % 26:=()
 have u:(s / 3+k) % 26=(s / 3+j) % 26:=()
 have m:∀a x y:Int,0<=x->x<26->0<=y->y<26->(a+x) % 26=(a+y) % 26->x=y:=λa x y _ _ _ _ e=>()
 have p:k / 26=j / 26:=m (s / 7) _ _ () () () () b;have i:s / 3+k=s / 3+26 * (k / 26)+k % 26:=()
 have l:s / 3+j=s / 3+26 * (k / 26)+j % 26:=()
 rw[i,l]at u;have o:k % 26=j % 26:=m _ _ _ () () () () u;omega
theorem mH{s k j:Int}(x:0<=s)(y:0<=k)(k1:k<676)(a:0<=j)(u:j<676)(h:YF s k=YF s j):k=j:=by
 have hk:=JQ (k:=k) x;have e:=JQ (k:=j) x;have b:(QA "z").length=1:=by decide +kernel
 unfold YF at h;split at h<;>split at h;refine TW x y k1 a u (LI ?_);have:=e6 (λz:Str=>z.cps.toList) h;have this:((NU s k).cps++(QA "z").cps).toList=((NU s j).cps++(QA "z").cps).toList:=this;rw[w6,w6]at this;exact QA7 this;have:=e6 QCV h;rw[qN]at this;omega;have:=e6 QCV h;rw[qN]at this;omega;exact TW x y k1 a u h
theorem jd{Ψ:PEv}{E:XE}{ρ:zA}{K:TK}{a:PX}{i:Nat}:vB Ψ (.slc a .nop (.vx i)) E ρ K=vB Ψ a E ρ λx n y=>sq (α:=Option Int) (uA x n) y (λρ R=>vB Ψ (.vx i) E ρ λl _ h=>yD l.er λo=>R o h) λu h=>GF x n jz u λz k=>K z k h:=by
 show(pe Ψ a E).e ρ (λx n y=>sq (α:=Option Int) (uA x n) y (λρ (R:Option Int->zA->Prop)=>R jz ρ) λl h=>sq (α:=Option Int) (uA x n) h (λρ R=>(pe Ψ (.vx i) E).e ρ λl _ h=>yD l.er λo=>R o h) λu b=>sE (uA x n).vw l u λz k=>K z k b)=_;have:∀(x:T) (n:Bool) (y:zA) (C:Option Int->zA->Prop),(sq (α:=Option Int) (uA x n) y (λρ (R:Option Int->zA->Prop)=>R jz ρ) C)=C jz y:=by intro x n y C;unfold sq;split<;>rfl
 simp only[this];rfl
theorem Yb{Ψ:PEv}(r:Ψ.sp "_law_keywords"=GC):RK Ψ pN dD YT mO:=by
 rintro _ Q _ ⟨s,k,rfl,⟨A,K⟩,⟨F,E⟩,q⟩;refine rA [bD (.int s),bD (.int k),jz,jz,jz,jz,jz] ?_;have b:j1=16777216:=qi;have u:xE.length=26:=by decide +kernel
 delta pN;simp![Sb,u];refine#[(),(),(),?_];refine NC (λ(j:Nat)=>T.d (.int (j:Int))) (λ(j:Nat)=>T.d (.str (gU (bI (s / 42+(j:Int) * (j:Int) * (s / 1100 % 5)))))) (Qe (2+s % 6).toNat) [] _ (λj e R p=>?_) (by simp;omega) ?_;have e:=qV.mp e;simp![u];have a:(j:Int)<=8:=()
 have G:(j:Int) * (j:Int)<=8 * 8:=Int.mul_le_mul a a () (by decide);exact#[RZ.ok (.inr #[(),()]),RZ.ok (.inr #[(),()]),(),iF.mk (UM _) p];have Y:(Qe (2+s % 6).toNat).map (λ(j:Nat)=>T.d (Jx (gU (bI (s / 42+(j:Int) * (j:Int) * (s / 1100 % 5))))))=(((pR s).map gU).map Jx).map T.d:=by simp[pR]
 rw[Qt,Y];have o:(pR s).length=(2+s % 6).toNat:=by simp[pR]
 have y:(#[(pR s).toArray]:Str).length=(2+s % 6).toNat:=by show(pR s).toArray.size=_;rw[QM,o]
 have n:(QA "").length=0:=by decide +kernel
 have I:=KO;simp![C6,n,u,UM,↓jd,↓nR,↓Uh,↓O3,↓fA (md:=[]) r rfl rfl,↓SI];have i:0<=s / 6 % (2+s % 6 - 1):=Qs _ ();have B:s / 6 % (2+s % 6 - 1)<2+s % 6 - 1:=Qb _ ();have W:=A1 (x:=#[(pR s).toArray]) i (by rw[y];omega);have Z:=fU (x:=#[(pR s).toArray]) (j:=s / 6 % (2+s % 6 - 1)+2) () (by rw[y];omega);have f:W8 #[(pR s).toArray] jz (jy (s / 6 % (2+s % 6 - 1)))++((#[(List.toArray [bI (s / 7+k / 26)])]:Str)++(#[(List.toArray [bI (s / 3+k)])]:Str))++W8 #[(pR s).toArray] (jy (s / 6 % (2+s % 6 - 1)+2)) jz=NU s k:=by
  rw[W,Z];apply LI;show(((List.take _ _).toArray++((List.toArray [bI (s / 7+k / 26)])++(List.toArray [bI (s / 3+k)])))++(List.drop _ _).toArray).toList=(P5 s k).toArray.toList;have X:(s / 6 % (2+s % 6 - 1)+2).toNat=(eR s).toNat+2:=by unfold eR;omega
  rw[X];simp[P5,eR]
 have m:=QCv #[(pR s).toArray] jz (jy (s / 6 % (2+s % 6 - 1)));have l:=QCv #[(pR s).toArray] (jy (s / 6 % (2+s % 6 - 1)+2)) jz;rw[y]at m l;have h:∀c:Nat,(#[(List.toArray [c])]:Str).length=1:=λ_=>rfl;have g:(QA "z").length=1:=by decide +kernel
 have C:(NU s k).length<=30:=by rw[<- f,qN,qN,qN,h,h];omega
 refine#[?_,(),(),by rw[h,h];omega,by rw[y];omega,by rw[qN,h,h];omega,by rw[y];omega,by rw[qN,qN,h,h];omega,?_];have:=OJ (λz:Str=>z.length) 1 ((pR s).map gU) (λz b=>by let#[c,_,rfl]:=Qm.mp b;exact QU 1);rw[QG]at this ⊢;omega;rw[f,dG];refine#[.inl #[rfl,mE _],?_];unfold YF at q;delta PK;simp![↓dA];by_cases hk:NU s k∈keys;rw[ef hk]at q;rw[dT hk,ef rfl];exact#[by rw[g];omega,q];rw[eH hk]at q;rw[dF hk,eH (by simp)];exact q
theorem uZ{α h:Type}(f:α->h)(l:List α)(k:Nat)(y:α):SD (l.map f) k (f y)=(SD l k y).map f:=by unfold SD;rw[Q6,QN,QCQ,QCO]
theorem FO{α:Type}(l:List α)(k:Nat)(y:α):(SD l k y).length=l.length+1:=by unfold SD;rw[QL,QJ,wN,qW];omega
theorem xZ{α:Type}{l:List α}{k:Nat}{x y:α}:x∈SD l k y↔x=y∨x∈l:=by
 unfold SD;rw[Qy,QR];constructor;rintro(h|rfl|h)
 ·exact .inr (WV h)
 exact .inl rfl;exact .inr (QAK h);rintro(rfl|h)
 ·exact .inr (.inl rfl)
 rw[<- QAA k l]at h;rcases Qy.mp h with h|h;exact .inl h;exact .inr (.inr h)
noncomputable abbrev PA:=v9×Int
noncomputable def VE(ms:LS)(i:Nat):Str:=ms.getD i (gU 0)
noncomputable def af(ns:LJ)(ms:LS)(j k:Nat)(n:Int):Str×Str:=if n / 3 % 2=0 then(VE ms j,VE ms k) else(VE ms k,VE ms j)
noncomputable def lR(ns:LJ)(ms:LS)(j:Nat)(st:PA)(k:Nat):PA :=
 (if 0<oA ns (st.2+1) % 3 then SD st.1 (oA ns (st.2+1) / 9 % ((st.1.length:Int)+1)).toNat (af ns ms j k (oA ns (st.2+1))) else st.1,st.2+1)
noncomputable def aT(ns:LJ)(ms:LS)(st:PA)(j:Nat):PA:=(Qe j).foldl (lR ns ms j) st
noncomputable def MZ(ns:LJ)(ms:LS)(a:Int):PA:=(Qe ms.length).foldl (aT ns ms) ([],a)
noncomputable abbrev Ps(l:v9):T:=.lst ((l.map aD).map T.d)
noncomputable abbrev Es(ms:LS):T:=.lst ((ms.map Jx).map T.d)
noncomputable def FF:PSp where
 md:=[.xz,.chg,.xz]
 run:=λy Q _=>∃(h:LJ) (a:Int) (x:LS),y=[EB h,FZ a,Es x]/\DB h/\(0<=a/\a<=100)/\x.length<=6/\Q (Ps (MZ h x a).1) [FZ (MZ h x a).2]
theorem uV{ms:LS}{i:Nat}(h:i<ms.length):zC (ms.map Jx) (i:Int)=jy (.str (VE ms i)):=by
 have e:(ms.map Jx)[i]?=jy (.str (VE ms i)):=by rw[Qj,wL h];unfold VE;rw[Qx,wL h];rfl
 exact NA e
noncomputable def sN(ns:LJ)(ms:LS)(st:PA)(z y x h:Option Sl):zA:=[jy (.xx (EB ns)),jy (.own (FZ st.2)),jy (.xx (Es ms)),jy (.own (Ps st.1)),z,y,x,h]
theorem LZ{Ψ:PEv}(g:Ψ.sp "_law_next"=ZC){Z:PEnds}{ns:LJ}{ms:LS}{st:PA}{j k:Nat}(f:DB ns)(l:0<=st.2)(n:st.2<=1000)(hl:st.1.length<=st.2.toNat)(b:j<ms.length)(hk:k<ms.length)(x h:Option Sl)
  (q:∀x h,Z.nx (sN ns ms (lR ns ms j st k) (bD (.int (j:Int))) (bD (.int (k:Int))) x h)) :
  pF Ψ iD Z (sN ns ms st (bD (.int (j:Int))) (bD (.int (k:Int))) x h):=by
 have u:=uV b;have z:=uV hk;delta sN;delta iD;simp![↓fG (md:=[]) g rfl rfl,u,z];refine#[_,_,rfl,f,#[l,()],#[_,rfl,?_]];have i:zC [PyData.tuple [.str (VE ms j),.str (VE ms k)],.tuple [.str (VE ms k),.str (VE ms j)]] (oA ns (st.2+1) / 3 % 2)=jy (aD (af ns ms j k (oA ns (st.2+1)))):=by unfold af;rcases(show oA ns (st.2+1) / 3 % 2=0∨oA ns (st.2+1) / 3 % 2=1 by omega) with e|e;rw[e,ef rfl];rfl;rw[e,eH (by decide)];rfl
 simp! -implicitDefEqProofs[u,z,i];refine#[(),(),(),?_];have q:=q (bD (.int (oA ns (st.2+1)))) (bD (aD (af ns ms j k (oA ns (st.2+1)))));simp only[QG];refine fF (λc=>?_) λc=>?_;have c:0<oA ns (st.2+1) % 3:=by simpa using c
 have y:lR ns ms j st k=(SD st.1 (oA ns (st.2+1) / 9 % ((st.1.length:Int)+1)).toNat (af ns ms j k (oA ns (st.2+1))),st.2+1):=by unfold lR;rw[ef c]
 have a:=Qs (oA ns (st.2+1) / 9) (show((st.1.length:Int)+1)≠0 by omega);have m:=Qb (oA ns (st.2+1) / 9) (show 0<((st.1.length:Int)+1) by omega);refine#[(),a,(),(),?_];rw[y]at q;delta sN Ps at q;simp only[<- uZ]at q;exact q;have c:¬ 0<oA ns (st.2+1) % 3:=by simpa using c
 have y:lR ns ms j st k=(st.1,st.2+1):=by unfold lR;rw[eH c]
 rw[y]at q;exact q
theorem LX(ns:LJ)(ms:LS)(j:Nat)(st:PA)(k:Nat):(lR ns ms j st k).2=st.2+1:=rfl
theorem Pc{ns:LJ}{ms:LS}{j:Nat}{st:PA}{k:Nat}(x:0<=st.2)(h:st.1.length<=st.2.toNat):(lR ns ms j st k).1.length<=(lR ns ms j st k).2.toNat:=by rw[LX];unfold lR;split;rw[FO];omega;show st.1.length<=_;omega
theorem HZ{Ψ:PEv}(s:Ψ.sp "_law_next"=ZC){Z:PEnds}{ns:LJ}{ms:LS}{st:PA}{j:Nat}(p:DB ns)(X:0<=st.2)(W:st.2+(j:Int)<=1000)(hl:st.1.length<=st.2.toNat)(o:j<ms.length)(Y:ms.length<=6)(z y x:Option Sl)
  (q:∀n z y x,(aT ns ms st j).1.length<=(aT ns ms st j).2.toNat->(aT ns ms st j).2=st.2+(j:Int)->Z.nx (sN ns ms (aT ns ms st j) n z y x)) :
  pF Ψ tD Z (sN ns ms st (bD (.int (j:Int))) z y x):=by
 delta sN;delta tD;simp![↓dA];refine#[(),(),?_];refine sD (λ(i:Nat)=>T.d (.int (i:Int))) (λl a=>∃(h:PA) (z y x:Option Sl),l.foldl (lR ns ms j) h=aT ns ms st j/\0<=h.2/\h.2+(l.length:Int)=st.2+(j:Int)/\h.1.length<=h.2.toNat/\(∀i∈l,i<j)/\a=sN ns ms h (bD (.int (j:Int))) z y x) ?_ ?_ _ _ #[st,z,y,x,rfl,X,by simp,hl,λi b=>qV.mp b,rfl];rintro a ⟨h,z,y,x,e,g,f,u,_,rfl⟩;have e:h=aT ns ms st j:=e;subst e;exact q _ _ _ _ u (by simpa using f);rintro k l a N r ⟨h,z,y,x,e,g,f,u,m,rfl⟩;have hk:=m k QK;simp only[QJ]at f;show pF Ψ iD _ (sN ns ms h (bD (.int (j:Int))) (bD (.int (k:Int))) y x);refine LZ s p g () u o () _ _ λy x=>?_;exact r _ #[_,_,_,_,e,by rw[LX];omega,by rw[LX];omega,Pc g u,λi b=>m i (QH _ b),rfl]
theorem CU{Ψ:PEv}(W:Ψ.sp "_law_next"=ZC):RK Ψ kH FF jL yJ:=by rintro _ Q _ ⟨y,a,x,rfl,Y,⟨A,C⟩,s,q⟩;refine rK [jy (.xx (EB y)),oW (FZ a),jy (.xx (Es x)),jz,jz,jz,jz,jz] ?_;delta kH;simp![QG];refine#[(),(),(),?_];refine sD (λ(i:Nat)=>T.d (.int (i:Int))) (λl g=>∃(h:PA) (f b u z:Option Sl),l.foldl (aT y x) h=MZ y x a/\0<=h.2/\h.2+((l.length * 6:Nat):Int)<=140/\h.1.length<=h.2.toNat/\(∀i∈l,i<x.length)/\g=sN y x h f b u z) ?_ ?_ _ _ #[([],a),jz,jz,jz,jz,rfl,A,by simp;omega,by simp,λi m=>qV.mp m,rfl];rintro g ⟨h,f,b,u,z,e,r,p,o,_,rfl⟩;have e:h=MZ y x a:=e;subst e;exact q;rintro j l g N Z ⟨h,f,b,u,z,e,r,p,o,n,rfl⟩;have X:=n j QK;simp only[QJ]at p;show pF Ψ tD _ (sN y x h (bD (.int (j:Int))) b u z);refine HZ W Y r () o X s _ _ _ λf b u z K B=>?_;exact Z _ #[_,_,_,_,_,e,(),(),K,λi m=>n i (QH _ m),rfl]
theorem oK{α:Type}{e:zA->TK->Prop}{Q:List D->zA->Prop}(g:α->T)(W:List α->List D->zA->Prop)(b:∀h ρ,W [] h ρ->h.length<=j1/\Q h ρ)
  (a:∀x xs h ρ (N:D->zA->Prop),W (x::xs) h ρ->(∀d z,W xs (h++[d]) z->N d z)->e (jy (.xx (g x))::ρ) λy n u=>MG y n=jb/\h.length<j1/\N y.er (u.drop 1)):∀(xs:List α) (h:List D) (ρ:zA),W xs h ρ->aJ (.nm 0) 1 e (xs.map g) h ρ Q
 |[],h,ρ,w=>b h ρ w|x::xs,h,ρ,w=>a x xs h ρ (λd z=>aJ (.nm 0) 1 e (xs.map g) (h++[d]) z Q) w λd z f=>oK g W b a xs (h++[d]) z f
noncomputable def zI(n:Int):Int:=if n / 7 % 2=0 then 0 else 999999999
noncomputable def Zd(n:Int):Int:=if n % 4=0 then n / 7 % 5 else if n % 4=1 then n / 7 % 60 else if n % 4=2 then n / 7 % 10 ^ 9 else zI n
theorem Pl(n:Int):zC [Jy 0,.int 999999999] (n / 7 % 2)=jy (.int (zI n)):=by unfold zI;rcases(show n / 7 % 2=0∨n / 7 % 2=1 by omega) with e|e;rw[e,ef rfl];rfl;rw[e,eH (by decide)];rfl
theorem Jh(n:Int):zC [Jy (n / 7 % 5),.int (n / 7 % 60),.int (n / 7 % 10 ^ wd 9),.int (zI n)] (n % 4)=jy (.int (Zd n)):=by unfold Zd;rcases(show n % 4=0∨n % 4=1∨n % 4=2∨n % 4=3 by omega) with e|e|e|e;rw[e,ef rfl];rfl;rw[e,eH (by decide),ef rfl];rfl;rw[e,eH (by decide),eH (by decide),ef rfl];rfl;rw[e,eH (by decide),eH (by decide),eH (by decide)];rfl
theorem rm{n:Int}(h:0<=n):0<=Zd n/\Zd n<=999999999:=by
 unfold Zd zI;have e:(10:Int) ^ 9=1000000000:=by decide
 rw[e]
 repeat' split
 all_goals omega
noncomputable def To(i:Int):Str:=keys.getD i.toNat (gU 0)
noncomputable def uh(n:Int):Str:=if n / 20 % 6=0 then To (n / 10 ^ 6 % 19) else YF (n / 10 ^ 6 % 10 ^ 12) 3
noncomputable def FW(ps:List P4)(i:Int):P4:=ps.getD i.toNat (gU 0,0,0,0)
theorem xQ{ps:List P4}{i:Int}(x:0<=i)(h:i<(ps.length:Int)):zC (ps.map pD) i=jy (pD (FW ps i)):=by let#[v,z,y]:=tH (xs:=ps) x h;rw[cG,z];unfold FW;rw[Qx,y];rfl
theorem Ga{ps:List P4}{i:Int}(y:0<=i)(x:i<(ps.length:Int)):FW ps i∈ps:=by let#[v,z,h]:=tH (xs:=ps) y x;unfold FW;rw[Qx,h];exact qm h
theorem Pb{ms:LS}{i:Int}(x:0<=i)(h:i<(ms.length:Int)):zC (ms.map Jx) i=jy (.str (VE ms i.toNat)):=by
 have:=uV (ms:=ms) (i:=i.toNat) ()
 rwa [show((i.toNat:Nat):Int)=i by omega]at this
theorem B6{i:Int}(x:0<=i)(h:i<19):zC (keys.map Jx) i=jy (.str (To i)):=by let#[v,z,y]:=tH (xs:=keys) (i:=i) x (by show i<19;exact h);rw[cG,z];unfold To;rw[Qx,y];rfl
noncomputable def M9(n:Int):Nat:=[0,0,1,2,6,3].getD (n / 12 % 6).toNat 0
theorem ki(n:Int):zC [Jy 0,.int 0,.int 1,.int 2,.int 6,.int 3] (n / 12 % 6)=jy (.int (M9 n:Int)):=by unfold M9;rcases(show n / 12 % 6=0∨n / 12 % 6=1∨n / 12 % 6=2∨n / 12 % 6=3∨n / 12 % 6=4∨n / 12 % 6=5 by omega) with e|e|e|e|e|e<;>rw[e]<;>rfl
theorem tU(n:Int):M9 n<=6:=by unfold M9;rcases(show n / 12 % 6=0∨n / 12 % 6=1∨n / 12 % 6=2∨n / 12 % 6=3∨n / 12 % 6=4∨n / 12 % 6=5 by omega) with e|e|e|e|e|e<;>rw[e]<;>decide
noncomputable def qI(n m:Int):Int:=(n / 100 % m+1+n / 10 ^ 4 % (m - 1)) % m
noncomputable def Xk(ns:LJ)(a:Int)(ps:List P4)(k:Nat):LS:=(Qe k).map λ(i:Nat)=>(FW ps (oA ns (a+(i:Int)+1) % (ps.length:Int))).1
noncomputable def tZ(ns:LJ)(a:Int)(ps:List P4)(ms:LS):Ev×Int :=
 if ps.length=1∨oA ns (a+1) / 4 % 3=0 then(.see (Zd (oA ns (a+1))) (FW ps (oA ns (a+1) / 100 % (ps.length:Int))).1 (VE ms (oA ns (a+1) / 1000 % (ms.length:Int)).toNat) (uh (oA ns (a+1))),a+1)
 else(.tell (Zd (oA ns (a+1))) (FW ps (oA ns (a+1) / 100 % (ps.length:Int))).1 (FW ps (qI (oA ns (a+1)) (ps.length:Int))).1 (VE ms (oA ns (a+1) / 1000 % (ms.length:Int)).toNat) (uh (oA ns (a+1))) (Xk ns (a+1) ps (M9 (oA ns (a+1)))),a+1+(M9 (oA ns (a+1)):Int))
noncomputable abbrev j4(ps:List P4):D:=.list (ps.map pD)
noncomputable abbrev g6(ms:LS):D:=.list (ms.map Jx)
noncomputable def MI:PSp where
 md:=[.xz,.chg]
 run:=λz Q _=>∃(y:LJ) (a:Int) (h:List P4) (x:LS),z=[EB y,FZ a,.d (j4 h),.d (g6 x)]/\DB y/\(0<=a/\a<=10000)/\0<h.length/\h.length<=10/\0<x.length/\x.length<=6/\Q (.d (eD (tZ y a h x).1)) [FZ (tZ y a h x).2]
noncomputable def xD(ns:LJ)(a:Int)(ps:List P4)(ms:LS)(g f e b u z y x h:Option Sl):zA:=[jy (.xx (EB ns)),oW (FZ a),bD (j4 ps),bD (g6 ms),g,f,e,b,u,z,y,x,h]
noncomputable abbrev sI(n:Int):Option Sl:=bD (.int n)
noncomputable abbrev sS(z:Str):Option Sl:=bD (.str z)
section
variable{Ψ:PEv}{Z:PEnds}{r:PT}{ns:LJ}{a n:Int}{ps:List P4}{ms:LS}{d b w v u z y x h:Option Sl}
theorem zu(f:Ψ.sp "_law_next"=ZC)(e:DB ns)(g:0<=a)(i:a<=20000)(k:pF Ψ r Z (xD ns (a+1) ps ms (sI (oA ns (a+1))) b w v u z y x h)):pF Ψ (.seq (.set 4 (.call "_law_next" %[.vx 0,.vx 1|1])) r) Z (xD ns a ps ms d b w v u z y x h):=by delta xD;simp![↓fG (md:=[]) f rfl rfl];refine#[_,_,rfl,e,#[g,()],#[_,rfl,?_]];simp![↓dA];exact k
theorem yu(k:pF Ψ r Z (xD ns a ps ms (sI n) (sI (Zd n)) w v u z y x h)):pF Ψ (.seq (.set 5 (.idx (.lst %[.bin .Mod (.bin .FloorDiv (.vx 4) (.int 7)) (.int 5),.bin .Mod (.bin .FloorDiv (.vx 4) (.int 7)) (.int 60),.bin .Mod (.bin .FloorDiv (.vx 4) (.int 7)) (.bin .Pow (.int 10) (.int 9)),.idx (.lst %[.int 0,.int 999999999|1]) (.bin .Mod (.bin .FloorDiv (.vx 4) (.int 7)) (.int 2))|1]) (.bin .Mod (.vx 4) (.int 4)))) r) Z (xD ns a ps ms (sI n) b w v u z y x h):=by delta xD;simp![Pl,Jh];exact#[#[by decide,by decide,by decide],by decide,(),(),k]
theorem ju(f:0<ps.length)(g:0<ms.length)(k:pF Ψ r Z (xD ns a ps ms (sI n) b (sI (ps.length:Int)) (sI (n / 100 % (ps.length:Int))) (sS (VE ms (n / 1000 % (ms.length:Int)).toNat)) z y x h)):pF Ψ (.seq (.set 6 (.bi .len %[.vx 2|1]))
  (.seq (.set 7 (.bin .Mod (.bin .FloorDiv (.vx 4) (.int 100)) (.vx 6)))
  (.seq (.set 8 (.idx (.vx 3) (.bin .Mod (.bin .FloorDiv (.vx 4) (.int 1000)) (.bi .len %[.vx 3|1])))) r))) Z (xD ns a ps ms (sI n) b w v u z y x h):=by
 have e:=Pb (ms:=ms) (i:=n / 1000 % (ms.length:Int)) (Qs _ ()) (Qb _ ());delta xD;simp![QG,e];exact#[(),(),k]
theorem Et(f:Ψ.sp "_law_name"=dD)(e:Ψ.sp "_law_keywords"=GC)(k:pF Ψ r Z (xD ns a ps ms (sI n) b w v u (sS (uh n)) y x h)):pF Ψ (.seq (.set 9 (.idx (.lst %[.call "_law_name" %[.bin .Mod (.bin .FloorDiv (.vx 4) (.bin .Pow (.int 10) (.int 6))) (.bin .Pow (.int 10) (.int 12)),.int 3|1],.idx (.call "_law_keywords" .kz) (.bin .Mod (.bin .FloorDiv (.vx 4) (.bin .Pow (.int 10) (.int 6))) (.int 19))|1]) (.bi .int %[.cmp .Eq (.bin .Mod (.bin .FloorDiv (.vx 4) (.int 20)) (.int 6)) (.int 0)|1]))) r) Z (xD ns a ps ms (sI n) b w v u z y x h):=by
 delta xD;simp![↓fA (md:=[]) f rfl rfl];refine#[#[by decide,by decide,by decide],by decide,by decide,#[by decide,by decide,by decide],by decide,?_];have l:(10:Int) ^ wd 12=1000000000000:=by decide
 refine#[_,_,rfl,#[(Qs _ (by decide)),(by rw[l];omega)],#[by decide,by decide],?_];have j:=B6 (i:=n / 10 ^ wd 6 % 19) () ();have g:zC [Jx (YF (n / 10 ^ wd 6 % 10 ^ wd 12) 3),.str (To (n / 10 ^ wd 6 % 19))] (if decide (n / 20 % 6=0)=jb then 1 else 0)=jy (.str (uh n)):=by unfold uh;by_cases c:n / 20 % 6=0;rw[ef c,ef (dT c)];rfl;rw[eH c,eH (by simpa using c)];rfl
 simp![↓fA (md:=[]) e rfl rfl,↓SI,j,g];exact#[#[by decide,by decide,by decide],by decide,by decide,(),k]
end
theorem AH{n j x:Nat}{xs:LN}(h:(Qe n).drop j=x::xs):x=j/\j<n/\xs=(Qe n).drop (j+1):=by
 have hl:((Qe n).drop j).length=xs.length+1:=by rw[h];rfl
 rw[qW,qO]at hl;have y:j<n:=()
 have e:=List.drop_eq_getElem_cons (l:=Qe n) (i:=j) (by simpa using y);rw[e]at h;let#[z,u]:=QAQ h;rw[List.getElem_range]at z;exact#[z.symm,y,u.symm]
theorem AJ{n j:Nat}(h:[]=(Qe n).drop j)(x:j<=n):j=n:=by have:=e6 WH h;rw[qf,qW,qO]at this;omega
section
variable{Ψ:PEv}{r:PT}{ns:LJ}{a n t:Int}{ps:List P4}{ms:LS}{f w:Str}{y z h:Option Sl}{Q:T->LT->Prop}
theorem xh{p:P4}{n m:Bool}{R:T->Prop}:DE (.d (pD p)) n (.d (.int 0)) m R=R (.d (.str p.1)):=by delta pD;rw[vh,GD,eE]
theorem yt{a b c d e:D}:ZF [.d a,.d b,.d c,.d d,.d e]=.d (.tuple [a,b,c,d,e]):=rfl
theorem jt{a b c d e f g:D}:ZF [.d a,.d b,.d c,.d d,.d e,.d f,.d g]=.d (.tuple [a,b,c,d,e,f,g]):=rfl
theorem At(b:0<ps.length)(x:ps.length=1∨n / 4 % 3=0->Q (.d (eD (.see t (FW ps (n / 100 % (ps.length:Int))).1 f w))) [FZ a])
  (k:¬ (ps.length=1∨n / 4 % 3=0)->pF Ψ r (eC Q) (xD ns a ps ms (sI n) (sI t) (sI (ps.length:Int)) (sI (n / 100 % (ps.length:Int))) (sS f) (sS w) y z h)) :
  pF Ψ (.seq (.ife (.or (.cmp .Eq (.vx 6) (.int 1)) (.cmp .Eq (.bin .Mod (.bin .FloorDiv (.vx 4) (.int 4)) (.int 3)) (.int 0))) %[.ret (.tup %[.str "see",.vx 5,.idx (.idx (.vx 2) (.vx 7)) (.int 0),.vx 8,.vx 9|1])|2] .nil) r) (eC Q) (xD ns a ps ms (sI n) (sI t) (sI (ps.length:Int)) (sI (n / 100 % (ps.length:Int))) (sS f) (sS w) y z h):=by
 have u:=xQ (ps:=ps) (i:=n / 100 % (ps.length:Int)) (Qs _ ()) (Qb _ ());delta xD at k ⊢;simp![u,↓xh,yt,↓iX];refine fF (λc=>#[(),x (.inl (by have:=ei c;omega))]) λc=>fF (λd=>#[(),x (.inr (by simpa using d))]) λd=>k λe=>?_;rcases e with e|e;exact c (dT ());exact d (dT e)
theorem Tt(e:2<=ps.length){b u x:Option Sl}{Z:PEnds}(k:pF Ψ r Z (xD ns a ps ms (sI n) b (sI (ps.length:Int)) (sI (n / 100 % (ps.length:Int))) u x (sI (qI n (ps.length:Int))) (sI (M9 n:Int)) h)) :
  pF Ψ (.seq (.set 10 (.bin .Mod (.bin .Add (.bin .Add (.vx 7) (.int 1)) (.bin .Mod (.bin .FloorDiv (.vx 4) (.bin .Pow (.int 10) (.int 4))) (.bin .Sub (.vx 6) (.int 1)))) (.vx 6))) (.seq (.set 11 (.idx (.lst %[.int 0,.int 0,.int 1,.int 2,.int 6,.int 3|1]) (.bin .Mod (.bin .FloorDiv (.vx 4) (.int 12)) (.int 6)))) r)) Z (xD ns a ps ms (sI n) b (sI (ps.length:Int)) (sI (n / 100 % (ps.length:Int))) u x y z h):=by
 delta xD;simp![ki];exact#[#[by decide,by decide,by decide],by decide,by decide,(),(),(),k]
theorem Pt(Y:Ψ.sp "_law_next"=ZC)(s:DB ns)(C:0<=a)(B:a<=20000)(K:0<ps.length){c:Nat}(hc:c<=6){m l j g b:Option Sl}{Z:PEnds}
  (k:pF Ψ r Z (xD ns (a+(c:Int)) ps ms m l (sI (ps.length:Int)) j g b y (sI (c:Int)) (bD (.list ((Xk ns a ps c).map Jx))))) :
  pF Ψ (.seq (.set 12 (.eff (.comp [] ["_law_j"] (.nm 0) .rng1 %[.vx 11|1] .nop (.idx (.idx (.vx 3) (.bin .Mod (.call "_law_next" %[.vx 1,.vx 2|1]) (.vx 7))) (.int 0))))) r) Z (xD ns a ps ms m l (sI (ps.length:Int)) j g b y (sI (c:Int)) h):=by
 delta xD;simp![Og];refine#[rfl,rfl,rfl,(),(),?_];rw[show((c:Int)).toNat=c by omega];refine oK (λ(i:Nat)=>T.d (.int (i:Int))) (λp u o=>∃i:Nat,i<=c/\p=(Qe c).drop i/\u=(Xk ns a ps i).map Jx/\o=xD ns (a+(i:Int)) ps ms m l (sI (ps.length:Int)) j g b y (sI (c:Int)) h) ?_ ?_ _ _ _ #[0,(),rfl,rfl,by rw[show a+((0:Nat):Int)=a by omega];rfl];rintro u o ⟨i,q,e,rfl,rfl⟩;have:=AJ e q;subst this;refine#[?_,k];unfold Xk;rw[QG,QG,qO];omega;rintro x p u o N ⟨i,q,e,rfl,rfl⟩ X;let#[rfl,A,rfl]:=AH e.symm;have W:=xQ (ps:=ps) (i:=oA ns (a+(x:Int)+1) % (ps.length:Int)) (Qs _ ()) (Qb _ ());show vB Ψ _ (λ_=>False) (bD (.int (x:Int))::xD ns (a+(x:Int)) ps ms m l (sI (ps.length:Int)) j g b y (sI (c:Int)) h) _;delta xD;simp![↓fG (md:=[]) Y rfl rfl];refine#[_,_,rfl,s,#[(),()],#[_,rfl,?_]];simp![W,↓xh];refine#[(),?_,X _ _ #[x+1,(),rfl,?_,?_]];unfold Xk;rw[QG,QG,qO];omega;unfold Xk;rw[QAc,Q6,Q6];rfl;rw[show a+((x+1:Nat):Int)=a+(x:Int)+1 by omega];rfl
theorem Kp(q:0<ps.length){b:LS}{i j:Int}(m:0<=i)(l:i<(ps.length:Int))(g:0<=j)(e:j<(ps.length:Int)){u x z:Option Sl}(k:Q (.d (eD (.tell t (FW ps i).1 (FW ps j).1 f w b))) [FZ a]) :
  pF Ψ %[.ret (.tup %[.str "tell",.vx 5,.idx (.idx (.vx 2) (.vx 7)) (.int 0),.idx (.idx (.vx 2) (.vx 10)) (.int 0),.vx 8,.vx 9,.bi .tuple %[.vx 12|1]|1])|2] (eC Q) (xD ns a ps ms u (sI t) x (sI i) (sS f) (sS w) (sI j) z (bD (.list (b.map Jx)))):=by
 have p:=xQ m l;have o:=xQ g e;delta xD;simp! -implicitDefEqProofs[p,o,↓xh,jt,↓iX];exact#[(),k]
end
theorem G5{Ψ:PEv}(z:Ψ.sp "_law_next"=ZC)(j:Ψ.sp "_law_keywords"=GC)(i:Ψ.sp "_law_name"=dD):RK Ψ lP MI rP xM:=by
 rintro _ Q _ ⟨b,a,x,f,rfl,y,⟨l,o⟩,h,m,g,n,q⟩;refine rK (xD b a x f jz jz jz jz jz jz jz jz jz) ?_;unfold tZ at q;refine zu z y l () (yu (ju h g (Et i j (At h (λc=>?_) λc=>?_))));rw[ef c]at q;exact q;rw[eH c]at q;have u:2<=x.length:=by by_cases e:x.length=1;exact eN (.inl e) c;omega
 refine Tt u (Pt z y () () h (tU _) (Kp h (Qs _ ()) (Qb _ ()) (Qs _ ()) (Qb _ ()) q))
noncomputable def Fl(m:Int):Int:=if m / 10 ^ 4 % 3=0 then 0 else if m / 10 ^ 4 % 3=1 then m / 100 % 100 else 99
theorem Ih(m:Int):zC [Jy 0,.int (m / 100 % 100),.int 99] (m / 10 ^ wd 4 % 3)=jy (.int (Fl m)):=by unfold Fl;show zC _ (m / 10 ^ 4 % 3)=_;rcases(show m / 10 ^ 4 % 3=0∨m / 10 ^ 4 % 3=1∨m / 10 ^ 4 % 3=2 by omega) with e|e|e;rw[e,ef rfl];rfl;rw[e,eH (by decide),ef rfl];rfl;rw[e,eH (by decide),eH (by decide)];rfl
noncomputable def p4(s m:Int)(j:Nat):P4:=(YF s (j:Int),m % 100,Fl m,1+m / 10 ^ 5 % 4)
noncomputable def IJ(ns:LJ)(s:Int)(c:Nat):List P4:=(Qe c).map λ(j:Nat)=>p4 s (oA ns (1+(j:Int)+1)) j
noncomputable def mI(n:Int)(j:Nat):Int:=if(n / 60+(j:Int)) % 2=0 then(j:Int) else 50+(j:Int)
theorem No(n:Int)(j:Nat):zC [Jy (j:Int),.int (50+(j:Int))] ((n / 60+(j:Int)) % 2)=jy (.int (mI n j)):=by unfold mI;rcases(show(n / 60+(j:Int)) % 2=0∨(n / 60+(j:Int)) % 2=1 by omega) with e|e;rw[e,ef rfl];rfl;rw[e,eH (by decide)];rfl
noncomputable def UI(s n:Int):LS:=(Qe (1+n / 10 % 6).toNat).map λ(j:Nat)=>YF s (mI n j)
noncomputable def SO(ns:LJ)(a:Int)(ps:List P4)(ms:LS):Nat->List Ev×Int
 |0=>([],a)|k+1=>((SO ns a ps ms k).1++[(tZ ns (SO ns a ps ms k).2 ps ms).1],(tZ ns (SO ns a ps ms k).2 ps ms).2)
noncomputable def FA(ns:LJ):Int:=oA ns 0 % 10 ^ 12
noncomputable def nW(ns:LJ):Int:=oA ns (0+1)
noncomputable def cW(ns:LJ):Nat:=(1+nW ns % 10).toNat
noncomputable def kW(ns:LJ):Int:=if nW ns / 100 % 8=1 then 80 else nW ns / 1000 % 26
noncomputable def NE(ns:LJ):List P4:=IJ ns (FA ns) (cW ns)
noncomputable def BB(ns:LJ):LS:=UI (FA ns) (nW ns)
noncomputable def UJ(ns:LJ):PA:=MZ ns (BB ns) (1+(cW ns:Int))
noncomputable def JL(ns:LJ):List Ev×Int:=SO ns (UJ ns).2 (NE ns) (BB ns) (kW ns).toNat
noncomputable def U0(ns:LJ):D:=.tuple [j4 (NE ns),g6 (BB ns),.list ((UJ ns).1.map aD),.list ((JL ns).1.map eD)]
noncomputable def OL:PSp where
 md:=[.xz]
 run:=λx Q _=>∃(h:LJ),x=[EB h]/\DB h/\Q (.d (U0 h)) []
noncomputable def wS(ns:LJ)(g f e b a u z y x h:Option Sl):zA:=[jy (.xx (EB ns)),g,f,e,b,a,u,z,y,x,h]
noncomputable abbrev sA(a:Int):Option Sl:=jy (.own (FZ a))
theorem LP(ns:LJ):0<=FA ns/\FA ns<1000000000000:=by
 unfold FA;have e:(10:Int) ^ 12=1000000000000:=by decide
 rw[e];omega
theorem Vc(ns:LJ):1<=cW ns/\cW ns<=10:=by unfold cW;omega
theorem NF(ns:LJ)(s:Int)(c:Nat):(IJ ns s c).length=c:=by unfold IJ;rw[QG,qO]
theorem nH(s n:Int):1<=(UI s n).length/\(UI s n).length<=6:=by unfold UI;rw[QG,qO];omega
section
variable{Ψ:PEv}{Z:PEnds}{r:PT}{ns:LJ}{a n s:Int}{o m g p u z f v w y:Option Sl}
theorem iw(k:pF Ψ r Z (wS ns (sA 0) m g p u z f v w y)):pF Ψ (.seq (.own 1 (.lst %[.int 0|1])) r) Z (wS ns o m g p u z f v w y):=by delta wS;simp![↓dA];exact#[(),k]
theorem aw(x:Ψ.sp "_law_draw"=ID)(h:DB ns)(k:pF Ψ r Z (wS ns o (sI (FA ns)) g p u z f v w y)):pF Ψ (.seq (.set 2 (.bin .Mod (.call "_law_draw" %[.vx 0,.int 0|1]) (.bin .Pow (.int 10) (.int 12)))) r) Z (wS ns o m g p u z f v w y):=by delta wS;simp![↓fA (md:=[.xz]) x rfl rfl];refine#[_,_,rfl,h,#[by decide,by decide],?_];simp![↓dA];exact#[#[by decide,by decide,by decide],by decide,k]
theorem tw(x:Ψ.sp "_law_next"=ZC)(h:DB ns)(k:pF Ψ r Z (wS ns (sA 1) m (sI (nW ns)) (jy (.own (.lst []))) u z f v w y)):pF Ψ (.seq (.set 3 (.call "_law_next" %[.vx 0,.vx 1|1])) (.seq (.own 4 (.lst .kz)) r)) Z (wS ns (sA 0) m g p u z f v w y):=by delta wS;simp![↓fG (md:=[]) x rfl rfl];refine#[_,_,rfl,h,#[by decide,by decide],#[_,rfl,?_]];simp![↓dA];exact#[(),k]
noncomputable abbrev pT(ps:List P4):T:=.lst ((ps.map pD).map T.d)
theorem Xr(e:Ψ.sp "_law_next"=ZC)(b:Ψ.sp "_law_name"=dD)(x:DB ns){ps:List P4}{j:Nat}(h:0<=s)(X:s<1000000000000)(q:0<=a)(K:a<=1000)(W:j<=600)(Y:ps.length<=600)(k:∀z,Z.nx (wS ns (sA (a+1)) (sI s) g (jy (.own (pT (ps++[p4 s (oA ns (a+1)) j])))) (sI (j:Int)) z f v w y)):pF Ψ DD Z (wS ns (sA a) (sI s) g (jy (.own (pT ps))) (sI (j:Int)) z f v w y):=by
 have l:=Ih (oA ns (a+1));delta wS at k ⊢;delta DD;simp![↓fG (md:=[]) e rfl rfl];refine#[_,_,rfl,x,#[q,()],#[_,rfl,?_]];simp! -implicitDefEqProofs[↓fA (md:=[]) b rfl rfl];refine#[_,_,rfl,#[h,()],#[(),()],?_];simp![l];have k:=k (sI (oA ns (a+1)));have i:pT (ps++[p4 s (oA ns (a+1)) j])=.lst ((ps.map pD).map T.d++[.d (pD (p4 s (oA ns (a+1)) j))]):=by simp
 rw[i]at k;exact#[(),#[by decide,by decide,by decide],by decide,by decide,#[by decide,by decide,by decide],by decide,by decide,(),by simp only[QG];omega,k]
theorem sw(K:Ψ.sp "_law_next"=ZC)(W:Ψ.sp "_law_name"=dD)(X:DB ns)(q:0<=s)(j:s<1000000000000)(k:∀u z,pF Ψ r Z (wS ns (sA (1+((1+n % 10).toNat:Int))) (sI s) (sI n) (jy (.own (pT (IJ ns s (1+n % 10).toNat)))) u z f v w y)):pF Ψ (.seq (.for_ (.nm 5) .rng1 %[.bin .Add (.int 1) (.bin .Mod (.vx 3) (.int 10))|1] DD) r) Z (wS ns (sA 1) (sI s) (sI n) (jy (.own (.lst []))) u z f v w y):=by delta wS;simp![↓dA];refine#[(),(),?_];refine sD (λ(i:Nat)=>T.d (.int (i:Int))) (λl h=>∃(i:Nat) (u z:Option Sl),i<=(1+n % 10).toNat/\l=(Qe (1+n % 10).toNat).drop i/\h=wS ns (sA (1+(i:Int))) (sI s) (sI n) (jy (.own (pT (IJ ns s i)))) u z f v w y) ?_ ?_ _ _ #[0,u,z,(),rfl,rfl];rintro h ⟨i,u,z,b,e,rfl⟩;have:=AJ e b;subst this;exact k _ _;rintro x A h N Y ⟨i,u,z,b,e,rfl⟩;let#[rfl,B,rfl]:=AH e.symm;show pF Ψ DD _ (wS ns (sA (1+(x:Int))) (sI s) (sI n) (jy (.own (pT (IJ ns s x)))) (sI (x:Int)) z f v w y);refine Xr K W X q j () () () (by rw[NF];omega) λz=>Y _ #[x+1,sI (x:Int),z,(),rfl,?_];rw[show 1+((x+1:Nat):Int)=1+(x:Int)+1 by omega];unfold IJ;rw[QAc,Q6];rfl
theorem mw(l:Ψ.sp "_law_name"=dD){ps:List P4}(b:0<=s)(Y:s<1000000000000)(k:pF Ψ r Z (wS ns o (sI s) (sI n) (bD (j4 ps)) u z (bD (g6 (UI s n))) v w y)):pF Ψ (.seq (.frz [4] (.set 7 (.comp [js,js,js,js,js,jb] ["_law_j"] (.nm 0) .rng1 %[.bin .Add (.int 1) (.bin .Mod (.bin .FloorDiv (.vx 3) (.int 10)) (.int 6))|1] .nop (.call "_law_name" %[.vx 3,.idx (.lst %[.vx 0,.bin .Add (.int 50) (.vx 0)|1]) (.bin .Mod (.bin .Add (.bin .FloorDiv (.vx 4) (.int 60)) (.vx 0)) (.int 2))|1])))) r) Z (wS ns o (sI s) (sI n) (oW (pT ps)) u z f v w y):=by
 delta wS;refine Eq.mpr D8 ?_;have X:frzAt [4] [jy (.xx (EB ns)),o,sI s,sI n,oW (pT ps),u,z,f,v,w,y]=[jy (.xx (EB ns)),o,sI s,sI n,bD (j4 ps),u,z,f,v,w,y]:=by
  have:(pT ps).er=j4 ps:=by simp only[T.er,fB]
  rw[<- this];rfl
 rw[X];simp![↓dA];refine#[(),(),?_];refine NC (λ(j:Nat)=>T.d (.int (j:Int))) (λ(j:Nat)=>T.d (.str (YF s (mI n j)))) (Qe (1+n / 10 % 6).toNat) [] _ (λj x R i=>?_) (by simp;omega) ?_;have x:=qV.mp x;have q:=No n j;have h:0<=mI n j/\mI n j<676:=by unfold mI;split<;>omega
 simp![q,↓fA (md:=[]) l rfl rfl];exact#[(),#[_,_,rfl,#[b,()],#[h.1,h.2],#[rfl,i]]];have e:(Qe (1+n / 10 % 6).toNat).map (λ(j:Nat)=>T.d (Jx (YF s (mI n j))))=((UI s n).map Jx).map T.d:=by simp[UI]
 rw[Qt,e,Kl];exact k
theorem gw(b:Ψ.sp "_law_against"=FF)(x:DB ns){ms:LS}(i:0<=a)(e:a<=100)(h:ms.length<=6)(k:pF Ψ r Z (wS ns (sA (MZ ns ms a).2) m g p u z (bD (g6 ms)) (bD (.list ((MZ ns ms a).1.map aD))) w y)):pF Ψ (.seq (.set 8 (.call "_law_against" %[.vx 0,.vx 1,.vx 7|1])) r) Z (wS ns (sA a) m g p u z (bD (g6 ms)) v w y):=by delta wS;simp![↓fG (md:=[.xz]) b rfl rfl,↓ou];refine#[_,_,_,rfl,x,#[i,e],h,#[_,rfl,?_]];simp![↓dA];exact k
theorem fw(k:pF Ψ r Z (wS ns o m (sI n) p u z f v (sI (if n / 100 % 8=1 then 80 else n / 1000 % 26)) y)):pF Ψ (.seq (.set 9 (.bin .Mod (.bin .FloorDiv (.vx 3) (.int 1000)) (.int 26))) (.seq (.ife (.cmp .Eq (.bin .Mod (.bin .FloorDiv (.vx 3) (.int 100)) (.int 8)) (.int 1)) %[.set 9 (.int 80)|2] .nil) r)) Z (wS ns o m (sI n) p u z f v w y):=by delta wS at k ⊢;simp![↓dA];by_cases c:n / 100 % 8=1;rw[ef c]at k;rw[ef (dT c)];exact k;rw[eH c]at k;rw[eH (by simpa using c)];exact k
theorem Vp{a:Int}{ps:List P4}{ms:LS}:a+1<=(tZ ns a ps ms).2/\(tZ ns a ps ms).2<=a+7:=by
 have:=tU (oA ns (a+1));unfold tZ;split;exact#[by show a+1<=a+1;omega,by show a+1<=a+7;omega];refine#[?_,?_]
 ·show a+1<=a+1+(M9 (oA ns (a+1)):Int)
  omega
 show a+1+(M9 (oA ns (a+1)):Int)<=a+7;omega
theorem Be{a:Int}{ps:List P4}{ms:LS}:∀k:Nat,a<=(SO ns a ps ms k).2/\(SO ns a ps ms k).2<=a+7 * (k:Int)
 |0=>#[Int.le_refl _,by show a<=_;omega]|k+1=>by have h:=Be (a:=a) (ps:=ps) (ms:=ms) k;have x:=Vp (ns:=ns) (a:=(SO ns a ps ms k).2) (ps:=ps) (ms:=ms);refine#[?_,?_];show a<=(tZ ns (SO ns a ps ms k).2 ps ms).2;omega;show(tZ ns (SO ns a ps ms k).2 ps ms).2<=_;omega
theorem tJ{a:Int}{ps:List P4}{ms:LS}:∀k:Nat,(SO ns a ps ms k).1.length=k
 |0=>rfl|k+1=>by show((SO ns a ps ms k).1++_).length=_;rw[QL,tJ k];rfl
theorem cw(B:Ψ.sp "_law_event"=MI)(K:DB ns){ps:List P4}{ms:LS}{c:Int}(F:0<=c)(E:c<=80)(I:0<=a)(G:a<=200)(X:0<ps.length)(q:ps.length<=10)(W:0<ms.length)(Y:ms.length<=6)(k:pF Ψ r Z (wS ns (sA (SO ns a ps ms c.toNat).2) m g (bD (j4 ps)) u z (bD (g6 ms)) v (sI c) (bD (.list ((SO ns a ps ms c.toNat).1.map eD))))):pF Ψ (.seq (.set 10 (.eff (.comp [] ["_law_k"] (.nm 0) .rng1 %[.vx 9|1] .nop (.call "_law_event" %[.vx 1,.vx 2,.vx 5,.vx 8|1])))) r) Z (wS ns (sA a) m g (bD (j4 ps)) u z (bD (g6 ms)) v (sI c) y):=by delta wS;simp![Og];refine#[rfl,rfl,rfl,(),(),?_];refine oK (λ(i:Nat)=>T.d (.int (i:Int))) (λj h b=>∃i:Nat,i<=c.toNat/\j=(Qe c.toNat).drop i/\h=(SO ns a ps ms i).1.map eD/\b=wS ns (sA (SO ns a ps ms i).2) m g (bD (j4 ps)) u z (bD (g6 ms)) v (sI c) y) ?_ ?_ _ _ _ #[0,(),rfl,rfl,rfl];rintro h b ⟨i,l,e,rfl,rfl⟩;have:=AJ e l;subst this;refine#[?_,k];rw[QG,tJ];omega;rintro x j h b N ⟨i,l,e,rfl,rfl⟩ A;let#[rfl,C,rfl]:=AH e.symm;have hl:=Be (ns:=ns) (a:=a) (ps:=ps) (ms:=ms) x;show vB Ψ _ (λ_=>False) (bD (.int (x:Int))::wS ns (sA (SO ns a ps ms x).2) m g (bD (j4 ps)) u z (bD (g6 ms)) v (sI c) y) _;delta wS;simp![↓fG (md:=[]) B rfl rfl];refine#[_,_,_,_,rfl,K,#[(),()],X,q,W,Y,#[_,rfl,?_,A _ _ #[x+1,(),rfl,?_,rfl]]];rw[QG,tJ];omega;show _=((SO ns a ps ms x).1++_).map eD;rw[Q6];rfl
theorem zt{a b c d:D}:ZF [.d a,.d b,.d c,.d d]=.d (.tuple [a,b,c,d]):=rfl
theorem bw{Q:T->LT->Prop}{e b x h:D}(k:Q (.d (.tuple [e,b,x,h])) []):pF Ψ %[.ret (.tup %[.vx 4,.vx 7,.vx 8,.vx 10|1])|2] (eZ Q) (wS ns o m g (bD e) u z (bD b) (bD x) w (bD h)):=by delta wS;simp![zt];exact#[(),k]
end
theorem dq(ns:LJ)(ms:LS):∀(st:PA) (j:Nat),(aT ns ms st j).2=st.2+(j:Int):=by
 intro st j;unfold aT;have:∀(l:LN) (st:PA),(l.foldl (lR ns ms j) st).2=st.2+(l.length:Int):=by
  intro l;induction l with|nil=>intro st;show st.2=_;simp|cons x l h=>intro st;rw[WI,h,LX,QJ];omega
 rw[this,qO]
theorem cq(ns:LJ)(ms:LS)(a:Int)(b:ms.length<=6):a<=(MZ ns ms a).2/\(MZ ns ms a).2<=a+36:=by
 have:∀(l:LN) (st:PA),(∀j∈l,j<=6)->st.2<=(l.foldl (aT ns ms) st).2/\(l.foldl (aT ns ms) st).2<=st.2+6 * (l.length:Int):=by
  intro l;induction l with|nil=>intro st _;exact#[Int.le_refl _,by show st.2<=_;simp]|cons x l z=>intro st h;have u:=z (aT ns ms st x) λj y=>h j (QH _ y);have f:=h x QK;rw[dq]at u;rw[WI,QJ];omega
 have h:=this (Qe ms.length) ([],a) λj y=>by have:=qV.mp y;omega
 rw[qO]at h;unfold MZ;have e:(([],a):PA).2=a:=rfl;rw[e]at h;omega
theorem B5{Ψ:PEv}(l:Ψ.sp "_law_draw"=ID)(e:Ψ.sp "_law_next"=ZC)(b:Ψ.sp "_law_name"=dD)(j:Ψ.sp "_law_against"=FF)(i:Ψ.sp "_law_event"=MI):RK Ψ gP OL oP kM:=by rintro _ Q _ ⟨h,rfl,x,q⟩;let#[a,u]:=LP h;let#[n,z]:=Vc h;let#[g,y]:=nH (FA h) (nW h);have r:(NE h).length=cW h:=NF h (FA h) (cW h);let#[f,m]:=cq h (BB h) (1+(cW h:Int)) y;refine rA (wS h jz jz jz jz jz jz jz jz jz jz) ?_;refine iw (aw l x (tw e x (sw e b x a u λp o=>mw b a u (gw j x () (by unfold cW at z;omega) y (fw (cw i x ?_ ?_ (by unfold cW at f;unfold BB at f;omega) ?_ ?_ ?_ g y (bw q)))))));split<;>omega;split<;>omega;unfold cW BB at m;unfold cW at z;omega;rw[NF];unfold cW at n;omega;rw[NF];unfold cW at z;omega
theorem fV:∀w∈keys,mB w=true:=by decide +kernel
theorem FitsL.app{z y:LS}{x h:List D}(e:FitsL z x)(b:FitsL y h):FitsL (z++y) (x++h):=by
 induction e with|nil=>exact b|cons a _ u=>exact .cons a u
theorem MK{x:Str}{r f k:Int}(u:YA x=jb)(y:0<=r)(h:r<=99)(b:0<=f)(a:f<=99)(z:1<=k)(k1:k<=4):Good "person" [.str x,.int r,.int f,.int k] :=
 #[AD (by decide +kernel),#[["name","rank","floor","needs"],(show jC (QA "person") 5=_ by decide +kernel),.cons (AB u) (.cons (mZ y h) (.cons (JV b a) (.cons (iV z k1) .nil)))],.inl (by kernel_rfl)]
theorem NK{x:Str}(h:YA x=jb):Good "matter" [.str x] :=
 #[AD (by decide +kernel),#[["name"],(show jC (QA "matter") 2=_ by decide +kernel),.cons (AB h) .nil],.inl (by kernel_rfl)]
theorem oJ{x y:Str}(z:YA x=jb)(h:YA y=jb)(n:x≠y):Good "against" [.str x,.str y] :=
 #[AD (by decide +kernel),#[["name","name"],(show jC (QA "against") 3=_ by decide +kernel),.cons (AB z) (.cons (AB h) .nil)],.inr #[1,2,x,y,by kernel_rfl,rfl,rfl,n]]
theorem l7{t:Int}{x y w:Str}(z:0<=t)(h:t<=999999999)(a:YA x=jb)(u:YA y=jb)(b:mB w=jb):Good "see" [.int t,.str x,.str y,.str w] :=
 #[AD (by decide +kernel),#[["time","name","name","word"],(show jC (QA "see") 5=_ by decide +kernel),.cons (OO z h) (.cons (AB a) (.cons (AB u) (.cons (NO b) .nil)))],.inl (by kernel_rfl)]
theorem RO{t:Int}{x y z w:Str}(u:0<=t)(h:t<=999999999)(e:YA x=jb)(b:YA y=jb)(a:YA z=jb)(f:mB w=jb):FitsL kC [.int t,.str x,.str y,.str z,.str w] :=
 .cons (OO u h) (.cons (AB e) (.cons (AB b) (.cons (AB a) (.cons (NO f) .nil))))
theorem gZ{t:Int}{x y z w:Str}(u:0<=t)(h:t<=999999999)(e:YA x=jb)(b:YA y=jb)(a:YA z=jb)(f:mB w=jb)(n:x≠y):Good "tell" [.int t,.str x,.str y,.str z,.str w] :=
 #[AD (by decide +kernel),#[kC,(show jC (QA "tell") 6=_ by decide +kernel),RO u h e b a f],.inr #[2,3,x,y,by kernel_rfl,rfl,rfl,n]]
theorem TM:∀(x:LS),(∀q∈x,YA q=jb)->FitsL (QI x.length (QA "name")) (x.map Jx)
 |[],_=>.nil|q::x,h=>.cons (AB (h q QK)) (TM x λr y=>h r (QH _ y))
theorem HQ{t:Int}{x y z w:Str}{h:LS}(a:0<=t)(u:t<=999999999)(g:YA x=jb)(f:YA y=jb)(b:YA z=jb)(i:mB w=jb)(n:x≠y)(l:∀q∈h,YA q=jb)(o:1<=h.length)(m:h.length<=6) :
  Good "tell" ([.int t,.str x,.str y,.str z,.str w]++.str "by"::h.map Jx):=by
 refine#[AD (by decide +kernel),#[kC++df h.length,?_,FitsL.app (RO a u g f b i) (.cons bc (TM h l))],.inr #[2,3,x,y,by kernel_rfl,NA (j:=2) rfl,NA (j:=3) rfl,n]];have e:([Jy t,.str x,.str y,.str z,.str w]++.str "by"::h.map Jx).length+1=h.length+7:=by simp
 rw[e];unfold jC;rw[ef (by decide),ef #[(),()]];rfl
theorem Good.txts{h:Str}{vs:List D}(g:Good h vs):∀d∈(Jx h::vs),fC (XH d)/\((∃z,d=.str z)∨∃n:Int,d=.int n/\0<=n/\n<=999999999):=by let#[f,_,x]:=g.fm;intro d hd;rcases QR.mp hd with rfl|hd;exact#[g.hd,.inl #[h,rfl]];exact x.all d hd
noncomputable def wR(ps:List P4)(ms:LS)(x:v9)(h:List Ev):List Rw:=ps.map .per++(ms.map .mat++(x.map (λp=>.aga p.1 p.2)++h.map .ev))
section
variable(ps:List P4)(ms:LS)(x:v9)(h:List Ev)(l m:List Rw)
theorem yQ:YB (l++m)=YB l++YB m:=by unfold YB;rw[qU]
theorem CG:cB (l++m)=cB l++cB m:=by unfold cB;rw[qU]
theorem gR:gB (l++m)=gB l++gB m:=by unfold gB;rw[qU]
theorem EM:rF (l++m)=rF l++rF m:=by unfold rF;rw[qU]
theorem jQ:YB (ps.map .per)=ps:=by unfold YB;rw[Qr];exact Wh
theorem J4:YB (ms.map .mat)=[]:=by unfold YB;rw[Qr];exact Qn.mpr λ_ _=>rfl
theorem Y4:YB (x.map λp=>.aga p.1 p.2)=[]:=by unfold YB;rw[Qr];exact Qn.mpr λ_ _=>rfl
theorem Z4:YB (h.map .ev)=[]:=by unfold YB;rw[Qr];exact Qn.mpr λ_ _=>rfl
theorem fK:cB (ps.map .per)=[]:=by unfold cB;rw[Qr];exact Qn.mpr λ_ _=>rfl
theorem KM:cB (ms.map .mat)=ms:=by unfold cB;rw[Qr];exact Wh
theorem yV:cB (x.map λp=>.aga p.1 p.2)=[]:=by unfold cB;rw[Qr];exact Qn.mpr λ_ _=>rfl
theorem t6:cB (h.map .ev)=[]:=by unfold cB;rw[Qr];exact Qn.mpr λ_ _=>rfl
theorem fR:gB (ps.map .per)=[]:=by unfold gB;rw[Qr];exact Qn.mpr λ_ _=>rfl
theorem EV:gB (ms.map .mat)=[]:=by unfold gB;rw[Qr];exact Qn.mpr λ_ _=>rfl
theorem Z8:gB (x.map λp=>.aga p.1 p.2)=x:=by unfold gB;rw[Qr];exact Wh
theorem Ek:gB (h.map .ev)=[]:=by unfold gB;rw[Qr];exact Qn.mpr λ_ _=>rfl
theorem KS:rF (ps.map .per)=[]:=by unfold rF;rw[Qr];exact Qn.mpr λ_ _=>rfl
theorem aX:rF (ms.map .mat)=[]:=by unfold rF;rw[Qr];exact Qn.mpr λ_ _=>rfl
theorem Z7:rF (x.map λp=>.aga p.1 p.2)=[]:=by unfold rF;rw[Qr];exact Qn.mpr λ_ _=>rfl
theorem Ue:rF (h.map .ev)=h:=by unfold rF;rw[Qr];exact Wh
theorem dh:YB (wR ps ms x h)=ps:=by unfold wR;simp only[yQ,jQ,J4,Y4,Z4,Qd]
theorem lh:cB (wR ps ms x h)=ms:=by unfold wR;simp only[CG,fK,KM,yV,t6,Qd,Qt]
theorem um:gB (wR ps ms x h)=x:=by unfold wR;simp only[gR,fR,EV,Z8,Ek,Qd,Qt]
theorem bm:rF (wR ps ms x h)=h:=by unfold wR;simp only[EM,KS,aX,Z7,Ue,Qt]
theorem bh:TZ (wR ps ms x h)=wR ps ms x h:=by unfold TZ;rw[dh,lh,um,bm];rfl
theorem cm:W4 (wR ps ms x h)=.tuple [j4 ps,g6 ms,.list (x.map aD),.list (h.map eD)]:=by unfold W4;rw[dh,lh,um,bm]
end
theorem GL{l m:List Rw}(h:gL l)(k:∀a r b,m=a++r::b->RowOk (l++a) r):gL (l++m):=by
 intro a r b e;rcases List.append_eq_append_iff.mp e with⟨u,x,z⟩| ⟨bs,x,z⟩
 rw[x];exact k u r b z;cases bs with
 |nil =>
  rw[Qd]at x;rw[<- x];have:=k [] r b z.symm
  rwa [Qd]at this
 |cons y bs=>let#[rfl,_]:=QAQ z;exact h a r bs x
theorem oH{α u:Type}{f:α->u}{l:List α}{a b:List u}{r:u}(h:l.map f=a++r::b):∃x y z,l=x++y::z/\a=x.map f/\r=f y:=by let#[x,w,m,j,i]:=QBT.mp h;let#[y,z,g,e,n]:=List.map_eq_cons_iff.mp i;exact#[x,y,z,by rw[m,g],j.symm,e.symm]
structure PerOk(p:P4):Prop where
 n:YA p.1=jb
 r0:0<=p.2.1
 r1:p.2.1<=99
 f0:0<=p.2.2.1
 f1:p.2.2.1<=99
 k0:1<=p.2.2.2
 k1:p.2.2.2<=4
noncomputable def Ul(ps:List P4)(ms:LS):Ev->Prop
 | .see t p m w=>(0<=t/\t<=999999999)/\p∈ps.map wK/\m∈ms/\mB w=jb|.tell t p q m w b=>(0<=t/\t<=999999999)/\p∈ps.map wK/\q∈ps.map wK/\m∈ms/\mB w=jb/\p≠q/\(∀x∈b,x∈ps.map wK)/\b.length<=6
theorem f9{ps:List P4}{ms:LS}{i:v9}{B:List Ev}(J:∀p∈ps,PerOk p)(np:(ps.map wK).Nodup)(M:ps.length<=10)(l:∀m∈ms,YA m=jb)(nm:ms.Nodup)(N:ms.length<=6)
  (S:∀p∈i,p.1∈ms/\p.2∈ms/\p.1≠p.2) (I:i.Pairwise λp q=>p≠q/\p≠(q.2,q.1)) (P:i.length<=15) (R:∀e∈B,Ul ps ms e) (O:B.length<=80):gL (wR ps ms i B):=by
 have j:∀x∈ps.map wK,YA x=true:=λx f=>by let#[p,K,rfl]:=Qm.mp f;exact(J p K).n
 unfold wR;rw[<- qd,<- qd];refine GL (GL (GL (λa r b e=>?_) λa r b e=>?_) λa r b e=>?_) λa r b e=>?_;let#[x,p,z,rfl,rfl,rfl]:=oH e;have o:=J p (by simp);refine#[MK o.n o.r0 o.r1 o.f0 o.f1 o.k0 o.k1,by show 4<=12;decide,fK _,fR _,KS _,?_,?_];unfold vI;rw[jQ];rw[Q6,QN,Wx]at np;intro f;exact np.2.2 _ f _ QK rfl;rw[jQ];rw[QL,QJ]at M;omega;let#[x,p,z,rfl,rfl,rfl]:=oH e;have o:=l p (by simp);refine#[NK o,by show 1<=12;decide,by rw[gR,fR,EV];rfl,by rw[EM,KS,aX];rfl,?_,?_];rw[CG,fK,KM,Qt];rw[Wx]at nm;intro f;exact nm.2.2 _ f _ QK rfl;rw[CG,fK,KM,Qt];rw[QL,QJ]at N;omega;let#[x,#[p,q],z,rfl,rfl,rfl]:=oH e;let#[u,h,g]:=S (p,q) (by simp);have A:gB (ps.map Rw.per++ms.map Rw.mat++x.map λp=>.aga p.1 p.2)=x:=by rw[gR,gR,fR,EV,Z8];rfl
 have s:cB (ps.map Rw.per++ms.map Rw.mat++x.map λp=>.aga p.1 p.2)=ms:=by rw[CG,CG,fK,KM,yV,Qt,Qd]
 have W:rF (ps.map Rw.per++ms.map Rw.mat++x.map λp=>.aga p.1 p.2)=[]:=by rw[EM,EM,KS,aX,Z7];rfl
 refine#[oJ (l _ u) (l _ h) g,by show 2<=12;decide,W,?_,?_,by rw[s];exact u,by rw[s];exact h,?_];rw[A];intro f;exact((QBf.mp I).2.2 _ f _ QK).1 rfl;rw[A];intro f;exact((QBf.mp I).2.2 _ f _ QK).2 rfl;rw[A];rw[QL,QJ]at P;omega;let#[x,v,z,rfl,rfl,rfl]:=oH e;have o:=R v (by simp);have Z:vI (ps.map Rw.per++ms.map Rw.mat++(i.map λp=>.aga p.1 p.2)++x.map Rw.ev)=ps.map wK:=by unfold vI;rw[yQ,yQ,yQ,jQ,J4,Y4,Z4];simp
 have s:cB (ps.map Rw.per++ms.map Rw.mat++(i.map λp=>.aga p.1 p.2)++x.map Rw.ev)=ms:=by rw[CG,CG,CG,fK,KM,yV,t6];simp
 have W:rF (ps.map Rw.per++ms.map Rw.mat++(i.map λp=>.aga p.1 p.2)++x.map Rw.ev)=x:=by rw[EM,EM,EM,KS,aX,Z7,Ue];simp
 have L:x.length<80:=by rw[QL,QJ]at O;omega
 cases v with
 |see t p m w=>let#[#[Y,X],u,h,g]:=o;exact#[l7 Y X (j _ u) (l _ h) g,by show 4<=12;decide,by rw[Z];exact u,by rw[s];exact h,by rw[W];exact L]|tell t p q m w b =>
  let#[#[Y,X],u,h,g,G,F,E,C]:=o;refine#[?_,?_,by rw[Z];exact u,by rw[Z];exact h,by rw[s];exact g,by rw[Z];exact E,by rw[W];exact L];cases b with|nil=>exact gZ Y X (j _ u) (j _ h) (l _ g) G F|cons y b=>exact HQ Y X (j _ u) (j _ h) (l _ g) G F (λq Q=>j _ (E q Q)) (by simp) C
  cases b with|nil=>show 5<=12;decide|cons y b=>simp only[Rw.vs,Uk,QL,QJ,qf,QG]at C ⊢;omega
theorem Rm(m:Int):0<=Fl m/\Fl m<=99:=by unfold Fl;split;omega;split<;>omega
theorem si{ns:LJ}{s:Int}{c:Nat}(h:0<=s):∀p∈IJ ns s c,PerOk p:=by
 intro p z;let#[j,_,rfl]:=Qm.mp z;let#[y,x]:=Rm (oA ns (1+(j:Int)+1));have e:(10:Int) ^ 5=100000:=by decide
 refine#[JF h,?_,?_,y,x,?_,?_]<;>simp only[p4,e]<;>omega
theorem zS{α:Type}{f:Nat->α}(c:Nat)(h:∀i j,i<c->j<c->f i=f j->i=j):((Qe c).map f).Nodup:=by rw[List.Nodup,QA6];refine List.Pairwise.imp_of_mem (R:=λa b=>a≠b) (λ{a b} z y x e=>x (h a b (qV.mp z) (qV.mp y) e)) ?_;exact List.nodup_range
theorem T9{ns:LJ}{s:Int}{c:Nat}(h:0<=s)(hc:c<=600):((IJ ns s c).map wK).Nodup:=by unfold IJ;rw[wF];refine zS c λi j y x e=>?_;have e:YF s (i:Int)=YF s (j:Int):=e;have:=mH h () () () () e;omega
theorem E3{ns:LJ}{s:Int}{c:Nat}{i:Int}(x:0<=i)(h:i<(c:Int)):(FW (IJ ns s c) i).1=YF s i:=by unfold FW IJ;rw[Qx,Qj,Wf ()];show YF s ((i.toNat:Nat):Int)=_;rw[show((i.toNat:Nat):Int)=i by omega]
theorem i6{n:Int}{i j:Nat}(y:i<6)(x:j<6)(h:mI n i=mI n j):i=j:=by unfold mI at h;split at h<;>split at h<;>omega
theorem Ob{n:Int}{j:Nat}(h:j<6):0<=mI n j/\mI n j<676:=by unfold mI;split<;>omega
theorem d6{s n:Int}(h:0<=s):∀m∈UI s n,YA m=true:=by intro m x;let#[j,_,rfl]:=Qm.mp x;exact JF h
theorem Nb{s n:Int}(h:0<=s):(UI s n).Nodup:=by unfold UI;refine zS _ λi j y x e=>?_;have a:=Ob (n:=n) (j:=i) ();have b:=Ob (n:=n) (j:=j) ();exact i6 (n:=n) () () (mH h a.1 a.2 b.1 b.2 e)
theorem f6{s n:Int}{i:Nat}(h:i<(UI s n).length):VE (UI s n) i=YF s (mI n i):=by unfold UI at h ⊢;rw[QG,qO]at h;unfold VE;rw[Qx,Qj,Wf h];rfl
theorem IW{s n:Int}(h:0<=s){i j:Nat}(y:i<(UI s n).length)(x:j<(UI s n).length)(e:VE (UI s n) i=VE (UI s n) j):i=j:=by rw[f6 y,f6 x]at e;have l:=(nH s n).2;have a:=Ob (n:=n) (j:=i) ();have b:=Ob (n:=n) (j:=j) ();exact i6 (n:=n) () () (mH h a.1 a.2 b.1 b.2 e)
theorem dJ{ms:LS}{i:Nat}(h:i<ms.length):VE ms i∈ms:=by unfold VE;rw[Qx,wL h];exact QBK h
def TX(ms:LS)(J K:Nat)(L:v9):Prop :=
 (L.Pairwise λp q=>p≠q/\p≠(q.2,q.1))/\∀p∈L,∃j k:Nat,k<j/\j<ms.length/\(j<J∨(j=J/\k<K))/\(p=(VE ms j,VE ms k)∨p=(VE ms k,VE ms j))
theorem oV{α:Type}(l:List α)(k:Nat)(y:α):(SD l k y).Perm (y::l):=by
 unfold SD;have:=List.perm_middle (a:=y) (l₁:=l.take k) (l₂:=l.drop k)
 rwa [QAA]at this
theorem K8(ns:LJ)(ms:LS)(j k:Nat)(n:Int):af ns ms j k n=(VE ms j,VE ms k)∨af ns ms j k n=(VE ms k,VE ms j):=by unfold af;split;exact .inl rfl;exact .inr rfl
theorem TX.weak{ms:LS}{J K x y:Nat}{L:v9}(h:TX ms J K L)(w:∀j k,k<j->(j<J∨(j=J/\k<K))->(j<x∨(j=x/\k<y))):TX ms x y L :=
 #[h.1,λp z=>by let#[j,k,a,b,c,d]:=h.2 p z;exact#[j,k,a,b,w j k a c,d]]
theorem TX.step{ns:LJ}{ms:LS}(inj:∀i j,i<ms.length->j<ms.length->VE ms i=VE ms j->i=j){J K:Nat}{st:PA}(h:TX ms J K st.1)(r:K<J)(n:J<ms.length):TX ms J (K+1) (lR ns ms J st K).1:=by
 unfold lR;split;refine#[(List.Perm.pairwise_iff (R:=λp q:Str×Str=>p≠q/\p≠(q.2,q.1)) (λ{x y} z=>#[λe=>z.1 e.symm,λe=>z.2 (by rw[e])]) (oV _ _ _)).mpr (List.pairwise_cons.mpr #[λq o=>?_,h.1]),λp m=>?_]
 ·let#[j,k,a,b,c,d]:=h.2 q o
  have f:∀x y:Nat,(x=j/\y=k)∨(x=k/\y=j)->(VE ms J,VE ms K)≠(VE ms x,VE ms y):=by intro x y l e;rw[QCP]at e;have X:=inj J x n () e.1;have s:=inj K y () () e.2;omega
  have u:∀x y:Nat,(x=j/\y=k)∨(x=k/\y=j)->(VE ms K,VE ms J)≠(VE ms x,VE ms y):=by intro x y l e;rw[QCP]at e;have X:=inj K x () () e.1;have s:=inj J y n () e.2;omega
  rcases K8 ns ms J K (oA ns (st.2+1)) with g|g<;>rcases d with rfl|rfl<;>rw[g];exact#[f j k (.inl #[rfl,rfl]),f k j (.inr #[rfl,rfl])];exact#[f k j (.inr #[rfl,rfl]),f j k (.inl #[rfl,rfl])];exact#[u j k (.inl #[rfl,rfl]),u k j (.inr #[rfl,rfl])];exact#[u k j (.inr #[rfl,rfl]),u j k (.inl #[rfl,rfl])]
 rcases xZ.mp m with rfl|m
 ·exact#[J,K,r,n,.inr #[rfl,()],K8 ns ms J K _]
 let#[j,k,a,b,c,d]:=h.2 p m;exact#[j,k,a,b,(),d];exact h.weak λj k _ c=>()
theorem TX.row{ns:LJ}{ms:LS}(inj:∀i j,i<ms.length->j<ms.length->VE ms i=VE ms j->i=j){J:Nat}{st:PA}(h:TX ms J 0 st.1)(x:J<ms.length):∀K:Nat,K<=J->TX ms J K ((Qe K).foldl (lR ns ms J) st).1
 |0,_=>h|K+1,hK=>by rw[QAc,QCk];exact TX.step inj (TX.row inj h x K ()) () x
theorem jl(ns:LJ){ms:LS}(inj:∀i j,i<ms.length->j<ms.length->VE ms i=VE ms j->i=j)(a:Int):TX ms ms.length 0 (MZ ns ms a).1:=by
 have:∀J:Nat,J<=ms.length->TX ms J 0 ((Qe J).foldl (aT ns ms) ([],a)).1:=by
  intro J;induction J with|zero=>intro _;exact#[.nil,λp x=>by cases x]|succ J h=>intro y;rw[QAc,QCk];exact(TX.row inj (h ()) () J ()).weak λj k a c=>()
 exact this _ (QU _)
theorem fq(ns:LJ)(ms:LS)(j:Nat)(st:PA)(k:Nat):(lR ns ms j st k).1.length<=st.1.length+1:=by unfold lR;split;rw[FO];exact QU _;show st.1.length<=_;omega
theorem Jf(ns:LJ)(ms:LS)(j:Nat):∀(l:LN) (st:PA),(l.foldl (lR ns ms j) st).1.length<=st.1.length+l.length
 |[],st=>QU _|x::l,st=>by have y:=Jf ns ms j l (lR ns ms j st x);have h:=fq ns ms j st x;rw[WI,QJ];omega
theorem tf(ns:LJ){ms:LS}(a:Int)(b:ms.length<=6):(MZ ns ms a).1.length<=15:=by
 have:∀(l:LN) (st:PA),(l.foldl (aT ns ms) st).1.length<=st.1.length+l.sum:=by
  intro l;induction l with|nil=>intro st;exact QU _|cons x l u=>intro st;have f:=u (aT ns ms st x);have y:=Jf ns ms x (Qe x) st;rw[qO]at y;have y:(aT ns ms st x).1.length<=st.1.length+x:=y;rw[WI,List.sum_cons];omega
 have h:=this (Qe ms.length) ([],a);have e:∀m:Fin 7,(Qe m.val).sum<=15:=by decide
 have e:=e #[ms.length,()];have e:(Qe ms.length).sum<=15:=e;unfold MZ;have z:(([],a):PA).1.length=0:=rfl;omega
theorem tR{n:Int}(h:0<=n):mB (uh n)=true:=by
 unfold uh;split;have:=B6 (i:=n / 10 ^ 6 % 19) () ();rw[cG]at this;let#[v,y,x]:=tH (xs:=keys) (i:=n / 10 ^ 6 % 19) () (by show n / 10 ^ 6 % 19<19;omega);unfold To;rw[Qx,x];exact fV v (qm x);have e:(10:Int) ^ 12=1000000000000:=by decide
 exact aO (JF (by rw[e];omega))
theorem Fn{n m:Int}(h:2<=m):(0<=qI n m/\qI n m<m)/\n / 100 % m≠qI n m:=by
 unfold qI;have b:=Qs (n / 100) (show m≠0 by omega);have a:=Qb (n / 100) (show 0<m by omega);have u:=Qs (n / 10 ^ 4) (show m - 1≠0 by omega);have z:=Qb (n / 10 ^ 4) (show 0<m - 1 by omega);generalize n / 100 % m=x at *;generalize n / 10 ^ 4 % (m - 1)=y at *;refine#[#[Qs _ (),Qb _ ()],λe=>?_];by_cases c:x+1+y<m;rw[QCl () c]at e;omega;have:(x+1+y) % m=x+1+y - m:=by rw[show x+1+y=(x+1+y - m)+m by omega,Int.add_emod_right,QCl () ()];omega
 omega
theorem ck{ns:LJ}{s h:Int}{c:Nat}(l:0<=s)(A:1<=c)(K:c<=10)(a:Int):Ul (IJ ns s c) (UI s h) (tZ ns a (IJ ns s c) (UI s h)).1:=by
 have p:=NF ns s c;have W:=nH s h;have b:=YX ns (a+1);let#[g,f]:=rm b;have z:∀i:Int,0<=i->i<(c:Int)->(FW (IJ ns s c) i).1∈(IJ ns s c).map wK:=λi X r=>Qm.mpr #[_,Ga X (by rw[p];exact r),rfl];have j:VE (UI s h) (oA ns (a+1) / 1000 % ((UI s h).length:Int)).toNat∈UI s h:=dJ (by have:=Qs (oA ns (a+1) / 1000) (show((UI s h).length:Int)≠0 by omega);have:=Qb (oA ns (a+1) / 1000) (show 0<((UI s h).length:Int) by omega);omega);have y:=Qs (oA ns (a+1) / 100) (show((IJ ns s c).length:Int)≠0 by omega);have Z:=Qb (oA ns (a+1) / 100) (show 0<((IJ ns s c).length:Int) by omega);unfold tZ;split;exact#[#[g,f],z _ y (),j,tR b];rename_i hc;have o:2<=((IJ ns s c).length:Int):=by by_cases e:(IJ ns s c).length=1;exact eN (.inl e) hc;omega
 let#[#[u,Y],m]:=Fn (n:=oA ns (a+1)) o;refine#[#[g,f],z _ y (),z _ u (),j,tR b,λe=>?_,λx q=>?_,?_];rw[E3 y (),E3 u ()]at e;exact m (mH l y () u () e);let#[i,_,rfl]:=Qm.mp q;exact z _ (Qs _ ()) (by have:=Qb (oA ns (a+1+(i:Int)+1)) (show 0<((IJ ns s c).length:Int) by omega);omega);unfold Xk;rw[QG,qO];exact tU _
theorem K7{ns:LJ}{s x:Int}{c:Nat}(y:0<=s)(u:1<=c)(z:c<=10)(a:Int):∀k:Nat,∀e∈(SO ns a (IJ ns s c) (UI s x) k).1,Ul (IJ ns s c) (UI s x) e
 |0,e,h=>by cases h|k+1,e,h=>by have h:e∈(SO ns a (IJ ns s c) (UI s x) k).1++[(tZ ns (SO ns a (IJ ns s c) (UI s x) k).2 (IJ ns s c) (UI s x)).1]:=h;rcases Qy.mp h with h|h;exact K7 y u z a k e h;rw[qH.mp h];exact ck y u z _
noncomputable def SA(ns:LJ):List Rw:=wR (NE ns) (BB ns) (UJ ns).1 (JL ns).1
theorem So(ns:LJ):0<=kW ns/\kW ns<=80:=by unfold kW;split<;>omega
theorem N2(ns:LJ):W4 (SA ns)=U0 ns:=cm _ _ _ _
theorem FL(ns:LJ):gL (SA ns):=by
 let#[h,n]:=LP ns;let#[m,u]:=Vc ns;have z:=nH (FA ns) (nW ns);have a:=jl ns (ms:=BB ns) (λi j g f e=>IW h g f e) (1+(cW ns:Int));refine f9 (si h) (T9 h ()) (by unfold NE;rw[NF];exact u) (d6 h) (Nb h) z.2 (λp b=>?_) a.1 (tf ns _ z.2) (K7 h m u _ _) ?_;let#[j,k,q,x,o,l]:=a.2 p b;have y:VE (BB ns) j≠VE (BB ns) k:=λe=>by have:=IW h x (show k<(BB ns).length by omega) e;omega
 rcases l with rfl|rfl;exact#[dJ x,dJ (),y];exact#[dJ (),dJ x,λe=>y e.symm];unfold JL;rw[tJ];have:=So ns;omega
def Mu(x:T)(n:Bool)(i:Int)(C:T->Prop):Prop:=MG x n=jb/\∃h,x.er=.tuple h/\C (.d (.tuple (ND h jz (jy i))))
theorem Ng{Ψ:PEv}{E:XE}{ρ:zA}{K:TK}{a:PX}{i:Int}:vB Ψ (.eff (.slc a .nop (.int i))) E ρ K=vB Ψ a E ρ λx n h=>Mu x n i λz=>K z js h:=rfl
theorem De{h:List D}{n:Bool}{i:Int}{C:T->Prop}:Mu (.d (.tuple h)) n i C=C (.d (.tuple (ND h jz (jy i)))) :=
 eI #[λ#[_,_,e,q]=>by cases e;exact q,λq=>#[by cases n<;>rfl,_,rfl,q]]
noncomputable def zX(x:Rw):LS:=(Jx x.hd::x.vs).map XH
noncomputable def ZO(x:Rw):T:=match x with
 | .ev e=>.d (.list ((zX (.ev e)).map Jx))|x=>.lst (((zX x).map Jx).map T.d)
noncomputable def PL:PSp where
 run:=λh Q _=>∃l,h=[.d (W4 l)]/\(TZ l).length<=200/\(∀x∈TZ l,x.vs.length<=12/\∀d∈x.vs,Af d)/\Q (.lst ((TZ l).map ZO)) []
theorem DP{Ψ:PEv}{ρ:zA}{t:Str}(x:List D)(h:∀d∈x,Af d)(hl:x.length<=j1){Q:LT->Prop}(q:Q (((x.map XH).map Jx).map T.d)):CD (EO Ψ (λ_=>False) [] [t] (.nm 0) .nop (.bi .str %[.vx 0|1]) ρ) (x.map T.d) [] Q:=by
 refine NC T.d (λd=>T.d (.str (XH d))) x [] _ (λd hd R y=>?_) (by simp;omega) ?_;simp![↓dA];refine O1 (h d hd) ?_;simp![↓dA];exact y;have e:x.map (λd=>T.d (Jx (XH d)))=((x.map XH).map Jx).map T.d:=by simp
 rw[Qt,e];exact q
theorem Rb{Ψ:PEv}{Z:PEnds}{w:D}{ls:LT}{e:Ev}{z:Option Sl}(u:(Rw.vs (.ev e)).length<=12)(f:∀d∈Rw.vs (.ev e),Af d)(hl:ls.length<=300)(k:∀z,Z.nx [bD w,oW (.lst (ls++[ZO (.ev e)])),bD (eD e),z]) :
  pF Ψ FD Z [bD w,oW (.lst ls),bD (eD e),z]:=by
 have g:decide (QA "see"=QA "tell")=false:=by decide +kernel
 cases e with
 |see t p m h =>
  have a:ND [Jx "see",.int t,.str p,.str m,.str h] jz (jy 6)=[Jx "see",.int t,.str p,.str m,.str h]:=rfl;delta eD at k ⊢;delta FD;simp![↓Ng,↓De,a];refine DP [Jx "see",.int t,.str p,.str m,.str h] (λd hd=>?_) (by simp;omega) ?_;rcases QR.mp hd with rfl|hd
  ·exact f7 (.ev (.see t p m h))
  exact f d hd;delta cE;simp![↓GD,g];exact#[(),k _]
 |tell t p q m h b =>
  have a:∀x:D,ND [Jx "tell",.int t,.str p,.str q,.str m,.str h,x] jz (jy 6)=[Jx "tell",.int t,.str p,.str q,.str m,.str h]:=λ_=>rfl;delta eD at k ⊢;delta FD;simp![↓Ng,↓De,a];refine DP [Jx "tell",.int t,.str p,.str q,.str m,.str h] (λd hd=>?_) (by simp;omega) ?_;rcases QR.mp hd with rfl|hd
  ·exact f7 (.ev (.tell t p q m h b))
  exact f d (qQ _ hd);have r:∀x∈b,XH (Jx x)=x:=λ_ _=>rfl;cases b with
  |nil =>
   have o:decide ((0:Int)<((([]:LS).length:Nat):Int))=false:=by decide
   delta cE;simp![↓GD,↓Nu,QG,o];exact#[(),k _]
  |cons y b =>
   have s:b.length<=12:=by simp only[Rw.vs,Uk,QL,QJ,QG]at u;omega
   have n:decide ((0:Int)<((b.length+1:Nat):Int))=true:=dT ();delta cE;simp![↓GD,↓Nu,QG,QJ,n,↓ml];refine#[(),by first|omega | (simp;omega),by first|omega | (simp;omega),(),?_];have j:(zX (.ev (.tell t p q m h (y::b)))).map Jx=(([Jx "tell",.int t,.str p,.str q,.str m,.str h].map XH).map Jx)++[Jx "by"]++(y::b).map Jx:=by
    have l:((y::b).map Jx).map XH=y::b:=by rw[wF];exact List.map_id _
    show(([Jx "tell",.int t,.str p,.str q,.str m,.str h]++[Jx "by"]++(y::b).map Jx).map XH).map Jx=_;rw[Q6,l,Q6,Q6,Q6];rfl
   have k:=k (bD (.list ((zX (.ev (.tell t p q m h (y::b)))).map Jx)));have i:ZO (.ev (.tell t p q m h (y::b)))=.d (.list ((zX (.ev (.tell t p q m h (y::b)))).map Jx)):=rfl;rw[i,j]at k;exact k
noncomputable def vt(l:List Rw)(ls:LT)(x h:Option Sl):zA:=[bD (W4 l),oW (.lst ls),x,h]
theorem D5{Ψ:PEv}:RK Ψ tK PL pP vM:=by
 rintro _ Q _ ⟨l,rfl,hl,i,q⟩;refine rA [bD (W4 l),jz,jz,jz] ?_;have o:(YB l).length+((cB l).length+((gB l).length+(rF l).length))<=200:=by simpa[TZ]using hl
 delta W4;delta tK;simp![↓GD,↓Mc,↓uq,↓ku];refine BD pD (λp=>ZO (.per p)) (YB l) _ (λp n R u=>?_) () ?_;have b:=(i (.per p) (by simp[TZ,n])).2;delta pD;simp![↓dA];refine#[(),?_];refine DP [Jx p.1,.int p.2.1,.int p.2.2.1,.int p.2.2.2] b (by simp;omega) ?_;simp![↓dA];exact#[by simp;omega,u];refine BD Jx (λm=>ZO (.mat m)) (cB l) _ (λm _ R u=>?_) () ?_;simp![↓dA];exact#[(),u];refine#[by simp only[QG];omega,?_];refine BD aD (λp=>ZO (.aga p.1 p.2)) (gB l) _ (λp _ R u=>?_) () ?_;delta aD;simp![↓GD,↓Mc];exact#[(),u];refine#[by simp only[QL,QG];omega,?_];rw[<- pj];refine sD (λe=>T.d (eD e)) (λg a=>∃(h:List Ev) (z y:Option Sl),rF l=h++g/\a=vt l ((YB l).map (λp=>ZO (.per p))++(cB l).map (λm=>ZO (.mat m))++(gB l).map (λp=>ZO (.aga p.1 p.2))++h.map λe=>ZO (.ev e)) z y) ?_ ?_ _ _ #[[],jz,jz,rfl,by rw[wx,Qd];rfl]
 ·rintro a ⟨h,z,y,e,rfl⟩
  rw[Qd]at e;subst e;have g:(YB l).map (λp=>ZO (.per p))++(cB l).map (λm=>ZO (.mat m))++(gB l).map (λp=>ZO (.aga p.1 p.2))++(rF l).map (λe=>ZO (.ev e))=(TZ l).map ZO:=by simp[TZ,QCi]
  rw[g];change eB _ _ _ _ [bD (W4 l),oW (.lst ((TZ l).map ZO)),MC z,y];generalize MC z=z;simp![↓dA];exact q
 ·rintro x s a N r ⟨h,z,y,e,rfl⟩
  have j:x∈rF l:=by rw[e];simp
  let#[f,b]:=i (.ev x) (by simp[TZ,j]);have X:h.length<=(rF l).length:=by have:=e6 WH e;rw[QL]at this;omega
  show pF Ψ FD _ [bD (W4 l),oW (.lst _),bD (eD x),y];refine Rb f b (by simp only[QL,QG];omega) λy=>r _ #[h++[x],bD (eD x),y,by rw[e];simp,?_];rw[Q6,<- qd];rfl
def RX(Ψ:PEv):Prop:=∀x∈[QA "WorldError","BadRow","Misplaced","Twice","NoName","TooMany","Unfinished"],Ψ.va x=jy (ZH x)
noncomputable def SH(n:Int)(x y:Str):LS:=if n % 3=0 then["person",x,"5","0","2"] else if n % 3=1 then["matter",x] else["against",x,y]
noncomputable def GP:PSp where
 run:=λh Q _=>∃(n:Int) (x y:Str),h=[.d (.int n),.d (.str x),.d (.str y)]/\Q (.lst (((SH n x y).map Jx).map T.d)) []
theorem zj{Ψ:PEv}:RK Ψ uR GP NX UR:=by rintro _ Q _ ⟨n,x,y,rfl,q⟩;refine rA [bD (.int n),bD (.str x),bD (.str y)] ?_;unfold SH at q;delta uR;simp![↓dA];refine fF (λc=>?_) λc=>?_;rw[ef (ei c)]at q;exact#[(),q];rw[eH (λz=>c (dT z))]at q;refine fF (λc=>?_) λc=>?_;rw[ef (ei c)]at q;exact#[(),q];rw[eH (λz=>c (dT z))]at q;exact#[(),q]
structure RowsOk(rows:LS):Prop where
 ne:rows≠[]
 l:rows.length<=600
 r:∀r∈rows,r.length<=900/\10∉r.cps.toList
theorem RowsOk.split{x:LS}(h:RowsOk x):qS (we (QA "\n") x) (QA "\n")=x:=by
 have z:QA "\n"=#[(List.toArray [10])]:=by decide +kernel
 rw[z];exact cU h.ne λp y=>(h.r p y).2
theorem RowsOk.len{x:List Str}(h:RowsOk x):(we (QA "\n") x).length<=1000000:=by rw[rS,aM];have:=OJ (λz:Str=>z.length) 900 x λz y=>(h.r z y).1;have:=h.l;omega
noncomputable def fH:PSp where
 run:=λu Q _=>∃(h:LS) (x:List Rw) (y:LS) (bad:Str) (z:LS) (c:Str),u=[.d (.list (h.map Jx))]/\RowsOk h/\gL x/\h=y++bad::z/\Reads y x/\BadAt x bad c/\Q (.d (VF c ((y.length:Int)+1))) []
theorem BY{Ψ:PEv}(g:Ψ.sp "read_world"=TB)(v:RX Ψ):RK Ψ ZI fH VN DK:=by rintro _ Q _ ⟨h,u,a,bad,y,c,rfl,ok,x,e,rd,i,q⟩;refine rA [bD (.list (h.map Jx)),jz,jz] ?_;have b:j1=16777216:=qi;have f:=v (QA "WorldError") (by simp);have hl:=ok.l;have j:=OJ (λz:Str=>z.length) 900 h λz b=>(ok.r z b).1;delta ZI;simp![↓Zl g rfl f,aM];refine#[by decide,(),_,u,rfl,#[ok.len,by rw[ok.split];omega],x,.inr #[a,bad,y,c,by rw[ok.split];exact e,rd,(ok.r bad (by rw[e];simp)).1,i,?_]];simp![↓dA];exact q
theorem iu{Ψ:PEv}{E:XE}{r:PT}{Z:PEnds}{i:Nat}{a b c:D}{ρ:zA}:fY Ψ E r Z i (.lst [.d a,.d b,.d c]) jb ρ=fY Ψ E r Z i (.lst ([a,b,c].map T.d)) jb ρ:=rfl
theorem kX:∀{l:List D},(∀x∈l,x.canLay0=jb/\x.depth<=1)->qw l=jb/\wE l<=1
 |[],_=>by simp[qw,wE]|x::l,h=>by let#[a,e]:=h x QK;let#[z,b]:=kX (l:=l) λy u=>h y (QH _ u);simp only[qw,wE,a,z,QCL,true_and];omega
theorem IR(l:List Bool):oG (.list (l.map PyData.bool)):=by
 let#[y,u]:=kX (l:=l.map PyData.bool) λx h=>by let#[s,z,rfl]:=Qm.mp h;simp only[W0,WL];exact#[by simp,()]
 refine#[?_,?_];simp only[W0];exact y;simp only[WL];omega
noncomputable def gD:PSp where
 run:=λx Q _=>∃(c:Str) (w h:Int),x=[.d (VF c h),.d (.int w),.d (.int h)]/\((c="BadRow"/\w=0)∨c="Misplaced"/\w=1)/\Q (.d (.bool jb)) []
theorem Dd{Ψ:PEv}(v:RX Ψ){c:Str}{w pl:Int}{Q:T->LT->Prop}{k1 k2 k3 k4 k5 k6:Bool}
  (r:decide (QA "WorldError"=c∨QA "WorldError"=QA "WorldError")=jb)
  (p:decide (QA "BadRow"=c∨QA "BadRow"=QA "WorldError")=k1)
  (o:decide (QA "Misplaced"=c∨QA "Misplaced"=QA "WorldError")=k2)
  (n:decide (QA "Twice"=c∨QA "Twice"=QA "WorldError")=k3)
  (m:decide (QA "NoName"=c∨QA "NoName"=QA "WorldError")=k4)
  (l:decide (QA "TooMany"=c∨QA "TooMany"=QA "WorldError")=k5)
  (j:decide (QA "Unfinished"=c∨QA "Unfinished"=QA "WorldError")=k6)
  (e:Qz (.list [.bool k1,.bool k2,.bool k3,.bool k4,.bool k5,.bool k6]) (.list ((Qe (wd 6)).map λ(k:Nat)=>PyData.bool (decide ((k:Int)=w))))=jb) (q:Q (.d (.bool jb)) []) :
  pF Ψ IC (eZ Q) [bD (VF c pl),bD (.int w),bD (.int pl),jz]:=by
 have g:j1=16777216:=qi;have b:=v (QA "WorldError") (by simp);have a:=v (QA "BadRow") (by simp);have u:=v (QA "Misplaced") (by simp);have z:=v (QA "Twice") (by simp);have y:=v (QA "NoName") (by simp);have x:=v (QA "TooMany") (by simp);have h:=v (QA "Unfinished") (by simp);have f:oG (.list ((Qe (wd 6)).map λ(k:Nat)=>PyData.bool (decide ((k:Int)=w)))):=by have:=IR ((Qe (wd 6)).map λ(k:Nat)=>decide ((k:Int)=w));rw[wF]at this;exact this
 delta IC;simp! -implicitDefEqProofs[↓TD b,↓TD a,↓TD u,↓TD z,↓TD y,↓TD x,↓TD h,↓r,↓p,↓o,↓n,↓m,↓l,↓j,↓iu];refine#[(),(),(),?_];refine NC (λk:Nat=>T.d (Jy (k:Int))) (λk=>T.d (.bool (decide ((k:Int)=w)))) _ _ _ (λk hk R i=>?_) (by rw[g];decide) ?_;simp![↓dA];exact i;rw[Qt,yX λk:Nat=>PyData.bool (decide ((k:Int)=w))];simp![↓dA];refine#[IR [k1,k2,k3,k4,k5,k6],f,?_];rw[e];simp![↓dA];exact q
theorem NN{Ψ:PEv}(v:RX Ψ):RK Ψ IC gD uH hG:=by
 rintro _ Q _ ⟨c,w,h,rfl,hc,q⟩;refine rA [bD (VF c h),bD (.int w),bD (.int h),jz] ?_;rcases hc with⟨rfl,rfl⟩| ⟨rfl,rfl⟩
 exact Dd v (k1:=jb) (k2:=js) (k3:=js) (k4:=js) (k5:=js) (k6:=js) (by decide +kernel) (by decide +kernel) (by decide +kernel) (by decide +kernel) (by decide +kernel) (by decide +kernel) (by decide +kernel) (by decide +kernel) q;exact Dd v (k1:=js) (k2:=jb) (k3:=js) (k4:=js) (k5:=js) (k6:=js) (by decide +kernel) (by decide +kernel) (by decide +kernel) (by decide +kernel) (by decide +kernel) (by decide +kernel) (by decide +kernel) (by decide +kernel) q
inductive Laid:List (LS)->LS->LN->Prop where
 |nil:Laid [] [] []
 |blank {ls:List (LS)}{rs:LS}{ps:LN}{r:Str}:Laid ls rs ps->Lib.wordsOf r=[]->Laid ls (rs++[r]) ps
 |row {ls:List (LS)}{rs:LS}{ps:LN}{r:Str}{ws:LS}:Laid ls rs ps->Lib.wordsOf r=ws->Laid (ls++[ws]) (rs++[r]) (ps++[rs.length+1])
def vO(r:Str):Prop:=r.length<=900/\10∉r.cps.toList
def xO(ws:LS):Prop:=ws.length<=15/\∀w∈ws,fC w
noncomputable def XA(ls:List (LS)):List D:=ls.map λh=>.list (h.map Jx)
noncomputable def jF(l:LS):LT:=(l.map Jx).map T.d
noncomputable def SN(l:LN):LT:=(l.map λ(n:Nat)=>Jy (n:Int)).map T.d
theorem nP(a b:Str):(a++b).cps.toList=a.cps.toList++b.cps.toList:=by show(a.cps++b.cps).toList=_;rw[w6]
theorem AG(k:Int):(TH (QA " ") k).cps.toList=QI k.toNat 32:=by
 rw[AL,show(QA " ").cps.toList=[32] by decide +kernel];induction k.toNat with|zero=>rfl|succ n h=>rw[Qf,qF,h,Qf];rfl
theorem Cc(k:Int):Lib.wordsOf (TH (QA " ") k)=[]:=OH (by rw[AG];have:=MJ k.toNat [];rw[Qd]at this;rw[this];rfl)
theorem HX{k:Int}(h:k<=100):vO (TH (QA " ") k):=by refine#[?_,?_];rw[TL,oI];omega;rw[AG];intro z;have:=wM z;omega
theorem Kj{ws:LS}(h:xO ws)(k:Int):Lib.wordsOf (TH (QA " ") k++we (QA " ") ws)=ws:=OH (by rw[nP,AG,MJ,<- VH];exact e6 _ (ET h.2))
theorem K6{ws:LS}(h:xO ws):(we (QA " ") ws).length<=200/\(ws.map (·.length)).sum<=135:=by rw[rS,oI];have:=OJ (λz:Str=>z.length) 9 ws λz x=>(h.2 z x).2.1;have:=h.1;exact#[(),()]
theorem Vj{ws:LS}(h:xO ws){k:Int}(hk:k<=100):vO (TH (QA " ") k++we (QA " ") ws):=by
 refine#[?_,?_];rw[qN,TL,oI];have:=(K6 h).1;omega;have b:QA " "=#[(List.toArray [32])]:=by decide +kernel
 rw[nP];intro z;rcases Qy.mp z with z|z;exact(HX hk).2 z;rw[pW,b,AE]at z;have:∀(l:List (LN)),(∀w∈l,10∉w)->10∉DM 32 l:=by
  intro l;induction l with
  |nil=>intro _ h;cases h|cons x l a =>
   intro h;cases l with
   |nil=>exact h x QK|cons y r =>
    intro z;rcases Qy.mp z with z|z;exact h x QK z;rcases QR.mp z with z|z
    ·omega
    exact a (λw u=>h w (QH _ u)) z
 refine this _ (λw u=>?_) z;let#[v,hv,rfl]:=Qm.mp u;intro z;have:=(h.2 v hv).2.2 10 z;omega
section
variable{Ψ:PEv}{Z:PEnds}{x ws:LS}{ps:LN}{n:Int}{y:Nat}{a b:Option Sl}
theorem Gm(h:xO ws)(q:x.length<=1000)(s:ps.length<=1000)(z:Option Sl)(k:∀e u,Z.nx [a,b,oW (.lst (jF (x++[TH (QA " ") (n / 15 % 2)++we (QA " ") ws]))),oW (.lst (SN (ps++[x.length+1]))),bD (.int y),z,e,u]) :
  pF Ψ aC Z [a,b,oW (.lst (jF x)),oW (.lst (SN ps)),bD (.int y),z,bD (.list (ws.map Jx)),bD (.int n)]:=by
 let#[p,o]:=K6 h;have l:=h.1;have j:n / 15 % 2<2:=Qb _ (by decide);delta jF SN at k ⊢;delta aC;simp![oI];refine#[(),(),(),(),by rw[TL,oI];omega,by rw[QG,QG];omega,?_];have i:∀r:Str,(x.map Jx).map T.d++[T.d (.str r)]=((x++[r]).map Jx).map T.d:=λr=>by simp
 have g:∀r:Str,((x++[r]).map Jx).length=x.length+1:=λr=>by simp
 have f:∀m:Nat,(ps.map λ(n:Nat)=>Jy (n:Int)).map T.d++[T.d (.int (m:Int))]=((ps++[m]).map λ(n:Nat)=>Jy (n:Int)).map T.d:=λm=>by simp
 rw[i];simp![g];refine#[by rw[QG,QG];omega,?_];rw[f];exact k _ _
def Dw(ls:List (LS))(a b:Option Sl)(xs:List (D×Nat))(ρ:zA):Prop:=∃(h z:List (LS)) (x:LS) (ps:LN) (y:Nat) (f e u:Option Sl),
 ls=h++z/\xs=(XA z).zipIdx h.length/\Laid h x ps/\(∀r∈x,vO r)/\(y<=40/\x.length=h.length+y/\ps.length=h.length) /\
 ρ=[a,b,oW (.lst (jF x)),oW (.lst (SN ps)),bD (.int y),f,e,u]
theorem Fm{ns:LJ}(hd:Ψ.sp "_law_draw"=ID)(B:DB ns){e:List (LS)}(X:Laid e x ps)(q:∀r∈x,vO r)(h:xO ws)(j:y<=40)(rl:x.length=e.length+y)(pl:ps.length=e.length)(F:e.length<=300)(l:Option Sl)
  (k:∀u i (f:Nat) s l,Laid (e++[ws]) u i->(∀r∈u,vO r)->f<=40->u.length=e.length+1+f->i.length=e.length+1->Z.nx [a,jy (.xx (EB ns)),oW (.lst (jF u)),oW (.lst (SN i)),bD (.int f),bD (.int (e.length:Int)),s,l]) :
  pF Ψ bE Z [a,jy (.xx (EB ns)),oW (.lst (jF x)),oW (.lst (SN ps)),bD (.int y),bD (.int (e.length:Int)),bD (.list (ws.map Jx)),l]:=by
 have fin:∀(u:LS) (f:Nat) (n:Int),Laid e u ps->(∀r∈u,vO r)->f<=40->u.length=e.length+f->pF Ψ aC Z [a,jy (.xx (EB ns)),oW (.lst (jF u)),oW (.lst (SN ps)),bD (.int f),bD (.int (e.length:Int)),bD (.list (ws.map Jx)),bD (.int n)]:=λu f n o m p E=>by have C:n / 15 % 2<2:=Qb _ (by decide);refine Gm h () () _ λs l=>k _ _ _ _ _ (.row o (Kj h _)) (λr g=>?_) p (by rw[QL,WJ];omega) (by rw[QL,WJ];omega);rcases Qy.mp g with g|g;exact m r g;rw[qH.mp g];exact Vj h ()
 have K:bE=.seq (.set 7 (.call "_law_draw" %[.vx 1,.bin .Add (.int 900) (.vx 5)|1])) (.seq (.ife (.and (.cmp .Eq (.bin .Mod (.vx 7) (.int 5)) (.int 0)) (.cmp .Lt (.vx 4) (.int 40))) %[.expr (.mt .append (.vx 2) %[.bin .Mult (.str " ") (.bin .Mod (.bin .FloorDiv (.vx 7) (.int 5)) (.int 3))|1]),.set 4 (.bin .Add (.vx 4) (.int 1))|2] .nil) aC):=rfl;rw[K];simp![↓fA (md:=[.xz]) hd rfl rfl,oI];refine#[_,_,rfl,B,#[(),()],#[rfl,?_]];rw[Vl];generalize oA ns (900+(e.length:Int))=n;have A:n / 5 % 3<3:=Qb _ (by decide);have p:∀r:Str,(x.map Jx).map T.d++[T.d (.str r)]=jF (x++[r]):=λr=>by simp[jF]
 have Y:=fin x y n X q j rl;have W:=λ(z:y<40)=>fin (x++[TH (QA " ") (n / 5 % 3)]) (y+1) n (.blank X (Cc _)) (λr g=>by rcases Qy.mp g with g|g;exact q r g;rw[qH.mp g];exact HX ()) () (by rw[QL,WJ];omega);delta jF;simp![oI];refine fF (λ_=>fF (λc=>#[(),(),(),by rw[QG,QG];omega,?_]) λ_=>Y) λ_=>Y;rw[p];exact W (by have:=ei c;omega)
end
theorem Vr{x:List D}{n:Bool}{W:LT->Prop}:RN .enum [(.d (.list x),n)] W=W (x.zipIdx.map λp=>.d (.tuple [.int (p.2:Int),p.1])):=by unfold RN XB;rw[kA];exact eI #[λ#[_,_,_,z,y,h,q]=>by cases z;cases y;rw[gA]at h;cases h;exact q,λq=>#[_,_,_,rfl,rfl,gA _,q]]
noncomputable def dH:PSp where
 md:=[.xx,.xz]
 run:=λu Q _=>∃(ls:List (LS)) (y:LJ),u=[.d (.list (XA ls)),EB y]/\DB y/\(ls.length<=300/\∀z∈ls,xO z)/\∀(h:LS) (x:LN) (m:Nat),Laid ls h x->(∀r∈h,vO r)->h.length<=ls.length+40->m<=2 ->
  Q (.lst [.lst (jF (h++QI m (QA ""))),.d (.list (x.map λ(n:Nat)=>Jy (n:Int)))]) []
theorem XY{Ψ:PEv}(hd:Ψ.sp "_law_draw"=ID):RK Ψ YI dH KN CK:=by
 rintro _ Q _ ⟨ls,o,rfl,B,⟨hl,J⟩,q⟩;refine rA [bD (.list (XA ls)),jy (.xx (EB o)),jz,jz,jz,jz,jz,jz] ?_;delta YI;simp![↓Vr];refine#[(),(),?_];refine sD (λ(p:D×Nat)=>T.d (.tuple [.int (p.2:Int),p.1])) (Dw ls (bD (.list (XA ls))) (jy (.xx (EB o)))) ?_ ?_ _ _ #[[],ls,[],[],0,jz,jz,jz,rfl,rfl,.nil,(λ_ z=>(by cases z)),#[(),rfl,rfl],rfl]
 ·rintro F ⟨h,y,u,j,A,r,m,l,e,f,W,X,⟨a,rl,E⟩,rfl⟩
  have:y=[]:=by
   cases y with|nil=>rfl|cons _ _=>simp[XA]at f
  subst this;rw[Qd]at e;subst e;change eB _ _ _ _ [bD (.list (XA ls)),jy (.xx (EB o)),oW (.lst (jF u)),oW (.lst (SN j)),bD (.int A),MC r,MC m,l];generalize MC r=r;generalize MC m=m;delta jF SN;simp![↓fA (md:=[.xz]) hd rfl rfl];refine#[(),#[_,_,rfl,B,#[(),()],#[rfl,?_]]];generalize oA o 890=n;have m3:n % 3<3:=Qb _ (by decide);have m0:0<=n % 3:=Qs _ (by decide);have er:T.er (T.lst ((j.map λ(n:Nat)=>Jy (n:Int)).map T.d))=.list (j.map λ(n:Nat)=>Jy (n:Int)):=by show PyData.list (ersT _)=_;rw[fB]
  have S:(u.map Jx++(QI (n % 3).toNat [Jx (QA "")]).flatten).map T.d=jF (u++QI (n % 3).toNat (QA "")):=by
   have:∀k:Nat,(QI k [Jx (QA "")]).flatten=(QI k (QA "")).map Jx:=λk=>by
    induction k with|zero=>rfl|succ k I=>rw[Qf,qF,I,Qf];rfl
   unfold jF;rw[this,<- Q6]
  rw[er];simp![↓dA];have R:(QI (n % 3).toNat [Jx (QA "")]).flatten.length=(n % 3).toNat:=by simp
  refine#[(),(),(),by rw[QG,R];omega,(),?_];rw[S];exact q _ _ _ W X () ()
 ·rintro⟨x,i⟩ G F N L ⟨h,y,u,j,A,r,m,l,e,f,W,X,⟨a,rl,E⟩,rfl⟩
  cases y with
  |nil=>simp[XA]at f|cons g y =>
   have f:(x,i)::G=(PyData.list (g.map Jx),h.length)::(XA y).zipIdx (h.length+1):=f;injection f with e1 e2;cases e1;subst e2;have H:h.length<=300:=by rw[e]at hl;simp at hl;omega
   refine#[_,rfl,?_];show pF Ψ bE _ [bD (.list (XA ls)),jy (.xx (EB o)),oW (.lst (jF u)),oW (.lst (SN j)),bD (.int A),bD (.int (h.length:Int)),bD (.list (g.map Jx)),l];have C:(h++[g]).length=h.length+1:=by simp
   refine Fm hd B W X (J g (by rw[e];simp)) a rl E H l λb Y K m l Z s P O M=>L _ #[h++[g],y,b,Y,K,_,_,_,by rw[e];simp,by rw[C],Z,s,#[P,by rw[C];exact O,by rw[C];exact M],rfl]
noncomputable def MD(h:Str):LS:=if h="person" then["matter","against","see","tell"] else if h="matter" then["against","see","tell"] else["see","tell"]
noncomputable def gX(ws:LS):Str:=ws.headD #[#[]]
noncomputable def vX:D:=.dict (OG ["person","matter","against"] [.list [.str "matter",.str "against",.str "see",.str "tell"],.list [.str "against",.str "see",.str "tell"],.list [.str "see",.str "tell"]])
noncomputable def DF:PSp where
 run:=λy Q _=>∃(ls:List (LS)) (h:Str),y=[.d (.list (XA ls)),.d (.str h)]/\(h="person"∨h="matter"∨h="against")/\(∀x∈ls,x≠[])/\Q (.d (.bool (ls.any λx=>decide (gX x∈MD h)))) []
theorem IY{h:Str}(x:h="person"∨h="matter"∨h="against"):((["person","matter","against"]:LS).zip [PyData.list [.str "matter",.str "against",.str "see",.str "tell"],.list [.str "against",.str "see",.str "tell"],.list [.str "see",.str "tell"]]).lookup h=jy (.list ((MD h).map Jx)):=by rcases x with rfl|rfl|rfl<;>kernel_rfl
theorem BU{Ψ:PEv}:RK Ψ yH DF IK jJ:=by
 rintro _ Q _ ⟨ls,h,rfl,l,g,q⟩;refine rA [bD (.list (XA ls)),bD (.str h),jz,jz] ?_;delta yH;simp![↓dA];refine#[(),(),by decide +kernel,by decide,by decide +kernel,by decide,(),?_];have n:(XA ls).map T.d=ls.map λy=>T.d (.list (y.map Jx)):=by simp[XA]
 rw[n];change lI _ _ _ _ [_,_,bD vX,jz];refine sD (λy:LS=>T.d (.list (y.map Jx))) (λb a=>∃(x:List (LS)) (u:Option Sl),ls=x++b/\(x.any λy=>decide (gX y∈MD h))=js/\a=[bD (.list (XA ls)),bD (.str h),bD vX,u]) ?_ ?_ _ _ #[[],jz,rfl,rfl,rfl]
 ·rintro a ⟨x,u,e,f,rfl⟩
  rw[Qd]at e;subst e;change eB _ _ _ _ [_,_,_,MC u];generalize MC u=u;simp![↓dA];rw[f]at q;exact q
 ·rintro y b a N m ⟨x,u,e,f,rfl⟩
  have i:=g y (by rw[e];simp);cases y with
  |nil=>exact eN rfl i|cons w r =>
   have o:zC ((w::r).map Jx) 0=jy (.str w):=NA (j:=0) rfl;show eB Ψ _ lF _ [bD (.list (XA ls)),bD (.str h),bD vX,bD (.list ((w::r).map Jx))];delta vX;delta lF;simp![↓Rs (z:=h) (ks:=["person","matter","against"]) #[by simp,rfl] (IY l),↓gC o];refine#[.inl #[rfl,mE _],?_];rw[dG];have hd:gX (w::r)=w:=rfl;refine fF (λc=>?_) λc=>?_;have:(ls.any λy=>decide (gX y∈MD h))=true:=by rw[e,QDX,f,qB,hd,c];rfl
   rw[this]at q;exact q
   ·refine m _ #[x++[w::r],_,by rw[e];simp,?_,rfl]
    have:decide (w∈MD h)=false:=by simpa using c
    rw[QDX,f,qB,hd,this];rfl
theorem Reads.app{a b:LS}{l m:List Rw}(h:Reads a l)(k:Reads b m):Reads (a++b) (l++m):=by
 induction h with|nil=>exact k|blank w n _ x=>exact .blank w n x|row w n _ x=>exact .row w n x
theorem Laid.len{ls:List (LS)}{y:LS}{ps:LN}(h:Laid ls y ps):ps.length=ls.length:=by
 induction h with|nil=>rfl|blank _ _ x=>exact x|row _ _ x=>rw[QL,QL,x];rfl
theorem Laid.reads{ls:List (LS)}{a:LS}{ps:LN}(h:Laid ls a ps):∀{l:List Rw},ls=l.map zX->(∀r∈a,vO r)->Reads a l:=by
 induction h with
 |nil =>
  intro l e _;cases l with|nil=>exact .nil|cons _ _=>cases e
 |blank _ w f =>
  intro l e z;have g:=f e λr y=>z r (qQ _ y);have i:Reads [_] []:=.blank w (z _ (by simp)).1 .nil;have:=g.app i
  rwa [Qd]at this
 |row _ w f =>
  intro l e z;let#[m,b,rfl,j,u]:=QBT.mp e.symm;have g:=f j.symm λr y=>z r (qQ _ y);cases b with
  |nil=>cases u|cons x b=>cases b with|cons _ _=>cases u|nil=>have u:zX x=_:=List.head_eq_of_cons_eq u;refine g.app (.row ?_ (z _ (by simp)).1 .nil);rw[w,<- u];rfl
theorem Laid.split{ls:List (LS)}{a:LS}{ps:LN}(h:Laid ls a ps):∀{u f:List (LS)}{b:LS},ls=u++b::f->∃y r x z,a=y++r::x/\Lib.wordsOf r=b/\Laid u y z/\ps[u.length]?=jy (y.length+1):=by
 induction h with
 |nil=>intro u f b e;cases u<;>cases e|@blank ls a ps r _ w j=>intro u f b e;let#[y,i,x,z,n,m,l,g]:=j e;exact#[y,i,x++[r],z,by rw[n];simp,m,l,g]|@row ls a ps r s p w j =>
  intro u f b e;rcases List.eq_nil_or_concat f with rfl|⟨X,c,rfl⟩
  let#[o,q]:=QDF e rfl;subst o;cases q;refine#[a,r,[],ps,rfl,w,p,?_];rw[<- p.len,Q5 (QU _),Nat.sub_self];rfl;have e:ls++[s]=(u++b::X)++[c]:=by rw[e];simp
  let#[o,q]:=QDF e rfl;let#[y,i,x,z,n,m,l,g]:=j o;refine#[y,i,x++[r],z,by rw[n];simp,m,l,?_];rw[Q9 (Qa.mp g).1];exact g
theorem Tb{l:List Rw}{x z:Rw}(g:z∈l)(n:∀e,x≠.ev e)(h:z.hd∈MD x.hd):N8 l x:=by
 have o:∀m,z=.mat m->cB l≠[]:=λm e=>QAm (wf.mpr #[z,g,by rw[e]]);have j:∀a b,z=.aga a b->gB l≠[]:=λa b e=>QAm (wf.mpr #[z,g,by rw[e]]);have i:∀e,z=.ev e->rF l≠[]:=λa e=>QAm (wf.mpr #[z,g,by rw[e]]);have y:∀{u:Type}(f:u->D) {l:List u},l≠[]->l.map f≠[]:=λ{u} f {l} h z=>h (List.map_eq_nil_iff.mp z);cases x with
 |ev e=>exact eN rfl (n e)|per p=>cases z with|per q=>exact eN h (by show ¬ QA "person"∈MD (QA "person");decide +kernel)|mat m=>exact#[_,QK,y _ (o m rfl)]|aga a b=>exact#[_,QH _ QK,y _ (j a b rfl)]|ev e=>exact#[_,QH _ (QH _ QK),y _ (i e rfl)]
 |mat m=>cases z with|per q=>exact eN h (by show ¬ QA "person"∈MD (QA "matter");decide +kernel)|mat m=>exact eN h (by show ¬ QA "matter"∈MD (QA "matter");decide +kernel)|aga a b=>exact#[_,QK,y _ (j a b rfl)]|ev e=>exact#[_,QH _ QK,y _ (i e rfl)]
 |aga a b=>cases z with|per q=>exact eN h (by show ¬ QA "person"∈MD (QA "against");decide +kernel)|mat m=>exact eN h (by show ¬ QA "matter"∈MD (QA "against");decide +kernel)|aga a b=>exact eN h (by show ¬ QA "against"∈MD (QA "against");decide +kernel)|ev e=>exact#[_,QK,y _ (i e rfl)]
noncomputable def iG(n:Int)(x y:Str):Rw:=if n % 3=0 then .per (x,5,0,2) else if n % 3=1 then .mat x else .aga x y
theorem rL(n:Int)(x y:Str):zX (iG n x y)=SH n x y:=by
 have h:UC 5=QA "5":=by decide +kernel
 have u:UC 0=QA "0":=by decide +kernel
 have z:UC 2=QA "2":=by decide +kernel
 unfold iG SH;split;show[QA "person",x,UC 5,UC 0,UC 2]=_;rw[h,u,z];split<;>rfl
theorem X9(n:Int)(x y:Str):∀e,iG n x y≠.ev e:=λe=>by
 unfold iG;split;exact λz=>by cases z
 split<;>exact λz=>by cases z
theorem oY{n:Int}{x y:Str}(h:YA x=jb)(u:YA y=jb)(z:x≠y):Good (iG n x y).hd (iG n x y).vs/\(iG n x y).vs.length<=12:=by
 unfold iG;split;exact#[MK (r:=5) (f:=0) (k:=2) h () () () () () (),by show 4<=12;omega];split
 ·exact#[NK h,by show 1<=12;omega]
 exact#[oJ h u z,by show 2<=12;omega]
theorem TJ{h:Str}{ws f:LS}(e:jC h (ws.length+1)=jy f)(n:ws.length≠f.length):HN h ws=none:=by unfold HN;rw[e];show(match (if ws.length=f.length then(if(vC f ws).any CB=jb then jz else jy (vC f ws)) else jz) with|none=>jz|some vs=>if zL h vs=jb then jy vs else jz)=jz;rw[eH n]
theorem O2(n:Int)(x y:Str):∃h ws,SH n x y++[QA "9"]=h::ws/\HN h ws=none:=by
 unfold SH;split;refine#[_,_,rfl,TJ (f:=[QA "name","rank","floor","needs"]) ?_ (by show 5≠4;decide)];unfold jC;rw[eH (by decide +kernel)];decide +kernel;split
 ·refine#[_,_,rfl,TJ (f:=[QA "name"]) ?_ (by show 2≠1;decide)]
  unfold jC;rw[eH (by decide +kernel)];decide +kernel
 refine#[_,_,rfl,TJ (f:=[QA "name","name"]) ?_ (by show 3≠2;decide)];unfold jC;rw[eH (by decide +kernel)];decide +kernel
theorem KR{l:List Rw}(t:gL l):∀x∈l,∃a,RowOk a x:=λx h=>by let#[a,b,e]:=List.append_of_mem h;exact#[a,t a x b e]
theorem D1{l m:List Rw}(t:gL (l++m)):gL l:=λa r b e=>t a r (b++m) (by rw[e];simp)
theorem K2{l:List Rw}(t:gL l):∀x∈l,x.vs.length<=12/\∀d∈x.vs,Af d:=λx y=>by let#[a,o]:=KR t x y;refine#[o.few,λd hd=>?_];let#[u,h]:=Good.txts o.good d (QH _ hd);rcases h with⟨z,rfl⟩| h;exact .inl #[z,rfl,by have:=u.2.1;show(XH (.str z)).length<=100;omega];exact .inr h
theorem G0(ns:LJ):(SA ns).length<=200:=by have a:=(Vc ns).2;have h:=(nH (FA ns) (nW ns)).2;have x:=tf ns (ms:=BB ns) (1+(cW ns:Int)) h;have y:=So ns;have u:(NE ns).length=cW ns:=NF ns (FA ns) (cW ns);have z:(JL ns).1.length=(kW ns).toNat:=tJ _;have x:(UJ ns).1.length<=15:=x;have h:(BB ns).length<=6:=h;unfold SA wR;rw[QL,QL,QL,QG,QG,QG,QG];omega
theorem Z6(l:List Rw):(T.lst (l.map ZO)).er=.list (XA (l.map zX)):=by
 have e:∀x:Rw,(ZO x).er=.list ((zX x).map Jx):=λx=>by cases x<;>simp only[ZO,T.er,fB]
 have g:∀l:List Rw,ersT (l.map ZO)=XA (l.map zX):=by
  intro l;induction l with|nil=>rfl|cons x l h=>rw[QN,ersT,h,e];rfl
 rw[T.er,g]
theorem hX{h:Str}{vs:List D}(g:Good h vs)(y:vs.length<=12):xO ((Jx h::vs).map XH):=by refine#[by rw[QG,QJ];omega,λw x=>?_];let#[d,hd,rfl]:=Qm.mp x;exact(Good.txts g d hd).1
theorem mW{l:List Rw}(t:gL l):∀ws∈l.map zX,xO ws:=λws y=>by let#[x,h,rfl]:=Qm.mp y;let#[a,o]:=KR t x h;exact hX o.good o.few
theorem SJ(ns:LJ):∃p ps,YB (SA ns)=p::ps/\p.1=YF (FA ns) 0:=by
 have h:YB (SA ns)=NE ns:=dh _ _ _ _;have x:=(Vc ns).1;rw[h];unfold NE IJ;cases hc:cW ns with|zero=>omega|succ k=>exact#[_,_,by rw[List.range_succ_eq_map,QN],rfl]
theorem nY(ns:LJ):cB (SA ns)≠[]:=by unfold SA;rw[lh];intro z;have:=(nH (FA ns) (nW ns)).1;have z:UI (FA ns) (nW ns)=[]:=z;rw[z]at this;simp at this
theorem Mn(a b:Str)(n:Int):zC [Jx a,.str b] (n / 3 % 2)=jy (.str (if n / 3 % 2=0 then a else b)):=by
 have x:=Qs (n / 3) (show(2:Int)≠0 by decide);have h:=Qb (n / 3) (show(0:Int)<2 by decide);generalize n / 3 % 2=m at x h;have:m=0∨m=1:=()
 rcases this with rfl|rfl<;>rfl
theorem xl{y x:List D}{Q:T->Bool->Prop}:PB .Add (.lst (y.map T.d)) jb (.lst [.lst (x.map T.d)]) jb Q=(y.length+1<=j1/\Q (.lst ((y++[PyData.list x]).map T.d)) jb):=by
 have e:T.er (.lst [.lst (x.map T.d)])=T.er (.lst ([PyData.list x].map T.d)):=by
  have z:T.er (.lst (x.map T.d))=.list x:=by show PyData.list (ersT (x.map T.d))=_;rw[fB]
  show PyData.list [T.er (.lst (x.map T.d))]=_;rw[z];rfl
 have h:PB .Add (.lst (y.map T.d)) jb (.lst [.lst (x.map T.d)]) jb Q=PB .Add (.lst (y.map T.d)) jb (.lst ([PyData.list x].map T.d)) jb Q:=by show binT .Add _ (T.d (T.er (.lst [.lst (x.map T.d)]))).vw Q=_;rw[e];rfl
 rw[h];exact ul
theorem AO(R:LS)(pl:LN):T.er (.lst [.lst (jF R),.d (.list (pl.map λ(n:Nat)=>Jy (n:Int)))])=.list [.list (R.map Jx),.list (pl.map λ(n:Nat)=>Jy (n:Int))]:=by
 have h:∀l:LS,T.er (.lst (jF l))=.list (l.map Jx):=λl=>by show PyData.list (ersT (jF l))=_;unfold jF;rw[fB]
 show PyData.list [T.er (.lst (jF _)),_]=_;rw[h];rfl
theorem Oj(t:T)(F:T->Prop):DE t jb (.d (.int 0)) js F=DE (.d t.er) js (.d (.int 0)) js F:=rfl
noncomputable def dB(ns:LJ):List (LS):=(SA ns).map zX
noncomputable def Ml(ns:LJ)(j i g f e b a u z y x h:Option Sl):zA:=[jy (.xx (EB ns)),bD (W4 (SA ns)),bD (.list (XA (dB ns))),bD (.int (FA ns)),j,i,g,f,e,b,a,u,z,y,x,h]
section
variable{Ψ:PEv}{Z:PEnds}{ns:LJ}{k:Nat}
theorem Po(h1:Ψ.sp "_law_draw"=ID)(h2:Ψ.sp "_law_name"=dD)(h3:Ψ.sp "_law_row"=GP)(h4:Ψ.sp "_law_is_late"=DF)(h5:Ψ.sp "_law_spread"=dH)(h6:Ψ.sp "_law_is_refused"=gD)(h7:Ψ.sp "_law_caught"=fH)(B:DB ns)(hk:k<8)
  (I:∀o4 Q P O N M C A K W Y X,Z.nx (Ml ns o4 Q P O N M C A K W Y X)) (Q P O N M C A K W Y X:Option Sl) :
  pF Ψ vR Z (Ml ns (bD (.int (k:Int))) Q P O N M C A K W Y X):=by
 have hs:j1=16777216:=qi;have i:=FL ns;have l2:=G0 ns;have q:=LP ns;let#[u,ps,ep,en0]:=SJ ns;have G:(XA (dB ns)).length=(SA ns).length:=by unfold XA dB;rw[QG,QG]
 have f:W4 (SA ns)=.tuple [.list (pD u::ps.map pD),.list ((cB (SA ns)).map Jx),.list ((gB (SA ns)).map aD),.list ((rF (SA ns)).map eD)]:=by unfold W4;rw[ep];rfl
 have hp0:pD u=.tuple [.str u.1,.int u.2.1,.int u.2.2.1,.int u.2.2.2]:=rfl;unfold Ml at I ⊢;rw[f,hp0]at I ⊢;delta vR;simp![↓fA (md:=[.xz]) h1 rfl rfl];refine#[_,_,rfl,B,#[(),()],#[rfl,?_]];rw[Vl];have n0:=YX ns (500+(k:Int));generalize oA ns (500+(k:Int))=n at n0;delta nN;simp![↓GD,↓fA (md:=[]) h2 rfl rfl];refine#[_,_,rfl,#[q.1,()],#[(),()],#[rfl,?_]];simp![↓gC (Mn u.1 (YF (FA ns) 600) n),↓fA (md:=[]) h2 rfl rfl];have hx:YA (if n / 3 % 2=0 then u.1 else YF (FA ns) 600)=jb/\(if n / 3 % 2=0 then u.1 else YF (FA ns) 600)≠YF (FA ns) 601:=by split;rw[en0];exact#[JF q.1,λz=>by have:=mH q.1 () () () () z;omega];exact#[JF q.1,λz=>by have:=mH q.1 () () () () z;omega]
 generalize (if n / 3 % 2=0 then u.1 else YF (FA ns) 600)=x at hx;refine#[(),?_];delta mN;simp! -implicitDefEqProofs[↓fA (md:=[]) h3 rfl rfl,↓fA (md:=[]) h2 rfl rfl];refine#[_,_,rfl,#[q.1,()],#[(),()],#[rfl,?_]];simp![↓dA];refine#[_,_,_,rfl,#[rfl,?_]];rw[Kl];have dl:(SH n x (YF (FA ns) 601)).map Jx≠[]:=λz=>by have:=e6 WH z;rw[QG,<- rL]at this;cases this
 have a0:zC ((SH n x (YF (FA ns) 601)).map Jx) 0=jy (.str (iG n x (YF (FA ns) 601)).hd):=by rw[<- rL];exact NA (j:=0) rfl
 have m1:=Qb (n / 6) (show(0:Int)<(SA ns).length+1 by omega);have m0:=Qs (n / 6) (show((SA ns).length:Int)+1≠0 by omega);have b1:=Qb (n / 1000003) (show(0:Int)<2 by decide);have b0:=Qs (n / 1000003) (show(2:Int)≠0 by decide);delta lN;simp![G,↓fA (md:=[]) h4 rfl rfl,↓gC a0];generalize hat:((SA ns).length:Int) - n / 6 % ((SA ns).length+1)=GD;generalize n / 1000003 % 2=bad at b0 b1;have p:0<=GD:=()
 have at_1:GD<=(SA ns).length:=()
 have ct:ND (XA (dB ns)) jz (jy GD)=XA ((dB ns).take GD.toNat):=by rw[M7 _ p];exact(QCQ ..).symm
 have o:ND (XA (dB ns)) (jy GD) jz=XA ((dB ns).drop GD.toNat):=by rw[kN _ p];exact(QCO ..).symm
 have hh:(iG n x (YF (FA ns) 601)).hd="person"∨(iG n x (YF (FA ns) 601)).hd="matter"∨(iG n x (YF (FA ns) 601)).hd="against":=by
  unfold iG;split;exact .inl rfl;split
  ·exact .inr (.inl rfl)
  exact .inr (.inr rfl)
 rw[ct];refine#[(),(dB ns).take GD.toNat,_,rfl,hh,λws y=>?_,rfl,?_];let#[z,_,rfl]:=Qm.mp (WV y);exact λz=>by cases z
 simp![↓dA];refine fF (λc=>?_) λ_=>I _ _ _ _ _ _ _ _ _ _ _ _;have rl:(SH n x (YF (FA ns) 601)).length<=5:=by unfold SH;split;simp;split<;>simp
 have nl:(QI bad.toNat [Jx (QA "9")]).flatten=(QI bad.toNat (QA "9")).map Jx:=by
  generalize bad.toNat=m;induction m with|zero=>rfl|succ m ih=>rw[Qf,qF,ih,Qf];rfl
 have lb:(QI bad.toNat (QA "9")).length<=1:=by rw[Q7];omega
 rw[nl,<- Q6,xl];have lenT:(XA ((dB ns).take GD.toNat)).length<=200:=by unfold XA dB;rw[QG,wN,QG];omega
 refine#[(),(),(),(),by rw[QG,QG];omega,(),(),?_];simp![o];have el:∀(a c:List (LS)) (b:LS),XA a++[PyData.list (b.map Jx)]++XA c=XA (a++b::c):=λa c b=>by simp[XA]
 have L:fC (QA "9"):=by refine#[by decide +kernel,by decide +kernel,by decide +kernel]
 let#[rg,rf]:=oY (n:=n) hx.1 (JF (k:=601) q.1) hx.2;have bl:xO (SH n x (YF (FA ns) 601)++QI bad.toNat (QA "9")):=by have g:=hX rg rf;have e:(Jx (iG n x (YF (FA ns) 601)).hd::(iG n x (YF (FA ns) 601)).vs).map XH=SH n x (YF (FA ns) 601):=rL _ _ _;rw[e]at g;refine#[by rw[QL];omega,λw f=>?_];rcases Qy.mp f with f|f;exact g.2 w f;rw[wM f];exact L
 have tl:=mW i;have R:∀ws∈(dB ns).take GD.toNat++(SH n x (YF (FA ns) 601)++QI bad.toNat (QA "9"))::(dB ns).drop GD.toNat,xO ws:=λws y=>by
  rcases Qy.mp y with h|h;exact tl ws (WV h);rcases QR.mp h with rfl|h
  ·exact bl
  exact tl ws (QAK h)
 have ll:((dB ns).take GD.toNat++(SH n x (YF (FA ns) 601)++QI bad.toNat (QA "9"))::(dB ns).drop GD.toNat).length<=201:=by unfold dB;rw[QL,QJ,wN,qW,QG];omega
 have lenD:(XA ((dB ns).drop GD.toNat)).length<=200:=by unfold XA dB;rw[QG,qW,QG];omega
 refine#[by rw[QL];show _+1+_<=_;omega,?_];rw[el];simp![↓fA (md:=[.xx,.xz]) h5 rfl rfl];refine#[_,ns,rfl,B,#[(),R],λl pl m la rp rl2 m2=>#[rfl,?_]];have ea:=AO (l++QI m (QA "")) pl;refine#[_,_,ea,?_];let#[s,r,F,ps1,e1,e2,e3,e4]:=la.split rfl;have lA:((dB ns).take GD.toNat).length=GD.toNat:=by unfold dB;rw[wN,QG];omega
 rw[lA]at e4;have aP:zC (pl.map λ(n:Nat)=>Jy (n:Int)) GD=jy (.int ((s.length:Int)+1)):=by rw[show GD=((GD.toNat:Nat):Int) by omega];refine NA ?_;rw[Qj,e4];rfl
 have tp:gL ((SA ns).take GD.toNat):=D1 (m:=(SA ns).drop GD.toNat) (by rw[QAA];exact i);have hA:(dB ns).take GD.toNat=((SA ns).take GD.toNat).map zX:=(QCQ ..).symm;have J:Reads s ((SA ns).take GD.toNat):=e3.reads hA λr E=>rp r (by rw[e1];exact qQ _ E);have lt:N8 ((SA ns).take GD.toNat) (iG n x (YF (FA ns) 601)):=by let#[ws,y,hc]:=QAC.mp c;rw[hA]at y;let#[z,H,rfl]:=Qm.mp y;exact Tb H (X9 _ _ _) (ei hc)
 have e0:vO (QA ""):=#[by decide +kernel,by decide +kernel]
 have ro:RowsOk (l++QI m (QA "")):=#[by rw[e1];simp,by rw[QL,Q7];omega,λr E=>by rcases Qy.mp E with E|E;exact rp r E;rw[wM E];exact e0]
 have S:∃o:Str,BadAt ((SA ns).take GD.toNat) r o/\((o="BadRow"/\1 - bad=0)∨o="Misplaced"/\1 - bad=1):=by
  have:bad=0∨bad=1:=()
  rcases this with rfl|rfl;refine#[_,.late (x:=iG n x (YF (FA ns) 601)) ?_ rg rf lt,.inr #[rfl,rfl]];rw[e2];show SH n x (YF (FA ns) 601)++[]=_;rw[Qd];exact(rL _ _ _).symm;let#[h,ws,w1,w2]:=O2 n x (YF (FA ns) 601);refine#[_,.form (h:=h) (ws:=ws) ?_ ?_ w2,.inl #[rfl,rfl]];rw[e2];exact w1;intro w f;rw[<- w1]at f;have:=(bl.2 w f).2.1;omega
 let#[o,ba,hc]:=S;simp![↓fA (md:=[]) h6 rfl rfl,↓fA (md:=[]) h7 rfl rfl,↓gC aP];refine#[_,(SA ns).take GD.toNat,s,r,F++QI m (QA ""),o,rfl,ro,tp,by rw[e1];simp,J,ba,rfl,?_];simp![↓gC aP];refine#[o,_,_,rfl,hc,rfl,?_];simp![↓dA];exact I _ _ _ _ _ _ _ _ _ _ _ _
end
theorem kj{Ψ:PEv}(h0:Ψ.sp "_law_world"=OL)(h8:Ψ.sp "_law_lines"=PL)(h9:Ψ.sp "read_world"=TB)(h1:Ψ.sp "_law_draw"=ID)(h2:Ψ.sp "_law_name"=dD)(h3:Ψ.sp "_law_row"=GP)(h4:Ψ.sp "_law_is_late"=DF)(h5:Ψ.sp "_law_spread"=dH)(h6:Ψ.sp "_law_is_refused"=gD)(h7:Ψ.sp "_law_caught"=fH):RK Ψ l8 vQ Xg T3:=by
 rintro _ Q _ ⟨x,hl,hb,rfl,q⟩;have B:DB x:=#[hl,hb]
 have u:=FL x;have es:TZ (SA x)=SA x:=bh _ _ _ _;have l2:=G0 x;have shw:=K2 u;refine rA [jy (.xx (EB x)),jz,jz,jz,jz,jz,jz,jz,jz,jz,jz,jz,jz,jz,jz,jz] ?_;have hz:j1=16777216:=qi;delta l8;simp![↓fA (md:=[.xz]) h0 rfl rfl];refine#[_,rfl,B,#[rfl,?_]];rw[<- N2,Vl];delta gT;simp![↓fA (md:=[]) h8 rfl rfl];refine#[_,rfl,(by rw[es];exact l2),(by rw[es];exact shw),#[rfl,?_]];rw[es];refine#[rfl,?_];rw[Z6];delta bT;simp![↓fA (md:=[.xz]) h1 rfl rfl];refine#[_,_,rfl,B,#[(),()],#[rfl,#[by decide,by decide,by decide],?_]];simp![↓dA];refine#[by decide,?_];refine sD (λ(i:Nat)=>T.d (Jy (i:Int))) (λG A=>(∀i∈G,i<8)/\∃C O M L J I o n g f b a,A=Ml x C O M L J I o n g f b a) ?_ ?_ _ _ #[λi hi=>qV.mp hi,_,_,_,_,_,_,_,_,_,_,_,_,rfl]
 rotate_left
 rintro i G A N hN ⟨S,C,O,M,L,J,I,o,n,g,f,b,a,rfl⟩;refine Po h1 h2 h3 h4 h5 h6 h7 B (S i QK) (λC O M L J I o n g f b a=>hN _ #[λj hj=>S j (QH _ hj),_,_,_,_,_,_,_,_,_,_,_,_,rfl]) _ _ _ _ _ _ _ _ _ _ _;rintro A ⟨_,C,O,M,L,J,I,o,n,g,f,b,a,rfl⟩;change eB _ _ _ _ (Ml x (MC C) O M L J I o n g f b a);generalize MC C=C;unfold Ml;delta uT;simp! -implicitDefEqProofs[↓fA (md:=[]) h9 rfl rfl,↓fA (md:=[.xx,.xz]) h5 rfl rfl,aM];have lL:(dB x).length<=200:=by unfold dB;rw[QG];exact l2
 refine#[dB x,x,rfl,B,#[(),mW u],λy pl m la rp rl2 m2=>#[rfl,?_]];rw[Oj,AO];have rne:y≠[]:=λz=>by
  let#[p0,ps,ep,_]:=SJ x;have:=la.reads rfl rp;rw[z]at this;have nn:∀l,Reads [] l->l=[]:=λl h=>by cases h;rfl
  have e:SA x=[]:=nn _ this;rw[e]at ep;cases ep
 have e0:vO (QA ""):=#[by decide +kernel,by decide +kernel]
 have F:RowsOk (y++QI m (QA "")):=#[by simp[rne],by rw[QL,Q7];omega,λr P=>by rcases Qy.mp P with P|P;exact rp r P;rw[wM P];exact e0]
 have bls:∀m:Nat,Reads (QI m (QA "")) []:=λm=>by
  induction m with|zero=>exact .nil|succ m ih=>exact .blank (by decide +kernel) (by decide +kernel) ih
 have rd:Reads (y++QI m (QA "")) (SA x):=by
  have:=(la.reads rfl rp).app (bls m)
  rwa [Qd]at this
 have l9:=OJ (λz:Str=>z.length) 900 _ λz hz=>(F.r z hz).1;have l6:=F.l;generalize y++QI m (QA "")=R at F rd l9 l6;simp![↓GD,aM];have E:YB (SA x)≠[]:=by let#[p0,ps,ep,_]:=SJ x;rw[ep];exact List.cons_ne_nil _ _
 refine#[(),_,SA x,rfl,#[F.len,by rw[F.split];omega],u,.inl #[by rw[F.split];exact rd,E,nY x,rfl,?_]];refine#[rfl,?_];rw[Tf];delta W4;simp![↓dA];rw[eH (by decide)];refine sD (λ(p:D×D)=>T.d (.tuple [p.1,p.2])) (λG A=>(∀p∈G,∃l,p=(PyData.list l,PyData.list l))/\∃(a0 a1 a2 a3 a4 a5 a6 a7 a8 H Z Y X s K W:Option Sl),A=[a0,a1,a2,a3,a4,a5,a6,a7,a8,H,Z,Y,X,s,K,W]) ?_ ?_ _ _ #[λp E=>?_,_,_,_,_,_,_,_,_,_,_,_,_,_,_,_,_,rfl];rintro A ⟨_,a0,a1,a2,a3,a4,a5,a6,a7,a8,H,Z,Y,X,s,K,W,rfl⟩;change eB _ _ _ _ [a0,a1,a2,a3,a4,a5,a6,a7,a8,H,Z,Y,X,s,MC K,MC W];simp![↓dA];exact q;rintro p G A N hN ⟨E,a0,a1,a2,a3,a4,a5,a6,a7,a8,H,Z,Y,X,s,K,W,rfl⟩;let#[l,rfl]:=E p QK;refine#[_,rfl,?_];change eB _ _ kR _ [a0,a1,a2,a3,a4,a5,a6,a7,a8,H,Z,Y,X,s,bD (.list l),bD (.list l)];have el:decide ((l.length:Int)=(l.length:Int))=true:=dT rfl;delta kR;simp![el];exact hN _ #[λp hp'=>E p (QH _ hp'),_,_,_,_,_,_,_,_,_,_,_,_,_,_,_,_,rfl];simp only[Wr,QCJ,QR,qK,or_false]at E;rcases E with rfl|rfl|rfl|rfl<;>exact#[_,rfl]
end L2.L3.K3
namespace L2.L3
open PySem PySem.Spec PyProof.Rows L2.L3.Q
theorem oM{α z y x h:Type}{o:Option α}{f:α->z×y}{g:α->x}{k:α->h}{a:z×y}{b:x}{c:h}(u:o.map (λs=>((f s).1,g s))=jy (a.1,b))(i:o.map (λs=>(f s).2)=jy a.2)(e:o.map k=jy c):o.map (λs=>(f s,(g s,k s)))=jy (a,(b,c)):=by
 cases o with|none=>cases u|some s=>let#[n,m]:=Wg (QY u);have l:(f s).2=a.2:=QY i;have j:k s=c:=QY e;show jy (f s,(g s,k s))=jy (a,(b,c));rw[m,j,<- Prod.eta (f s),n,l]
theorem rV{h:kt}:∀(x:List j2),(nr x h).In h
 |[],a,o,e=>nomatch e
 |b::x,a,o,e=>by
  unfold nr at e;rw[wX]at e;cases c:h.get? b with
  |none=>rw[c]at e;exact rV x a o e|some y =>
   rw[c]at e;have e:wa a ((b,y)::nr x h)=jy o:=e;rw[Qg]at e;cases d:a==b with|true=>rw[d]at e;cases e;rw[beq_iff_eq.mp d];exact c|false=>rw[d]at e;exact rV x a o e
theorem t7{K:QC}{x q:Str}{st:vl}{f:j2}{y:vy}{b:j0}{a:Option j2}{z:Array (Option j0)}(hl:K.lookup f=jy #[b,a,.func y,z])(h:e7 y (WX K y.code q&&qe K (.ref f))=e7 (qP x q (bC st) (VB st) (nA st) .none .none .none .none jz .none .none) jb):∃y,Fun K x q st f y:=by let#[A,W,Z,Y,X,s,r,p,o,n,m,l,j,i,g]:=y;unfold e7 at h;injection h with h1 h2;injection h2 with h2 h3;injection h1 with b1 h1;injection h1 with b2 h1;injection h1 with b3 h1;injection h1 with b4 b5;injection h2 with c1 h2;injection h2 with c2 h2;injection h2 with c3 c4;let#[u,e]:=QAL.mp h3;simp only at b1 b2 b3 b4 b5 c1 c2 c3 c4 u;subst b1 b2 b3 b4 b5 c1 c2 c3 c4;exact#[_,Ij hl u e]
theorem B2{K:QC}{x:Str}{st:vl}(h:tV K x=PM x st)(y:(PM x st).isSome=jb):GT K x st:=by
 have hd:PM x st=jy (e7 (qP x x (bC st) (VB st) (nA st) .none .none .none .none jz .none .none) jb):=by by_cases k:st.ctorIdx=0;exact @WE (λst=>PM x st=jy (e7 (qP x x (bC st) (VB st) (nA st) .none .none .none .none jz .none .none) jb)) st k λ_ _ _ _ _ _ _ _ _ _=>rfl;unfold PM at y;rw[dif_neg k]at y;cases y
 rw[hd]at h;unfold tV at h;split at h;rename_i f hf;split at h;rename_i hl;let#[z,F]:=t7 hl (QY h);exact#[f,z,hf,F];cases h;cases h
theorem Y9{K:QC}{x:Str}(h:GU K x=jb):qp K ke x=jy none:=by unfold GU at h;split at h;assumption;cases h
theorem D2(u:j0):Om u=(mY u).map QCK:=by cases u<;>rfl
theorem Th{K:QC}{x:Str}{d:D}(h:mh K x=jy d):tN K x d:=by
 unfold mh at h;split at h;rename_i u hu;rw[D2]at h;cases e:mY u with|none=>rw[e]at h;cases h|some p=>let#[v,y]:=p;rw[e]at h;cases h;have ok:=(lU (K:=K) e).2;refine#[u,v,hu,?_,ok];unfold mY at e;split at e<;>cases e<;>rfl
 cases h
theorem K9(its:LW):its.map Om=(its.map mY).map λo=>o.map QCK:=by rw[wF];exact QB1 λu _=>D2 u
theorem dW{K:QC}{f:j2}{x:List D}(h:tupD K f=jy (x.map jy))(y:x.length<=j1):∀F,Rep K F (.ref f) (.tuple x):=by unfold tupD at h;split at h;rename_i t od its n sl hl;split at h;rename_i et;subst et;injection h with h;exact V3 (its:=its.toList) (by simpa using hl) ((K9 _).symm.trans h) y;cases h;cases h
noncomputable def dU:D->Bool
 | .tuple h=>decide (h.length<=1000)|_=>jb
theorem X7{K:QC}{w:kl}:∀(j:List yy) (a:List (Str×D)),j.map (Rh K)=a.map (Jc w)->(a.all λp=>dU p.2)=jb->Ent K w j a
 |[],[],_,_=>.nil|[],_::_,h,_=>by cases h|_::_,[],h,_=>by cases h|#[hs,ky,u]::j,(x,d)::a,h,z=>by
  rw[QN,QN]at h;let#[i,o]:=QAQ h;rw[Q8,QX]at z;have r:=X7 j a o z.2;unfold Rh Jc at i;injection i with n i;injection i with l b;have n:hs=WY w.params x:=n;have l:Ro ky=jy x:=l;have b:Ph K u=Bp d:=b;subst n;obtain⟨t,rfl⟩:∃t,ky=.str x t:=by
   cases ky with|str y t=>cases l;exact#[t,rfl]|_=>cases l
  unfold Ph at b;cases e:Am u with
  |some f =>
   obtain rfl:u=.ref f:=by
    cases u with|ref g=>cases e;rfl|_=>cases e
   rw[e]at b;cases d with|tuple m=>have b:(jz,tupD K f)=((jz,jy (m.map jy)):Option D×Option (List (Option D))):=b;have q:m.length<=1000:=ei z.1;exact .cons rfl (dW (Wg b).2 ()) r|_=>cases(Wg b).1
  |none =>
   rw[e]at b;cases d with|tuple m=>cases(Wg b).2|_=>exact .sc ((D2 u).symm.trans (Wg b).1) r
theorem gY{K:QC}{w:kl}{x:Str}{y:List (Str×D)}(h:yN K x=jy (y.map (Jc w)))(b:VG (y.map wK)=jb)(u:(y.all λp=>dU p.2)=jb):BN w K x y:=by unfold yN at h;split at h;rename_i a ha;split at h;rename_i hs;split at h;rename_i t es ep sl hl;split at h;rename_i et;let#[rfl,z]:=et;injection h with h;have:sl=#[]:=Array.eq_empty_of_size_eq_zero z;subst this;exact#[a,es,ep,ha,hs,hl,X7 _ _ h u,vD b];cases h;cases h;cases h;cases h
theorem U2{K:QC}{x:Str}{y:List D}(h:nh K x=jy (y.map jy))(z:y.length<=j1):tN K x (.tuple y):=by unfold nh at h;split at h;rename_i f hf;exact#[_,_,hf,rfl,dW h z];cases h
theorem walk_seenW{l:PySem.W.OpenLaw}{k:Nat}{q:Kz}{loose:LS}{XP:(Str->Option j0)->kt->Prop}{YP:kl->kt->Prop}{d:DefRec}{x:Str}{Fs:kl->QC->Prop}
  (hn:l.most=jy 63) (C:d.params.defaults=[]) (R:Room k fa) (hY:∀(w:kl) (h:kt),YP w h->∃K:QC,K.In h/\Fs w K)
  (F:∀(w:kl) (m:Str->Option j0) (Z:j2) (h:kt) (K:QC),K.In h->Fs w K->h.Ns ke m->m d.name=jy (.ref Z) ->
   ∃E:vy,(∀(s:j3) (u:j0),hR s E #[[u],[]] [(x,u)]) /\
    ∀y:kt,K.In y->y.Ns ke m->FnOk l.prog w K m y (T8 l.prog w K) k Z E [x] (lift K vQ)) :
  PySem.W.WalkO q loose XP YP l.row.toRowW d [] (λf vs=>PySem.call f vs):=by
 intro w L J m mb G Y Z o pm cd doc dV kV ho hd hcd M B hg args I as n X Q A hlo;obtain rfl:dV=.none:=PySem.W.Dflts.none M C;obtain rfl:kV=.none:=PySem.W.Dflts.noKw M;let#[a,vs,P,rfl,rfl,p,j,i]:=Att.script_of hn n A;let#[K,N,fs]:=hY w _ Y;let#[E,hb,hF]:=F w m Z _ K N fs G.T.g B;refine PySem.W.enter_call (WG (X6 N G.T.g G.T.b G.T.builtins G.T.nolimit hg p j (qZ i (by decide)) R hF hb (λH hO hS=>Xj _ H a P i (Dc X) hS) λH e O=>λz=>B0 z) λr O S=>?_);let#[rfl,h2,h3,h4]:=S;exact#[.inl #[.bool jb,.bool jb,[],rfl,λ_=>rfl,.bool jb,Att.post_true l _,λ_=>#[List.Pairwise.nil,λ_ hm=>(nomatch hm)]],h2,h3,h4]
theorem S6{o:Option (Option j0)}{a:j2}(h:T6 o a=jb):o=jy (jy (.ref a)):=by unfold T6 at h;split at h;rw[Qi h];cases h
theorem nJ{o:Option (Option j0)}{i:String}(h:DO o i=jb):o=jy (jy (.builtin i)):=by unfold DO at h;split at h;rw[Qi h];cases h
theorem dX{o:Option (Option j0)}(h:jc o=jb):o=jy none:=by unfold jc at h;split at h;rfl;cases h
theorem lJ{o:Option j0}{i:String}(h:mV o i=jb):o=jy (.type i):=by unfold mV at h;split at h;rw[Qi h];cases h
theorem Lm{y:Array (Option j0)}(h:Xs y=jb):∃x k1 k2 k3 k5,y=(List.toArray [x,k1,k2,k3,jy (.builtin "ValueError.__new__"),k5]):=by revert h;show (match y.toList with|[_,_,_,_,o,_]=>DO (jy o) "ValueError.__new__"|_=>js)=jb->_;cases y with|mk l;match l with|[x,k1,k2,k3,o,k5]=>exact λh=>by have z:=QY (nJ h);subst z;exact#[x,k1,k2,k3,k5,rfl]|[]|[_]|[_,_]|[_,_,_]|[_,_,_,_]|[_,_,_,_,_]|_::_::_::_::_::_::_::_=>exact λh=>eN h QD
theorem N0{l:LW}(h:Rq l=jb):l=FN:=by match l,h with|[a,b,c,d],h=>let#[u,y]:=jA (show (mV (jy a) "ValueError" && (mV (jy b) "Exception" && (mV (jy c) "BaseException" && mV (jy d) "object")))=jb from h);let#[y,x]:=jA y;let#[x,z]:=jA x;rw[QY (lJ u),QY (lJ y),QY (lJ x),QY (lJ z)];rfl|[],h|[_],h|[_,_],h|[_,_,_],h|_::_::_::_::_::_,h=>exact eN h QD
theorem mj{W C:j2}{l:LW}(h:oj W C l=jb):l=.ref C::IE W C:=by unfold oj at h;split at h;let#[u,x]:=jA h;have e:=Qi u;subst e;unfold IE;split at x;rename_i e;rw[ef e,N0 x];rename_i e;rw[eH e];unfold Uu at x;split at x;let#[z,y]:=jA x;rw[Qi z,N0 y];cases x;cases h
theorem fX{o:Option j2}{a:j2}(h:Sj o a=jb):o=jy a:=by unfold Sj at h;split at h;rw[Qi h];cases h
theorem Xb{W C:j2}{x:Str}{o:Option Obj}(h:xj W C x o=jb):(∃nm q N bs u sub e y b a k1 k2 k3 k5,o=jy (excClassObj nm q C N bs (IE W C) jb u sub e y b a k1 k2 k3 k5 "ValueError.__new__"))/\o.any (L2.L3.clsNm x)=true:=by
 unfold xj at h;split at h;rename_i t b cd sl;let#[r,h]:=jA h;let#[p,h]:=jA h;let#[n,h]:=jA h;let#[m,h]:=jA h;let#[l,j]:=jA h;let#[nm,bs,mro,i,g,hd,u,sub,e,y,z]:=cd;let#[a,k1,k2,k3,k5,rfl]:=Lm l;have Y:=Qi r;have f:=mj p;have s:z=false:=by simpa using m
 have X:hd=true:=n;simp only at f;subst Y f X s;exact#[#[nm,g,i,bs,u,sub,e,y,b,a,k1,k2,k3,k5,rfl],j];cases h
theorem Xe{K:QC}{C:j2}{x:Str}(h:Ot K (Q.wOf K) (Q.iOf K) C x=jb):((K.lookup (L2.L3.wOf K)).any (L2.L3.clsNm "WorldError")=jb->ExC K C x)/\L2.L3.clsAt K x=jy C/\(K.lookup C).any (L2.L3.clsNm x)=true:=by unfold Ot at h;let#[n,h]:=jA h;let#[m,h]:=jA h;let#[l,h]:=jA h;let#[j,h]:=jA h;let#[i,h]:=jA h;let#[g,h]:=jA h;let#[f,h]:=jA h;let#[e,h]:=jA h;let#[b,y]:=jA h;let#[u,z]:=Xb n;exact#[λa=>#[#[u,S6 m,lJ l,nJ j,nJ i,dX g,dX f,nJ e,b],fX y,z,a],fX y,z]
theorem Kr{K:QC}(h:sH K "WorldError"=jb):(K.lookup (L2.L3.wOf K)).any (L2.L3.clsNm "WorldError")=true:=by
 unfold sH at h;split at h;rename_i C hC;let#[_,e,o]:=Xe h;have:L2.L3.wOf K=C:=by unfold L2.L3.wOf;rw[e];rfl
 rw[this];exact o;cases h
theorem C2{K:QC}{x:Str}(h:sH K x=jb)(y:sH K "WorldError"=jb):tN K x (ZH x):=by have w:=Kr y;unfold sH at h;split at h;rename_i C hC;exact#[.ref C,.ref C,hC,rfl,λF=>.cls ((Xe h).1 w)];cases h
noncomputable def bu:Nat->(LW->Prop)->Prop
 |0,p=>p []|n+1,p=>∀u,bu n λh=>p (u::h)
theorem Ur:∀{n:Nat}{p:LW->Prop},bu n p->∀us:LW,us.length=n->p us
 |0,_,h,us,e=>by rw[Wt.mp e];exact h|_+1,_,_,[],e=>nomatch e
 |_+1,_,h,u::us,e=>Ur (h u) us (Wj e)
def xw(x q:Str)(st:vl)(ps:LS):Prop:=∀(kV h u:j0) (b:Option j2) (y a:j0),bu ps.length λz=>Hx (qP x q (bC st) (VB st) (nA st) .none kV h u b y a) #[z,[]]=ez (ps.zip z)
theorem lc{K:QC}{P:Kz}{w:kl}{z:Str->Option j0}{x:kt}{st:vl}(h:eL K=dI st)(y:(dI st).isSome=jb)(B:IniB st)(u:z "ValueError"=jz)
  (g:xw "__init__" "WorldError.__init__" st ["self","words","place"]):PZ P w K z x:=by
 have hd:dI st=jy (e7 (qP "__init__" "WorldError.__init__" (bC st) (VB st) (nA st) .none .none .none .none jz .none .none) jb):=by by_cases k:st.ctorIdx=0;exact @WE (λst=>dI st=jy (e7 (qP "__init__" "WorldError.__init__" (bC st) (VB st) (nA st) .none .none .none .none jz .none .none) jb)) st k λ_ _ _ _ _ _ _ _ _ _=>rfl;unfold dI at y;rw[dif_neg k]at y;cases y
 rw[hd]at h;unfold eL at h;split at h;rename_i hl;let#[i,F]:=t7 hl (QY h);exact#[_,λk=>uk F B u,F.binds λa b c d e f=>Ur (g a b c d e f)];cases h
noncomputable def Dl:List (Str×D):=tT.map (λp=>(p.1,.tuple p.2))++(sT++cT.map λx=>(x,ZH x))
structure Cx(P:Kz)(w:kl)(K:QC)(h:kt)(mg:Str->Option j0):Prop where
 X:K.In h
 G:h.Ns ke mg
 V:∀p∈Dl,tN K p.1 p.2
 B:∀p∈dT,BN w K p.1 p.2
 N:∀y∈nT,qp K ke y=jy jz
 D:∀p∈fT,GT K p.1 (top p.2)
 er:∀base,PZ P w K mg base
theorem KF{α:Type}{d:α}:∀{l:List α}{i:Nat},QDY i l.length=jb->l.getD i d∈l
 |[],_,h=>nomatch h
 |_::_,0,_=>.head _|_::_,_+1,h=>.tail _ (KF (Nat.blt_eq.mpr (Nat.lt_of_succ_lt_succ (Nat.blt_eq.mp h))))
theorem Y6{α:Type}{l:List (Str×α)}{p:Str×α}(y:(l.map wK).Nodup)(h:p∈l):l.lookup p.1=jy p.2:=by
 induction l with|nil=>cases h|cons a l u=>let#[x,s]:=a;rw[QN,wC]at y;rw[Qg];rcases QR.mp h with rfl|h;rw[beq_self_eq_true];have e:p.1∈l.map wK:=QB0 h;have b:(p.1==x)=false:=beq_eq_false_iff_ne.mpr λz=>y.1 (by rw[<- z];exact e);rw[b];exact u y.2 h
theorem Zj{α:Type}{a:α}{g:Str}:∀(l:LS) (r:List α) (i:Nat),g≠l.getD i ""->(l.zip (r.set i a)).lookup g=(l.zip r).lookup g
 |[],_,_,_=>rfl|_::_,[],_,_=>rfl|x::l,s::r,0,h=>by have h:g≠x:=h;show wa g ((x,a)::l.zip r)=wa g ((x,s)::l.zip r);rw[Qg,Qg,beq_eq_false_iff_ne.mpr h]|x::l,s::r,i+1,h=>by show wa g ((x,s)::l.zip (r.set i a))=wa g ((x,s)::l.zip r);rw[Qg,Qg,Zj l r i h]
noncomputable def ue:LS:=fT.map wK
noncomputable def fx(i:Nat):Str×Nat:=fT.getD i ("",0)
noncomputable def tbl(r:List PSp):PEv:=Kd (ue.zip r) Dl dT
theorem gG{r:List PSp}(i:Nat)(h:autoParam (QDY i Dl.length=true) zzr._auto_1):(tbl r).va (Dl.getD i ("",.none)).1=jy (Dl.getD i ("",.none)).2:=Y6 (vD (by kernel_rfl)) (KF h)
theorem zN{r:List PSp}(i:Nat)(h:autoParam (QDY i dT.length=true) zzr._auto_1):(tbl r).dc (dT.getD i ("",[])).1=jy (dT.getD i ("",[])).2:=Y6 (vD (by kernel_rfl)) (KF h)
theorem Hm{r:List PSp}(x:VG ((ue.zip r).map wK)=jb)(i:Nat)(h:QDY i (ue.zip r).length=jb):(tbl r).sp ((ue.zip r).getD i ("",Hl)).1=((ue.zip r).getD i ("",Hl)).2:=by show(wa _ _).getD Hl=_;rw[Y6 (vD x) (KF h)];rfl
noncomputable def nB(n:Need)(fs:LS):Bool:=n.fn.all (λx=>fs.contains x)&&((n.va.all λx=>(Dl.map wK).contains x)&&((n.dc.all λx=>(dT.lookup x).isSome)&&n.no.all (λx=>nT.contains x)))
section
variable{P:Kz}{w:kl}{K:QC}{h base:kt}{mg:Str->Option j0}{r r':List PSp}{R:PSp}{u:LS}{k:Nat}{b:PT}{n:Need}{N ps:LS}
theorem np{Ψ:PEv}(h:∀ts Q (E:XE),R.run ts Q E->ts.length=ps.length/\pF Ψ b (sC R ps.length Q) (OA N R.md ts)):∀ts Q E,R.run ts Q E->ts.length=ps.length/\∃E':XE,(∀x,E' x->E x)/\eB Ψ E' b (sC R ps.length Q) (OA N R.md ts) :=
 λts Q E z=>#[(h ts Q E z).1,_,λ_ z=>z.elim,(h ts Q E z).2]
theorem hv(C:Cx P w K h mg)(A:∀g∈u,gE P w K mg base (tbl r) (k+2) g)(i:Nat)(ZB:MB n b N ps (top (fx i).2)=jb)
  (body:∀ts Q E,R.run ts Q E->ts.length=ps.length/\∃E':XE,(∀x,E' x->E x)/\eB (tbl r) E' b (sC R ps.length Q) (OA N R.md ts)) (p:(tbl r').sp (fx i).1=R) (hc:autoParam (bK (yC 0 R.md ps.length) b=true) zzk._auto_1)
  (o:xw (fx i).1 (fx i).1 (top (fx i).2) ps:=by(repeat intro _);rfl)
  (z:autoParam (nB n u=true) zzk._auto_1) (l:autoParam (QDY i fT.length=true) zzr._auto_1):gE P w K mg base (tbl r') (k+3) (fx i).1:=by
 let#[Z,z]:=jA z;let#[Y,z]:=jA z;let#[s,q]:=jA z;exact g7 C.X C.G (C.D _ (KF l)) ZB hc (λa b c d e f=>Ur (o a b c d e f)) (λg m=>A g (CP Z g m)) (xW C.X C.G C.V C.B Y s) (λy j=>C.N y (CP q y j)) (λ_=>#[QDZ 2 k,C.er base]) body p
theorem hc(A:∀g∈u,gE P w K mg base (tbl r) (k+2) g){x:Str}(Z:gE P w K mg base (tbl r) (k+3) x):∀g∈x::u,gE P w K mg base (tbl r) (k+1+2) g:=by intro g y;rcases QR.mp y with rfl|y;exact Z;exact(A g y).mono (QBo _)
theorem hl(C:Cx P w K h mg)(A:∀g∈u,gE P w K mg base (tbl r) (k+2) g){x q:Str}{st:vl}{f:j2}{a:vy}(F:Fun K x q st f a)(ZB:MB n b N ps st=jb)
  (body:∀ts Q E,R.run ts Q E->ts.length=ps.length/\∃E':XE,(∀x,E' x->E x)/\eB (tbl r) E' b (sC R ps.length Q) (OA N R.md ts)) (hc:autoParam (bK (yC 0 R.md ps.length) b=true) zzk._auto_1) (z:autoParam (nB n u=true) zzk._auto_1):FnOk P w K mg base (T8 P w K) (k+3) f a ps (lift K R):=by
 let#[o,z]:=jA z;let#[m,z]:=jA z;let#[l,j]:=jA z;exact pX F ZB hc (λg i=>A g (CP o g i)) (xW C.X C.G C.V C.B m l) (λy e=>QAk C.X C.G (C.N y (CP j y e))) (λ_=>#[QDZ 2 k,C.er base]) body
theorem Dp(X:K.In h)(G:h.Ns ke mg)(e:seen K=due w)(c:seenC K=dueC)(W:(fT.all λp=>(PM p.1 (top p.2)).isSome)=jb)(Z:(tT.all λp=>decide (p.2.length<=1000))=jb)(A:(dT.all λp=>VG (p.2.map wK)&&p.2.all λp=>dU p.2)=jb)
  (B:cT.contains "WorldError"=jb) (er:(∀y∈nT,mg y=jz)->eL K=dI Zs->∀base,PZ P w K mg base):Cx P w K h mg:=by
 injection e with m e;injection e with l e;injection e with j e;injection e with i g;injection c with a c2;have m:=ww.mp m;have l:=ww.mp l;have j:=ww.mp j;have i:=ww.mp i;have g:=ww.mp g;have a:=ww.mp a;have o:∀y∈nT,qp K ke y=jy none:=λy f=>Y9 (i y f);refine#[X,G,λp z=>?_,λp z=>?_,o,λp z=>B2 (m p z) (Qo.mp W p z),er (λy f=>QAk X G (o y f)) c2];rcases Qy.mp z with z|z
 ·let#[q,s,rfl]:=Qm.mp z
  have:=ei (Qo.mp Z q s);exact U2 (l q s) ()
 rcases Qy.mp z with z|z
 ·exact Th (j p z)
 let#[x,Y,rfl]:=Qm.mp z;exact C2 (a x Y) (a _ (QW.mp B));let#[E,C]:=jA (Qo.mp A p z);exact gY (g p z) E C
end
end L2.L3
namespace L2.L3.K3
open PySem PySem.W PySem.Spec PyProof.Rows L2 L2.L3 L2.L3.Lib L2.L3.Q
noncomputable def Cd:List PSp:=[ID,ZC,GC,dD,FF,MI,OL,PL,GP,DF,dH,gD,HE,pC,kD,rE,PC,xC,tG,CF,aG,yF,FC,VD,RH,KD,HD,xY GB [.xx],ME,TB,fH,vQ]
theorem eA(i:Nat)(h:autoParam (QDY i (ue.zip Cd).length=true) zzr._auto_1):(tbl Cd).sp ((ue.zip Cd).getD i ("",Hl)).1=((ue.zip Cd).getD i ("",Hl)).2:=Hm (by kernel_rfl) i h
theorem Yd:RX (tbl Cd):=by intro x h;simp only[QR,qK,or_false]at h;rcases h with rfl|rfl|rfl|rfl|rfl|rfl|rfl<;>kernel_rfl
theorem all{P:Kz}{w:kl}{K:Frag}{h:kt}{y:Str->Option j0}{b:j2}(C:Cx P w K h y)(z:y "law"=jy (.ref b)) :
  ∃a:vy,(∀(s:j3) (u:j0),hR s a #[[u],[]] [("_law_script",u)])/\∀x:kt,K.In x->x.Ns ke y->FnOk P w K y x (T8 P w K) 34 b a ["_law_script"] (lift K vQ):=by
 refine Uj C.X C.G (C.D (fx 31) (KF rfl)) rfl z (eA 31) (λ_ _ _ _ _ _ e hl=>by let#[u,rfl]:=List.length_eq_one_iff.mp hl;rfl) λx j i f a F _=>?_;have A:∀g∈([]:LS),gE P w K y x (tbl Cd) (0+2) g:=nofun;have A:=hc A (hv C A 0 BZ (np Kb) (eA 0));have A:=hc A (hv C A 1 XZ (np (Jb (eA 0))) (eA 1));have A:=hc A (hv C A 2 IN (np SR) (eA 2));have A:=hc A (hv C A 3 UZ (np (Yb (eA 2))) (eA 3));have A:=hc A (hv C A 4 EQ (np (CU (eA 1))) (eA 4));have A:=hc A (hv C A 5 HV (np (G5 (eA 1) (eA 2) (eA 3))) (eA 5));have A:=hc A (hv C A 6 FV (np (B5 (eA 0) (eA 1) (eA 3) (eA 4) (eA 5))) (eA 6));have A:=hc A (hv C A 7 GV (np D5) (eA 7));have A:=hc A (hv C A 8 T7 (np zj) (eA 8));have A:=hc A (hv C A 9 AQ (np BU) (eA 9));have A:=hc A (hv C A 10 SS (np (XY (eA 0))) (eA 10));have A:=hc A (hv C A 11 cL (np (NN Yd)) (eA 11));have A:=hc A (hv C A 12 MS (np LR) (eA 12));have A:=hc A (hv C A 13 jO (np ON) (eA 13));have A:=hc A (hv C A 14 MV (np (VU (eA 13) (gG 3) (gG 5))) (eA 14));have A:=hc A (hv C A 15 OV (np (UU (eA 14) (gG 0))) (eA 15));have A:=hc A (hv C A 16 TQ (np (rQ (eA 13) (gG 4) (gG 6))) (eA 16));have A:=hc A (hv C A 17 pK (np (uK (eA 16))) (eA 17));have A:=hc A (hv C A 18 NS (np (MR (eA 15) (eA 14) (eA 17) (gG 1) (zN 1))) (eA 18));have A:=hc A (hv C A 19 SQ (np (oQ (eA 18))) (eA 19));have A:=hc A (hv C A 20 ES (np (TR (zN 0) (gG 7))) (eA 20));have A:=hc A (hv C A 21 yO (np (PN (zN 2))) (eA 21));have A:=hc A (hv C A 22 VZ (UY (eA 12) (eA 19) (eA 20) (eA 21) (gG 10)) (eA 22));have A:=hc A (hv C A 23 RS (np PR) (eA 23));have A:=hc A (hv C A 24 NV (np (XU (eA 23))) (eA 24));have A:=hc A (hv C A 25 OS (np (NR (gG 8))) (eA 25));have A:=hc A (hv C A 26 dL (np (kL (eA 23) (eA 25) (zN 4) (zN 5))) (eA 26));have Z:=hv (r':=Cd.set 27 GB) C A 27 IQ (sQ (eA 24) (eA 26) (zN 3) (gG 2) (gG 11)) (by kernel_rfl);have A:=hc A (gE.tmp (md:=[.xx]) (Ψ':=tbl Cd) Z (by kernel_rfl) rfl (by kernel_rfl));have A:=hc A (hv C A 28 IS (np (ER (eA 25) (gG 8))) (eA 28));have A:=hc A (hv C A 29 EN (MN (eA 22) (eA 27) (eA 28) (zN 3)) (eA 29));have A:=hc A (hv C A 30 AS (np (BY (eA 29) Yd)) (eA 30));exact hl C A F Yk (np (kj (eA 6) (eA 7) (eA 29) (eA 0) (eA 3) (eA 8) (eA 9) (eA 10) (eA 11) (eA 30)))
theorem Eo:IniB Zs:=#[#[_,_,_,_,_,_,_,_,_,_,rfl,rfl],HG (by kernel_rfl),by kernel_rfl,by kernel_rfl,by kernel_rfl,by kernel_rfl]
theorem fin{w:kl}{y:Str->Option j0}{b:j2}{h:kt}{K:Frag}(X:K.In h)(e:seen K=due w/\seenC K=dueC)(G:h.Ns ke y)(z:y "law"=jy (.ref b)) :
  ∃a:vy,(∀(s:j3) (u:j0),hR s a #[[u],[]] [("_law_script",u)])/\∀x:kt,K.In x->x.Ns ke y->FnOk QZ w K y x (T8 QZ w K) 34 b a ["_law_script"] (lift K vQ) :=
 all (Dp X G e.1 e.2 (by kernel_rfl) (by kernel_rfl) (by kernel_rfl) (by kernel_rfl) λn c x=>lc c (by kernel_rfl) Eo (n _ (QW.mp (by kernel_rfl))) (by(repeat intro _);rfl)) z
noncomputable def hk:Hook:=#[U8×B8,λs=>(seen (fr s),seenC (fr s)),λw=>(due w,dueC),λw h=>∃K:Frag,K.In h/\seen K=due w/\seenC K=dueC,λ_ _ e=>#[_,rV _,(Wg e).1,(Wg e).2],λ_ _ _ #[K,X,e] k=>#[K,X.keeps k,e]]
theorem left:LeftO QZ qv ls xt (Hook.obs hk) (Hook.val hk) 6218:=λw=>by have e:=World.withFollow_self w "special-get-raises";cases z:w.params.followText "special-get-raises"<;>rw[z]at e;have y:=Rc w;have x:=Hc w;have h:=Kc w;unfold ends at y x h;rw[e]at y x h;exact oM y x h;have y:=yl w;have x:=Sk w;have h:=Kk w;unfold ends at y x h;rw[e]at y x h;exact oM y x h
end L2.L3.K3
open PySem PySem.W PyProof.Rows
set_option maxRecDepth 100000 in
set_option maxHeartbeats 0 in
theorem PySem.Challenge.cw_quoteweave_k07_misplaced_holds : PySem.Challenge.rw_quoteweave_k07_misplaced.Holds := by
 refine holds_law (by kernel_rfl) λy=>?_;refine holds_open (q:=L2.L3.Q.qv) (loose:=L2.L3.Q.ls) (Xt:=L2.L3.Q.xt) (XP:=XL L2.L3.Q.qv []) (Yf:=Hook.obs L2.L3.K3.hk) (Ya:=Hook.val L2.L3.K3.hk) (YP:=Hook.says L2.L3.K3.hk) (N:=6218) L2.L3.K3.left (Hook.of L2.L3.K3.hk) (Hook.keeps L2.L3.K3.hk) (λs e=>xl_of s (QAL.mp e).1) XL.keeps (by rfl) (by rfl) (by rfl) (λs e=>recFacts_of (QAL.mp e).2) (by rfl) (by first|assumption|decide +kernel) (by decide +kernel) ⟨rfl,rfl,rfl,rfl,rfl,by decide +kernel⟩ ?hw ?hc
 case hw=>w_witness2
 case hc=>exact L2.L3.walk_seenW (l:=qg) (k:=34) (x:="_law_script") (Fs:=λw K=>L2.L3.Q.seen K=L2.L3.Q.due w/\L2.L3.Q.seenC K=L2.L3.Q.dueC) rfl rfl ⟨rfl,by decide,by decide⟩ (λw h Y=>Y) λw z u h K X e G m=>L2.L3.K3.fin X e G m
