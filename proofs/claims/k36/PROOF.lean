import PyProof.Rows.All
import Wide.All
import OpenK.AllK
import Wide.FinOn
import Lean
import PyProof.EqAt
import PyProof.EqKinds
import PyProof.TupleCall
import PySem.Challenge.RW_quoteweave_k36_whole_told_in_any_order
noncomputable section
set_option Elab.async false
set_option linter.all false
set_option genInjectivity false
set_option genSizeOf false
set_option maxRecDepth 100000
set_option maxHeartbeats 4000000
open PySem.W renaming Frag->QA,nsIn->qm,fnOf->qp,keepIn->wK,mg_of->WU,codeIn->Wg,WData->W0,codeHd_of_K->QAI,mg_none_of->QAQ,methodObj->QAc,codeHdIn->QAt,cellsFrom_some->QAy,tabObj->QBT
open PySem.PyData renaming str->Jx,int->Jy
open PySem.Value renaming none->Jz,ref->jx
open PySem renaming wpAny_bind->QC,wpAny_pure->QK,wpAny_newObj_type->Q0,wpAny_loadPart'->Q5,sizeLine_eq->qA,wpAny_call_entry->qL,mem_of_lookup->qN,wpAny_callSpecial?_slot->qO,Spec->qa,wpAny_holding->qk,wpAny_typeNameOfWhole_itemiter->qr,wpAny_mono->qt,wpAny_typeNameOfWhole_keyiter->qy,wpAny_dictEntries->q0,wpAny_setField_rec->wI,wpAny_field->wM,wpAny_truthy_bool->wR,wpAny_passesOwn->wT,wpAny_Call_Name_kw->wm,wpAny_dictEpoch->ww,wpAny_isOneOf_itemiter->WX,wpAny_notOrdered_dict->Wi,wpAny_attempt->Wz,wpAny_execs_nil->W5,codeAny_builtin->W7,wpAny_setField->QAY,wpAny_fieldsOf->QAZ,wpAny_pyIter_list->QAf,seqIndex_of->QAl,wpAny_Call_method0_late->QAm,wpAny_newList->QAn,wpAny_isInstance->QAv,wpAny_eqBool_int->QAw,wpAny_isOneOf_keyiter->QA9,wpAny_Name->QBF,wpAny_loadName_local->QBH,wpAny_newFunctionEnv->QBI,wpAny_seqItems->QBP,wpAny_newTuple->QBR,wpAny_loadName_free->QBU,wpAny_Tuple_spliced->QBV,evalArgs_none->QBW,wpAny_setItem_pairs->QBX,wpAny_Constant_int->QBl,wpAny_standAt->QBm,wpAny_handled->QBq,wpAny_pyIter_tuple->QBr,plainId_quiet->QBs,wpAny_assign_Name->QBu,slot_list_getitem->QBx,call_meets->QBy,wpAny_rule->QB0,wpAny_pyIter_slot->QB1,wpAny_pyIter_enum->QB5,codeAny_mono->QB9,wpAny_typeOf->QCA,seqIndex_neg->QCB,wpAny_pyHash_str->QCE,wpAny_forIn_list->QCF,wpAny_execs_cons->QCG,wpAny_of_eq->QCO,wpAny_throw->QCP,storedH_new->QCQ,typeIs_str->QCT,Str->QCV
open List renaming length_map->QD,mem_cons_of_mem->QE,mem_cons_self->QF,length_append->QI,mem_singleton->QJ,mem_cons->QL,length_cons->QM,size_toArray->QN,map_append->QO,map_map->QS,mem_map->QU,map_cons->QV,getElem?_map->QX,mem_filter->QZ,mem_append_right->Qb,getElem?_eq_getElem->Qe,getElem?_eq_some_iff->Qf,nil_append->Qg,mem_append->Qh,nodup_cons->Qi,range->Qj,getElem?_eq_none->Qk,mem_append_left->Qp,append_assoc->Qu,length_range->Qv,all_eq_true->Qw,toArray->Q2,nodup_nil->Q7,length_filter_le->Q8,isEmpty_iff->Q9,append_nil->qB,contains_iff_mem->qF,mem_range->qG,filter_sublist->qH,length_singleton->qI,getElem?_append_right->qJ,map_congr_left->qK,getElem?_set_ne->qP,mem_of_getElem?->qQ,getElem?_append_left->qR,ext_getElem?->qU,length_set->qY,getElem?_set_self->qd,nodup_append->qh,all_cons->ql,length_replicate->qq,length->qw,getElem?_set->wA,find?_cons->wC,getElem?_range->wE,getD_eq_getElem?_getD->wG,mem_flatMap->wH,length_nil->wQ,getElem?_cons_succ->wa,getElem?_replicate->wc,length_take->wg,lookup_cons->wj,getElem_mem->wk,map_inj_right->wn,any_cons->wy,pairwise_map->wz,set->w4,pairwise_iff_getElem->WA,map_snd_zip->WC,not_mem_nil->WD,filter_cons->WE,filterMap_cons->WF,map_nil->WH,drop_eq_nil_of_le->WY,length_pos_of_mem->WZ,flatMap_cons->Wc,map_inj_left->Wf,mem_iff_getElem?->Wl,length_drop->Wm,map_fst_zip->Wq,any_eq_true->Wr,getElem?_modify->Wt,forIn_cons->W4,not_lt->QAB,foldl_cons->QAE,mergeSort_perm->QAG,zip_cons_cons->QAP,replicate->QAU,drop_eq_getElem_cons->QAa,length_erase_of_mem->QAg,foldl_append->QAh,getElem?_cons_zero->QAj,map_id->QAq,pairwise_mergeSort->QAr,cons_append->QAs,length_eq_one_iff->QA2,modify_succ_cons->QA3,modify_zero_cons->QA4,of_mem_zip->QA5,Perm->QBB,map_set->QBD,getElem?_zipIdx->QBL,mem_erase_of_ne->QBM,forIn_nil->QBQ,mem_map_of_mem->QBa,set_cons_zero->QBe,set_cons_succ->QBf,mem_filterMap->QBn,take_sublist->QBv,mapM_toArray->QB2,getElem?_inj->QB4,any_map->QCD,nodup_range->QCK,lookup->QCM,filter_map->QCS,getD->QCW
open Bool renaming false_ne_true->QG,and_eq_true->Qd,false_eq_true->Qr,not_eq_true'->Q1,eq_iff_iff->Q4,not_false->w8,true_and->WK,or_eq_true->WS,and_eq_true_iff->Wv,not_true->Ww,false_and->QAS,false_or->QAk,and_false->QBO,and_true->QBg,or_false->QBh,or_true->QB7,true_or->QB8
open PySem.Heap renaming get?_push_of_some->QH,get?_push_size->QT,lt_size->Qa,SameBut->qV,get?_update_self->wt,ExtBut->W6,size_push->QAV,get?_update_other->QAz,get?_push_cases->QBK,size_update->QCJ,IsList->QCN
open PySem.Str renaming ofString->QR
open Nat renaming le_refl->QW,le_trans->QY,ne_of_lt->Qn,lt_of_lt_of_le->Qo,zero_le->Qt,lt_irrefl->qj,le_succ->wB,lt_of_succ_lt_succ->wF,ne_of_gt->wo,le_of_eq->wv,zero_add->WG,lt_of_le_of_lt->WL,min_eq_left->WV,lt_succ_of_lt->Wa,succ_le_succ->Wn,le_of_not_lt->Wo,le_of_lt->QAN,le_add_right->QAx,lt_or_ge->QA6,not_lt_zero->QBA,blt->QCU
open False renaming elim->Qc
open Array renaming length_toList->Ql,perm_iff_toList_perm->Q3,getElem?_toList->wu,toList_inj->WB,getD_eq_getD_getElem?->QAA,getElem?_eq_some_iff->QAM,getElem?_eq_none->QA1,getD->QBG,toList_append->QBd,forIn_toList->QBi
open PySem.Challenge renaming pw_quoteweave_k36_whole_told_in_any_order->Qm,rw_quoteweave_k36_whole_told_in_any_order->Qz
open Option.some renaming injEq->Qq,inj->Qs
open PySem.PyData renaming eqv->Qx,strOk->qW,canLayAll0->qi,depthAll->wX,canLay0->QAX,depth->QA7,noConfusion->QBp
open Option renaming map_some->Qy,map_none->wY,getD_some->Wp,isNone_iff_eq_none->QAb,isSome_map->QAe,getD_none->QCH
open PySem.Paired renaming length->Q6
open PySem.Heap.SameBut renaming update->qC
open Ne renaming symm->qD
open PySem.Obj renaming mapSeq->qE,data_mapFields->WP,isFreed_of_fields->QA8,data_mapDictKeys->QBJ,cls_mapFields->QBz
open Int renaming toNat_natCast->qM,eq_ofNat_of_zero_le->qZ,emod_lt_of_pos->wJ,lt_irrefl->wf,emod_nonneg->wx,le_trans->QAR,ofNat_le->QBE,le_refl->QBb,natCast_nonneg->QBt,toNat->QCX
open PySem.Builtin.SmallTypes renaming nextOf->qS
open PySem.F renaming slot_dict_itemiterator_next->qT,slot_dict_keyiterator_next->qX,slot_tuple_iterator_next->qb,args_tuple_iterator_next_1->WJ,entry_tuple_iterator_next->WO,plainAttrs_list->WT,args_dict_itemiterator_next_1->Wb,entry_dict_itemiterator_next->Wh,args_dict_keyiterator_next_1->Wk,entry_dict_keyiterator_next->Ws,slot_dict_getitem->QAW,plainAttrs_dict->QAp,slot_dict_items_iter->QA0,plain_list_iadd->QB6,slot_dict_iter->QCI
open LawfulBEq renaming eq_of_beq->qe
open PyProof.Rows renaming subscriptTail_builtinR->qf,slot_tuple_getitem->wV,callWith_type1->wq,listUpdate_at->WQ,get?_update_seq->W9,slot_tuple_getitem->QAO,sortedAll_old->QAo,sortedAll_at->QBC,seqEpoch_at->QBY,lt_int->QBZ,getItem_tuple->QBo,Subscript_->QBw,listItems_at->QCC
open PySem.SeqAt renaming EqAt->qg,eqv_refl->QBN
open Prod renaming fst->qu,ext->QCL
open Lean.Parser.Tactic renaming tacticSeq->qz
open PySem.Builtin.Slice renaming slicePlaces->wL,sliceAdjust->w9,sliceApplied->QAL
open PySem.Builtin.Dict_items renaming addrOf->wN,ownsTuple->Wx
open Classical renaming byContradiction->wO
open PySem.Builtin.Tuple renaming tupleExact->wW,tupleItemsOf->QAJ,tupleHashOf->QAT
open List.Pairwise renaming imp_of_mem->wZ,map->We
open PySem.Builtin.Str renaming occurrences->wb
open PySem.W.WData renaming weightAll->we,weight->Wu
open PySem.Txt renaming slice->wl
open PySem.Around renaming under_plainId->w6,in1_units->QAu
open PySem.Builtin.List renaming listTooLong->WI
open PySem.Builtin.Range renaming rangeSize->WM,small->QBc
open PySem.Calls renaming spliced_cons->WN,callWith_builtin->WW,Name_function_global->QAK,spliced_nil->QAd
open Iff renaming rfl->WR
open PySem.Builtin.Dict renaming showsAll->Wj
open Array.Perm renaming refl->W8
open List.cons renaming injEq->QAC
open PySem.Builtin.Int renaming intBits->QAD
open List.Perm renaming of_eq->QAF,eq_of_pairwise->QAi
open Prod.mk renaming inj->QAH
open PySem.P renaming lt_str->QBS
open PySem.SeqAt.EqAt renaming int_str->QBj,str_int->QBk
open PyProof.Rows.SortSt renaming mk'->QB3
open StateT renaming run_pure->QCR
theorem dF{p:Prop}[Decidable p](h:¬p):decide p=false:=_root_.decide_eq_false h
theorem dT{p:Prop}[Decidable p](h:p):decide p=true:=_root_.decide_eq_true h
abbrev HB:=List (PySem.Addr×PySem.Obj)
abbrev uC:=PySem.Value -> PySem.Shared -> Prop
abbrev lB:=PySem.Addr -> Prop
abbrev gC:=List (QCV×QCV)
set_option hygiene false in
local macro_rules | `(tactic| omega)=>do
 let f:=λ(s:String)=>(s.splitOn " ").toArray.map λx=>Lean.mkIdent x.toName
 let a<-(f "L2.szA L2.szB L2.szC L2.unA Nat.le_trans Nat.lt_of_le_of_lt").mapM λx=>`(qz| exact $x (by assumption) (by decide))
 let b<-(f "Nat.lt_of_lt_of_le Nat.lt_of_le_of_lt Nat.le_trans").mapM λx=>`(qz| exact $x (by assumption) (by assumption))
 let c<-(f "Nat.le_of_lt Nat.ne_of_lt Nat.ne_of_gt Nat.lt_succ_of_lt Nat.le_of_lt_succ L2.prA").mapM λx=>`(qz| exact $x (by assumption))
 let d<-(f "Nat.le_refl Nat.le_succ Nat.zero_le Nat.succ_pos").mapM λx=>`(qz| exact $x _)
 `(tactic| first|decide|assumption|exact L2.szL (by decide) $[| $a]* $[| $b]* $[| $c]* $[| $d]*|omega (config:={}) | (have:=PySem.sizeLine_eq;omega (config:={})))
set_option hygiene false in
local macro_rules
 | `(%[ $xs,*|1 ])=>do
  let mut r<-`(PX.nz)
  for x in xs.getElems.reverse do r<-`(PX.ny $x $r)
  return r
 | `(%[ $xs,*|2 ])=>do
  let mut r<-`(PT.nil)
  for x in xs.getElems.reverse do r<-`(PT.seq $x $r)
  return r
def zza:="zA De He A6 Ge Le Oe Ce T6 Fe Me Be xf Ke sf bf Np mf Zf Ve Jf Kf Xe gf S6 Op df KT ZT b7 af tf rf uf c7 ve R6 ue Xf l7 XT UT Pe vp j7 Ae Te Ee xp Se Re E6 Bv Gv Cv Fv Dv Lp Gp Xv Uv Fu Cu Du sv nv pv gv Cp Ou Lv Hv AW zo vo bv uv vv Iu Eu Au Tu Su Ru Pu Xp Vp Kp Zp Ie Lu Hu Mu bp yf dv Tt Vf Rp xj Ye Je fe oe ge ae se Cn Bn Ad Td Hd Go Lo Xu Oo No Pd Od C6 D6 DM Nd tu Bu cn bn gu Ff NZ Lk fu Ju Yu ou lu yl Tk ul Ab Ze Fd MB reduceIte"
def zzb:="tH fE cF XQ T.isD lockA VF lock kill lM Tg.ix bC IV FN jR isMut IU frzAt fV Ea PC.eq_1 PC.eq_2 TL.eq_1 TL.eq_2 TL.eq_3 TL.eq_4 L4 G4 D4 cI.eq_1 List.modify_succ_cons List.modify_zero_cons Option.map_some List.length_cons List.length_nil List.getElem?_cons_zero List.getElem?_cons_succ List.cons_append List.nil_append List.set_cons_zero List.set_cons_succ Nat.reduceAdd Nat.reduceSub Nat.zero_add Bool.and_true Bool.true_and Bool.not_true Bool.not_false Bool.or_true Bool.true_or Bool.or_false Bool.false_or Bool.and_false Bool.false_and if_true if_false Bool.false_eq_true true_and and_true false_implies ne_eq reduceCtorEq not_false_eq_true not_true_eq_false implies_true forall_const Int.reduceLT Int.reduceLE Int.reducePow Int.reduceNeg Nat.reducePow and_self eq_self Option.some.injEq Sl.own.injEq Sl.ky.injEq and_assoc decide_true decide_false"
set_option hygiene false in
local macro_rules | `(tactic| simp_arith [$ls,*])=>do
 let a<-(zza.splitOn " ").toArray.mapM λx=>`(Lean.Parser.Tactic.simpLemma| ↓ $(Lean.mkIdent x.toName):ident)
 let b<-(zzb.splitOn " ").toArray.mapM λx=>`(Lean.Parser.Tactic.simpLemma| $(Lean.mkIdent x.toName):ident)
 `(tactic| simp only [$ls,*,$a,*,$b,*])
set_option hygiene false in
local macro_rules | `(tactic| simp? [$ls,*])=>do
 let a<-(zza.splitOn " ").toArray.mapM λx=>`(Lean.Parser.Tactic.simpLemma| ↓ $(Lean.mkIdent x.toName):ident)
 let b<-(zzb.splitOn " ").toArray.mapM λx=>`(Lean.Parser.Tactic.simpLemma| $(Lean.mkIdent x.toName):ident)
 `(tactic| simp -implicitDefEqProofs only [$ls,*,$a,*,$b,*])
abbrev LS:=List QCV
abbrev LN:=List Nat
abbrev LJ:=List Int
abbrev LW:=List PySem.Value
namespace L2.L3.Q
open PySem PySem.W PySem.Spec PyProof.Rows
noncomputable def uq(x:List Addr)(h:Heap):QA:=x.filterMap λa=>(h.get? a).map λo=>(a,o)
noncomputable abbrev dq:=(Str×Str×Arguments×FuncBody×Scope)×(Addr×List (Str×Addr)×Value×Addr)×Bool
noncomputable def nk(h:FuncData)(b:Bool):dq:=((h.name,h.qualname,h.params,h.body,h.scope),(h.globals,h.closure,h.defaults,h.builtins),b)
noncomputable def lV(K:QA)(x:Str):Option dq:=match qm K mainGlobals x with
 |some (some (.ref f))=>(match K.lookup f with
  |some ⟨_,_,.func fd,_⟩=>some (nk fd (Wg K fd.code x&&wK K (.ref f)))|_=>none)
 |_=>none
noncomputable def VS(x:Str)(st:Stmt):Option dq:=match st with
 | .FunctionDef _ a b _ _ _ sc _ _ _=>some (nk (qp x x a b sc .none .none .none .none none .none .none) true)|_=>none
noncomputable def Ll:Value->Option Str
 | .str z _=>some z|_=>none
noncomputable def Af(K:QA)(x:Str):Option (List (Option Str)):=match qm K mainGlobals x with
 |some (some (.ref f))=>(match K.lookup f with
  |some ⟨.type t,_,.seq its _,_⟩=>if t="tuple" then some (its.toList.map Ll) else none|_=>none)
 |_=>none
noncomputable def Nr:Value->Option Int
 | .int i _=>some i|_=>none
noncomputable def Sf(K:QA)(x:Str):Option Int:=match qm K mainGlobals x with
 |some (some u)=>Nr u|_=>none
noncomputable def XU(K:QA)(x:Str):Bool:=match qm K mainGlobals x with
 |some none=>true|_=>false
noncomputable def GF(K:QA)(T:Addr):Bool:=(match qm K mainGlobals "going_order" with
 |some (some (.ref f))=>(match K.lookup f with
  |some ⟨_,_,.func fd,_⟩=>(match fd.code with
   | .ref c=>QAt K c T|_=>false)
  |_=>false)
 |_=>false)&&((match qm K mainGlobals "__builtins__" with
 |some (some (.ref b))=>(match K.lookup b with
  |some ⟨.type t,some d,.plain,_⟩=>t == "module" && (d==builtinsNs&&(b != builtinsNs&&(b != mainGlobals&&b != T)))|_=>false)
 |_=>false)&&((K.lookup T).isNone&&mainGlobals != T))
noncomputable def top(i:Nat):Stmt:=Qm.main.body.getD i (.Pass ⟨0,0,0,0⟩)
noncomputable def fT:List (Str×Nat):=([("_law_folded",36),("_law_draw",32),("_law_names",33),("_law_people",34),("_law_event",35),("_law_world",37),("going_order",16),("has_against",22),("rank_of",20),("floor_of",21),("is_taken",19),("seen_among",24),("wrong_among",23),("live_among",25),("edges_of",28),("seers_of",27),("add_way",6),("add_name",5),("rooms_of",4),("points_reached",7),("lay_chain",8),("name_behind",10),("chain_from",9),("full_names",11),("apart_chains",3),("told_through",14),("ground_alone",13),("needs_of",30),("holders_in",29),("held_among",26),("gone",17),("_law_walked",38),("wrong_pairs",18),("law",39)]:List (String×Nat)).map λp=>(QR p.1,p.2)
noncomputable def tT:List (Str×LS):=[("BEGIN",["","begin"])]
def sT:List (Str×Int):=[("WIDE",2)]
noncomputable def nT:LS:=(["any","enumerate","int","len","range","sorted","tuple"]:List String).map QR
noncomputable def qv:Program:={ Qm with main:={ Qm.main with body:=[1,2,3,4,5,6,7,8,9,10,11,13,14,16,17,18,19,20,21,22,23,24,25,26,27,28,29,30,32,33,34,35,36,37,38,39].map top } }
def tA:Addr:=84
noncomputable abbrev HX:=List (Option dq)×List (Option (List (Option Str)))×List (Option Int)×List Bool×Bool
noncomputable def seen(K:Frag):HX:=(fT.map λp=>lV K p.1,tT.map λp=>Af K p.1,sT.map λp=>Sf K p.1,nT.map (XU K),GF K tA)
noncomputable def due:HX:=(fT.map λp=>VS p.1 (top p.2),tT.map λp=>some (p.2.map some),sT.map λp=>some p.2,nT.map λ_=>true,true)
noncomputable def fr(s:Shared):Frag:=uq ((Qj 240).filter λa=>a != tA) s.heap
noncomputable def xt(s:Shared):Bool:=xlAt qv [] s&&recOk (RowW.records Qz.row.toRowW) s
noncomputable def ob(s:Shared):HX×Option Obj:=(seen (fr s),s.heap.get? tA)
theorem lf:LeftO Qm qv [] xt ob (λ_=>(due,some (tabObj #[]))) 2246:=by intro w;kernel_rfl
theorem ws:Qz.wellSaid=true:=by kernel_rfl
end L2.L3.Q
namespace L2
open PySem PySem.Spec PyProof.Rows
section
variable{n m:Nat}
theorem szL(h:n<=16777216):n<=sizeLine:=by rw[qA];exact h
theorem Pv(h:n<16777216):n<sizeLine:=by rw[qA];exact h
theorem Rv(h:n<=m)(k:m<=16777216):n<=sizeLine:=szL (QY h k)
theorem lw(h:n<=m)(k:m<16777216):n<sizeLine:=Pv (WL h k)
theorem gw(h:n<=m)(k:m<=16777216):0+n<=sizeLine:=by rw[WG];exact Rv h k
theorem fw{k c:Nat}(h:n+k<c)(l:m<=k):n+m<c:=WL (Nat.add_le_add_left l n) h
end
open PySem.SeqAt
inductive NK where
 |s (x:Str)|t (xs:List NK)
noncomputable instance:DecidableEq NK:=λ_ _=>Classical.propDecidable _
mutual
def UZ(h:Heap):NK->Value->Prop
 | .s x,v=>∃t,v=.str x t|.t ks,v=>∃a y,v=.ref a/\h.IsTuple a y/\NKvs h ks y.toList
def NKvs(h:Heap):List NK->LW->Prop
 |[],vs=>vs=[]|k::ks,vs=>∃v r,vs=v::r/\UZ h k v/\NKvs h ks r
end
mutual
def J4:NK->Nat
 | .s _=>0|.t h=>nkds h+1
def nkds:List NK->Nat
 |[]=>0|k::ks=>max (J4 k) (nkds ks)
end
mutual
def Ur(w:World):NK->Int
 | .s x=>hashStr w x|.t h=>reduceHash (QAT (nkhs w h))
def nkhs(w:World):List NK->LJ
 |[]=>[]|k::ks=>Ur w k::nkhs w ks
end
mutual
def vk:NK->Nat
 | .s _=>1|.t h=>nkts h+1
def nkts:List NK->Nat
 |[]=>0|k::ks=>vk k+nkts ks
end
theorem zW{h:Heap}{a:Addr}{xs x:Array Value}(p:h.IsTuple a xs)(q:h.IsTuple a x):xs=x:=by obtain⟨o,e,_,n,d⟩:=p;obtain⟨u,y,_,v,z⟩:=q;cases e.symm.trans y;cases d.symm.trans z;rfl
mutual
theorem Y4{h:Heap}:∀{k l:NK}{v:Value},UZ h k v->UZ h l v->k=l
 | .s x,.s y,v,⟨t,e⟩,⟨u,e'⟩=>by subst e;cases e';rfl|.s x,.t ls,v,⟨t,e⟩,⟨_,_,e',_⟩=>by subst e;cases e'|.t ks,.s y,v,⟨_,_,e,_⟩,⟨_,e'⟩=>by subst e;cases e'|.t ks,.t ls,v,⟨a,its,e,p,q⟩,⟨b,jts,e',p',q'⟩=>by subst e;cases e';cases zW p p';rw[nks_inj q q']
theorem nks_inj{h:Heap}:∀{ks ls:List NK}{vs:LW},NKvs h ks vs->NKvs h ls vs->ks=ls
 |[],[],_,_,_=>rfl|[],_::_,_,e,⟨_,_,e',_⟩=>by cases(show _=[] from e).symm.trans e'|_::_,[],_,⟨_,_,e',_⟩,e=>by cases(show _=[] from e).symm.trans e'|k::ks,l::ls,_,⟨v,r,e,p,q⟩,⟨v',r',e',p',q'⟩=>by cases e.symm.trans e';rw[Y4 p p',nks_inj q q']
end
mutual
theorem ER{h h':Heap}(k:∀a its,h.IsTuple a its->h'.IsTuple a its):∀{x:NK}{v:Value},UZ h x v->UZ h' x v
 | .s x,v,e=>e|.t ks,v,⟨a,its,e,p,q⟩=>⟨a,its,e,k a its p,nks_keeps k q⟩
theorem nks_keeps{h h':Heap}(k:∀a its,h.IsTuple a its->h'.IsTuple a its):∀{xs:List NK}{vs:LW},NKvs h xs vs->NKvs h' xs vs
 |[],_,e=>e|x::xs,_,⟨v,r,e,p,q⟩=>⟨v,r,e,ER k p,nks_keeps k q⟩
end
section
variable{prog:Program}{w:World}{E:uC}
mutual
theorem TW:∀(k:NK) (v:Value) (A:Around) (s:Shared) (Q:Int->Shared->Prop),UZ s.heap k v->A.units+J4 k<cLine->Q (Ur w k) { s with toks:=s.toks+vk k }->wpAny (model prog w) A (pyHash v) Q E s
 | .s x,v,A,s,Q,⟨t,e⟩,_,q=>by subst e;exact QCE q|.t ks,v,A,s,Q,⟨a,its,e,⟨o,ho,hc,n,hd⟩,hi⟩,h,q=>by subst e;have h:A.units+(nkds ks+1)<cLine:=h;refine PySem.W.pyHash_slot (T:="tuple") ⟨o,ho,hc⟩ F.slot_tuple_hash F.entry_tuple_hash (F.args_tuple_hash_1 _) (beq_builtin_none _) (.inr (by omega)) ?_;show wpAny _ _ (QAJ (.ref a) >>= _) _ _ s;refine QC (wpAny_tupleItemsOf ho hd ?_);refine QC ?_;rw[<- QBi];refine nk_loop ks its.toList A.in1 s #[] _ hi (by rw[QAu];omega) λb hb=>?_;show wpAny _ _ (retInt (QAT b.toList)) _ _ _;rw[hb];exact QC (wpAny_mkInt (QK ⟨_,_,rfl,by rw[Nat.add_assoc];exact q⟩))
theorem nk_loop:∀(ks:List NK) (vs:LW) (A:Around) (s:Shared) (b:Array Int) (Q:Array Int->Shared->Prop),NKvs s.heap ks vs->A.units+nkds ks<cLine ->
  (∀y,y.toList=b.toList++nkhs w ks->Q y { s with toks:=s.toks+nkts ks }) ->
  wpAny (model prog w) A (forIn vs b λx r=>do let h <- pyHash x;pure PUnit.unit;pure (ForInStep.yield (r.push h))) Q E s
 |[],vs,A,s,b,Q,e,_,q=>by subst e;exact QK (q b (qB _).symm)|k::ks,vs,A,s,b,Q,⟨v,r,e,p,p'⟩,z,q=>by subst e;have z:A.units+max (J4 k) (nkds ks)<cLine:=z;rw[W4];refine QC (QC (TW k v A s _ p (by omega) ?_));refine QC (QK (QK ?_));refine nk_loop ks r A _ _ Q p' (by omega) λy hb=>?_;have e:s.toks+vk k+nkts ks=s.toks+(vk k+nkts ks):=Nat.add_assoc _ _ _;have:=q y (by rw[hb,Array.toList_push,Qu];rfl);show Q y { s with toks:=s.toks+vk k+nkts ks };rw[e];exact this
end
end
theorem Jj{ks ls:List NK}{n m:Nat}(x:n=ks.length)(y:m=ls.length):((Qj (min n m)).all (λj=>decide (ks[j]?=ls[j]?))&&n==m)=decide (NK.t ks=NK.t ls):=by subst x y;rw[Q4,decide_eq_true_iff,Qd,Qw,beq_iff_eq];constructor;rintro⟨z,v⟩;congr 1;refine qU λj=>?_;by_cases u:j<ks.length;exact of_decide_eq_true (z j (qG.mpr (by omega)));rw[Qk (by omega),Qk (by omega)];intro h;injection h with h;subst h;exact⟨λ_ _=>dT rfl,rfl⟩
theorem BP{h:Heap}:∀{ks:List NK}{vs:LW},NKvs h ks vs->vs.length=ks.length
 |[],_,e=>by cases(show _=[] from e);rfl|_::_,_,⟨v,r,e,_,q⟩=>by rw[e,QM,QM,BP q]
mutual
theorem Z4:∀(k l:NK) (v u:Value) (A:Around) (s:Shared),UZ s.heap k v->UZ s.heap l u->A.units+J4 k<cLine->EqAt A s v u (decide (k=l))
 | .s x,.s y,v,u,A,s,⟨t,e⟩,⟨t',e'⟩,_=>by
  subst e e';have:=EqAt.str_str (A:=A) (s:=s) x t y t';have z:(x==y)=decide (NK.s x=NK.s y):=by rw[Q4,decide_eq_true_iff,beq_iff_eq];exact⟨λh=>h▸rfl,λh=>by injection h⟩
  rw[<- z];exact this
 | .s x,.t ls,v,u,A,s,⟨t,e⟩,⟨b,jts,e',p,_⟩,f=>by subst e e';rw[dF λh=>by cases h];exact EqAt.str_tuple x t p (by omega)|.t ks,.s y,v,u,A,s,⟨a,its,e,p,_⟩,⟨t,e'⟩,f=>by subst e e';rw[dF λh=>by cases h];exact EqAt.tuple_str y t p (by omega)|.t ks,.t ls,v,u,A,s,⟨a,its,e,p,q⟩,⟨b,jts,e',p',q'⟩,f=>by subst e e';by_cases w:a=b;subst w;cases zW p p';rw[nks_inj q q',dT rfl];exact EqAt.same _;have f:A.units+(nkds ks+1)<cLine:=f;refine EqAt.of_refs w ?_;have i:=BP q;have g:=BP q';rw[Ql]at i g;rw[<- Jj i g];refine RcAt.tuples p p' (by omega) λj n m=>?_;have:=nks_eq ks ls its.toList jts.toList A.in1 s q q' (by rw[QAu];omega) j (by rw[Ql];exact n) (by rw[Ql];exact m);simpa using this
theorem nks_eq:∀(ks ls:List NK) (vs us:LW) (A:Around) (s:Shared),NKvs s.heap ks vs->NKvs s.heap ls us->A.units+nkds ks<cLine->∀j (y:j<vs.length) (x:j<us.length),EqAt A s vs[j] us[j] (decide (ks[j]?=ls[j]?))
 |[],_,vs,us,A,s,e,_,_,j,y,_=>by cases(show vs=[] from e);cases y|_::_,[],vs,us,A,s,_,e,_,j,_,x=>by cases(show us=[] from e);cases x|k::ks,l::ls,_,_,A,s,⟨v,r,e,p,q⟩,⟨v',r',e',p',q'⟩,u,j,y,x=>by
  subst e e';have u:A.units+max (J4 k) (nkds ks)<cLine:=u;cases j with|zero=>have:=Z4 k l v v' A s p p' (by omega);have z:decide (k=l)=decide ((k::ks)[0]?=(l::ls)[0]?):=decide_eq_decide.mpr ⟨λh=>by rw[h];rfl,λh=>Qs h⟩;rw[<- z];exact this|succ j=>exact nks_eq ks ls r r' A s q q' (by omega) j (wF y) (wF x)
end
section
variable{prog:Program}{w:World}{A:Around}{E:uC}{s:Shared}
mutual
theorem TR:∀(k:NK) (v:Value) (n:Nat) (Q:Bool->Shared->Prop),UZ s.heap k v->J4 k<=n->Q true s->wpAny (model prog w) A (eqIsQuiet n v) Q E s
 | .s x,v,n,Q,⟨t,e⟩,_,q=>by subst e;rw[eqIsQuiet_byValue _ rfl];exact QK q|.t ks,v,n,Q,⟨a,its,e,⟨o,ho,hc,m,hd⟩,hi⟩,g,q=>by
  subst e;have g:nkds ks+1<=n:=g;obtain⟨n,rfl⟩:∃m,n=m+1:=⟨n - 1,by omega⟩
  have i:s.TypeIs (.ref a) "tuple":=⟨o,ho,hc⟩
  unfold eqIsQuiet;refine QC (wpAny_specialOf i F.slot_tuple_eq.lookup ?_);show wpAny _ _ (isInstance (.ref a) (.type "tuple") >>= _) _ _ s;refine QC (QAv i isSubtype_tuple_tuple ?_);simp only[Ww,Qr,if_false];refine QC (QBP ho hd ?_);refine QC ?_;show wpAny _ _ (forIn its _ _) _ _ s;rw[<- QBi];refine QCF _ (λh r z=>r.1=none/\z=s/\∀v∈h,∀Q:Bool->Shared->Prop,Q true s->wpAny (model prog w) A (eqIsQuiet n v) Q E s) _ ?_ ?_ _ _ ⟨rfl,rfl,nks_quiet ks its.toList n hi (by omega)⟩;rintro v h r z ⟨f,rfl,y⟩;refine QC (y v QF _ ?_);simp only[Ww,Qr,if_false];exact QK ⟨rfl,rfl,λu b=>y u (QE _ b)⟩;rintro⟨j,l⟩ z ⟨f,rfl,_⟩;cases(show j=none from f);exact QK q
theorem nks_quiet:∀(ks:List NK) (vs:LW) (n:Nat),NKvs s.heap ks vs->nkds ks<=n->∀v∈vs,∀Q:Bool->Shared->Prop,Q true s->wpAny (model prog w) A (eqIsQuiet n v) Q E s
 |[],vs,n,e,_,v,hv,Q,q=>by cases(show vs=[] from e);cases hv|k::ks,vs,n,⟨x,r,e,p,p'⟩,h,v,hv,Q,q=>by subst e;have h:max (J4 k) (nkds ks)<=n:=h;rcases QL.mp hv with rfl|hv;exact TR k v n Q p (by omega) q;exact nks_quiet ks r n p' (by omega) v hv Q q
end
end
section
variable{H:Hp}{a b:Addr}{o:HO}
noncomputable def aE(prog:Program)(w:World):HeapKind prog w NK where
 is:=λh k a=>UZ h k (.ref a)/\J4 k<=6
 hash:=Ur w
 draws:=vk
 room:=λA=>A.units+8<cLine
 inj:=λy u=>Y4 y.1 u.1
 keeps:=λ{h m k a d o p q} x j l i=>⟨ER (λb f ⟨ob,e,c,n,v⟩=>⟨ob,(i.2 b λz=>by subst z;cases e.symm.trans j;cases l.symm.trans v).trans e,c,n,v⟩) x.1,x.2⟩
 pyHash:=λg hk h=>TW _ _ _ _ _ hk.1 (by have:=hk.2;omega) h
 eqBool:=λg y u h=>Z4 _ _ _ _ _ _ y.1 u.1 (by have:=y.2;omega) _ _ _ _ h
 quiet:=λhk h=>TR _ _ _ _ hk.1 (by have:=hk.2;omega) h
noncomputable abbrev Key:=Sum Int Str
noncomputable def dO:Key->Value->Bool
 | .inl k,v=>Value.isInt k v|.inr x,v=>Value.isStrOf x v
noncomputable def Mr(w:World):Key->Int
 | .inl k=>hashInt k|.inr x=>hashStr w x
theorem LA:∀{k:Key}{v:Value},dO k v=true->(∃i t,k=Sum.inl i/\v=Value.int i t)∨(∃x t,k=Sum.inr x/\v=Value.str x t)
 | .inl i,v,h=>by obtain⟨t,e⟩:=Value.isInt_shape (k:=i) (v:=v) h;exact .inl ⟨i,t,rfl,e⟩|.inr x,v,h=>by obtain⟨t,e⟩:=Value.isStrOf_shape (x:=x) (v:=v) h;exact .inr ⟨x,t,rfl,e⟩
theorem RY(i:Int)(t:Tok):dO (.inl i) (.int i t)=true:=by simp[dO,Value.isInt]
theorem PY(x:Str)(t:Tok):dO (.inr x) (.str x t)=true:=by simp[dO,Value.isStrOf]
theorem zi(a b:Int):decide ((Sum.inl a:Key)=Sum.inl b)=(a==b):=by by_cases e:a=b;subst e;simp;have h:¬ (Sum.inl a:Key)=Sum.inl b:=λq=>e (Sum.inl.inj q);rw[dF h];exact(beq_eq_false_iff_ne.mpr e).symm
theorem Ih(a b:Str):decide ((Sum.inr a:Key)=Sum.inr b)=decide (a=b):=by by_cases e:a=b;subst e;simp;have h:¬ (Sum.inr a:Key)=Sum.inr b:=λq=>e (Sum.inr.inj q);rw[dF h,dF e]
theorem yi(a:Int)(b:Str):decide ((Sum.inl a:Key)=Sum.inr b)=false:=dF (λq=>nomatch q)
theorem ji(a:Str)(b:Int):decide ((Sum.inr a:Key)=Sum.inl b)=false:=dF (λq=>nomatch q)
noncomputable def VD(prog:Program)(w:World):PySem.KeyKind prog w Key where
 is:=dO
 hash:=Mr w
 inj:=λv a b f hb=>by
  rcases LA f with⟨i,t,rfl,rfl⟩| ⟨x,t,rfl,rfl⟩
  rcases LA hb with⟨j,u,rfl,e⟩| ⟨y,u,rfl,e⟩
  ·injection e with e1 _;rw[e1]
  exact nomatch e;rcases LA hb with⟨j,u,rfl,e⟩| ⟨y,u,rfl,e⟩
  ·exact nomatch e
  injection e with e1 _;rw[e1]
 byValue:=λk v h=>by rcases LA h with⟨i,t,rfl,rfl⟩| ⟨x,t,rfl,rfl⟩<;>rfl
 pyHash:=λhv h=>by
  rcases LA hv with⟨i,t,rfl,rfl⟩| ⟨x,t,rfl,rfl⟩
  exact wpAny_pyHash_int h;exact QCE h
 eqBool:=λz hv h=>by
  rcases LA z with⟨i,t,rfl,rfl⟩| ⟨x,t,rfl,rfl⟩
  rcases LA hv with⟨j,u,rfl,rfl⟩| ⟨y,u,rfl,rfl⟩
  ·rw[zi]at h;exact QAw h
  rw[yi]at h;exact QBj i t y u _ _ _ _ h;rcases LA hv with⟨j,u,rfl,rfl⟩| ⟨y,u,rfl,rfl⟩
  ·rw[ji]at h;exact QBk x t j u _ _ _ _ h
  rw[Ih]at h;exact wpAny_eqBool_str h
 «strs»:=λk x t v h=>by
  rcases LA h with⟨i,u,rfl,e⟩| ⟨y,u,rfl,e⟩
  exact nomatch e;injection e with e1 _;subst e1;cases v<;>rfl
theorem yS(prog:Program)(w:World)(i:Int)(t:Tok):(VD prog w).is (.inl i) (.int i t)=true:=RY i t
theorem jS(prog:Program)(w:World)(x:Str)(t:Tok):(VD prog w).is (.inr x) (.str x t)=true:=PY x t
set_option genInjectivity true in
inductive V where
 |non|bl (b:Bool)|int (i:Int)|str (x:Str)|byt (b:Array UInt8)|flt (b:UInt64)|ref (a:Addr)|ty (n:String)
 deriving DecidableEq
abbrev LV:=List V
def JA:V->Value->Prop
 | .non,u=>u=Jz|.bl b,u=>u=Value.bool b|.int i,u=>∃t,u=Value.int i t|.str x,u=>∃t,u=Value.str x t|.byt b,u=>∃t,u=Value.bytes b t|.flt b,u=>∃t,u=Value.float b t|.ref a,u=>u=jx a|.ty n,u=>u=Value.type n
noncomputable abbrev nA:LV->LW->Prop:=Paired JA
theorem nA.length{xs:LV}{us:LW}(r:nA xs us):xs.length=us.length:=Q6 r
theorem nA.get:∀{xs:LV}{us:LW}{i:Nat}{x:V},nA xs us->xs[i]?=some x->∃u,us[i]?=some u/\JA x u
 |_,_,_,_,.nil,e=>by simp at e|_,_,0,_,.cons r _,e=>by simp at e;subst e;exact⟨_,rfl,r⟩|_,_,i+1,x,.cons _ t,e=>by obtain⟨u,y,h⟩:=nA.get (i:=i) (x:=x) t (by simpa using e);exact⟨u,by simpa using y,h⟩
theorem nA.set{x:V}{u:Value}(r:JA x u):∀{xs:LV}{us:LW}(i:Nat),nA xs us->nA (xs.set i x) (us.set i u)
 |_,_,_,.nil=>.nil|_,_,0,.cons _ t=>.cons r t|_,_,i+1,.cons q t=>.cons q (nA.set r i t)
theorem nA.append:∀{xs h:LV}{us ws:LW},nA xs us->nA h ws->nA (xs++h) (us++ws)
 |_,_,_,_,.nil,s=>s|_,_,_,_,.cons r t,s=>.cons r (nA.append t s)
theorem nA.take:∀{xs:LV}{us:LW}(n:Nat),nA xs us->nA (xs.take n) (us.take n)
 |_,_,0,_=>.nil|_,_,_+1,.nil=>.nil|_,_,n+1,.cons r t=>.cons r (nA.take n t)
theorem nA.drop:∀{xs:LV}{us:LW}(n:Nat),nA xs us->nA (xs.drop n) (us.drop n)
 |_,_,0,r=>r|_,_,_+1,.nil=>.nil|_,_,n+1,.cons _ t=>nA.drop n t
def PV:Option V->Option Value->Prop
 |some v,some u=>JA v u|none,none=>True|_,_=>False
def KV{κ:Type}:List (κ×V)->List (κ×Value)->Prop:=Paired λ(p:κ×V) (q:κ×Value)=>p.1=q.1/\JA p.2 q.2
noncomputable def kV:Key->V
 | .inl i=>.int i|.inr x=>.str x
inductive HO where
 |lst (xs:LV)
 |tup (xs:LV)
 |dK (kvs:List (Key×V))|dT (ep:Nat) (kvs:List (NK×Addr×V))
 |set (S:Int->Bool) (n:Nat)
 |ins (C dx:Addr) (fs:List (Str×V))
 |own (x:Addr)
 |xd (fs:List (Str×V))
 |met (f x:Addr)
 |rng (lo hi:Int)
 |frz (o:Obj) (u:HO)
 |tbl (q:Str)
 |ext (φ:Heap->Prop)
noncomputable abbrev Hp:=Addr->Option HO
noncomputable def UA(H:Hp)(a:Addr)(o:HO):Hp:=λb=>if b=a then some o else H b
theorem iA:UA H a o a=some o:=by unfold UA;rw[if_pos rfl]
theorem vA(h:b≠a):UA H a o b=H b:=by unfold UA;rw[if_neg h]
theorem O7{u:HO}:UA (UA H a o) a u=UA H a u:=by funext b;unfold UA;split<;>rfl
theorem aA(h:H a=some o)(h':H b=none):a≠b:=by intro e;subst e;rw[h]at h';cases h'
end
section
variable(P:Program)(w:World)
def jB(H:Hp)(h:Heap)(a:Addr):HO->Prop
 | .lst k=>k.length<=sizeLine/\∃(z:LW) (n:Nat),nA k z/\h.get? a=some { cls:=.type "list",data:=.seq z.toArray n }|.tup k=>k.length<=sizeLine/\∃z:LW,nA k z/\IsTup h a z.toArray|.dK y=>y.length<=sizeLine/\(a==sysModules)=false/\∃m,KV y m/\h.DictOf (VD P w) a m|.dT K y=>y.length<=sizeLine/\(a==sysModules)=false/\∃k:List (NK×Addr×Value),
   Paired (λ(p:NK×Addr×V) (q:NK×Addr×Value)=>p.1=q.1/\p.2.1=q.2.1/\JA p.2.2 q.2.2) y k /\
   ∃o X,h.get? a=some o/\o.ExactDict/\o.data=.dict X K/\X.toList=k.map (entryOfKey (aE P w))/\(k.map (·.1)).Nodup
 | .set S n=>h.SetOf (intKind P w) a S n|.ins C e fs=>H e=some (.own a)/\fs.length<=1000/\e≠a/\h.get? a=some (PySem.W.instObj C e) /\
   ∃b,h.Ns1 e b/\(∀f,PV (fs.lookup f) (b f))/\PySem.Within b (fs.map (·.1))
 | .own _=>∃o,h.get? a=some o|.xd fs=>∃b,h.Ns1 a b/\∀f,PV (fs.lookup f) (b f)|.rng Y Z=>∃t u v,h.get? a=some { cls:=.type "range",data:=.fields #[.int Y t,.int Z u,.int 1 v] }|.frz o u=>h.get? a=some o/\jB H h a u|.tbl q=>∃i,h.get? a=some { cls:=.none,data:=.fields i }/\TriplesOk i.toList/\∀j l,codeAmong j i.toList=some l->∃c,l=.ref c/\H c=some (.own a)/\h.CodeRec l q|.met f x=>h.get? a=some (QAc (.ref f) (.ref x))|.ext g=>g h/\(∃o,h.get? a=some o)/\∀s r:Heap,g s->(∀o,s.get? a=some o->r.get? a=some o)->g r
def xN(H:Hp)(h:Heap):Prop:=∀a o,H a=some o->jB P w H h a o
end
section
variable{P:Program}{w:World}{H i:Hp}{h h':Heap}{a:Addr}{o:HO}
theorem jB.lt(x:jB P w H h a o):a<h.objs.size:=by
 cases o with|lst v=>obtain⟨_,_,_,_,e⟩:=x;exact Qa e|tup v=>obtain⟨_,_,_,p⟩:=x;exact p.lt|dK z=>obtain⟨_,_,_,_,o,_,_,e,_⟩:=x;exact Qa e|dT j z=>obtain⟨_,_,_,_,o,_,e,_⟩:=x;exact Qa e|set S n=>obtain⟨o,_,_,_,e,_⟩:=x;exact Qa e|ins C l fs=>obtain⟨_,_,_,e,_⟩:=x;exact Qa e|own y=>obtain⟨_,e⟩:=x;exact Qa e|xd fs=>obtain⟨_,⟨_,_,_,e,_⟩,_⟩:=x;exact Qa e|rng b g=>obtain⟨_,_,_,e⟩:=x;exact Qa e|frz ob u=>obtain⟨e,_⟩:=x;exact Qa e|tbl q=>obtain⟨_,e,_⟩:=x;exact Qa e|met f y=>exact Qa (show h.get? a=some _ from x)|ext k=>obtain⟨_,⟨_,e⟩,_⟩:=x;exact Qa e
theorem Paired.mapP{α z:Type}{F G:α->z->Prop}:∀{y:List α}{x:List z},Paired F y x->(∀a b,F a b->G a b)->Paired G y x
 |_,_,.nil,_=>.nil|_,_,.cons r t,f=>.cons (f _ _ r) (Paired.mapP t f)
theorem jB.stay(x:jB P w H h a o)(k:∀b u,(b=a∨H b=some (.own a))->h.get? b=some u->h'.get? b=some u)
  (K:∀b,H b=some (.own a)->i b=some (.own a)) (O:∀b xs,H b=some (.tup xs)->i b=some (.tup xs)):jB P w i h' a o:=by
 induction o with|lst xs=>obtain⟨z,m,n,r,e⟩:=x;exact⟨z,m,n,r,k _ _ (.inl rfl) e⟩|tup xs=>obtain⟨z,m,r,ob,e,c⟩:=x;exact⟨z,m,r,ob,k _ _ (.inl rfl) e,c⟩|dK W=>obtain⟨z,y,s,r,ob,j,l,e,c⟩:=x;exact⟨z,y,s,r,ob,j,l,k _ _ (.inl rfl) e,c⟩|dT l W=>obtain⟨z,y,xs,r,ob,j,e,c⟩:=x;exact⟨z,y,xs,r,ob,j,k _ _ (.inl rfl) e,c⟩|set S n=>obtain⟨ob,j,l,t,e,c⟩:=x;exact⟨ob,j,l,t,k _ _ (.inl rfl) e,c⟩|ins C R fs=>obtain⟨d,z,F,e,Z,⟨Y,j,l,J,c⟩,r⟩:=x;exact⟨K _ d,z,F,k _ _ (.inl rfl) e,Z,⟨Y,j,l,k _ _ (.inr d) J,c⟩,r⟩|own y=>obtain⟨ob,e⟩:=x;exact⟨ob,k _ _ (.inl rfl) e⟩|xd fs=>obtain⟨Z,⟨Y,j,l,e,c⟩,r⟩:=x;exact⟨Z,⟨Y,j,l,k _ _ (.inl rfl) e,c⟩,r⟩|rng N Q=>obtain⟨t,u,v,e⟩:=x;exact⟨t,u,v,k _ _ (.inl rfl) e⟩|frz ob u G=>obtain⟨e,q⟩:=x;exact⟨k _ _ (.inl rfl) e,G q⟩|tbl q=>obtain⟨E,e,t,f⟩:=x;refine⟨E,k _ _ (.inl rfl) e,t,λX L g=>?_⟩;obtain⟨c,rfl,o,c1,ob,s,B,A,I,r⟩:=f X L g;cases A;exact⟨c,rfl,K _ o,c,ob,s,B,rfl,k _ _ (.inr o) I,r⟩|met f y=>have e:h.get? a=some (QAc (.ref f) (.ref y)):=x;show h'.get? a=some (QAc (.ref f) (.ref y));exact k a _ (.inl rfl) e|ext M=>obtain⟨p,⟨o,e⟩,st⟩:=x;exact⟨st _ _ p λo q=>k _ _ (.inl rfl) q,⟨o,k _ _ (.inl rfl) e⟩,st⟩
theorem xN.lt(x:xN P w H h)(e:H a=some o):a<h.objs.size:=(x a o e).lt
theorem xN.fresh(x:xN P w H h)(e:h.objs.size<=a):H a=none:=by
 cases q:H a with|none=>rfl|some u=>exact absurd (Qo (x.lt q) e) (qj _)
theorem xN.kept(x:xN P w H h)(k:∀b u,h.get? b=some u->h'.get? b=some u):xN P w H h':=λa o e =>
 (x a o e).stay (λb u _ q=>k b u q) (λ_ q=>q) λ_ _ q=>q
theorem xN.laid(x:xN P w H h)(k:∀b u,h.get? b=some u->h'.get? b=some u)(z:h.objs.size<=a)(new:jB P w (UA H a o) h' a o):xN P w (UA H a o) h':=λb u e=>by have y:=x.fresh z;by_cases hb:b=a;subst hb;rw[iA]at e;cases e;exact new;rw[vA hb]at e;exact(x b u e).stay (λc v _ q=>k c v q) (λc q=>by rw[vA (aA q y)];exact q) λc f q=>by rw[vA (aA q y)];exact q
end
def Rd(H:Hp)(a:Addr)(u:HO):Prop:=H a=some u∨∃o,H a=some (.frz o u)
theorem Rd.ok{P:Program}{w:World}{H:Hp}{h:Heap}{a:Addr}{u:HO}(r:Rd H a u)(x:xN P w H h):jB P w H h a u:=by
 rcases r with r|⟨o,r⟩
 exact x a u r;obtain⟨_,q⟩:=x a _ r;exact q
def Kk:Option HO->Prop
 |some (.lst _)=>True|some (.dK _)=>True|some (.dT _ _)=>True|some (.set _ _)=>True|some (.ins _ _ _)=>True|some (.ext _)=>True|_=>False
section
variable{P:Program}{w:World}{H:Hp}{h h':Heap}{x e:Addr}{a:HO}
theorem xN.write(ok:xN P w H h)(l:Kk (H x))(o:e=x∨H e=some (.own x))(k:∀b u,b≠e->h.get? b=some u->h'.get? b=some u)(m:∃u,h'.get? e=some u)
  (new:jB P w (UA H x a) h' x a):xN P w (UA H x a) h':=λb u q=>by
 have g:∀c y,H c=some (.own y)->c≠x:=λc y r z=>by subst z;rw[r]at l;exact l
 have i:∀c j,H c=some (.tup j)->c≠x:=λc j r z=>by subst z;rw[r]at l;exact l
 by_cases hb:b=x;subst hb;rw[iA]at q;cases q;exact new;rw[vA hb]at q;by_cases f:b=e;have n:H b=some (.own x):=by rcases o with z|z;exact absurd (f.trans z) hb;rw[f];exact z
 rw[q]at n;cases n;obtain⟨v,hv⟩:=m;exact⟨v,by rw[f];exact hv⟩;refine(ok b u q).stay (λc v hc r=>k c v ?_ r) (λc r=>by rw[vA (g c b r)];exact r) λc j r=>by rw[vA (i c j r)];exact r
 rcases hc with rfl|hc;exact f;rintro rfl;rcases o with z|z;exact g c b hc z;rw[hc]at z;cases z;exact hb rfl
end
structure Un(fs ex:List Addr)(H H':Hp)(h h':Heap):Prop where
 keep:∀b o,h.get? b=some o->H b=none->b∉fs->b∉ex->h'.get? b=some o
 slot:∀b o,h.get? b=some o->H b=none->b∈fs->b∉ex->∃sl,h'.get? b=some { o with slots:=sl }
 free:∀b o,h.get? b=some o->H b=none->b∉ex->H' b=none
 there:∀b o,h.get? b=some o->b∉ex->∃o',h'.get? b=some o'
 tups:∀b xs,H b=some (.tup xs)->H' b=some (.tup xs)
 frzs:∀b o u,H b=some (.frz o u)->H' b=some (.frz o u)
 tbls:∀b q,H b=some (.tbl q)->H' b=some (.tbl q)
section
variable{y w ex c:List Addr}{H d g:Hp}{h v f h':Heap}{a x e:Addr}{o:HO}
theorem Un.any(u:Un y ex H d h v){b:Addr}{ob:Obj}(q:h.get? b=some ob)(n:H b=none)(z:b∉ex):∃k,v.get? b=some { ob with slots:=k }:=by by_cases hb:b∈y;exact u.slot b ob q n hb z;exact⟨ob.slots,u.keep b ob q n hb z⟩
theorem Un.kept(k:∀b u,h.get? b=some u->h'.get? b=some u):Un y ex H H h h' :=
 ⟨λb ob q _ _ _=>k b ob q,λb ob q _ _ _=>⟨ob.slots,k b ob q⟩,λ_ _ _ n _=>n,λb ob q _=>⟨ob,k b ob q⟩,λ_ _ q=>q,λ_ _ _ q=>q,λ_ _ q=>q⟩
theorem Un.refl:Un y ex H H h h:=Un.kept λ_ _ q=>q
theorem Un.laid(k:∀b u,h.get? b=some u->h'.get? b=some u)(j:h.objs.size<=a)(z:H a=none):Un y ex H (UA H a o) h h' where
 keep:=λb u q _ _ _=>k b u q
 slot:=λb u q _ _ _=>⟨u.slots,k b u q⟩
 free:=λb u q n _=>by rw[vA (Qn (Qo (Qa q) j))];exact n
 there:=λb u q _=>⟨u,k b u q⟩
 tups:=λb i q=>by rw[vA (aA q z)];exact q
 frzs:=λb u i q=>by rw[vA (aA q z)];exact q
 tbls:=λb l q=>by rw[vA (aA q z)];exact q
theorem Un.write(j:Kk (H x))(X:e=x∨H e=some (.own x))(k:∀b u,b≠e->h.get? b=some u->h'.get? b=some u)(m:∃u,h'.get? e=some u):Un y ex H (UA H x o) h h':=by
 have p:∀b,H b=none->b≠x:=λb n z=>by subst z;rw[n]at j;exact j
 have hb:∀b,H b=none->b≠e:=λb n z=>by subst z;rcases X with r|r;exact p b n r;rw[n]at r;cases r
 have l:∀b u,H b=some u->¬ Kk (some u)->b≠x:=λb u q nm z=>by subst z;rw[q]at j;exact nm j
 refine⟨λb u q n _ _=>k b u (hb b n) q,λb u q n _ _=>⟨u.slots,k b u (hb b n) q⟩,λb u q n _=>by rw[vA (p b n)];exact n,λb u q _=>?_,
  λb s q=>by rw[vA (l b _ q λz=>z)];exact q,λb u s q=>by rw[vA (l b _ q λz=>z)];exact q,λb Y q=>by rw[vA (l b _ q λz=>z)];exact q⟩
 by_cases i:b=e;subst i;exact m;exact⟨u,k b u i q⟩
end
section
variable{h:Heap}{b:Addr}{o:Obj}
noncomputable def Ap(h:Heap)(H:Hp):List Addr:=(Qj h.objs.size).filter λa=>(H a).isSome
noncomputable def cQ(h:Heap)(H:Hp):Heap:=PySem.W.hideAll h (Ap h H)
theorem IY(h:Heap)(H:Hp):(cQ h H).objs.size=h.objs.size:=PySem.W.hideAll_size _ _
theorem M5{H:Hp}(e:h.get? b=some o)(n:H b=none):(cQ h H).get? b=some o :=
 PySem.W.hideAll_get _ e λx=>by have q:(H b).isSome=true:=(QZ.mp x).2;rw[n]at q;simp at q
theorem X9{H:Hp}(e:(cQ h H).get? b=some o):h.get? b=some o/\H b=none:=by
 have y:h.get? b=some o:=PySem.W.of_hideAll (Ap h H) e;refine⟨y,?_⟩;cases q:H b with|none=>rfl|some x=>have u:b∈Ap h H:=QZ.mpr ⟨qG.mpr (Qa y),by simp[q]⟩;have z:(cQ h H).get? b=none:=PySem.W.hideAll_none (Ap h H) u;rw[z]at e;cases e
structure Mod(K:QA)(mg:Str->Option Value)(base:Heap):Prop where
 kin:K.In base
 glob:base.Ns mainGlobals mg
 blt:∃mb,base.Ns builtinsNs mb/\∀x:Str,x≠"__name__"->mb x=bootBuiltins x
 nolimit:base.NoLimit
structure Cx where
 prog:Program
 w:World
 K:QA
 mg:Str->Option Value
 base:Heap
 A:Around
 N:LS
 s₀:Shared
 H₀:Hp
 env:Env
 outer:List Env
 stack:List Env
 ex:List Addr
 fn:Str->Bool
 calm:Bool
 pn:HB
 xe:Value->Shared->Prop
noncomputable def nX(l:List Env):List Addr:=l.filterMap (·.frame)
noncomputable abbrev Cx.fs(X:Cx):List Addr:=nX X.outer
def yp(sc:Scope)(x:Str):Prop:=sc.names.lookup x=some .local∨sc.names.lookup x=some .cell∨sc.names.lookup x=some .free
def Vk(sc:Scope)(x:Str):Prop:=sc.names.lookup x=some .local∨sc.names.lookup x=some .cell
def Ot(env:Env)(h:Heap)(m:Str->Option Value)(x:Str)(u:Value):Prop :=
 (env.kindOf x=some .local/\m x=some u)∨((env.kindOf x=some .cell∨env.kindOf x=some .free)/\∃c,env.cells.lookup x=some c/\h.IsCell c (some u))
def ZO(mg:Str->Option Value)(x:Heap)(P:Addr)(q:Str):Prop :=
 ∃f o y c,mg "going_order"=some (.ref f)/\x.get? f=some o/\o.data=.func y/\y.code=.ref c/\PySem.W.CodeHd x c P/\q=y.qualname++".<locals>.<lambda>"
structure Cx.Ok(X:Cx):Prop where
 mod:Mod X.K X.mg X.base
 kind:X.env.scope.kind=.function
 glob:X.env.globals=mainGlobals
 blt:X.env.builtins=builtinsNs
 above:X.s₀.heap.objs.size<=X.env.locals
 inj:∀x y c,X.env.cells.lookup x=some c->X.env.cells.lookup y=some c->x=y
 has:∀x,(X.env.kindOf x=some .cell∨X.env.kindOf x=some .free)->∃c,X.env.cells.lookup x=some c
 cab:∀x c,X.fn x=true->X.env.cells.lookup x=some c->X.s₀.heap.objs.size<=c
 hd:X.calm=true->X.A.handled=none
 frames:X.A.frames=some X.stack
 stk:X.stack=X.outer∨(X.stack=X.env::X.outer/\X.env.frame=some X.env.locals)
 exf:∀b∈X.ex,b≠X.env.locals/\∀x c,X.env.cells.lookup x=some c->c≠b
 bs:∀b o,X.base.get? b=some o->X.s₀.heap.get? b=some o/\X.H₀ b=none
 bsz:X.base.objs.size<=X.s₀.heap.objs.size
 noex:∀b o,X.base.get? b=some o->b∉X.ex
 exfs:∀b∈X.ex,b∉X.fs
 funs:X.s₀.heap.FunFrames X.base X.outer
 frf:∀b∈X.fs,X.H₀ b=none
 tb:∀P q,ZO X.mg X.base P q->X.H₀ P=some (.tbl q)
structure Inv(X:Cx)(pins:HB)(σ:List (Option V))(H:Hp)(s:Shared):Prop where
 ok:X.Ok
 os:s.os=X.s₀.os
 bare:AllBare s.gens
 base:Un X.fs X.ex X.H₀ H X.s₀.heap s.heap
 loc:∃m,s.heap.Ns X.env.locals m/\∀(i:Nat) (x:Str) (v:V),X.N[i]?=some x->σ[i]?=some (some v)->yp X.env.scope x->∃u,JA v u/\Ot X.env s.heap m x u
 cell:∀x c,X.env.cells.lookup x=some c->∃v,s.heap.IsCell c v
 free:H X.env.locals=none
 freeC:∀x c,X.env.cells.lookup x=some c->H c=none
 pin:∀p∈X.pn++pins,s.heap.get? p.1=some p.2/\H p.1=none/\p.1≠X.env.locals/\p.1∉X.fs/\∀v,p.2.data≠.cell v
 hok:xN X.prog X.w H s.heap
 len:σ.length=X.N.length
end
section
variable{X:Cx}{f:HB}{σ:List (Option V)}{H g:Hp}{s:Shared}{h':Heap}
section
variable{a:Addr}{g':Array GenState}{ch:List Addr}{i:Nat}{x:Str}{M:Model}{A:Around}{E:uC}{u:Value}{Q:Unit->Shared->Prop}
theorem Cx.Ok.nofr(ok:X.Ok){b:Addr}{o:Obj}(e:X.base.get? b=some o):b∉X.fs:=λhb=>by have:=(ok.funs.mem hb).1;rw[e]at this;cases this
theorem Inv.bs(I:Inv X f σ H s):∀b o,X.base.get? b=some o->s.heap.get? b=some o/\H b=none:=λb o e =>
 ⟨I.base.keep b o (I.ok.bs b o e).1 (I.ok.bs b o e).2 (I.ok.nofr e) (I.ok.noex b o e),I.base.free b o (I.ok.bs b o e).1 (I.ok.bs b o e).2 (I.ok.noex b o e)⟩
theorem Inv.bk(I:Inv X f σ H s):∀b o,X.base.get? b=some o->s.heap.get? b=some o:=λb o e=>(I.bs b o e).1
theorem Inv.tb(I:Inv X f σ H s):∀P q,ZO X.mg X.base P q->H P=some (.tbl q):=λP q h=>I.base.tbls P q (I.ok.tb P q h)
theorem Inv.mod(I:Inv X f σ H s):Mod X.K X.mg X.base:=I.ok.mod
theorem Inv.kIn(I:Inv X f σ H s):X.K.In s.heap:=I.ok.mod.kin.keeps I.bk
theorem Inv.nolimit(I:Inv X f σ H s):s.heap.NoLimit:=I.ok.mod.nolimit.keeps I.bk
theorem Inv.lt(I:Inv X f σ H s):X.env.locals<s.heap.objs.size:=let⟨_,h,_⟩:=I.loc;h.lt
theorem Inv.sz(I:Inv X f σ H s):X.s₀.heap.objs.size<=s.heap.objs.size:=QY I.ok.above (QAN I.lt)
theorem Inv.nofs(I:Inv X f σ H s)(h:s.heap.objs.size<=a):a∉X.fs:=λhb=>by obtain⟨_,o,y,_⟩:=I.ok.funs.mem hb;exact absurd (Qo (Qa y) (QY I.sz h)) (qj _)
theorem Inv.cne(I:Inv X f σ H s):∀x c,X.env.cells.lookup x=some c->c≠X.env.locals:=λx c e z=>by obtain⟨v,o,w,k⟩:=I.cell x c e;obtain⟨m,⟨b,j,l,h,y,_⟩,_⟩:=I.loc;rw[z,h]at w;cases w;rw[y]at k;cases k
theorem Inv.funs(I:Inv X f σ H s):s.heap.FunFrames X.base X.outer:=by
 have all:∀(l:List Env),(∀b∈nX l,b∈X.fs)->X.s₀.heap.FunFrames X.base l->s.heap.FunFrames X.base l:=by
  intro l;induction l with|nil=>intro _ _;trivial|cons p r w=>intro v hl;obtain⟨hk,⟨L,o,h,m,j,n⟩,k⟩:=hl;have y:L∈X.fs:=v L (by unfold nX;rw[WF,h];exact QF);obtain⟨q,e⟩:=I.base.slot L o j (I.ok.frf L y) y λz=>I.ok.exfs L z y;exact⟨hk,⟨L,_,h,m,e,n⟩,w (λb hb=>v b (by unfold nX;rw[WF,h];exact QE _ hb)) k⟩
 exact all X.outer (λ_ hb=>hb) I.ok.funs
theorem Inv.stack(I:Inv X f σ H s):s.heap.FunFrames X.base X.stack:=by
 rcases I.ok.stk with e|⟨e,y⟩
 rw[e];exact I.funs;rw[e];obtain⟨m,h,_⟩:=I.loc;refine .cons (by rw[I.ok.kind];decide) y h ?_ I.funs;exact Heap.get?_none_of_le (QY I.ok.bsz I.ok.above)
theorem Inv.stkSub(I:Inv X f σ H s):∀b∈nX X.stack,b∈X.env.locals::X.fs:=λb hb=>by
 rcases I.ok.stk with e|⟨e,h⟩
 rw[e]at hb;exact QE _ hb;rw[e]at hb;unfold nX at hb;rw[WF,h]at hb;exact hb
theorem Inv.stkFree(I:Inv X f σ H s):∀b∈nX X.stack,H b=none:=λb hb=>by rcases QL.mp (I.stkSub b hb) with e|hb;rw[e];exact I.free;obtain⟨_,o,h,_⟩:=I.ok.funs.mem hb;exact I.base.free b o h (I.ok.frf b hb) λz=>I.ok.exfs b z hb
theorem Inv.step{t':Nat}{d':Drawn}(I:Inv X f σ H s)
  (j:∀b∈ch,(b∈X.ex∨X.s₀.heap.objs.size<=b)/\b≠X.env.locals/\(∀x c,X.env.cells.lookup x=some c->c≠b)/\∀p∈X.pn++f,p.1≠b)
  (keep:∀b o,b≠X.env.locals->b∉X.fs->b∉ch->s.heap.get? b=some o->H b=none->h'.get? b=some o)
  (W:∀b o,b≠X.env.locals->b∈X.fs->b∉ch->s.heap.get? b=some o->H b=none->∃P,h'.get? b=some { o with slots:=P }) (free:∀b o,b∉ch->s.heap.get? b=some o->H b=none->g b=none)
  (K:∀b o,b∉ch->s.heap.get? b=some o->∃J,h'.get? b=some J)
  (F:∀b xs,H b=some (.tup xs)->g b=some (.tup xs)) (N:∀b o u,H b=some (.frz o u)->g b=some (.frz o u)) (G:∀b ps,H b=some (.tbl ps)->g b=some (.tbl ps))
  (ns:∀m,s.heap.Ns X.env.locals m->h'.Ns X.env.locals m) (R:xN X.prog X.w g h') (hg:AllBare g') :
  Inv X f σ g { s with heap:=h',gens:=g',drawn:=d',toks:=t' }:=by
 have L:∀b o,X.s₀.heap.get? b=some o->b≠X.env.locals:=λb o e=>Qn (Qo (Qa e) I.ok.above);have Z:∀b o,X.s₀.heap.get? b=some o->b∉X.ex->b∉ch:=λb o e h hb=>by rcases(j b hb).1 with z|z;exact h z;exact absurd (Qo (Qa e) z) (qj _)
 have Y:∀x c,X.env.cells.lookup x=some c->∀v,s.heap.IsCell c v->h'.IsCell c v:=λx c e v ⟨o,C,S⟩=>by have y:c∉ch:=λz=>(j c z).2.2.1 x c e rfl;by_cases hc:c∈X.fs;obtain⟨P,q⟩:=W c o (I.cne x c e) hc y C (I.freeC x c e);exact⟨_,q,S⟩;exact⟨o,keep c o (I.cne x c e) hc y C (I.freeC x c e),S⟩
 refine⟨I.ok,I.os,hg,⟨λb o e n hb h=>?_,λb o e n hb h=>?_,λb o e n h=>?_,λb o e h=>?_,λb xs e=>F b xs (I.base.tups b xs e),λb o xs e=>N b o xs (I.base.frzs b o xs e),λb ps e=>?_⟩,?_,λx c e=>?_,?_,λx c e=>?_,λp hp=>?_,R,I.len⟩;exact keep b o (L b o e) hb (Z b o e h) (I.base.keep b o e n hb h) (I.base.free b o e n h);obtain⟨P,B⟩:=I.base.slot b o e n hb h;obtain⟨O,e2⟩:=W b _ (L b o e) hb (Z b o e h) B (I.base.free b o e n h);exact⟨O,e2⟩;obtain⟨J,B⟩:=I.base.there b o e h;exact free b J (Z b o e h) B (I.base.free b o e n h);obtain⟨J,B⟩:=I.base.there b o e h;exact K b J (Z b o e h) B;exact G b _ (I.base.tbls b ps e);obtain⟨m,hn,hl⟩:=I.loc;refine⟨m,ns m hn,λi x v B e2 e3=>?_⟩;obtain⟨u,r,l⟩:=hl i x v B e2 e3;refine⟨u,r,?_⟩;rcases l with l|⟨k,c,e,z⟩
 exact .inl l;exact .inr ⟨k,c,e,Y x c e _ z⟩;obtain⟨v,z⟩:=I.cell x c e;exact⟨v,Y x c e v z⟩;obtain⟨m,⟨o,_,_,C,_⟩,_⟩:=I.loc;exact free _ o (λz=>(j _ z).2.1 rfl) C I.free;obtain⟨v,o,C,S⟩:=I.cell x c e;exact free c o (λz=>(j c z).2.2.1 x c e rfl) C (I.freeC x c e);obtain⟨e,n,ne,nf,d⟩:=I.pin p hp;have y:p.1∉ch:=λz=>(j p.1 z).2.2.2 p hp rfl;exact⟨keep p.1 p.2 ne nf y e n,free p.1 p.2 y e n,ne,nf,d⟩
theorem Inv.un{t':Nat}(I:Inv X f σ H s)(u:Un X.fs [] H g s.heap h')(y:xN X.prog X.w g h'):Inv X f σ g { s with heap:=h',toks:=t' }:=by obtain⟨m,⟨o,K,B,j,r⟩,_⟩:=id I.loc;obtain⟨Y,q⟩:=u.any j I.free (by simp);exact I.step (g':=s.gens) (d':=s.drawn) (ch:=[]) (λ_ z=>nomatch z) (λb o _ hb _ e n=>u.keep b o e n hb (by simp)) (λb o _ hb _ e n=>u.slot b o e n hb (by simp)) (λb o _ e n=>u.free b o e n (by simp)) (λb o _ e=>u.there b o e (by simp)) u.tups u.frzs u.tbls (λW p=>by obtain⟨Z,v,k,h,l⟩:=p;rw[j]at h;cases h;exact⟨_,v,k,q,l⟩) y I.bare
theorem Inv.call{t':Nat}{d':Drawn}(I:Inv X f σ H s)(u:Un (nX X.stack) ch H g s.heap h')(v:xN X.prog X.w g h')(W:AllBare g')
  (y:∀b∈ch,(b∈X.ex∨X.s₀.heap.objs.size<=b)/\b≠X.env.locals/\(∀x c,X.env.cells.lookup x=some c->c≠b)/\∀p∈X.pn++f,p.1≠b) :
  Inv X f σ g { s with heap:=h',gens:=g',drawn:=d',toks:=t' }:=by
 obtain⟨m,⟨o,F,G,q,r⟩,_⟩:=id I.loc;obtain⟨K,k⟩:=u.any q I.free λz=>(y _ z).2.1 rfl;exact I.step (ch:=ch) y (λb o k hb hc e n=>u.keep b o e n (λz=>(QL.mp (I.stkSub b z)).elim k hb) hc) (λb o _ _ hc e n=>u.any e n hc) (λb o hc e n=>u.free b o e n hc) (λb o hc e=>u.there b o e hc) u.tups u.frzs u.tbls (λC Z=>by obtain⟨B,j,l,h,Y⟩:=Z;rw[q]at h;cases h;exact⟨_,j,l,k,Y⟩) v W
theorem Inv.turned{t':Nat}{it:Addr}(I:Inv X f σ H s)(k:∀b o,b≠it->s.heap.get? b=some o->h'.get? b=some o)(j:H it=none)(y:it≠X.env.locals)
  (W:it∈X.ex∨X.s₀.heap.objs.size<=it) (Z:∀x c,X.env.cells.lookup x=some c->c≠it) (Y:∀p∈X.pn++f,p.1≠it):Inv X f σ H { s with heap:=h',toks:=t' }:=by
 have h:∀b u,H b=some u->b≠it:=λb u e z=>by rw[z,j]at e;cases e
 refine I.step (g':=s.gens) (d':=s.drawn) (ch:=[it]) (λb hb=>?_) (λb o _ _ hc e _=>k b o (λz=>hc (by simp[z])) e) (λb o _ _ hc e _=>⟨o.slots,k b o (λz=>hc (by simp[z])) e⟩) (λ_ _ _ _ n=>n)
  (λb o hc e=>⟨o,k b o (λz=>hc (by simp[z])) e⟩) (λ_ _ e=>e) (λ_ _ _ e=>e) (λ_ _ e=>e) (λm l=>?_) (λb u e=>?_) I.bare
 have e:b=it:=by simpa using hb
 subst e;exact⟨W,y,Z,Y⟩;obtain⟨o,K,B,w,r⟩:=l;exact⟨o,K,B,k _ o (qD y) w,r⟩;refine(I.hok b u e).stay (λc v hc q=>k c v ?_ q) (λ_ q=>q) λ_ _ q=>q;rcases hc with z|z;rw[z];exact h b u e;exact h c _ z
theorem Inv.tok(I:Inv X f σ H s)(t:Nat):Inv X f σ H { s with toks:=t }:=I.un (h':=s.heap) (t':=t) Un.refl I.hok
theorem Inv.kept{t':Nat}(I:Inv X f σ H s)(k:∀b u,s.heap.get? b=some u->h'.get? b=some u):Inv X f σ H { s with heap:=h',toks:=t' }:=I.un (Un.kept k) (I.hok.kept k)
theorem Inv.laid{o:HO}{t':Nat}(I:Inv X f σ H s)(k:∀b u,s.heap.get? b=some u->h'.get? b=some u)(h:s.heap.objs.size<=a)(new:jB X.prog X.w (UA H a o) h' a o) :
  Inv X f σ (UA H a o) { s with heap:=h',toks:=t' }:=I.un (Un.laid k h (I.hok.fresh h)) (I.hok.laid k h new)
theorem Inv.write{x e:Addr}{o:HO}{t':Nat}(I:Inv X f σ H s)(y:Kk (H x))(z:e=x∨H e=some (.own x))(k:∀b u,b≠e->s.heap.get? b=some u->h'.get? b=some u)(h:∃u,h'.get? e=some u)
  (new:jB X.prog X.w (UA H x o) h' x o):Inv X f σ (UA H x o) { s with heap:=h',toks:=t' }:=I.un (Un.write y z k h) (I.hok.write y z k h new)
theorem Inv.pins_of{y:HB}(I:Inv X f σ H s)(h:∀p∈y,s.heap.get? p.1=some p.2/\H p.1=none/\p.1≠X.env.locals/\p.1∉X.fs/\∀v,p.2.data≠.cell v):Inv X y σ H s :=
 ⟨I.ok,I.os,I.bare,I.base,I.loc,I.cell,I.free,I.freeC,λp w=>(Qh.mp w).elim (λz=>I.pin p (Qp _ z)) (h p),I.hok,I.len⟩
theorem NR{N:LS}(h:N.Nodup){j:Nat}(a:N[i]?=some x)(b:N[j]?=some x):i=j:=by obtain⟨w,z⟩:=Qf.mp a;obtain⟨v,y⟩:=Qf.mp b;exact(List.getElem_inj h).mp (z.trans y.symm)
theorem MN{v:V}(I:Inv X f σ H s)(hN:X.N.Nodup)(O:X.N[i]?=some x)(W:Vk X.env.scope x)(r:JA v u)
  (h:∀s',Inv X f (σ.set i (some v)) H s'->(∃a,qV a s.heap s'.heap/\(a=X.env.locals∨X.env.cells.lookup x=some a))->Q () s') (hf:X.fn x=true∨X.env.scope.names.lookup x=some .local):wpAny M A (storeName X.env x u) Q E s:=by
 obtain⟨m,hn,hl⟩:=id I.loc;have P:(X.env.scope.kind==.class||(X.env.scope.kind==.module&&X.env.locals != X.env.globals))=false:=by rw[I.ok.kind];rfl
 have C:i<σ.length:=by rw[I.len];exact(Qf.mp O).1
 have cne:=I.cne;have Y:∀{a:Addr}{h':Heap},(∃o,s.heap.get? a=some o/\H a=none)->qV a s.heap h'->xN X.prog X.w H h':=λ{a h'} ha l b ob e=>by obtain⟨_,_,K⟩:=ha;refine(I.hok b ob e).stay (λc w' hc q=>(l.2 c ?_).trans q) (λ_ q=>q) λ_ _ q=>q;rintro rfl;rcases hc with rfl|hc;rw[K]at e;cases e;rw[K]at hc;cases hc
 rcases W with hk|hk;refine wpAny_storeName_local hk hn (λh' hn' l=>?_) P;obtain⟨oL,_,_,hoL,_⟩:=id hn;refine h _ ⟨I.ok,I.os,I.bare,⟨λb o e n hb W=>?_,λb o e n hb W=>?_,I.base.free,λb o e W=>?_,I.base.tups,I.base.frzs,I.base.tbls⟩,⟨_,hn',λj y v' Z B e3=>?_⟩,λy c e=>?_,I.free,I.freeC,λp hp=>?_,Y ⟨oL,hoL,I.free⟩ l,by simpa using I.len⟩ ⟨_,l,.inl rfl⟩;exact(l.2 b (Qn (Qo (Qa e) I.ok.above))).trans (I.base.keep b o e n hb W);obtain⟨sl,Z⟩:=I.base.slot b o e n hb W;exact⟨sl,(l.2 b (Qn (Qo (Qa e) I.ok.above))).trans Z⟩;obtain⟨o',Z⟩:=I.base.there b o e W;exact⟨o',(l.2 b (Qn (Qo (Qa e) I.ok.above))).trans Z⟩;by_cases F:j=i
 ·subst F
  rw[O]at Z;cases Z;rw[qd C]at B;cases B;exact⟨u,r,.inl ⟨hk,by simp⟩⟩
 rw[qP (qD F)]at B;obtain⟨u',r',q⟩:=hl j y v' Z B e3;refine⟨u',r',?_⟩;rcases q with⟨k,e⟩| ⟨k,c,e,z⟩
 refine .inl ⟨k,?_⟩;have:y≠x:=λe=>F (NR hN Z (e▸O));simp[this,e];exact .inr ⟨k,c,e,z.sameBut l (cne y c e)⟩;obtain⟨w',z⟩:=I.cell y c e;exact⟨w',z.sameBut l (cne y c e)⟩;obtain⟨e,n,ne,nf,d⟩:=I.pin p hp;exact⟨(l.2 p.1 ne).trans e,n,ne,nf,d⟩;have G:X.fn x=true:=by rcases hf with z|z;exact z;rw[z]at hk;cases hk
 obtain⟨c,hc⟩:=I.ok.has x (.inl hk);obtain⟨w',z⟩:=I.cell x c hc;refine wpAny_storeName_cell I.ok.kind hk hc z (λh' S l=>?_);obtain⟨oc,L,J⟩:=id z;refine h { s with heap:=h' } ⟨I.ok,I.os,I.bare,⟨λb o e n hb W=>?_,λb o e n hb W=>?_,I.base.free,λb o e W=>?_,I.base.tups,I.base.frzs,I.base.tbls⟩,⟨m,hn.sameBut l (qD (cne x c hc)),λj y v' Z B e3=>?_⟩,λy c' e=>?_,I.free,I.freeC,λp hp=>?_,Y ⟨oc,L,I.freeC x c hc⟩ l,by simpa using I.len⟩ ⟨c,l,.inr hc⟩;exact(l.2 b (Qn (Qo (Qa e) (I.ok.cab x c G hc)))).trans (I.base.keep b o e n hb W);obtain⟨sl,Z⟩:=I.base.slot b o e n hb W;exact⟨sl,(l.2 b (Qn (Qo (Qa e) (I.ok.cab x c G hc)))).trans Z⟩;obtain⟨o',Z⟩:=I.base.there b o e W;exact⟨o',(l.2 b (Qn (Qo (Qa e) (I.ok.cab x c G hc)))).trans Z⟩;by_cases F:j=i
 ·subst F
  rw[O]at Z;cases Z;rw[qd C]at B;cases B;exact⟨u,r,.inr ⟨.inl hk,c,hc,S⟩⟩
 rw[qP (qD F)]at B;obtain⟨u',r',q⟩:=hl j y v' Z B e3;refine⟨u',r',?_⟩;rcases q with q|⟨k,c',e,z'⟩
 exact .inl q;refine .inr ⟨k,c',e,z'.sameBut l ?_⟩;rintro rfl;exact F (NR hN Z (I.ok.inj _ _ _ e hc▸O));by_cases R:c'=c
 ·subst R;exact⟨_,S⟩
 obtain⟨w2,z2⟩:=I.cell y c' e;exact⟨w2,z2.sameBut l R⟩;obtain⟨e,n,ne,nf,d⟩:=I.pin p hp;refine⟨(l.2 p.1 ?_).trans e,n,ne,nf,d⟩;intro q;rw[q,L]at e;have q':oc=p.2:=Qs e;exact d w' (by rw[<- q'];exact J)
theorem bR{v:V}(I:Inv X f σ H s)(k:X.N.Nodup)(z:X.N[i]?=some x)(y:Vk X.env.scope x)(r:JA v u)
  (h:∀s',Inv X f (σ.set i (some v)) H s'->Q () s') (w:X.fn x=true∨X.env.scope.names.lookup x=some .local):wpAny M A (storeName X.env x u) Q E s :=
 MN I k z y r (λs' b _=>h s' b) w
theorem Inv.call'{s':Shared}(I:Inv X f σ H s)(v:s'.os=s.os)(u:Un (nX X.stack) ch H g s.heap s'.heap)(h:xN X.prog X.w g s'.heap)(k:AllBare s'.gens)
  (y:∀b∈ch,(b∈X.ex∨X.s₀.heap.objs.size<=b)/\b≠X.env.locals/\(∀x c,X.env.cells.lookup x=some c->c≠b)/\∀p∈X.pn++f,p.1≠b):Inv X f σ g s':=by
 obtain⟨h',g',d',t',z⟩:=s';have e:z=s.os:=v;subst e;exact I.call (g':=g') (t':=t') (d':=d') u h k y
end
end
noncomputable abbrev XK:=Value->Option Addr->Hp->Prop
noncomputable abbrev St:=List (Option V)
noncomputable abbrev VK:=V->Hp->Prop
noncomputable abbrev TE:=St->Hp->VK->Prop
noncomputable abbrev TT:=St->Hp->(Bool->Hp->Prop)->Prop
noncomputable abbrev TA:=St->Hp->(LV->Hp->Prop)->Prop
structure Ends where
 nx:St->Hp->Prop
 rt:VK
 bk:St->Hp->Prop:=λ_ _=>False
 ct:St->Hp->Prop:=λ_ _=>False
noncomputable abbrev TS:=Ends->St->Hp->Prop
def EP(X:Cx)(h:HB)(σ:St)(Q:VK)(u:Value)(s':Shared):Prop:=∃v x,Inv X h σ x s'/\JA v u/\Q v x
def TP(X:Cx)(h:HB)(σ:St)(Q:Bool->Hp->Prop)(b:Bool)(s':Shared):Prop:=∃x,Inv X h σ x s'/\Q b x
def AP(X:Cx)(h:HB)(σ:St)(Q:LV->Hp->Prop)(us:LW)(s':Shared):Prop:=∃x y,Inv X h σ y s'/\nA x us/\Q x y
def SP(X:Cx)(x:HB)(D:Ends)(f:Flow)(s':Shared):Prop :=
 match f with
 | .next=>∃h y,Inv X x h y s'/\D.nx h y|.brk=>∃h y,Inv X x h y s'/\D.bk h y|.cont=>∃h y,Inv X x h y s'/\D.ct h y|.ret u=>∃v h y,Inv X x h y s'/\JA v u/\D.rt v y
def PE(X:Cx)(e:Expr)(t:TE):Prop :=
 ∀(h:HB) (s:Shared) (x:St) (H:Hp) (Q:VK),Inv X h x H s->t x H Q->wpAny (model X.prog X.w) X.A (eval e X.env) (EP X h x Q) X.xe s
def PT(X:Cx)(e:Expr)(t:TT):Prop :=
 ∀(h:HB) (s:Shared) (x:St) (H:Hp) (Q:Bool->Hp->Prop),Inv X h x H s->t x H Q->wpAny (model X.prog X.w) X.A (isTrue e X.env (eval e X.env)) (TP X h x Q) X.xe s
def PW(X:Cx)(e:Expr)(t:TT):Prop :=
 ∀(x:Sem Value) (h:HB) (s:Shared) (y:St) (H:Hp) (Q:Bool->Hp->Prop),Inv X h y H s->t y H Q->wpAny (model X.prog X.w) X.A (isTrue e X.env x) (TP X h y Q) X.xe s
theorem PW.pt{X:Cx}{e:Expr}{t:TT}(h:PW X e t):PT X e t:=h _
def PA(X:Cx)(es:List Expr)(t:TA):Prop :=
 ∀(y:Pos) (h:HB) (s:Shared) (x:St) (H:Hp) (Q:LV->Hp->Prop),Inv X h x H s->t x H Q->wpAny (model X.prog X.w) X.A (spliced (backTo y (starEach es X.env))) (AP X h x Q) X.xe s
def PS(X:Cx)(st:Stmt)(t:TS):Prop :=
 ∀(h:HB) (s:Shared) (x:St) (H:Hp) (D:Ends),Inv X h x H s->t D x H->wpAny (model X.prog X.w) X.A (exec st X.env) (SP X h D) X.xe s
def RV(X:Cx)(st:List Stmt)(t:TS):Prop :=
 ∀(h:HB) (s:Shared) (x:St) (H:Hp) (D:Ends),Inv X h x H s->t D x H->wpAny (model X.prog X.w) X.A (execs st X.env) (SP X h D) X.xe s
theorem LB{α:Type}{t:Sem α}{Q y:α->Shared->Prop}{M:Model}{A:Around}{E:uC}{s:Shared}(h:wpAny M A t Q E s)(z:∀a s,Q a s->y a s):wpAny M A t y E s:=qt h z λ_ _ x=>x
section
variable{X:Cx}
section
variable{z:HB}{s:Shared}{σ:St}{H:Hp}{x:Str}{pos:Pos}{E Q:uC}{u:Value}
theorem bin{a b:Expr}{ta d:TE}(r:PE X a ta)(hb:PE X b d){R:V->V->Hp->Prop}(I:Inv X z σ H s)(h:ta σ H λx j=>d σ j λy k=>R x y k)
  {α:Type}{Q:α->Shared->Prop}{f:Value->Value->Sem α}
  (q:∀v u i x y k,Inv X z σ k i->JA x v->JA y u->R x y k->wpAny (model X.prog X.w) X.A (f v u) Q X.xe i) :
  wpAny (model X.prog X.w) X.A (eval a X.env) (λv g=>wpAny (model X.prog X.w) X.A (eval b X.env) (λu e=>wpAny (model X.prog X.w) X.A (f v u) Q X.xe e) X.xe g) X.xe s:=by
 refine LB (r z s σ H _ I h) λv l ⟨x,j,Z,n,p⟩=>?_;refine LB (hb z l σ j _ Z p) λu i ⟨y,k,Y,m,o⟩=>?_;exact q v u i x y k Y n m o
noncomputable def Gq(i:Nat):TE:=λσ H Q=>∃v,σ[i]?=some (some v)/\Q v H
def tC(v:V):TE:=λ_ H Q=>Q v H
theorem N2{i:Nat}(f:X.N[i]?=some x)(hv:yp X.env.scope x)(w:(x==("__debug__":Str))=false:=by decide)(k:(x==("__classdict__":Str))=false:=by decide):PE X (.Name x pos) (Gq i):=by
 intro z s σ H Q I h;obtain⟨v,e,h⟩:=h;obtain⟨m,a,hl⟩:=I.loc;obtain⟨u,r,l⟩:=hl i x v f e hv;have fin:EP X z σ Q u s:=⟨v,H,I,r,h⟩
 rcases l with⟨hk,b⟩| ⟨hk,c,hc,y⟩
 exact QBF (QBH I.ok.kind hk a b fin) w;rcases hk with hk|hk
 ·exact QBF (wpAny_loadName_cell I.ok.kind hk hc y fin) w
 exact QBF (QBU I.ok.kind hk hc y fin k) w
theorem j3{i j pos}:PE X (.Constant (.int i) j pos) (tC (.int i)):=λ_ _ _ H _ I h=>QBl ⟨.int i,H,I.tok _,⟨_,rfl⟩,h⟩
theorem Uc{b j pos}:PE X (.Constant (.bool b) j pos) (tC (.bl b)):=λ_ _ _ H _ I h=>Constant_bool ⟨.bl b,H,I,rfl,h⟩
theorem A2{j pos}:PE X (.Constant .none j pos) (tC .non):=λ_ _ _ H _ I h=>Constant_none ⟨.non,H,I,rfl,h⟩
theorem Rg{x j pos}:PE X (.Constant (.str x) j pos) (tC (.str x)):=λ_ _ _ H _ I h=>Calls.Constant_str ⟨.str x,H,I.tok _,⟨_,rfl⟩,h⟩
def Gl(X:Cx)(x:Str):Prop:=X.env.kindOf x=some .globalImplicit
theorem IP(I:Inv X z σ H s)(v:Gl X x)(y:X.mg x=some u)(h:Q u s)
  (k:(x==("__debug__":Str))=false:=by decide):wpAny (model X.prog X.w) X.A (eval (.Name x pos) X.env) Q E s :=
 QAK I.ok.kind v (Calls.loadGlobal_global (by rw[I.ok.glob];exact I.mod.glob.keeps I.bk) y h) k
theorem iJ(I:Inv X z σ H s)(k:Gl X x)(v:X.mg x=none)(hv:bootBuiltins x=some u)(h:Q u s)
  (y:x≠"__name__":=by decide) (a:(x==("__debug__":Str))=false:=by decide):wpAny (model X.prog X.w) X.A (eval (.Name x pos) X.env) Q E s:=by
 obtain⟨f,e,b⟩:=I.mod.blt;exact QAK I.ok.kind k (Calls.loadGlobal_builtin (by rw[I.ok.glob];exact I.mod.glob.keeps I.bk) v (by rw[I.ok.blt];exact e.keeps I.bk) ((b x y).trans hv) h) a
theorem O8{v:V}(w:Gl X x)(y:X.mg x=some u)(r:JA v u)(k:(x==("__debug__":Str))=false:=by decide):PE X (.Name x pos) (tC v) :=
 λ_ _ _ H _ I h=>IP I w y ⟨v,H,I,r,h⟩ k
end
variable{a b:Expr}{ta d:TE}{pos:Pos}
variable{g n:TT}{k:List Expr}
noncomputable def Aq(t u:TT):TT:=λh H Q=>t h H λc x=>if c=true then u h x Q else Q false x
noncomputable def Nv(t u:TT):TT:=λh H Q=>t h H λc x=>if c=true then Q true x else u h x Q
noncomputable def Oq(t:TT):TT:=λh H Q=>t h H λc x=>Q (!c) x
theorem Y8(z:PT X a g):PW X (.BoolOp .And [a] pos) g:=by
 intro u x s y H Q I h;refine isTrue_and (LB (z x s y H Q I h) λc v e=>?_);cases c with|true=>exact isTrue_and_nil e|false=>exact e
theorem Xg(z:PT X a g):PW X (.BoolOp .Or [a] pos) g:=by
 intro u x s y H Q I h;refine isTrue_or (LB (z x s y H Q I h) λc v e=>?_);cases c with|false=>exact isTrue_or_nil e|true=>exact e
theorem A1(f:PT X a g)(hb:PW X (.BoolOp .And (b::k) pos) n):PW X (.BoolOp .And (a::b::k) pos) (Aq g n):=by
 intro w x s y H Q I h;refine isTrue_and (LB (f x s y H _ I h) λc e ⟨v,u,z⟩=>?_);cases c with|true=>exact hb w x e y v Q u z|false=>exact⟨v,u,z⟩
theorem Zc(f:PT X a g)(hb:PW X (.BoolOp .Or (b::k) pos) n):PW X (.BoolOp .Or (a::b::k) pos) (Nv g n):=by
 intro w x s y H Q I h;refine isTrue_or (LB (f x s y H _ I h) λc e ⟨v,u,z⟩=>?_);cases c with|true=>exact⟨v,u,z⟩|false=>exact hb w x e y v Q u z
theorem Ug(z:PT X a g):PT X (.UnaryOp .Not a pos) (Oq g):=by intro x s y H Q I h;exact isTrue_not (z x s y H (λc u=>Q (!c) u) I h)
noncomputable def Dl(ta d:TE):TE:=λh H Q=>ta h H λx y=>∃c,x=.bl c/\if c=true then d h y Q else Q (.bl false) y
noncomputable def Nq(ta d:TE):TE:=λh H Q=>ta h H λx y=>∃c,x=.bl c/\if c=true then Q (.bl true) y else d h y Q
theorem T2{op}{t:TE}(h:PE X a t):PE X (.BoolOp op [a] pos) t:=λx s y H Q I z=>BoolOp_one (h x s y H Q I z)
theorem v3(j:PE X a ta)(hb:PE X (.BoolOp .And (b::k) pos) d):PE X (.BoolOp .And (a::b::k) pos) (Dl ta d):=by
 intro y s u H Q I h;refine BoolOp_and (LB (j y s u H _ I h) λv f ⟨x,e,w,i,z⟩=>?_);obtain⟨c,rfl,z⟩:=z;cases i;refine wR ?_;cases c with|true=>exact hb y f u e Q w z|false=>exact⟨.bl false,e,w,rfl,z⟩
theorem Xc(j:PE X a ta)(hb:PE X (.BoolOp .Or (b::k) pos) d):PE X (.BoolOp .Or (a::b::k) pos) (Nq ta d):=by
 intro y s u H Q I h;refine BoolOp_or (LB (j y s u H _ I h) λv f ⟨x,e,w,i,z⟩=>?_);obtain⟨c,rfl,z⟩:=z;cases i;refine wR ?_;cases c with|false=>exact hb y f u e Q w z|true=>exact⟨.bl true,e,w,rfl,z⟩
end
def HC(K:QA)(H:Hp)(a:Addr)(xs:LV):Prop :=
 Rd H a (.lst xs) ∨
  ∃(o:Obj) (h:Array Value) (n:Nat),K.lookup a=some o/\o.cls=.type "list"/\o.dict=none/\o.data=.seq h n/\h.size<=sizeLine/\nA xs h.toList
def rD(K:QA)(H:Hp)(a:Addr)(xs:LV):Prop :=
 Rd H a (.tup xs) ∨
  ∃(o:Obj) (h:Array Value) (n:Nat),K.lookup a=some o/\o.cls=.type "tuple"/\o.data=.seq h n/\h.size<=sizeLine/\nA xs h.toList
noncomputable def MM:Value->Option V
 | .none=>some .non|.bool b=>some (.bl b)|.int i _=>some (.int i)|.str x _=>some (.str x)|.bytes b _=>some (.byt b)|.float b _=>some (.flt b)|.ref a=>some (.ref a)|.type n=>some (.ty n)|_=>none
theorem JA.abs{x:V}{u:Value}(r:JA x u):MM u=some x:=by
 cases x with|non=>cases r;rfl|bl _=>cases r;rfl|int _=>obtain⟨t,rfl⟩:=r;rfl|str _=>obtain⟨t,rfl⟩:=r;rfl|byt _=>obtain⟨t,rfl⟩:=r;rfl|flt _=>obtain⟨t,rfl⟩:=r;rfl|ref _=>cases r;rfl|ty _=>cases r;rfl
theorem JA.inj{x y:V}{u:Value}(r:JA x u)(q:JA y u):x=y:=Qs (r.abs.symm.trans q.abs)
theorem nA.inj:∀{xs h:LV}{us:LW},nA xs us->nA h us->xs=h
 |_,_,_,.nil,.nil=>rfl|_,_,_,.cons r t,.cons r' t'=>by rw[r.inj r',nA.inj t t']
section
variable{X:Cx}{x:HB}{σ:St}{H:Hp}{s:Shared}{a:Addr}{xs y:LV}
theorem HC.of{K:QA}(h:H a=some (.lst xs)):HC K H a xs:=.inl (.inl h)
theorem rD.of{K:QA}(h:H a=some (.tup xs)):rD K H a xs:=.inl (.inl h)
theorem Inv.list(I:Inv X x σ H s)(h:HC X.K H a xs):∃its:LW,nA xs its/\PlainL s.heap a its.toArray/\xs.length<=sizeLine:=by
 rcases h with h|⟨o,its,n,hk,hc,v,u,w,r⟩
 obtain⟨z,its,n,r,e⟩:=h.ok I.hok;exact⟨its,r,⟨_,n,e,rfl,rfl,rfl⟩,z⟩;refine⟨its.toList,r,⟨o,n,I.kIn a o hk,hc,v,by simpa using u⟩,?_⟩;have e:=r.length;simp only[Ql]at e;omega
theorem Inv.tuple(I:Inv X x σ H s)(h:rD X.K H a xs):∃its:LW,nA xs its/\IsTup s.heap a its.toArray/\xs.length<=sizeLine:=by
 rcases h with h|⟨o,its,n,hk,hc,u,v,r⟩
 obtain⟨z,its,r,p⟩:=h.ok I.hok;exact⟨its,r,p,z⟩;refine⟨its.toList,r,⟨o,I.kIn a o hk,hc,n,by simpa using u⟩,?_⟩;have e:=r.length;simp only[Ql]at e;omega
theorem Inv.list_inj(I:Inv X x σ H s)(h:HC X.K H a xs)(h':HC X.K H a y):xs=y:=by
 obtain⟨u,r,⟨o,n,e,_,_,d⟩,_⟩:=I.list h;obtain⟨z,k,⟨b,f,v,_,_,w⟩,_⟩:=I.list h';rw[e]at v;cases v;rw[d]at w;injection w with d1 _;have:u=z:=by simpa using congrArg Array.toList d1
 subst this;exact r.inj k
theorem Inv.tuple_inj(I:Inv X x σ H s)(h:rD X.K H a xs)(h':rD X.K H a y):xs=y:=by
 obtain⟨u,r,⟨o,e,_,n,d⟩,_⟩:=I.tuple h;obtain⟨z,k,⟨b,v,_,f,w⟩,_⟩:=I.tuple h';rw[e]at v;cases v;rw[d]at w;injection w with d1 _;have:u=z:=by simpa using congrArg Array.toList d1
 subst this;exact r.inj k
end
noncomputable abbrev Cx.wish(X:Cx)(E:uC):Cx:={ X with xe:=E }
noncomputable abbrev Cx.nox(X:Cx):Cx:=X.wish λ_ _=>False
theorem Cx.Ok.wish{X:Cx}(ok:X.Ok)(E:uC):(X.wish E).Ok :=
 ⟨ok.mod,ok.kind,ok.glob,ok.blt,ok.above,ok.inj,ok.has,ok.cab,ok.hd,ok.frames,ok.stk,ok.exf,ok.bs,ok.bsz,ok.noex,ok.exfs,ok.funs,ok.frf,ok.tb⟩
theorem Cx.Ok.unwish{X:Cx}{E:uC}(ok:(X.wish E).Ok):X.Ok :=
 ⟨ok.mod,ok.kind,ok.glob,ok.blt,ok.above,ok.inj,ok.has,ok.cab,ok.hd,ok.frames,ok.stk,ok.exf,ok.bs,ok.bsz,ok.noex,ok.exfs,ok.funs,ok.frf,ok.tb⟩
section
variable{X:Cx}{x:HB}{σ:St}{H:Hp}{s:Shared}{E:uC}
theorem Inv.wish(I:Inv X x σ H s)(E:uC):Inv (X.wish E) x σ H s:=⟨I.ok.wish E,I.os,I.bare,I.base,I.loc,I.cell,I.free,I.freeC,I.pin,I.hok,I.len⟩
theorem Inv.unwish(I:Inv (X.wish E) x σ H s):Inv X x σ H s:=⟨I.ok.unwish,I.os,I.bare,I.base,I.loc,I.cell,I.free,I.freeC,I.pin,I.hok,I.len⟩
theorem SP.unwish{D:Ends}{f:Flow}{s':Shared}(h:SP (X.wish E) x D f s'):SP X x D f s':=by
 cases f with|next=>obtain⟨y,z,I,q⟩:=h;exact⟨y,z,I.unwish,q⟩|brk=>obtain⟨y,z,I,q⟩:=h;exact⟨y,z,I.unwish,q⟩|cont=>obtain⟨y,z,I,q⟩:=h;exact⟨y,z,I.unwish,q⟩|ret u=>obtain⟨v,y,z,I,r,q⟩:=h;exact⟨v,y,z,I.unwish,r,q⟩
theorem RV.nox{st:List Stmt}{t:TS}(h:RV X.nox st t):RV X st t:=λx s σ H D I y =>
 qt (h x s σ H D (I.wish _) y) (λ_ _ q=>q.unwish) λ_ _ z=>Qc z
end
section
variable{X:Cx}{st:Stmt}{y:List Stmt}{t u:TS}{e:Expr}{te:TE}{pos:Pos}
def Xl:TS:=λD h H=>D.nx h H
noncomputable def Lq(t u:TS):TS:=λD h H=>t { D with nx:=u D } h H
theorem K8:RV X [] Xl:=λ_ _ x H _ I h=>W5 ⟨x,H,I,h⟩
theorem J2(b:PS X st t)(a:RV X y u):RV X (st::y) (Lq t u):=by
 intro x s w H D I h;refine QCG (LB (b x s w H { D with nx:=u D } I h) λf k q=>?_);cases f with|next=>obtain⟨z,i,g,q⟩:=q;exact a x k z i D g q|ret v=>exact q|brk=>exact q|cont=>exact q
theorem ZW(w:PS X st t):RV X [st] t:=by
 intro x s z H D I h;refine QCG (LB (w x s z H D I h) λf k q=>?_);cases f with|next=>exact W5 q|ret v=>exact q|brk=>exact q|cont=>exact q
theorem Inv.quiet{h:HB}{σ:St}{H:Hp}{s:Shared}(I:Inv X h σ H s):interactive X.env=false:=by simp[interactive,I.ok.kind]
noncomputable def Ul(te:TE):TS:=λD h H=>te h H λ_ x=>D.nx h x
theorem VW(b:PE X e te)(a:swapsWith e none pos.line X.env=pure false:=by rfl):PS X (.Expr e pos) (Ul te):=by intro z s w H D I h;exact wpAny_Expr_any (LB (b z s w H _ I h) λv i ⟨x,g,f,j,k⟩=>⟨w,g,f,k⟩) I.quiet a
def Mq(te:TE):TS:=λD h H=>te h H D.rt
theorem K2(b:PE X e te):PS X (.Return (some e) pos) (Mq te):=by intro z s w H D I h;exact wpAny_Return_some (LB (b z s w H _ I h) λv i ⟨x,g,f,k,a⟩=>⟨x,w,g,f,k,a⟩)
noncomputable def Rq(c:TT)(t u:TS):TS:=λD h H=>c h H λb x=>if b=true then t D h x else u D h x
theorem Km{c:Expr}{a b:List Stmt}{tc:TT}(hc:PT X c tc)(g:RV X a t)(hb:RV X b u):PS X (.If c a b pos) (Rq tc t u):=by
 intro x s z H D I h;refine wpAny_If (LB (hc x s z H _ I h) λd v ⟨f,k,w⟩=>?_);cases d with|true=>exact g x v z f D k w|false=>exact hb x v z f D k w
end
noncomputable abbrev TG:=V->St->Hp->(St->Hp->Prop)->Prop
noncomputable abbrev Bt:=LV->St->Hp->(St->Hp->Prop)->Prop
def PG(X:Cx)(h:Expr)(t:TG):Prop :=
 ∀(x:HB) (s:Shared) (z:St) (H:Hp) (v:V) (u:Value) (Q:St->Hp->Prop),Inv X x z H s->JA v u->t v z H Q ->
  wpAny (model X.prog X.w) X.A (assign h X.env u) (λ_ a=>∃y k,Inv X x y k a/\Q y k) X.xe s
def Nu(X:Cx)(ts:List Expr)(t:Bt):Prop :=
 ∀(h:HB) (s:Shared) (y:St) (H:Hp) (z:LV) (u:LW) (Q:St->Hp->Prop),Inv X h y H s->nA z u->t z y H Q ->
  wpAny (model X.prog X.w) X.A (assignInOrder ((assignEach ts X.env).map (·.2)) u) (λ_ k=>∃x v,Inv X h x v k/\Q x v) X.xe s
noncomputable abbrev Bj:=V->V->V->Hp->(Hp->Prop)->Prop
def Gb(X:Cx)(t:Bj):Prop :=
 ∀(h:HB) (s:Shared) (x:St) (H:Hp) (o i v:V) (y z u:Value) (Q:Hp->Prop),Inv X h x H s->JA o y->JA i z->JA v u->t o i v H Q ->
  wpAny (model X.prog X.w) X.A (setItem y z u) (λ_ a=>∃k,Inv X h x k a/\Q k) X.xe s
section
variable{X:Cx}{pos:Pos}
section
variable{i:Nat}{x:Str}{e:Expr}{te:TE}
noncomputable def hX(i:Nat):TG:=λv h H Q=>Q (h.set i (some v)) H
theorem CW(a:X.N.Nodup)(w:X.N[i]?=some x)(z:Vk X.env.scope x)(k:X.fn x=true∨X.env.scope.names.lookup x=some .local):PG X (.Name x pos) (hX i):=by intro y s f H v u Q I r h;exact QBu (bR I a w z r (λg b=>⟨_,H,b,h⟩) k)
noncomputable def Ds(K:QA)(n:Nat)(t:Bt):TG:=λv y H Q=>∃a h,v=.ref a/\rD K H a h/\h.length=n/\t h y H Q
theorem Mg{es:List Expr}{k:Nat}{t:Bt}{n:Nat}(hc:X.calm=true)(h:Nu X es t)
  (Y:(assignEach es X.env).length=n:=by rfl) (w:(assignEach es X.env).findIdx? (·.1)=none:=by rfl):PG X (.Tuple es k pos) (Ds X.K n t):=by
 intro y s f H v u Q I r z;obtain⟨a,j,W,q,hl,z⟩:=z;subst W;cases r;obtain⟨l,g,p,B⟩:=I.tuple q;refine assign_Tuple_tuple (I.ok.hd hc) p (by simp[Y,<- hl,g.length]) w λZ m=>?_;have A:Inv X y f H { s with heap:=Z }:=I.kept (t':=s.toks) λb o e=>m b o (Qn (Qa e)) e;exact h y _ f H j _ Q A (by simpa using g) z
noncomputable def Hs(y z:TE)(t:Bj):TG:=λv h H Q=>y h H λo k=>z h k λi w=>t o i v w λu=>Q h u
theorem Ng{o i:Expr}{b f:TE}{t:Bj}(Z:PE X o b)(W:PE X i f)(Y:Gb X t)
  (K:∀v,assign (.Subscript o i pos) X.env v=(do
   let w <- holding [v] (eval o X.env)
   let k <- holding [v,w] (eval i X.env)
   standAt pos
   holding [v,w,k] (setItem w k v)
   release [v,w,k] []):=by intro _;rfl):PG X (.Subscript o i pos) (Hs b f t):=by
 intro z s a H v u Q I r h;rw[K];refine QC (qk (LB (Z z s a H _ I h) λw j ⟨x,G,C,m,q⟩=>?_));refine QC (qk (LB (W z j a G _ C q) λk g ⟨y,F,B,l,p⟩=>?_));refine QC (QBm (QC (qk (LB (Y z g a F x y v w k u _ B m l r p) λ_ J ⟨E,A,n⟩=>?_))));exact wpAny_release ⟨a,E,A,n⟩
noncomputable def jg(te:TE)(g:TG):TS:=λD h H=>te h H λx y=>g x h y D.nx
theorem Fg{z:Expr}{g:TG}(l:PE X e te)(j:PG X z g)(f:swapsWithSole [z] e pos.line X.env=pure false:=by rfl)(b:swappedStores [z] e X.env=pure none:=by rfl)
  (m:(assignEach [z] X.env).map (·.2)=[assign z X.env]:=by rfl):PS X (.Assign [z] e pos) (jg te g):=by
 intro y s u H D I h;refine wpAny_Assign_stores (LB (l y s u H _ I h) λv w ⟨x,o,n,k,a⟩=>?_) f b;rw[m];exact LB (j y w u o x v _ n k a) λ_ p q=>q
theorem Bg{pos':Pos}(l:X.N.Nodup)(f:X.N[i]?=some x)(a:Vk X.env.scope x)(j:PE X e te)(b:swapsWith e (some (.Name x pos')) pos.line X.env=pure false:=by rfl)(g:X.fn x=true∨X.env.scope.names.lookup x=some .local) :
  PS X (.Assign [.Name x pos'] e pos) (jg te (hX i)):=by
 intro z s u H D I h;refine wpAny_Assign_Name (LB (j z s u H _ I h) λv q ⟨y,o,n,w,k⟩=>?_) b;exact bR n l f a w (λp m=>⟨_,o,m,k⟩) g
end
end
section
variable{X:Cx}{pos:Pos}
noncomputable def K0(c:TT)(tb:TS):TS:=λD h H=>∃W:Nat->St->Hp->Prop,(∃m,W m h H)/\∀m h H,W m h H ->
 c h H λb z=>if b=true then ∃N:St->Hp->Prop,(∀x u,N x u->∃y,y < m/\W y x u)/\tb { D with nx:=N,ct:=N,bk:=D.nx } h z else D.nx h z
theorem Y2{c:Expr}{body:List Stmt}{tc:TT}{tb:TS}(p:PassesOwn (model X.prog X.w) X.A X.env X.xe)(hc:PT X c tc)(hb:RV X body tb):PS X (.While c body [] pos) (K0 tc tb):=by
 intro y s B H D I h;obtain⟨W,⟨L,E⟩,k⟩:=h;refine wpAny_While (codeAny_whileLoop (λn J=>∃u K,Inv X y u K J/\W n u K) ?_ L ⟨B,H,I,E⟩);rintro n G ⟨z,Z,M,C⟩;refine wT p (LB (hc y G z Z _ M (k n z Z C)) λb F ⟨Y,r,g⟩=>?_);cases b with
 |true =>
  obtain⟨N,q,g⟩:=g;rw[if_pos rfl];refine wT p (LB (hb y F z Y _ r g) λf O e=>?_);cases f with|next=>obtain⟨x,a,o,j⟩:=e;obtain⟨l,m,i⟩:=q x a j;exact⟨l,m,x,a,o,i⟩|cont=>obtain⟨x,a,o,j⟩:=e;obtain⟨l,m,i⟩:=q x a j;exact⟨l,m,x,a,o,i⟩|brk=>exact e|ret v=>exact e
 |false=>rw[if_neg QG];exact W5 ⟨z,Y,r,g⟩
end
section
variable{s:Shared}{y:Expr}{P:Program}{w:World}{K:QA}
structure It where
 go:Nat->Hp->Prop
 yld:Nat->Hp->V->Hp->Prop
 stop:Nat->Hp->Prop
def zJ(X:Cx)(h:HB)(H:Hp)(b:Addr):Prop :=
 H b=none/\b≠X.env.locals/\b∉X.fs/\(b∈X.ex∨X.s₀.heap.objs.size<=b)/\(∀x c,X.env.cells.lookup x=some c->c≠b)/\∀p∈X.pn++h,p.1≠b
theorem Inv.fpOk{X:Cx}{h:HB}{σ:St}{H u:Hp}{b:Addr}(I:Inv X h σ H s)(hb:s.heap.objs.size<=b)(a:u b=none):zJ X h u b:=by refine⟨a,wo (Qo I.lt hb),I.nofs hb,.inr (QY I.sz hb),λx c e z=>?_,λp k z=>?_⟩;obtain⟨v,q⟩:=I.cell x c e;exact absurd (Qo q.lt (by rw[z];exact hb)) (qj _);exact absurd (Qo (Qa (I.pin p k).1) (by rw[z];exact hb)) (qj _)
structure Turn0(P:Program)(w:World)(K:QA)(y:Expr)(J:It)(fp:List Addr)(it:Addr)(tn:Nat->Heap->Prop):Prop where
 mem:it∈fp
 obj:∀i h,tn i h->∀b∈fp,∃o,h.get? b=some o/\∀v,o.data≠.cell v
 keep:∀i h h',tn i h->(∀b∈fp,∀o,h.get? b=some o->h'.get? b=some o)->tn i h'
 item:∀(X:Cx),X.prog=P->X.w=w->X.K=K->X.calm=true->∀(i:Nat) (pins:HB) (s:Shared) (σ:St) (H:Hp) (E:uC),Inv X pins σ H s->(∀b∈fp,zJ X pins H b)->tn i s.heap->J.go i H ->
  wpAny (model P w) X.A (pyNext (.ref it)) (λr s1=>∃u,r=some u /\
   wpAny (model P w) X.A (letOwnedTupleGo y (.ref it) u) (λ_ s2=>∃x H',Inv X pins σ H' s2/\JA x u/\J.yld i H x H'/\tn (i+1) s2.heap/\∀b∈fp,H' b=none) E s1) E s
 done:∀(X:Cx),X.prog=P->X.w=w->X.K=K->X.calm=true->∀(i:Nat) (pins:HB) (s:Shared) (σ:St) (H:Hp) (E:uC),Inv X pins σ H s->(∀b∈fp,zJ X pins H b)->tn i s.heap->J.stop i H ->
  wpAny (model P w) X.A (pyNext (.ref it)) (λr s1=>r=none/\Inv X pins σ H s1) E s
structure Turn(P:Program)(w:World)(K:QA)(y:Expr)(J:It)(fp:List Addr)(it:Addr)(tn:Nat->Heap->Prop):Prop extends Turn0 P w K y J fp it tn where
 self:∀(A:Around) (i:Nat) (s:Shared) (Q:uC) (E:uC),tn i s.heap->Q (.ref it) s->wpAny (model P w) A (pyIter (.ref it)) Q E s
noncomputable abbrev TI:=St->Hp->(It->Hp->Prop)->Prop
def Ht(X:Cx)(h:HB)(σ:St)(y:Expr)(R:It->Hp->Prop)(x:Value)(u:Shared):Prop :=
 ∃(it:Addr) (v:List Addr) (tn:Nat->Heap->Prop) (J:It) (z:Hp),x=.ref it/\Inv X h σ z u/\Turn X.prog X.w X.K y J v it tn/\tn 0 u.heap/\(∀b∈v,zJ X h z b)/\R J z
def PI(X:Cx)(y x:Expr)(u:TI):Prop :=
 ∀(h:HB) (s:Shared) (z:St) (H:Hp) (R:It->Hp->Prop),Inv X h z H s->u z H R ->
  wpAny (model X.prog X.w) X.A (eval x X.env) (λv k=>wpAny (model X.prog X.w) X.A (pyIter v) (Ht X h z y R) X.xe k) X.xe s
def Dt(X:Cx)(h:HB)(σ:St)(y:Expr)(R:It->Hp->Prop)(x:Value)(u:Shared):Prop :=
 ∃(it:Addr) (v:List Addr) (tn:Nat->Heap->Prop) (J:It) (z:Hp),x=.ref it/\Inv X h σ z u/\Turn0 X.prog X.w X.K y J v it tn/\tn 0 u.heap/\(∀b∈v,zJ X h z b)/\R J z
def cq(X:Cx)(y x:Expr)(u:TI):Prop :=
 ∀(h:HB) (s:Shared) (z:St) (H:Hp) (R:It->Hp->Prop),Inv X h z H s->u z H R ->
  wpAny (model X.prog X.w) X.A (eval x X.env) (λv k=>wpAny (model X.prog X.w) X.A (pyIter v) (Dt X h z y R) X.xe k) X.xe s
theorem PI.to0{X:Cx}{z:Expr}{k:TI}(h:PI X y z k):cq X y z k:=λu s a H R I q =>
 qt (h u s a H R I q) (λv m f=>qt f (λb l ⟨it,g,tn,J,j,e,i,T,r⟩=>⟨it,g,tn,J,j,e,i,T.toTurn0,r⟩) λ_ _ x=>x) λ_ _ x=>x
theorem go_of{M:Model}{A:Around}{E:uC}{it:Addr}{u:Value}{o:Obj}{n:String}{vs:Array Value}{Q:Unit->Shared->Prop}(z:s.heap.get? it=some o)(hc:o.cls=.type n)(k:o.data=.fields vs)
    (v:["enumerate","zip","dict_itemiterator","dict_reverseitemiterator","odict_iterator","itertools.zip_longest","itertools.pairwise"].contains n=false) (x:Q () s):wpAny M A (letOwnedTupleGo y (.ref it) u) Q E s:=by
  unfold letOwnedTupleGo;cases y<;>first
    |exact QK x
    | (cases u<;>first
        |exact QK x
        | (refine QC (wpAny_load z ?_)
           rw[hc,k];show wpAny M A (if(["enumerate","zip","dict_itemiterator","dict_reverseitemiterator","odict_iterator","itertools.zip_longest","itertools.pairwise"].contains n&&vs[0]?==some (rawInt _))=true then _ else _) Q E s;rw[if_neg (by intro h;rw[v,QAS]at h;cases h)];exact QK x))
noncomputable def Zv(K:QA)(a:Addr):It :=
 ⟨λi H=>∃h x,HC K H a h/\h[i]?=some x,λi H x z=>z=H/\∀h,HC K H a h->h[i]?=some x,λi H=>∃h,HC K H a h/\h.length<=i⟩
noncomputable def Jv(K:QA)(a:Addr):It :=
 ⟨λi H=>∃h x,rD K H a h/\h[i]?=some x,λi H x z=>z=H/\∀h,rD K H a h->h[i]?=some x,λi H=>∃h,rD K H a h/\h.length<=i⟩
noncomputable def zu(h:Int)(n:Nat):It:=⟨λi _=>i<n,λi H x z=>z=H/\x=.int (h+i),λi _=>n<=i⟩
theorem AX(a it:Addr):Turn P w K y (Zv K a) [it] it (λi h=>h.IsListIter it a i) where
 mem:=by simp
 obj:=λi h st b hb=>by
  have e:b=it:=by simpa using hb
  subst e;obtain⟨o,e,c,d⟩:=st;exact⟨o,e,λv z=>by rw[d]at z;cases z⟩
 keep:=λi h m st k=>st.at λo e=>k it (by simp) o e
 item:=by intro X W Y A hc i f s L H E I l st Z;subst W Y A;obtain⟨M,x,j,r⟩:=Z;obtain⟨q,n,p,Q⟩:=I.list j;obtain⟨u,S,O⟩:=n.get r;obtain⟨J,G,f2,F,C,B⟩:=l it (by simp);refine wpAny_pyNext_list_item st p.isList (x:=u) (by simpa using S) λm g N=>?_;have I1:Inv X f L H { s with heap:=m }:=I.turned (t':=s.toks) (λb o hb e=>(N.2 b hb).trans e) J G F C B;obtain⟨o,e,c,d⟩:=id g;exact⟨u,rfl,go_of (s:={ s with heap:=m }) e c d (by decide) ⟨x,H,I1,O,⟨rfl,λys R=>by rw[I.list_inj R j];exact r⟩,g,λb hb=>(l b hb).1⟩⟩
 done:=by intro X W Y A hc i f s L H E I l st Z;subst W Y A;obtain⟨M,j,r⟩:=Z;obtain⟨q,n,p,Q⟩:=I.list j;obtain⟨J,G,f2,F,C,B⟩:=l it (by simp);have hl:=n.length;exact wpAny_pyNext_list_end (I.ok.hd hc) st p.isList (by simp;omega) λm eb=>⟨rfl,I.turned (t':=s.toks) (λb o hb e=>eb b o hb e) J G F C B⟩
 self:=λ_ _ _ _ _ st h=>wpAny_pyIter_listiter st h
theorem jU(a it:Addr):Turn P w K y (Jv K a) [it] it (λi h=>h.IsTupleIter it a i) where
 mem:=by simp
 obj:=λi h st b hb=>by
  have e:b=it:=by simpa using hb
  subst e;obtain⟨o,e,c,d⟩:=st;exact⟨o,e,λv z=>by rw[d]at z;cases z⟩
 keep:=λi h n st k=>st.at λo e=>k it (by simp) o e
 item:=by intro X W Y A hc i f s L H E I m st Z;subst W Y A;obtain⟨M,x,l,r⟩:=Z;obtain⟨g,q,p,Q⟩:=I.tuple l;obtain⟨u,S,O⟩:=q.get r;obtain⟨J,G,f2,F,C,B⟩:=m it (by simp);refine wpAny_pyNext_tuple_item st (show s.heap.IsTuple a g.toArray from p) (x:=u) (by simpa using S) λn j N=>?_;have I1:Inv X f L H { s with heap:=n }:=I.turned (t':=s.toks) (λb o hb e=>(N.2 b hb).trans e) J G F C B;obtain⟨o,e,c,d⟩:=id j;exact⟨u,rfl,go_of (s:={ s with heap:=n }) e c d (by decide) ⟨x,H,I1,O,⟨rfl,λys R=>by rw[I.tuple_inj R l];exact r⟩,j,λb hb=>(m b hb).1⟩⟩
 done:=by intro X W Y A hc i f s L H E I m st Z;subst W Y A;obtain⟨M,l,r⟩:=Z;obtain⟨g,q,p,Q⟩:=I.tuple l;obtain⟨J,G,f2,F,C,B⟩:=m it (by simp);have hl:=q.length;exact wpAny_pyNext_tuple_end (I.ok.hd hc) st (show s.heap.IsTuple a g.toArray from p) (by simp;omega) λn eb=>⟨rfl,I.turned (t':=s.toks) (λb o hb e=>eb b o hb e) J G F C B⟩
 self:=λ_ _ _ _ _ st h=>wpAny_pyIter_tupleiter st h
theorem yU(it:Addr)(a:Int)(n:Nat):Turn P w K y (zu a n) [it] it (λi h=>IsRangeIter h it (a+(i:Nat) * 1) ((n:Int) - (i:Nat)) 1) where
 mem:=by simp
 obj:=λi h st b hb=>by
  have e:b=it:=by simpa using hb
  subst e;exact⟨_,st,λv z=>by have F:Data.fields _=Data.cell v:=z;cases F⟩
 keep:=λi h g st k=>k it (by simp) _ st
 item:=by intro X m j p hc i x s B H E I f st l;subst m j p;obtain⟨A,Z,J,Y,r,q⟩:=f it (by simp);have W:=Walks.range (prog:=X.prog) (w:=X.w) (I.ok.hd hc) it a 1 n;refine W.item i s _ _ l st λv g C hv u G=>?_;obtain⟨t,rfl⟩:=hv;have M:Inv X x B H { s with heap:=g,toks:=C }:=I.turned (λb o hb e=>G b o (by simpa using hb) e) A Z Y r q;refine⟨_,rfl,go_of (s:={ s with heap:=g,toks:=C }) (n:="range_iterator") u rfl rfl (by decide) ⟨.int (a+i),H,M,⟨t,?_⟩,⟨rfl,rfl⟩,u,λb hb=>(f b hb).1⟩⟩;rw[Int.mul_one]
 done:=by intro X m j p hc i x s B H E I f st l;subst m j p;obtain⟨A,Z,J,Y,r,q⟩:=f it (by simp);exact wpAny_pyNext_range_end (I.ok.hd hc) st (by have:n<=i:=l;omega) λg L=>⟨rfl,I.turned (t':=s.toks) (λb o hb e=>L b o hb e) A Z Y r q⟩
 self:=λ_ _ _ _ _ st h=>wpAny_pyIter_rangeiter st h
end
section
variable{X:Cx}{a:Expr}
section
variable{y:HB}{σ:St}{H:Hp}{s:Shared}{k:List Addr}{h:Heap}
theorem O1{R:It->Hp->Prop}{E:uC}{x z:Int}{t u v:Tok}{f:Nat}(I:Inv X y σ H s)(m:-(2 ^ 62)<=x)(l:x<2 ^ 62)(j:-(2 ^ 62)<=z)(i:z<2 ^ 62)
  (q:R (zu x (z - x).toNat) H):wpAny (model X.prog X.w) X.A (pyIter (.ref s.heap.objs.size)) (Ht X y σ a R) E { s with heap:=s.heap.push { cls:=.type "range",data:=.fields #[.int x t,.int z u,.int 1 v] },toks:=f }:=by
 refine wpAny_pyIter_range (IsRange.new ..) (small_one m l j i) ?_;have g:Inv X y σ H { s with heap:=s.heap.push { cls:=.type "range",data:=.fields #[.int x t,.int z u,.int 1 v] },toks:=f }:=I.kept λb o e=>QH _ e;refine⟨(s.heap.push { cls:=.type "range",data:=.fields #[.int x t,.int z u,.int 1 v] }).objs.size,[(s.heap.push { cls:=.type "range",data:=.fields #[.int x t,.int z u,.int 1 v] }).objs.size],_,_,H,rfl,
  g.kept (t':=f) λb o e=>QH _ e,yU _ x (z - x).toNat,?_,λb hb=>?_,q⟩
 have p:x+((0:Nat):Int) * 1=x:=by simp
 have n:(((z - x).toNat:Nat):Int) - ((0:Nat):Int)=WM x z 1:=by rw[rangeSize_one];split<;>omega
 show IsRangeIter _ _ (x+((0:Nat):Int) * 1) ((((z - x).toNat:Nat):Int) - ((0:Nat):Int)) 1;rw[p,n];exact QT _ rfl;have e:b=(s.heap.push { cls:=.type "range",data:=.fields #[.int x t,.int z u,.int 1 v] }).objs.size:=by simpa using hb
 subst e;exact g.fpOk (QW _) (g.hok.fresh (QW _))
noncomputable def Sq(b:TI)(g:TG)(tb:TS):TS:=λD σ H=>b σ H λJ f=>∃W:Nat->Nat->St->Hp->Prop,(∃m,W 0 m σ f)/\∀i m σ H,W i m σ H ->
 (J.stop i H/\D.nx σ H)∨(J.go i H/\∃N:St->Hp->Prop,(∀z u,N z u->∃w,w < m/\W (i+1) w z u)/\∀x u,J.yld i H x u->g x σ u λv e=>tb { D with nx:=N,ct:=N,bk:=D.nx } v e)
noncomputable def LL(k:List Addr)(h:Heap):HB:=k.filterMap λb=>(h.get? b).map λo=>(b,o)
theorem JE{b:Addr}{o:Obj}(hb:b∈k)(e:h.get? b=some o):(b,o)∈LL k h:=QBn.mpr ⟨b,hb,by rw[e];rfl⟩
theorem iY{p:Addr×Obj}(x:p∈LL k h):p.1∈k/\h.get? p.1=some p.2:=by
 obtain⟨b,hb,e⟩:=QBn.mp x;cases q:h.get? b with|none=>rw[q]at e;cases e|some o=>rw[q]at e;have z:(b,o)=p:=Qs e;subst z;exact⟨hb,q⟩
theorem Inv.pinned(I:Inv X y σ H s)(f:∀b∈k,zJ X y H b)(w:∀b∈k,∃o,s.heap.get? b=some o/\∀v,o.data≠.cell v):Inv X (y++LL k s.heap) σ H s :=
 I.pins_of λp u=>(Qh.mp u).elim (λz=>I.pin p (Qb _ z)) λz=>by obtain⟨hb,e⟩:=iY z;obtain⟨j,i,g,_⟩:=f p.1 hb;obtain⟨o,x,d⟩:=w p.1 hb;rw[e]at x;cases x;exact⟨e,j,i,g,d⟩
theorem Inv.unpinned{x:HB}(I:Inv X (y++x) σ H s):Inv X y σ H s:=I.pins_of λp z=>I.pin p (Qb _ (Qp _ z))
theorem Cg{q:Expr}{body:List Stmt}{wi:TI}{g:TG}{tb:TS}{pos:Pos}(O:PassesOwn (model X.prog X.w) X.A X.env X.xe)(hc:X.calm=true)(hi:cq X a q wi)(hg:PG X a g)(hb:RV X body tb)
  (hs:∀x,foldedSetIterable q X.env x=pure x:=by intro _;rfl):PS X (.For a q body [] pos) (Sq wi g tb):=by
 intro y s σ H D I h;refine wpAny_For (LB (hi y s σ H _ I h) λv s1 h1=>LB h1 λitv s2 h2=>?_) hs;obtain⟨it,k,tn,J,H2,e,I2,T,S,f2,W,⟨m0,w0⟩,F⟩:=h2;subst e;have p:∀{B:Hp},(∀b∈k,B b=none)->∀b∈k,zJ X y B b:=λhn b hb=>⟨hn b hb,(f2 b hb).2⟩
 refine codeAny_forLoop_any (λn s'=>∃i l B,Inv X y l B s'/\tn i s'.heap/\(∀b∈k,B b=none)/\W i n l B) ?_ m0 ⟨0,σ,H2,I2,S,λb hb=>(f2 b hb).1,w0⟩;rintro n s3 ⟨i,j,Q,I3,L,P,w3⟩;rcases F i n j Q w3 with⟨G,qn⟩| ⟨go,N,hN,step⟩
 refine wT O (LB (T.done X rfl rfl rfl hc i y s3 j Q X.xe I3 (p P) L G) λr s4 ⟨hr,I4⟩=>?_);subst hr;exact W5 ⟨j,Q,I4,qn⟩;refine wT O (LB (T.item X rfl rfl rfl hc i y s3 j Q X.xe I3 (p P) L go) λr s4 ⟨u,hr,h4⟩=>?_);subst hr;refine wT O (LB h4 λ_ s5 ⟨x,H5,I5,r5,y5,E,fr5⟩=>?_);have I5':=I5.pinned (p fr5) (T.obj _ _ E);refine wT O (LB (hg _ s5 j H5 x u _ I5' r5 (step x H5 y5)) λ_ s6 ⟨R,H6,I6,q6⟩=>?_);refine wT O (LB (hb _ s6 R H6 _ I6 q6) λf s7 C=>?_);have Y:∀{z:St}{K:Hp},Inv X (y++LL k s5.heap) z K s7->N z K->∃m,m<n/\∃i l B,Inv X y l B s7/\tn i s7.heap/\(∀b∈k,B b=none)/\W i m l B:=λ{z K} Z M=>by obtain⟨m',hm,w7⟩:=hN z K M;refine⟨m',hm,i+1,z,K,Z.unpinned,T.keep _ _ _ E λb hb o e=>(Z.pin (b,o) (Qb _ (Qb _ (JE hb e)))).1,λb hb=>?_,w7⟩;obtain⟨o,e,d⟩:=T.obj _ _ E b hb;exact(Z.pin (b,o) (Qb _ (Qb _ (JE hb e)))).2.1
 cases f with|next=>obtain⟨z,K,Z,M⟩:=C;exact Y Z M|cont=>obtain⟨z,K,Z,M⟩:=C;exact Y Z M|brk=>obtain⟨z,K,Z,C⟩:=C;exact⟨z,K,Z.unpinned,C⟩|ret v=>obtain⟨x7,z,K,Z,r7,C⟩:=C;exact⟨x7,z,K,Z.unpinned,r7,C⟩
end
end
noncomputable abbrev R2:=V->V->Hp->VK->Prop
def oE(X:Cx)(f:Value->Value->Sem Value)(r:R2):Prop :=
 ∀(h:HB) (s:Shared) (z:St) (H:Hp) (x y:V) (v u:Value) (Q:VK),Inv X h z H s->JA x v->JA y u->r x y H Q ->
  wpAny (model X.prog X.w) X.A (f v u) (EP X h z Q) X.xe s
def BC(X:Cx)(f:Value)(r:LV->Hp->VK->Prop):Prop :=
 ∀(h:HB) (s:Shared) (x:St) (H:Hp) (y:LV) (z:LW) (Q:VK),Inv X h x H s->nA y z->r y H Q ->
  wpAny (model X.prog X.w) X.A (call f z) (EP X h x Q) X.xe s
def Ut(X:Cx)(r:V->Hp->(Bool->Hp->Prop)->Prop):Prop :=
 ∀(h:HB) (s:Shared) (y:St) (H:Hp) (x:V) (v:Value) (Q:Bool->Hp->Prop),Inv X h y H s->JA x v->r x H Q ->
  wpAny (model X.prog X.w) X.A (truthy v) (TP X h y Q) X.xe s
noncomputable def Kl(r:R2)(ta tb:TE):TE:=λh H Q=>ta h H λx u=>tb h u λy z=>r x y z Q
noncomputable def rI(C:Int->Int->Prop)(g:Int->Int->V):R2:=λx y H Q=>∃i j,x=.int i/\y=.int j/\C i j/\Q (g i j) H
noncomputable def i8(g:Int->Int->V):R2:=λx y H Q=>∃i j,x=.int i/\y=.int j/\Q (g i j) H
section
variable{X:Cx}{a b c:Expr}{ta z tc:TE}{pos:Pos}
section
variable{f:Value->Value->Sem Value}{g:Int->Int->Int}
theorem binT(Z:PE X a ta)(hb:PE X b z){k:HB}{s:Shared}{σ:St}{H:Hp}{R:V->V->Hp->Prop}(I:Inv X k σ H s)
  (h:ta σ H λx m=>z σ m λy e=>R x y e) {Q:uC}
  (Y:∀v u l x y e,Inv X k σ e l->JA x v->JA y u->R x y e->wpAny (model X.prog X.w) X.A (f v u) Q X.xe l) :
  wpAny (model X.prog X.w) X.A (eval a X.env) (λv j=>wpAny (model X.prog X.w) X.A (eval b X.env) (λu i=>wpAny (model X.prog X.w) X.A (f v u) Q X.xe i) X.xe j) X.xe s:=by
 refine LB (Z k s σ H _ I h) λv n ⟨x,m,K,p,r⟩=>?_;refine LB (hb k n σ m _ K r) λu l ⟨y,e,W,o,q⟩=>?_;exact Y v u l x y e W p o q
theorem Vm{op:Operator}{r:R2}(l:oE X (binaryOp op) r)(m:PE X a ta)(hb:PE X b z):PE X (.BinOp a op b pos) (Kl r ta z):=by intro w s k H Q I h;exact wpAny_BinOp (binT m hb I h λv u e x y o n j i q=>l w e k o x y v u Q n j i q)
theorem Av{C:Int->Int->Prop}
  (k:∀(i j:Int) (t u:Tok) (s:Shared) (Q:uC) (E:uC),C i j->Q (.int (g i j) s.toks) { s with toks:=s.toks+1 }->wpAny (model X.prog X.w) X.A (f (.int i t) (.int j u)) Q E s) :
  oE X f (rI C λi j=>.int (g i j)):=by
 intro e s o H x y v u Q I n m h;obtain⟨i,j,rfl,rfl,hc,q⟩:=h;obtain⟨t,rfl⟩:=n;obtain⟨l,rfl⟩:=m;exact k i j t l s _ _ hc ⟨.int (g i j),H,I.tok _,⟨_,rfl⟩,q⟩
theorem Gm
  (k:∀(i j:Int) (t u:Tok) (s:Shared) (Q:uC) (E:uC),Q (.int (g i j) s.toks) { s with toks:=s.toks+1 }->wpAny (model X.prog X.w) X.A (f (.int i t) (.int j u)) Q E s) :
  oE X f (i8 λi j=>.int (g i j)):=by
 intro e s o H x y v u Q I n m h;obtain⟨i,j,rfl,rfl,q⟩:=h;obtain⟨t,rfl⟩:=n;obtain⟨l,rfl⟩:=m;exact k i j t l s _ _ ⟨.int (g i j),H,I.tok _,⟨_,rfl⟩,q⟩
theorem x9{g:Int->Int->Bool}
  (k:∀(i j:Int) (t u:Tok) (s:Shared) (Q:uC) (E:uC),Q (.bool (g i j)) s->wpAny (model X.prog X.w) X.A (f (.int i t) (.int j u)) Q E s) :
  oE X f (i8 λi j=>.bl (g i j)):=by
 intro e s o H x y v u Q I n m h;obtain⟨i,j,rfl,rfl,q⟩:=h;obtain⟨t,rfl⟩:=n;obtain⟨l,rfl⟩:=m;exact k i j t l s _ _ ⟨.bl (g i j),H,I,rfl,q⟩
def uN(i j:Int):Prop:=(-(2 ^ 64)<i/\i<2 ^ 64)∨(-(2 ^ 64)<j/\j<2 ^ 64)
theorem uN.ok{i j:Int}(h:uN i j):IntMulOk i j:=by
 rcases h with⟨y,x⟩| ⟨y,x⟩
 exact .of_left (intBits_le_64 y x);exact .of_right (intBits_le_64 y x)
theorem op_add:oE X (binaryOp .Add) (i8 λi j=>.int (i+j)):=Gm λ_ _ _ _ _ _ _ q=>add_int q
theorem op_sub:oE X (binaryOp .Sub) (i8 λi j=>.int (i - j)):=Gm λ_ _ _ _ _ _ _ q=>sub_int q
theorem op_mod:oE X (binaryOp .Mod) (rI (λ_ j=>0<j) λi j=>.int (i % j)):=Av λi j _ _ _ _ _ hc q=>by have h:(0:Int)<j:=hc;exact mod_int' (by omega) (by rw[Int.fmod_eq_emod_of_nonneg i (by omega)];exact q)
end
end
noncomputable def n8:V->V->Bool
 | .non,.non=>true | .non,.int _=>true | .int _,.non=>true | .non,.bl _=>true | .bl _,.non=>true | .non,.str _=>true | .str _,.non=>true
 | .int _,.int _=>true | .bl _,.bl _=>true | .str _,.str _=>true | .byt _,.byt _=>true
 | .int _,.str _=>true | .str _,.int _=>true | .bl _,.str _=>true | .str _,.bl _=>true
 |_,_=>false
noncomputable def rEq:R2:=λx y H Q=>n8 x y=true/\Q (.bl (decide (x=y))) H
noncomputable def Sv:R2:=λx y H Q=>n8 x y=true/\Q (.bl (!decide (x=y))) H
theorem eX{i j:Int}:decide (V.int i=V.int j)=(i==j):=by rw[Q4];simp
theorem e6{i j:Bool}:decide (V.bl i=V.bl j)=(i==j):=by rw[Q4];simp
theorem aX{i j:Str}:decide (V.str i=V.str j)=(i==j):=by rw[Q4];simp
theorem iX{i j:Array UInt8}:decide (V.byt i=V.byt j)=(i.toList==j.toList):=by rw[Q4];cases i;cases j;simp
section
variable{X:Cx}{a b c:Expr}{ta d tc:TE}{pos:Pos}
section
variable{r:R2}{op:CmpOp}{us:LW}
theorem sA{h:HB}{σ:St}{H:Hp}{s:Shared}{Q:VK}{k x:Bool}(I:Inv X h σ H s)(q:Q (.bl k) H)(e:k=x):EP X h σ Q (.bool x) s:=by subst e;exact⟨.bl k,H,I,rfl,q⟩
theorem op_eq:oE X (compareOp .Eq) rEq:=by
 intro f s g H x y v u Q I e z h;obtain⟨k,q⟩:=h;cases x with
 |non =>
  cases e;cases y with|non=>cases z;exact PySem.EqNone.eq_none_none (sA I q (by simp))|bl j=>cases z;exact PySem.EqNone.eq_none_bool (sA I q (by simp))|int j=>obtain⟨w,rfl⟩:=z;exact PySem.EqNone.eq_none_int (sA I q (by simp))|str j=>obtain⟨w,rfl⟩:=z;exact PySem.EqNone.eq_none_str (sA I q (by simp))|_=>exact absurd (show false=true from k) QG
 |bl i =>
  cases e;cases y with|non=>cases z;exact PySem.EqNone.eq_bool_none (sA I q (by simp))|bl j=>cases z;exact eq_bool (sA I q e6)|str j=>obtain⟨w,rfl⟩:=z;exact PySem.EqMixed.eq_bool_str (sA I q (by simp))|_=>exact absurd (show false=true from k) QG
 |int i =>
  obtain⟨t,rfl⟩:=e;cases y with|non=>cases z;exact PySem.EqNone.eq_int_none (sA I q (by simp))|int j=>obtain⟨w,rfl⟩:=z;exact eq_int (sA I q eX)|str j=>obtain⟨w,rfl⟩:=z;exact PySem.EqMixed.eq_int_str (sA I q (by simp))|_=>exact absurd (show false=true from k) QG
 |str i =>
  obtain⟨t,rfl⟩:=e;cases y with|non=>cases z;exact PySem.EqNone.eq_str_none (sA I q (by simp))|bl j=>cases z;exact PySem.EqMixed.eq_str_bool (sA I q (by simp))|int j=>obtain⟨w,rfl⟩:=z;exact PySem.EqMixed.eq_str_int (sA I q (by simp))|str j=>obtain⟨w,rfl⟩:=z;exact eq_str (sA I q aX)|_=>exact absurd (show false=true from k) QG
 |byt i =>
  obtain⟨t,rfl⟩:=e;cases y with|byt j=>obtain⟨w,rfl⟩:=z;exact PySem.W.eq_bytes (sA I q iX)|_=>exact absurd (show false=true from k) QG
 |_=>cases y<;>exact absurd (show false=true from k) QG
theorem op_ne:oE X (compareOp .NotEq) Sv:=by
 intro f s g H x y v u Q I e z h;obtain⟨k,q⟩:=h;cases x with
 |non =>
  cases e;cases y with|non=>cases z;exact PySem.EqNone.ne_none_none (sA I q (by simp))|bl j=>cases z;exact PySem.EqNone.ne_none_bool (sA I q (by simp))|int j=>obtain⟨w,rfl⟩:=z;exact PySem.EqNone.ne_none_int (sA I q (by simp))|str j=>obtain⟨w,rfl⟩:=z;exact PySem.EqNone.ne_none_str (sA I q (by simp))|_=>exact absurd (show false=true from k) QG
 |bl i =>
  cases e;cases y with|non=>cases z;exact PySem.EqNone.ne_bool_none (sA I q (by simp))|bl j=>cases z;exact ne_bool (sA I q (congrArg not e6))|str j=>obtain⟨w,rfl⟩:=z;exact PySem.EqMixed.ne_bool_str (sA I q (by simp))|_=>exact absurd (show false=true from k) QG
 |int i =>
  obtain⟨t,rfl⟩:=e;cases y with|non=>cases z;exact PySem.EqNone.ne_int_none (sA I q (by simp))|int j=>obtain⟨w,rfl⟩:=z;exact ne_int (sA I q (congrArg not eX))|str j=>obtain⟨w,rfl⟩:=z;exact PySem.EqMixed.ne_int_str (sA I q (by simp))|_=>exact absurd (show false=true from k) QG
 |str i =>
  obtain⟨t,rfl⟩:=e;cases y with|non=>cases z;exact PySem.EqNone.ne_str_none (sA I q (by simp))|bl j=>cases z;exact PySem.EqMixed.ne_str_bool (sA I q (by simp))|int j=>obtain⟨w,rfl⟩:=z;exact PySem.EqMixed.ne_str_int (sA I q (by simp))|str j=>obtain⟨w,rfl⟩:=z;exact ne_str (sA I q (congrArg not aX))|_=>exact absurd (show false=true from k) QG
 |byt i =>
  obtain⟨t,rfl⟩:=e;cases y with|byt j=>obtain⟨w,rfl⟩:=z;exact PySem.W.ne_bytes (sA I q (congrArg not iX))|_=>exact absurd (show false=true from k) QG
 |_=>cases y<;>exact absurd (show false=true from k) QG
theorem op_lt:oE X (compareOp .Lt) (i8 λi j=>.bl (decide (i<j))):=x9 λ_ _ _ _ _ _ _ q=>lt_int q
theorem op_le:oE X (compareOp .LtE) (i8 λi j=>.bl (decide (i<=j))):=x9 λ_ _ _ _ _ _ _ q=>le_int q
theorem op_gt:oE X (compareOp .Gt) (i8 λi j=>.bl (decide (j<i))):=x9 λ_ _ _ _ _ _ _ q=>gt_int q
theorem op_ge:oE X (compareOp .GtE) (i8 λi j=>.bl (decide (j<=i))):=x9 λ_ _ _ _ _ _ _ q=>ge_int q
theorem pY:oE X (compareOp .In) (λx y H Q=>∃i j,x=.str i/\y=.str j/\Q (.bl (!(wb j i 0 j.length 1).isEmpty)) H):=by intro z s e H x y v u Q I k w h;obtain⟨i,j,rfl,rfl,q⟩:=h;obtain⟨t,rfl⟩:=k;obtain⟨f,rfl⟩:=w;exact in_str (sA I q rfl)
theorem kh:oE X (compareOp .Is) (λx y H Q=>y=.non/\Q (.bl (decide (x=.non))) H):=by
 intro w s e H x y v u Q I z k h;obtain⟨rfl,q⟩:=h;cases k;refine is_none_gen (sA I q ?_);cases x<;>first
  | (cases z;rfl)
  | (obtain⟨t,rfl⟩:=z;rfl)
theorem k9:oE X (compareOp .IsNot) (λx y H Q=>y=.non/\Q (.bl (!decide (x=.non))) H):=by
 intro w s e H x y v u Q I z k h;obtain⟨rfl,q⟩:=h;cases k;refine isnot_none_gen (sA I q ?_);cases x<;>first
  | (cases z;rfl)
  | (obtain⟨t,rfl⟩:=z;rfl)
theorem pP:oE X (compareOp .NotIn) (λx y H Q=>∃i j,x=.str i/\y=.str j/\Q (.bl (!(!(wb j i 0 j.length 1).isEmpty))) H):=by intro z s e H x y v u Q I k w h;obtain⟨i,j,rfl,rfl,q⟩:=h;obtain⟨t,rfl⟩:=k;obtain⟨f,rfl⟩:=w;exact notIn_str (sA I q rfl)
theorem oE.or{f:Value->Value->Sem Value}{r':R2}(h:oE X f r)(h':oE X f r'):oE X f (λx y H Q=>r x y H Q∨r' x y H Q):=by intro z s w H x y v u Q I e k q;rcases q with q|q;exact h z s w H x y v u Q I e k q;exact h' z s w H x y v u Q I e k q
theorem T8(g:oE X (compareOp op) r)(j:PE X a ta)(hb:PE X b d)(i:behindInMarks op b=false):PE X (.Compare a [op] [b] pos) (Kl r ta d):=by intro z s w H Q I h;exact wpAny_Compare1 (binT j hb I h λv u k x y m l f e q=>g z k w m x y v u Q l f e q) i
noncomputable def Yl(t:TE):TT:=λh H Q=>t h H λx y=>∃k,x=.bl k/\Q k y
theorem Z8(q:oE X (compareOp op) r)(Z:PE X a ta)(hb:PE X b d)(Y:behindInMarks op b=false):PT X (.Compare a [op] [b] pos) (Yl (Kl r ta d)):=by
 intro w s f H Q I h;refine wpAny_isTrue_Compare1 (LB (Z w s f H _ I h) λv i ⟨x,E,A,m,p⟩=>LB (hb w i f E _ A p) λu g ⟨y,C,K,l,o⟩ =>
  LB (q w g f C x y v u _ K m l o) λc F ⟨z,B,W,j,k,e,n⟩=>?_) Y
 subst e;cases j;exact wR ⟨B,W,n⟩
def Xj(K:QA)(x:V)(H:Hp)(k:Bool):Prop :=
 match x with
 | .non=>k=false|.bl b=>k=b|.int i=>k=(i != 0)|.str y=>y.length<=sizeLine/\k=((y.length:Int) != 0)|.byt y=>y.size<=sizeLine/\k=((y.size:Int) != 0)|.ref p=>(∃h,HC K H p h/\k=!h.isEmpty)∨(∃h,rD K H p h/\k=!h.isEmpty)∨∃z,H p=some (.dK z)/\k=!z.isEmpty|_=>False
theorem jV{κ:Type}{kvs:List (κ×V)}{vs:List (κ×Value)}(r:KV kvs vs):(!vs.isEmpty)=!kvs.isEmpty:=by cases r<;>rfl
theorem pM{xs:LV}{its:LW}(r:nA xs its):(!its.toArray.isEmpty)=!xs.isEmpty:=by cases r<;>simp
theorem oH:(sizeLine:Nat)<2 ^ 63:=by rw[qA];decide
theorem Z0:Ut X (λx H Q=>∃k,Xj X.K x H k/\Q k H):=by
 intro Z s E H x v Q I j h;obtain⟨k,e,q⟩:=h;have hl:=oH;have F:sizeLine=16777216:=qA;cases x with
 |non=>cases j;have z:k=false:=e;subst z;exact truthy_none ⟨H,I,q⟩|bl b=>cases j;have z:k=b:=e;subst z;exact wR ⟨H,I,q⟩|int i=>obtain⟨t,rfl⟩:=j;have z:k=(i != 0):=e;subst z;exact PySem.P.truthy_int ⟨H,I,q⟩|str y=>obtain⟨t,rfl⟩:=j;obtain⟨B,z⟩:y.length<=sizeLine/\k=((y.length:Int) != 0):=e;subst z;exact PySem.P.truthy_str (by omega) ⟨H,I.tok _,q⟩|byt y=>obtain⟨t,rfl⟩:=j;obtain⟨B,z⟩:y.size<=sizeLine/\k=((y.size:Int) != 0):=e;subst z;exact PySem.W.truthy_bytes (by omega) ⟨H,I.tok _,q⟩|ref p =>
  cases j;have z:(∃g,HC X.K H p g/\k=!g.isEmpty)∨(∃g,rD X.K H p g/\k=!g.isEmpty)∨∃u,H p=some (.dK u)/\k=!u.isEmpty:=e;rcases z with⟨g,l,z⟩| ⟨g,l,z⟩| ⟨u,l,z⟩
  subst z;obtain⟨Y,r,o,A⟩:=I.list l;have f:=r.length;exact wpAny_truthy_list o.isList (by simp only[QN];omega) ⟨H,I.tok _,by rw[pM r];exact q⟩;subst z;obtain⟨Y,r,o,A⟩:=I.tuple l;have f:=r.length;exact truthy_tuple o (by simp only[QN];omega) ⟨H,I.tok _,by rw[pM r];exact q⟩;subst z;obtain⟨A,C,n,r,m⟩:u.length<=sizeLine/\(p==sysModules)=false/\∃n,KV u n/\s.heap.DictOf (VD X.prog X.w) p n:=I.hok p _ l;have f:u.length=n.length:=Q6 r;exact wpAny_truthy_dict C m (by omega) ⟨H,I.tok _,by rw[jV r];exact q⟩
 |_=>exact(show False from e).elim
theorem rU:oE X (binaryOp .Add) (λx y H Q=>∃i j,x=.str i/\y=.str j/\i.length+j.length<=sizeLine/\Q (.str (i++j)) H):=by intro z s g H x y v u Q I e k h;obtain⟨i,j,rfl,rfl,f,q⟩:=h;obtain⟨t,rfl⟩:=e;obtain⟨w,rfl⟩:=k;exact add_str (λw l=>⟨.str (i++j),H,I.tok _,⟨_,rfl⟩,q⟩) f
theorem GG{x:V}(r:nA [x] us):∃u,us=[u]/\JA x u:=by
 cases r with|cons y h=>cases h;exact⟨_,rfl,y⟩
theorem ol{x y:V}(r:nA [x,y] us):∃u h,us=[u,h]/\JA x u/\JA y h:=by
 cases r with
 |cons k w =>
  cases w with|cons v z=>cases z;exact⟨_,_,rfl,k,v⟩
theorem lZ:BC X (.type "int") (λxs H Q=>(∃i,xs=[.int i]/\Q (.int i) H)∨∃k,xs=[.bl k]/\Q (.int (if k then 1 else 0)) H):=by
 intro x s z H xs us Q I r h;rcases h with⟨i,rfl,q⟩| ⟨k,rfl,q⟩
 obtain⟨u,rfl,t,rfl⟩:=GG r;exact call_int_int ⟨.int i,H,I,⟨_,rfl⟩,q⟩;obtain⟨u,rfl,y⟩:=GG r;cases y;exact call_int_bool ⟨.int (if k then 1 else 0),H,I.tok _,⟨_,rfl⟩,q⟩
end
end
section
variable{k:Nat}{A:Around}
structure Room(k:Nat)(A:Around):Prop where
 hd:A.handled=none
 dp:A.depth+3 * k+5<recursionLimit
 un:A.units+16 * k+200<cLine
theorem Room.mono{j:Nat}(r:Room k A)(h:j<=k):Room j A:=⟨r.hd,by have:=r.dp;omega,by have:=r.un;omega⟩
theorem Room.deeper(r:Room (k+1) A)(env:Env):Room k (A.deeper env) :=
 ⟨r.hd,by have:=r.dp;show A.depth+1+3 * k+5<_;omega,by have:=r.un;show A.units+3+16 * k+200<_;omega⟩
theorem Room.depth(r:Room k A):A.depth<recursionLimit:=by have:=r.dp;omega
def Vl:TA:=λ_ H Q=>Q [] H
noncomputable def Bl(ta:TE)(z:TA):TA:=λh H Q=>ta h H λx v=>z h v λy u=>Q (x::y) u
end
section
variable{X:Cx}{e:Expr}{es:List Expr}{te:TE}{t:TA}{pos:Pos}
theorem oU:PA X [] Vl:=λ_ _ _ _ H Q I h=>QAd ⟨[],H,I,.nil,h⟩
theorem lP(j:PE X e te)(i:PA X es t)(g:starEach (e::es) X.env=(false,eval e X.env)::starEach es X.env:=by rfl):PA X (e::es) (Bl te t):=by intro pos y s z H Q I h;rw[g];show wpAny _ _ (spliced ((false,eval e X.env)::backTo pos (starEach es X.env))) _ _ s;refine WN (LB (j y s z H _ I h) λu w ⟨x,o,m,a,f⟩=>?_);exact LB (i pos y w z o _ m f) λp q ⟨v,n,l,k,b⟩=>⟨x::v,n,l,.cons a k,b⟩
noncomputable def Hq(t:TA):TE:=λy H Q=>t y H λh x=>h.length<=sizeLine/\∀p,x p=none->Q (.ref p) (UA x p (.tup h))
noncomputable def Pq(t:TA):TE:=λy H Q=>t y H λh x=>h.length<=sizeLine/\∀p,x p=none->Q (.ref p) (UA x p (.lst h))
theorem Pg{x1}(h:PA X es t):PE X (.Tuple es x1 pos) (Hq t):=by intro x s k H Q I g;refine QBV (LB (h pos x s k H _ I g) λf y ⟨a,w,v,r,z,q⟩=>⟨by rw[<- r.length];exact z,?_⟩);have i:w y.heap.objs.size=none:=v.hok.fresh (QW _);refine⟨.ref y.heap.objs.size,UA w y.heap.objs.size (.tup a),v.laid (t':=y.toks) (λb u e=>QH _ e) (QW _) ?_,rfl,q _ i⟩;exact⟨z,f,r,⟨_,QT _ rfl,rfl,_,rfl⟩⟩
theorem Sg(h:PA X es t):PE X (.List es pos) (Pq t):=by intro x s k H Q I g;refine wpAny_List_spliced (LB (h pos x s k H _ I g) λf y ⟨a,w,v,r,z,q⟩=>⟨by rw[<- r.length];exact z,?_⟩);have i:w y.heap.objs.size=none:=v.hok.fresh (QW _);refine⟨.ref y.heap.objs.size,UA w y.heap.objs.size (.lst a),v.laid (t':=y.toks) (λb u e=>QH _ e) (QW _) ?_,rfl,q _ i⟩;exact⟨z,f,0,r,QT _ rfl⟩
end
noncomputable abbrev Sp:=LV->Hp->VK->XK->Prop
noncomputable abbrev f7:=List Env->Hp->Shared->XK->Value->Shared->Prop
structure Env0(P:Program)(w:World)(K:QA)(mg:Str->Option Value)(base:Heap)(A:Around)(outer:List Env)(s:Shared)(H:Hp):Prop where
 frames:A.frames=some outer
 mod:Mod K mg base
 bs:∀b o,base.get? b=some o->s.heap.get? b=some o/\H b=none
 bsz:base.objs.size<=s.heap.objs.size
 funs:s.heap.FunFrames base outer
 frf:∀b∈nX outer,H b=none
 tb:∀P q,ZO mg base P q->H P=some (.tbl q)
 hok:xN P w H s.heap
 bare:AllBare s.gens
def CE(outer:List Env)(P:Program)(w:World)(H:Hp)(s:Shared)(Q:VK)(u:Value)(s':Shared):Prop :=
 ∃v h,s'.os=s.os/\AllBare s'.gens/\Un (nX outer) [] H h s.heap s'.heap/\xN P w h s'.heap/\JA v u/\Q v h
def CR(h:f7)(outer:List Env)(P:Program)(w:World)(H:Hp)(s:Shared)(Q:VK)(E:XK)(r:Result)(s':Shared):Prop :=
 match r with
 | .ok (.ret u)=>CE outer P w H s Q u s'|.ok _=>False|.error e=>h outer H s E e s'
structure FnOk(P:Program)(w:World)(K:QA)(mg:Str->Option Value)(base:Heap)(CX:f7)(k:Nat)(f:Addr)(fd:FuncData)(ps:LS)(sp:Sp):Prop where
 len:∀vs H Q E,sp vs H Q E->vs.length=ps.length
 run:∀(A:Around) (outer:List Env) (s:Shared) (H:Hp) (args:Args) (us:LW) (vs:LV) (Q:VK) (E:XK),Room k A->Env0 P w K mg base A outer s H->BindsTo s fd args (ps.zip us)->nA vs us->sp vs H Q E ->
  codeAny (model P w) A (.call (.ref f) args) (CR CX outer P w H s Q E) s
theorem FnOk.mono{P:Program}{w:World}{K:QA}{mg:Str->Option Value}{x:Heap}{v:f7}{j k:Nat}{f:Addr}{u:FuncData}{ps:LS}{z:Sp}(F:FnOk P w K mg x v j f u ps z)(h:j<=k) :
  FnOk P w K mg x v k f u ps z:=⟨F.len,λA y s H args b a Q E e=>F.run A y s H args b a Q E (e.mono h)⟩
section
variable{X:Cx}{x:HB}{σ:St}{H:Hp}{s s':Shared}
theorem Inv.env0(I:Inv X x σ H s):Env0 X.prog X.w X.K X.mg X.base X.A X.stack s H :=
 ⟨I.ok.frames,I.ok.mod,I.bs,QY I.ok.bsz I.sz,I.stack,I.stkFree,I.tb,I.hok,I.bare⟩
theorem Inv.after{Q:VK}{u:Value}(I:Inv X x σ H s)(h:CE X.stack X.prog X.w H s Q u s'):EP X x σ Q u s':=by obtain⟨v,f,a,bare,un,k,r,q⟩:=h;obtain⟨e,g,d,t,y⟩:=s';obtain rfl:y=s.os:=a;exact⟨v,f,I.call (h':=e) (g':=g) (d':=d) (t':=t) (ch:=[]) un k bare (λb z=>absurd z (by simp)),r,q⟩
end
noncomputable def kc(z:Sp)(h:LV)(E:XK)(t:TA):TE:=λx H Q=>t x H λy u=>z (y++h) u Q E
def kJ(K:QA)(x:FuncData)(ps:LS)(ds:LW):Prop :=
 ∀(s:Shared) (h:LW),K.In s.heap->(h++ds).length=ps.length->BindsTo s x ⟨h,[]⟩ (ps.zip (h++ds))
theorem kJ.all{K:QA}{x:FuncData}{ps:LS}(h:∀us:LW,us.length=ps.length->bindArgs x ⟨us,[]⟩=pure (ps.zip us)):kJ K x ps []:=λs us _ hl=>by rw[qB]at hl ⊢;exact .of_eq (h us hl)
def OM(z:f7)(X:Cx)(E:XK):Prop:=∀(h:HB) (y:St) (H:Hp) (s:Shared) (e:Value) (x:Shared),Inv X h y H s->z X.stack H s E e x->X.xe e x
section
variable{X:Cx}{a:f7}{k:Nat}{f C:Addr}{v:FuncData}{ps:LS}{z:Sp}{y:LV}{ds:LW}{E:XK}{x m:Str}{p pos apos:Pos}{e o:Expr}{es:List Expr}{ta:TE}{t:TA}
theorem C1{b:HB}{σ:St}{H:Hp}{s:Shared}{Q:VK}{us:LW}{vs:LV}(F:FnOk X.prog X.w X.K X.mg X.base a k f v ps z)(n:Room k X.A)(hb:kJ X.K v ps ds)(q:nA y ds)(l:OM a X E)
  (I:Inv X b σ H s) (r:nA vs us) (h:z (vs++y) H Q E):wpAny (model X.prog X.w) X.A (call (.ref f) us) (EP X b σ Q) X.xe s:=by
 have i:nA (vs++y) (us++ds):=r.append q;have hl:(us++ds).length=ps.length:=by rw[<- i.length];exact F.len _ _ _ _ h
 refine wpAny_call (QB9 (F.run X.A X.stack s H ⟨us,[]⟩ (us++ds) (vs++y) Q E n I.env0 (hb s us I.kIn hl) i h) λr j g=>?_);cases r with
 |error e=>exact l b σ H s e j I g|ok fl =>
  cases fl with|ret u=>exact I.after g|next=>exact Qc g|brk=>exact Qc g|cont=>exact Qc g
theorem A8(F:FnOk X.prog X.w X.K X.mg X.base a k f v ps z)(n:Room k X.A)(Z:Gl X x)(Y:X.mg x=some (.ref f))(hk:wK X.K (.ref f)=true)(hb:kJ X.K v ps ds)(G:nA y ds)(l:OM a X E)
  (J:PA X (e::es) t) (g:(x==("__debug__":Str))=false:=by decide) (B:starEach (e::es) X.env=(false,eval e X.env)::starEach es X.env:=by rfl) (b:(backTo pos (starEach es X.env)).any (·.1)=false:=by rfl) :
  PE X (.Call (.Name x p) (e::es) [] pos) (kc z y E t):=by
 intro u s j H Q I h;refine wm (IP I Z Y ?_ g);refine PySem.W.callWith_K (h₀:=X.base) I.ok.mod.kin hk (LB (J pos u s j H _ I h) λM N ⟨L,O,i,r,q⟩=>⟨i.kIn,?_⟩) B b;exact C1 F n hb G l i r q
theorem y3(F:FnOk X.prog X.w X.K X.mg X.base a k f v ps z)(i:Room k X.A)(l:Gl X x)(j:X.mg x=some (.ref f))(hk:wK X.K (.ref f)=true)(hb:kJ X.K v ps ds)(n:nA y ds)(g:OM a X E)
  (u:(x==("__debug__":Str))=false:=by decide):PE X (.Call (.Name x p) [] [] pos) (kc z y E Vl):=by
 intro b s q H Q I h;refine wm (IP I l j ?_ u);exact PySem.W.callWith_K0 I.kIn hk (C1 (us:=[]) F i hb n g I .nil h)
end
section
variable{X:Cx}{b:f7}{k:Nat}{f C:Addr}{a:FuncData}{ps ks:LS}{u:Sp}{E:XK}{x m:Str}{p pos apos h:Pos}{e o:Expr}{es:List Expr}{y:List Keyword}{te ta:TE}{t z:TA}{v:Option Str}
variable{g:LW->LW->LW}{w:LV->LV->LV}
end
section
variable{j:f7}{P:Program}{w:World}{mg:Str->Option Value}{base:Heap}{ps:LS}{g:Str}{d:Scope}{f:Addr}
structure FnScope(N P:LS)(sc:Scope):Prop where
 kind:sc.kind=.function
 co:sc.isCoroutine=false
 gen:sc.isGenerator=false
 nd:N.Nodup
 pre:N.take P.length=P
 par:∀x∈P,sc.names.lookup x=some .local∨sc.names.lookup x=some .cell
 nofree:∀y∈sc.names,y.2≠.free
theorem sO{y:Str->Option NameKind}{x:Str}:∀{binds:List (Str×Value)}{m:Str->Option Value},(∀v,(x,v)∉binds)->bindL y binds m x=m x
 |[],_,_=>rfl|(n,v)::r,m,h=>by
  unfold bindL;rw[sO λw z=>h w (QE _ z)];split;have:x≠n:=by rintro rfl;exact h v QF
  simp[this];rfl
theorem eO{y:Str->Option NameKind}{x:Str}:∀{binds:List (Str×Value)}{m:Str->Option Value},(∀v,(x,v)∉binds)->bindC y binds m x=m x
 |[],_,_=>rfl|(n,v)::r,m,h=>by
  unfold bindC;rw[eO λw z=>h w (QE _ z)];split;rfl;have:x≠n:=by rintro rfl;exact h v QF
  simp[this]
theorem aO{y:Str->Option NameKind}{x:Str}{v:Value}:∀{P:LS}{vs:LW}{i:Nat}{m:Str->Option Value},P.Nodup->P[i]?=some x->vs[i]?=some v->y x=some .local ->
  bindL y (P.zip vs) m x=some v
 |[],_,_,_,_,h,_,_=>by simp at h|_::_,[],_,_,_,_,h,_=>by simp at h|p::P,w::vs,0,m,nd,h1,h2,hk=>by simp at h1 h2;subst h1;subst h2;show bindL y ((p,w)::P.zip vs) m p=_;unfold bindL;rw[sO λv hv=>(Qi.mp nd).1 (QA5 hv).1,if_pos hk];simp|p::P,w::vs,i+1,m,nd,h1,h2,hk=>by show bindL y ((p,w)::P.zip vs) m x=_;unfold bindL;exact aO (i:=i) (Qi.mp nd).2 (by simpa using h1) (by simpa using h2) hk
theorem iO{y:Str->Option NameKind}{x:Str}{v:Value}:∀{P:LS}{vs:LW}{i:Nat}{m:Str->Option Value},P.Nodup->P[i]?=some x->vs[i]?=some v->y x≠some .local ->
  bindC y (P.zip vs) m x=some v
 |[],_,_,_,_,h,_,_=>by simp at h|_::_,[],_,_,_,_,h,_=>by simp at h|p::P,w::vs,0,m,nd,h1,h2,hk=>by simp at h1 h2;subst h1;subst h2;show bindC y ((p,w)::P.zip vs) m p=_;unfold bindC;rw[eO λv hv=>(Qi.mp nd).1 (QA5 hv).1,if_neg hk];simp|p::P,w::vs,i+1,m,nd,h1,h2,hk=>by show bindC y ((p,w)::P.zip vs) m x=_;unfold bindC;exact iO (i:=i) (Qi.mp nd).2 (by simpa using h1) (by simpa using h2) hk
noncomputable def yD(N:LS)(vs:LV):St:=vs.map some++QAU (N.length - vs.length) none
noncomputable def aV(j:f7)(P:Program)(w:World)(K:QA)(mg:Str->Option Value)(base:Heap)(N:LS)(g:Str)(d:Scope)(f:Addr)(x:Value)(A:Around)(outer:List Env)(s:Shared)(H:Hp)(E:XK):Cx where
 prog:=P
 w:=w
 K:=K
 mg:=mg
 base:=base
 A:=A.deeper (envOfC g d s.heap.objs.size f x)
 N:=N
 s₀:=s
 H₀:=H
 env:=envOfC g d s.heap.objs.size f x
 outer:=outer
 stack:=envOfC g d s.heap.objs.size f x::outer
 ex:=[]
 calm:=true
 fn:=λ_=>true
 pn:=[]
 xe:=λe y=>wpAny (model P w) (A.deeper (envOfC g d s.heap.objs.size f x)) (leaving (envOfC g d s.heap.objs.size f x) e) (λ_ h=>j outer H s E e h) (λz h=>j outer H s E z h) y
theorem RS{sc:Scope}{n:Nat}{x:Str}(h:sc.names.lookup x=some .cell):∃c,(cellsFrom n sc.names []).lookup x=some c:=by have q:=QAy sc.names n [] (.inl h);exact Option.isSome_iff_exists.mp q
theorem TY{K:QA}{N:LS}{C:Value}{A:Around}{outer:List Env}{s F:Shared}{H:Hp}{E:XK}{us:LW}{vs:LV}
  (S:FnScope N ps d) (L:A.handled=none) (m:Env0 P w K mg base A outer s H) (hl:vs.length=ps.length) (r:nA vs us)
  (x:InCallC s s.heap.objs.size (bindL (envOfC g d s.heap.objs.size f C).kindOf (ps.zip us) λ_=>none) (cellsFrom (s.heap.objs.size+1) d.names []) (bindC (envOfC g d s.heap.objs.size f C).kindOf (ps.zip us) λ_=>none) F) :
  Inv (aV j P w K mg base N g d f C A outer s H E) [] (yD N vs) H F:=by
 have J:ps.length<=N.length:=by have:=congrArg qw S.pre;rw[wg]at this;omega
 obtain⟨B,O,rfl,hk⟩:=x.done;have o:∀b:Addr,b∉(aV j P w K mg base N g d f C A outer s H E).ex:=λb z=>absurd (show b∈([]:List Addr) from z) (by simp);refine⟨⟨m.mod,S.kind,rfl,rfl,QW _,λy z c B l=>?_,λy X=>?_,λy c _ h=>?_,λ_=>L,Around.frames_deeper m.frames,.inr ⟨rfl,rfl⟩,λb z=>absurd z (o b),m.bs,m.bsz,λb _ _=>o b,λb z=>absurd z (o b),m.funs,m.frf,m.tb⟩,
  rfl,m.bare,Un.kept hk,⟨_,x.toInCall.ns,λi y v B l Q=>?_⟩,λy c h=>⟨_,x.cell y c h⟩,m.hok.fresh (QW _),λy c h=>?_,λp Z=>absurd (show p∈([]:HB) from Z) (by simp),m.hok.kept hk,?_⟩
 exact name_of_addr x.apart (qN B) (qN l);have X:d.names.lookup y=some .cell∨d.names.lookup y=some .free:=X;rcases X with X|X;exact RS X;exact absurd rfl (S.nofree _ (qN X));exact QAN (x.above y c (qN h));have W:i<vs.length:=by unfold yD at l;by_cases W:i<vs.length;exact W;rw[qJ (by simpa using W)]at l;rw[wc]at l;split at l<;>cases l
 have M:vs[i]?=some v:=by
  unfold yD at l;rw[qR (by simpa using W),QX]at l;cases e:vs[i]? with|none=>rw[e]at l;cases l|some a=>rw[e]at l;cases l;rfl
 obtain⟨u,G,I⟩:=r.get M;have Z:ps[i]?=some y:=by rw[<- S.pre,List.getElem?_take_of_lt (by omega)];exact B
 have Y:ps.Nodup:=by rw[<- S.pre];exact S.nd.sublist (QBv _ _)
 refine⟨u,I,?_⟩;rcases S.par y (qQ Z) with k|k;exact .inl ⟨k,aO Y Z G k⟩;obtain⟨c,e⟩:=RS (n:=s.heap.objs.size+1) k;refine .inr ⟨.inl k,c,e,?_⟩;have q:=x.cell y c e;rw[iO Y Z G (by show d.names.lookup y≠_;rw[k];decide)]at q;exact q;exact m.hok.fresh (QAN (x.above y c (qN h)));unfold yD;show _=N.length;rw[QI,QD,qq];omega
theorem Kd{K:QA}{k:Nat}{name:Str}{z:Arguments}{body:List Stmt}{dV kV Z pm h ct oc:Value}{an od:Option Addr}
  {G:Array (Option Value)}{N:LS}{B:Sp}(lk:K.lookup f=some ⟨oc,od,.func (qp name g z body d dV kV Z pm an h ct),G⟩) (O:Wg K h g=true) (S:FnScope N ps d)
  (len:∀vs H Q E,B vs H Q E->vs.length=ps.length)
  (m:∀(A:Around) (outer:List Env) (s:Shared) (H:Hp) (vs:LV) (Q:VK) (E:XK),Room k (A.deeper (envOfC g d s.heap.objs.size f h))->B vs H Q E ->
   ∃t,RV (aV j P w K mg base N g d f h A outer s H E) body t/\t { nx:=λ_ i=>Q .non i,rt:=Q } (yD N vs) H) :
  FnOk P w K mg base j (k+1) f (qp name g z body d dV kV Z pm an h ct) ps B:=by
 refine⟨len,λA outer s H args us vs Q E M Y hb r X=>?_⟩;have hl:=len _ _ _ _ X;have KX:K.In s.heap:=Y.mod.kin.keeps λb o e=>(Y.bs b o e).1;have L:s.heap.NoLimit:=Y.mod.nolimit.keeps λb o e=>(Y.bs b o e).1;have l:∀y∈ps.zip us,d.names.lookup y.1=some .local∨(d.names.lookup y.1=some .cell/\((cellsFrom (s.heap.objs.size+1) d.names []).lookup y.1).isSome=true):=λ⟨n,v⟩ hy=>by rcases S.par n (QA5 hy).1 with q|q;exact .inl q;exact .inr ⟨q,QAy _ _ _ (.inl q)⟩
 refine codeAny_call_function M.depth (KX _ _ lk) rfl S.co S.gen rfl (PySem.W.codeRec_of KX O) (hb _ _ _ _ ?_);refine wpAny_newFunctionEnv_cells S.kind l λenv he R x=>?_;subst he;refine⟨L.keeps x.toInCall.keep,codeAny_func ?_⟩;obtain⟨t,ht,hq⟩:=m A outer s H vs Q E (M.deeper _) X;have I:Inv (aV j P w K mg base N g d f h A outer s H E) [] (yD N vs) H R:=TY S M.hd Y hl r x;refine qt (ht [] R (yD N vs) H _ I hq) (λfl C p=>?_) λe C p=>p;have fin:∀{a:St}{i:Hp}{v:V}{u:Value},Inv (aV j P w K mg base N g d f h A outer s H E) [] a i C->JA v u->Q v i->CE outer P w H s Q u C :=
  λ{a i v u} J F q=>⟨v,i,J.os,J.bare,J.base,J.hok,F,q⟩
 cases fl with|ret u=>obtain⟨v,a,i,J,F,q⟩:=p;exact fin J F q|next=>obtain⟨a,i,J,q⟩:=p;exact fin (v:=V.non) (u:=Jz) J rfl q|brk=>obtain⟨_,_,_,q⟩:=p;exact Qc q|cont=>obtain⟨_,_,_,q⟩:=p;exact Qc q
end
section
variable{X:Cx}{x:Str}{p pos:Pos}{e:Expr}{es:List Expr}{t:TA}{y T:String}{r:LV->Hp->VK->Prop}
noncomputable def iu(r:LV->Hp->VK->Prop)(t:TA):TE:=λh H Q=>t h H λz u=>r z u Q
theorem XR(hc:BC X (.builtin y) r)(l:Gl X x)(j:X.mg x=none)(hv:bootBuiltins x=some (.builtin y))(n:PA X (e::es) t)(i:x≠"__name__":=by decide)(v:(x==("__debug__":Str))=false:=by decide)
  (m:starEach (e::es) X.env=(false,eval e X.env)::starEach es X.env:=by rfl) (u:(backTo pos (starEach es X.env)).any (·.1)=false:=by rfl):PE X (.Call (.Name x p) (e::es) [] pos) (iu r t):=by
 intro z s w H Q I h;refine wm (iJ I l j hv ?_ i v);exact PyProof.Rows.callWith_builtin1 (LB (n pos z s w H _ I h) λa b ⟨k,q,o,f,g⟩=>hc z b w q k a Q o f g) m u
theorem nY(hc:BC X (.type T) r)(l:Gl X x)(j:X.mg x=none)(hv:bootBuiltins x=some (.type T))(n:PA X (e::es) t)(i:x≠"__name__":=by decide)(v:(x==("__debug__":Str))=false:=by decide)
  (m:starEach (e::es) X.env=(false,eval e X.env)::starEach es X.env:=by rfl) (u:(backTo pos (starEach es X.env)).any (·.1)=false:=by rfl):PE X (.Call (.Name x p) (e::es) [] pos) (iu r t):=by
 intro z s w H Q I h;refine wm (iJ I l j hv ?_ i v);exact wq (LB (n pos z s w H _ I h) λa b ⟨k,q,o,f,g⟩=>hc z b w q k a Q o f g) m u
end
end L2
namespace HT
open PySem PyProof.Rows
section
open PySem.SeqAt
open PySem.AutoSeq1 (wpAny_loadPart')
open PySem.MeetsSeq PySem.MeetsSeq2 PySem.MeetsSeq3
end
section
variable{prog:Program}{w:World}{A:Around}{E:uC}{s:Shared}
section
variable{sl:Addr}{a u:Value}{y z:Option Int}
noncomputable def sIx(n d:Nat):Option Int->Nat
 |none=>d|some v=>if v<0 then(v+(n:Int)).toNat else min v.toNat n
theorem sIx_none(n d:Nat):sIx n d none=d:=rfl
theorem sIx_nat(n d k:Nat):sIx n d (some (k:Int))=min k n:=by show(if(k:Int)<0 then((k:Int)+(n:Int)).toNat else min (k:Int).toNat n)=min k n;rw[if_neg (by omega),qM]
theorem Jg(n d:Nat)(h:d<=n)(o:Option Int):sIx n d o<=n:=by
 cases o with|none=>exact h|some v=>show(if v<0 then(v+(n:Int)).toNat else min v.toNat n)<=n;by_cases hv:v<0;rw[if_pos hv];omega;rw[if_neg hv];exact Nat.min_le_right _ _
theorem YX(v:Int)(n d:Nat):(if v<0 then max (v+(n:Int)) 0 else min v (n:Int))=((sIx n d (some v):Nat):Int):=by show(if v<0 then max (v+(n:Int)) 0 else min v (n:Int))=(((if v<0 then(v+(n:Int)).toNat else min v.toNat n):Nat):Int);by_cases hv:v<0;simp only[if_pos hv];omega;simp only[if_neg hv];omega
theorem OV(y z:Option Int)(n:Nat):w9 y z 1 (n:Int)=(((sIx n 0 y:Nat):Int),((sIx n n z:Nat):Int)):=by
 have h:¬ ((1:Int)<0):=by omega
 unfold w9;simp only[h,if_false];refine QCL ?_ ?_;cases y with|none=>rfl|some v=>exact YX v n 0
 cases z with|none=>rfl|some v=>exact YX v n n
theorem mU(i j:Nat):wL (i:Int) (j:Int) 1=j - i:=by
 unfold wL;have h:(1:Int) > 0:=by omega
 simp only[h,if_true,Int.ediv_one];split<;>omega
theorem aL{v:Value}{o:Option Int}{Q:Option Int->Shared->Prop}(p:IsPart v o)(h:Q o s):wpAny (model prog w) A (Builtin.Slice.slicePartIndex v) Q E s:=by
 cases p with|none=>exact slicePart_none h|int i t=>exact slicePart_int h
theorem gJ{n:Nat}{Q:Int×Int×Nat->Shared->Prop}(f:s.heap.IsSliceOf sl a u .none)(e:IsPart a y)(b:IsPart u z)
  (h:Q (((sIx n 0 y:Nat):Int),1,sIx n n z - sIx n 0 y) s):wpAny (model prog w) A (QAL (.ref sl) (pure (n:Int))) Q E s:=by
 obtain⟨i,v,g,k⟩:=id f;unfold QAL Builtin.Slice.sliceFields;refine QC (QC (wM v k (x:=a) rfl (QC (wM v k (x:=u) rfl (QC (wM v k (x:=.none) rfl (QK ?_)))))));refine QC (slicePart_none ?_);show wpAny _ _ (if((1:Int)==0)=true then _ else _) _ _ s;rw[if_neg (by decide)];refine QC (aL e (QC (aL b (QC (QK ?_)))));show wpAny _ _ (match w9 y z 1 (n:Int) with | (y,z)=>pure (y,(1:Int),wL y z 1)) _ _ s;rw[OV y z n];show wpAny _ _ (pure (((sIx n 0 y:Nat):Int),(1:Int),wL ((sIx n 0 y:Nat):Int) ((sIx n n z:Nat):Int) 1)) _ _ s;rw[mU];exact QK h
theorem D2(xs:Array Value)(i k:Nat):((Qj k).filterMap λ(m:Nat)=>xs[((i:Int)+(m:Int) * 1).toNat]?).toArray=((xs.toList.drop i).take k).toArray:=by
 have e:(λ(m:Nat)=>xs[((i:Int)+(m:Int) * 1).toNat]?)=λm=>xs[i+m]?:=by
  funext m;have:((i:Int)+(m:Int) * 1).toNat=i+m:=by omega
  rw[this]
 rw[e];have:=pick_run xs i k;rw[List.filterMap_map]at this;have h:((λx=>xs[x]?)∘λx=>i+x)=λm=>xs[i+m]?:=rfl;rw[h]at this;rw[this]
theorem getItem_tuple_cut{t:Addr}{x:Array Value}{Q:uC}(k:IsTup s.heap t x)(i:s.heap.IsSliceOf sl a u .none)(l:IsPart a y)(j:IsPart u z)
  (o:¬ (sIx x.size 0 y=0/\sIx x.size x.size z=x.size))
  (h:Q (.ref s.heap.objs.size) { s with heap:=s.heap.push { cls:=.type "tuple",data:=.seq ((x.toList.drop (sIx x.size 0 y)).take (sIx x.size x.size z - sIx x.size 0 y)).toArray } })
  (hsz:x.size<=sizeLine):wpAny (model prog w) A (getItem (.ref t) (.ref sl)) Q E s:=by
 have v:sizeOk (.seq ((x.toList.drop (sIx x.size 0 y)).take (sIx x.size x.size z - sIx x.size 0 y)).toArray):=by show((x.toList.drop (sIx x.size 0 y)).take (sIx x.size x.size z - sIx x.size 0 y)).toArray.size<=sizeLine;rw[QN,wg,Wm,Ql];omega
 have Y:sIx x.size x.size z<=x.size:=Jg _ _ (QW _) z;obtain⟨n,b,f,p⟩:=id i;have g:s.TypeIs (.ref sl) "slice":=⟨n,b,f⟩
 unfold getItem
 try with_reducible refine qk ?_
 first|refine QC (QK ?_)|skip
 refine QC (wpAny_sequenceKey k.typeIs (by decide) ?_);refine QC (qO (name:=QR "__getitem__") k.typeIs wV
  (qL wV k.typeIs entry_tuple_getitem ?_ (args_tuple_getitem _ _)))
 show wpAny _ _ (QAJ (.ref t) >>= _) _ _ s;refine QC (tupleItemsOf_ k ?_);refine QC (QCA g ?_);rw[if_pos (by decide)];refine QC (gJ i l j ?_);have e:¬ ((((sIx x.size 0 y:Nat):Int)==0&&(1:Int)==1&&(sIx x.size x.size z - sIx x.size 0 y)==x.size)=true):=by intro q;rw[Qd,Qd]at q;have X:((sIx x.size 0 y:Nat):Int)=0:=qe q.1.1;have r:sIx x.size x.size z - sIx x.size 0 y=x.size:=qe q.2;exact o ⟨by omega,by omega⟩
 show wpAny _ _ (if(((sIx x.size 0 y:Nat):Int)==0&&(1:Int)==1&&(sIx x.size x.size z - sIx x.size 0 y)==x.size)=true then _ else _) _ _ s;rw[if_neg e,D2];first
  |exact QC (m:=wW _) (Q0 (QK ⟨_,rfl,QK h⟩) v)
  |exact QC (m:=wW _) (Q0 (QC (QK (QK ⟨_,rfl,QK h⟩))) v)
  |exact QC (QC (m:=wW _) (Q0 (QK (QK ⟨_,rfl,QK h⟩)) v))
  |exact QC (QC (m:=wW _) (Q0 (QK ⟨_,rfl,QK h⟩) v))
end
end
end HT
namespace L2
open PySem PySem.Spec PyProof.Rows
noncomputable abbrev TO:=St->Hp->(Option Int->Hp->Prop)->Prop
def PO(X:Cx)(e:Option Expr)(t:TO):Prop :=
 ∀(h:HB) (s:Shared) (x:St) (H:Hp) (Q:Option Int->Hp->Prop),Inv X h x H s->t x H Q ->
  wpAny (model X.prog X.w) X.A (evalPart e X.env) (λu z=>∃o y,Inv X h x y z/\IsPart u o/\Q o y) X.xe s
def j8:TO:=λ_ H Q=>Q none H
noncomputable def Zl(t:TE):TO:=λh H Q=>t h H λx y=>∃i,x=.int i/\Q (some i) y
theorem yV{ns:LJ}:∀{us:LW},nA (ns.map V.int) us->IntsAre us ns:=by
 induction ns with
 |nil=>intro us r;rw[WH]at r;cases r;exact .nil|cons n ns y =>
  intro us r;rw[QV]at r;cases r with|cons x h=>obtain⟨t,e⟩:=x;subst e;exact .cons n t (y h)
section
variable{X:Cx}{e:Expr}{te:TE}{y z:Option Expr}{k c:TO}{pos p2:Pos}
theorem B8:PO X none j8:=by intro x s u H Q I h;rw[evalPart_none];exact QK ⟨none,H,I,.none,h⟩
theorem U8(h:PE X e te):PO X (some e) (Zl te):=by intro v s w H Q I f;rw[evalPart_some];refine LB (h v s w H _ I f) λu l ⟨x,j,g,a,b⟩=>?_;obtain⟨i,rfl,q⟩:=b;obtain⟨t,rfl⟩:=a;exact⟨some i,j,g,.int i t,q⟩
def Ue(X:Cx)(r:V->Option Int->Option Int->Hp->VK->Prop):Prop :=
 ∀(h:HB) (s:Shared) (u:St) (H:Hp) (x:V) (v b a:Value) (y z:Option Int) (f:Addr) (Q:VK),Inv X h u H s->JA x v->s.heap.IsSliceOf f b a .none->IsPart b y->IsPart a z->r x y z H Q ->
  ∃T id,typeLookup (.type T) "__getitem__"=pure (some (.builtin id))/\s.TypeIs v T/\wpAny (model X.prog X.w) X.A (getItem v (.ref f)) (EP X h u Q) X.xe s
theorem Ue.or{r r':V->Option Int->Option Int->Hp->VK->Prop}(h:Ue X r)(h':Ue X r'):Ue X (λx y z H Q=>r x y z H Q∨r' x y z H Q):=by intro u s w H x v b a y z f Q I g l j i q;rcases q with q|q;exact h u s w H x v b a y z f Q I g l j i q;exact h' u s w H x v b a y z f Q I g l j i q
noncomputable def Mv(r:V->Option Int->Option Int->Hp->VK->Prop)(te:TE)(k c:TO):TE:=λh H Q=>te h H λx a=>k h a λl w=>c h w λu v=>r x l u v Q
theorem O2{r:V->Option Int->Option Int->Hp->VK->Prop}(F:Ue X r)(J:PE X e te)(hl:PO X y k)(C:PO X z c):PE X (.Subscript e (.Slice y z none p2) pos) (Mv r te k c):=by intro a s g H Q I h;refine QBw (LB (J a s g H _ I h) λv o ⟨x,S,P,p,W⟩=>?_);refine wpAny_Slice (LB (hl a o g S _ P W) λj n ⟨l,R,O,B,Z⟩=>LB (C a n g R _ O Z) λi f ⟨u,m,N,K,Y⟩=>?_);rw[evalPart_none];refine QK ?_;have M:Inv X a g m { f with heap:=f.heap.push { cls:=.type "slice",data:=.fields #[j,i,.none] } }:=N.kept (t':=f.toks) λb ob q=>QH _ q;obtain⟨T,id,L,E,G⟩:=F a { f with heap:=f.heap.push { cls:=.type "slice",data:=.fields #[j,i,.none] } } g m x v j i l u f.heap.objs.size Q M p (Heap.IsSliceOf.new ..) B K Y;show wpAny (model X.prog X.w) X.A (subscriptTail e (.Slice y z none p2) v (.ref f.heap.objs.size)) (EP X a g Q) X.xe { f with heap:=f.heap.push { cls:=.type "slice",data:=.fields #[j,i,.none] } };exact tail_any (ops:=[.ref f.heap.objs.size,v]) E L G (by with_unfolding_all rfl)
noncomputable def HS(xs:LV)(y z:Option Int):LV:=(xs.drop (HT.sIx xs.length 0 y)).take (HT.sIx xs.length xs.length z - HT.sIx xs.length 0 y)
theorem lK(xs:LV)(y z:Option Int):(HS xs y z).length<=xs.length:=by unfold HS;rw[wg,Wm];omega
def km(K:QA):V->Option Int->Option Int->Hp->VK->Prop:=λx y z H Q=>∃a h,x=.ref a/\rD K H a h /\
 ¬ (HT.sIx h.length 0 y=0/\HT.sIx h.length h.length z=h.length)/\∀p,H p=none->Q (.ref p) (UA H p (.tup (HS h y z)))
theorem lg:Ue X (km X.K):=by
 intro g s W H x v B A y z C Q I l Z n m h;obtain⟨a,w,rfl,p,Y,q⟩:=h;cases l;obtain⟨f,r,j,i⟩:=I.tuple p;have u:f.toArray.size=w.length:=by rw[QN];exact r.length.symm
 refine⟨"tuple",_,wV.lookup,j.typeIs,?_⟩;refine HT.getItem_tuple_cut j Z n m (by rw[u];exact Y) ?_ (by rw[u];exact i);rw[u];refine⟨.ref s.heap.objs.size,_,I.laid (t':=s.toks) (o:=.tup (HS w y z)) (λb ob q=>QH _ q) (QW _) ?_,rfl,q _ (I.hok.fresh (QW _))⟩;exact⟨QY (lK w y z) i,_,(r.drop (HT.sIx w.length 0 y)).take (HT.sIx w.length w.length z - HT.sIx w.length 0 y),IsTup.new _ _⟩
end
noncomputable def DT(n:Nat)(i:Int):Option Nat:=if 0<=i then(if i<n then some i.toNat else none) else if -(n:Int)<=i then some (i+n).toNat else none
noncomputable def AD{α:Type}(xs:List α)(i:Int):Option α:=(DT xs.length i).bind λj=>xs[j]?
theorem kQ{n:Nat}{i:Int}{j:Nat}(h:DT n i=some j):seqIndex? i n=some j/\j<n/\-(n:Int)<=i/\i<n:=by unfold DT at h;by_cases y:0<=i;rw[if_pos y]at h;by_cases x:i<n;rw[if_pos x]at h;have e:i.toNat=j:=Qs h;exact⟨by rw[QAl y x,e],by omega,by omega,x⟩;rw[if_neg x]at h;cases h;rw[if_neg y]at h;by_cases x:-(n:Int)<=i;rw[if_pos x]at h;have e:(i+n).toNat=j:=Qs h;exact⟨by rw[QCB (by omega) x,e],by omega,x,by omega⟩;rw[if_neg x]at h;cases h
theorem YQ{α:Type}{xs:List α}{i:Int}{v:α}(h:AD xs i=some v):∃j,seqIndex? i xs.length=some j/\xs[j]?=some v/\j<xs.length/\-(xs.length:Int)<=i/\i<xs.length:=by
 unfold AD at h;cases e:DT xs.length i with|none=>rw[e]at h;cases h|some j=>rw[e]at h;obtain⟨u,z,y,x⟩:=kQ e;exact⟨j,u,h,z,y,x⟩
theorem yF{α:Type}{xs:List α}{j:Nat}{v:α}(h:xs[j]?=some v):AD xs (j:Int)=some v:=by
 have x:j<xs.length:=(Qf.mp h).1;have e:DT xs.length (j:Int)=some j:=by unfold DT;rw[if_pos (by omega),if_pos (by omega)];simp
 unfold AD;rw[e];exact h
def MX(b:Expr):Prop:=∀o i,subscripted b false o i=operate [o,i] (getItem o i)
def u7(X:Cx)(r:R2):Prop :=
 ∀(k h:Expr) (z:HB) (s:Shared) (a:St) (H:Hp) (x y:V) (v u:Value) (Q:VK),Inv X z a H s->JA x v->JA y u->r x y H Q ->
  subscripted h false v u=operate [v,u] (getItem v u)->wpAny (model X.prog X.w) X.A (subscriptTail k h v u) (EP X z a Q) X.xe s
def K7(X:Cx)(id:String)(r:V->LV->Hp->VK->Prop):Prop :=
 ∀(h:HB) (s:Shared) (y:St) (H:Hp) (x:V) (z:LV) (v:Value) (u:LW) (Q:VK),Inv X h y H s->JA x v->nA z u->r x z H Q ->
  wpAny (model X.prog X.w) X.A (call (.builtin id) (v::u)) (EP X h y Q) X.xe s
section
variable{X:Cx}{a b:Expr}{ta Y:TE}{pos:Pos}
section
variable{d:HB}{s:Shared}{x:V}{u v:Value}
theorem u7.or{r r':R2}(h:u7 X r)(h':u7 X r'):u7 X (λx y H Q=>r x y H Q∨r' x y H Q):=by intro z w d s k H x y v u Q I f e q g;rcases q with q|q;exact h z w d s k H x y v u Q I f e q g;exact h' z w d s k H x y v u Q I f e q g
theorem K7.or{g:String}{r r':V->LV->Hp->VK->Prop}(h:K7 X g r)(h':K7 X g r'):K7 X g (λx xs H Q=>r x xs H Q∨r' x xs H Q):=by intro d s y H x xs v z Q I w k q;rcases q with q|q;exact h d s y H x xs v z Q I w k q;exact h' d s y H x xs v z Q I w k q
theorem Xm{r:R2}(g:u7 X r)(i:PE X a ta)(hb:PE X b Y)(f:MX b):PE X (.Subscript a b pos) (Kl r ta Y):=by intro d s z H Q I h;exact QBw (binT i hb I h λv u w x y l j e k q=>g a b d w z l x y v u Q j e k q (f _ _))
noncomputable def im(K:QA):R2:=λx y H Q=>∃p h i v,x=.ref p/\y=.int i/\HC K H p h/\AD h i=some v/\Q v H
noncomputable def om(K:QA):R2:=λx y H Q=>∃p h i v,x=.ref p/\y=.int i/\rD K H p h/\AD h i=some v/\Q v H
noncomputable def am:R2:=λx y H Q=>∃z i c,x=.str z/\y=.int i/\z.length<=sizeLine/\AD z.cps.toList i=some c/\Q (.str ⟨#[c]⟩) H
theorem aa:u7 X (im X.K):=by
 intro e f d s o H x y v u Q I E C h Z;obtain⟨p,N,i,z,rfl,rfl,F,G,q⟩:=h;cases E;obtain⟨t,rfl⟩:=C;obtain⟨m,r,l,O⟩:=I.list F;obtain⟨j,k,M,R,L,J⟩:=YQ G;obtain⟨w,A,g⟩:=r.get M;have hl:=r.length;have P:=oH;have fin:EP X d o Q w s:=⟨z,H,I,g,q⟩
 by_cases W:0<=i;have n:i.toNat=j:=by rw[QAl W J]at k;exact Qs k
 exact item_listR l.isList W (by omega) (by rw[n];simpa using A) fin Z;have n:(i+(m.toArray.size:Int)).toNat=j:=by rw[QCB (by omega) L]at k;rw[QN,<- hl];exact Qs k
 exact qf (x:=w) l.isList.typeIs QBx.lookup
  (wpAny_getItem_list_neg (Q:=λr B=>r=w/\EP X d o Q r B) l.isList (by omega) (by rw[QN]<;>omega) (by omega) (by rw[n];simpa using A) ⟨rfl,fin⟩) Z
theorem ki:u7 X (om X.K):=by
 intro k e d s g H x y v u Q I o n h W;obtain⟨p,G,i,z,rfl,rfl,A,B,q⟩:=h;cases o;obtain⟨t,rfl⟩:=n;obtain⟨Z,r,l,J⟩:=I.tuple A;obtain⟨j,E,C,O,N,M⟩:=YQ B;obtain⟨w,F,f⟩:=r.get C;have hl:=r.length;have L:=oH;have fin:EP X d g Q w s:=⟨z,H,I,f,q⟩
 exact qf (x:=w) l.typeIs QAO.lookup
  (QBo (j:=j) (Q:=λr m=>r=w/\EP X d g Q r m) l (by omega) (by omega) (by rw[QN,<- hl];exact E) (by simpa using F) ⟨rfl,fin⟩) W
theorem vi:u7 X am:=by
 intro w k d s W H x y v u Q I g f h l;obtain⟨z,i,c,rfl,rfl,A,m,q⟩:=h;obtain⟨t,rfl⟩:=g;obtain⟨K,rfl⟩:=f;obtain⟨j,e,p,C,o,n⟩:=YQ m;have hl:z.cps.toList.length=z.length:=by simp[Str.length]
 rw[hl]at e o n;have B:=oH;exact tail_any (QCT s z t) slot_str_getitem.lookup (getItem_str (c:=c) (by have Z:decide (i < -(2 ^ 63:Int))=false:=dF (by omega);have r:decide (i ≥ 2 ^ 63)=false:=dF (by omega);rw[Z,r,QBh]) (by rw[e];simpa using p) ⟨.str ⟨#[c]⟩,H,I.tok _,⟨_,rfl⟩,q⟩) l
noncomputable def Tv(K:QA):R2:=λx y H Q=>im K x y H Q∨om K x y H Q∨am x y H Q
theorem xi:u7 X (Tv X.K):=aa.or (ki.or vi)
theorem RU(its:LW)(n j:Nat)(u:Value):qE (·.setIfInBounds j u) { cls:=.type "list",data:=.seq its.toArray n }={ cls:=.type "list",data:=.seq (its.set j u).toArray n }:=by simp[qE]
theorem Inv.lst{d:HB}{σ:St}{H:Hp}{s:Shared}{p:Addr}{xs:LV}(I:Inv X d σ H s)(h:H p=some (.lst xs)) :
  ∃(its:LW) (n:Nat),nA xs its/\s.heap.get? p=some { cls:=.type "list",data:=.seq its.toArray n }/\xs.length<=sizeLine:=by
 obtain⟨z,its,n,r,e⟩:=I.hok p _ h;exact⟨its,n,r,e,z⟩
theorem Inv.lstUpd{σ:St}{H:Hp}{p:Addr}{xs y:LV}{its its':LW}{n z:Nat}{f:Obj->Obj}(I:Inv X d σ H s)(h:H p=some (.lst xs))
  (g:s.heap.get? p=some { cls:=.type "list",data:=.seq its.toArray n }) (w:f { cls:=.type "list",data:=.seq its.toArray n }={ cls:=.type "list",data:=.seq its'.toArray z }) (r:nA y its') (k:y.length<=sizeLine) (t:Nat) :
  Inv X d σ (UA H p (.lst y)) { s with heap:=s.heap.update p f,toks:=t }:=by
 have e:(s.heap.update p f).get? p=some { cls:=.type "list",data:=.seq its'.toArray z }:=by rw[wt f g (by rw[w]<;>rfl),w]
 refine I.write (x:=p) (e:=p) (by rw[h];trivial) (.inl rfl) (λb u hb q=>(QAz _ _ (qD hb)).trans q) ⟨_,e⟩ ?_;exact⟨k,its',z,r,e⟩
def xm:V->V->V->Hp->(Hp->Prop)->Prop:=λo i v H Q=>∃p h k j,o=.ref p/\i=.int k/\H p=some (.lst h)/\DT h.length k=some j/\Q (UA H p (.lst (h.set j v)))
theorem J1:Gb X xm:=by
 intro d s Z H o i v G J u Q I B C A h;obtain⟨p,K,k,j,rfl,rfl,e,F,q⟩:=h;cases B;obtain⟨t,rfl⟩:=C;obtain⟨y,n,r,w,E⟩:=I.lst e;obtain⟨z,M,g,f⟩:=kQ F;have hl:=r.length;have L:=oH;have m:Inv X d Z (UA H p (.lst (K.set j v))) { s with heap:=s.heap.update p (qE (·.setIfInBounds j u)) } :=
  I.lstUpd e w (RU y n j u) (r.set A j) (by rw[qY];exact E) s.toks
 by_cases l:0<=k;have hk:k.toNat=j:=by rw[QAl l f]at z;exact Qs z
 exact PySem.W.ki_setAt w l (by omega) (by rw[QN,<- hl];exact f) (by rw[hk];exact⟨_,m,q⟩);have hk:(k+(y.toArray.size:Int)).toNat=j:=by rw[QCB (by omega) g]at z;rw[QN,<- hl];exact Qs z
 exact PySem.W.ki_setBack w (by omega) (by rw[QN,<- hl];exact g) (by omega) (by rw[hk];exact⟨_,m,q⟩)
theorem zP(y z:Option Int)(n:Nat):(sliceBounds y z none n).1=((HT.sIx n 0 y:Nat):Int)/\(sliceBounds y z none n).2.1=((HT.sIx n n z:Nat):Int)/\(sliceBounds y z none n).2.2=1:=by
 refine⟨?_,?_,rfl⟩;cases y with|none=>simp[sliceBounds,HT.sIx]|some i=>simp only[sliceBounds,HT.sIx,QCH,show(1:Int) > 0 by decide,if_true];by_cases h:i<0;simp only[h,if_true]<;>omega;simp only[h,if_false]<;>omega
 cases z with|none=>simp[sliceBounds,HT.sIx]|some i=>simp only[sliceBounds,HT.sIx,QCH,show(1:Int) > 0 by decide,if_true];by_cases h:i<0;simp only[h,if_true]<;>omega;simp only[h,if_false]<;>omega
theorem cN(its:LW)(h y:Option Int):slicePick its.toArray h y none=((its.drop (HT.sIx its.length 0 h)).take (HT.sIx its.length its.length y - HT.sIx its.length 0 h)).toArray:=by obtain⟨k,w,z⟩:=zP h y its.toArray.size;unfold slicePick;rw[k,w,z];simp only[sliceRange_one,pick_run,QN]<;>rfl
def vm(K:QA):V->Option Int->Option Int->Hp->VK->Prop:=λx y z H Q=>∃a h,x=.ref a/\HC K H a h/\∀p,H p=none->Q (.ref p) (UA H p (.lst (HS h y z)))
theorem l8:Ue X (vm X.K):=by intro d s p H x v W Z w k A Q I f n i g h;obtain⟨a,y,rfl,m,q⟩:=h;cases f;obtain⟨j,r,e,l⟩:=I.list m;have z:=r.length;refine⟨"list",_,QBx.lookup,e.isList.typeIs,?_⟩;refine wpAny_getItem_list_slice e.isList n i g .none (by simp) ?_ (by rw[QN]<;>omega);rw[cN,<- z];refine⟨.ref s.heap.objs.size,_,I.laid (t':=s.toks) (o:=.lst (HS y w k)) (λb ob q=>QH _ q) (QW _) ?_,rfl,q _ (I.hok.fresh (QW _))⟩;exact⟨QY (lK y w k) l,_,0,(r.drop (HT.sIx y.length 0 w)).take (HT.sIx y.length y.length k - HT.sIx y.length 0 w),QT _ rfl⟩
noncomputable def LF:V->Bool
 | .non=>true|.bl _=>true|.int _=>true|.str _=>true|_=>false
noncomputable def Ta:V->V->Bool
 | .non,.non=>true|.bl a,.bl b=>a==b|.bl a,.int b=>(if a then 1 else 0)==b|.int a,.bl b=>a==(if b then 1 else 0)|.int a,.int b=>a==b|.str a,.str b=>a==b|_,_=>false
theorem Ci{A:Around}{y:V}(w:JA y u)(h:JA x v)(k:LF y=true)(fx:LF x=true):qg A s u v (Ta y x):=by
 cases y with
 |non =>
  cases w;cases x with|non=>cases h;exact qg.same _|bl b=>cases h;exact qg.none_bool b|int b=>obtain⟨t,rfl⟩:=h;exact qg.none_int b t|str b=>obtain⟨t,rfl⟩:=h;exact qg.none_str b t|_=>exact absurd (show false=true from fx) QG
 |bl a =>
  cases w;cases x with|non=>cases h;exact qg.bool_none a|bl b=>cases h;exact qg.bool_bool a b|int b=>obtain⟨t,rfl⟩:=h;exact qg.bool_int a b t|str b=>obtain⟨t,rfl⟩:=h;exact qg.bool_str a b t|_=>exact absurd (show false=true from fx) QG
 |int a =>
  obtain⟨z,rfl⟩:=w;cases x with|non=>cases h;exact qg.int_none a z|bl b=>cases h;exact qg.int_bool a z b|int b=>obtain⟨t,rfl⟩:=h;exact qg.int_int a z b t|str b=>obtain⟨t,rfl⟩:=h;exact QBj a z b t|_=>exact absurd (show false=true from fx) QG
 |str a =>
  obtain⟨z,rfl⟩:=w;cases x with|non=>cases h;exact qg.str_none a z|bl b=>cases h;exact qg.str_bool a z b|int b=>obtain⟨t,rfl⟩:=h;exact QBk a z b t|str b=>obtain⟨t,rfl⟩:=h;exact qg.str_str a z b t|_=>exact absurd (show false=true from fx) QG
 |_=>exact absurd (show false=true from k) QG
noncomputable def sV(x:V)(u:Value):Bool:=match u with
 | .none=>Ta .non x|.bool b=>Ta (.bl b) x|.int i _=>Ta (.int i) x|.str z _=>Ta (.str z) x|_=>false
theorem c6{y:V}(r:JA y u)(f:LF y=true):sV x u=Ta y x:=by
 cases y with|non=>cases r;rfl|bl b=>cases r;rfl|int i=>obtain⟨t,rfl⟩:=r;rfl|str z=>obtain⟨t,rfl⟩:=r;rfl|_=>exact absurd (show false=true from f) QG
theorem FI{x:V}:∀{xs:LV}{us:LW},nA xs us->xs.all LF=true->us.any (sV x)=xs.any λy=>Ta y x
 |_,_,.nil,_=>rfl|y::xs,u::us,.cons r t,f=>by rw[ql,Qd]at f;rw[wy,wy,c6 r f.1,FI t f.2]
theorem ZF{A:Around}{s:Shared}{x:V}{v:Value}(z:JA x v)(fx:LF x=true):∀{xs:LV}{us:LW},nA xs us->xs.all LF=true->∀u∈us,qg A s u v (sV x u)
 |_,_,.nil,_=>λu h=>by cases h|y::xs,u::us,.cons r t,f=>λw h=>by rw[ql,Qd]at f;rcases QL.mp h with rfl|h;rw[c6 r f.1];exact Ci r z f.1 fx;exact ZF z fx t f.2 w h
noncomputable def inV(x:V)(xs:LV):Bool:=xs.any λy=>Ta y x
noncomputable def Yr(K:QA)(neg:Bool):R2:=λx y H Q=>∃p h,y=.ref p/\(HC K H p h∨rD K H p h)/\LF x=true/\h.all LF=true/\Q (.bl (if neg then !inV x h else inV x h)) H
theorem rY:oE X (compareOp .In) (Yr X.K false):=by intro d s l H x y v u Q I g i h;obtain⟨p,m,rfl,k,fx,fs,q⟩:=h;cases i;rcases k with k|k;obtain⟨z,r,e,j⟩:=I.list k;refine SeqAt.in_listAt (sV x) e.isList (λw f=>ZF g fx r fs w (by simpa using f)) ⟨.bl _,H,I,rfl,?_⟩;rw[show z.toArray.any (sV x)=z.any (sV x) by simp,FI r fs];exact q;obtain⟨z,r,e,j⟩:=I.tuple k;refine SeqAt.in_tupleAt (sV x) e (λw f=>ZF g fx r fs w (by simpa using f)) ⟨.bl _,H,I,rfl,?_⟩;rw[show z.toArray.any (sV x)=z.any (sV x) by simp,FI r fs];exact q
theorem rP:oE X (compareOp .NotIn) (Yr X.K true):=by intro d s l H x y v u Q I g i h;obtain⟨p,m,rfl,k,fx,fs,q⟩:=h;cases i;rcases k with k|k;obtain⟨z,r,e,j⟩:=I.list k;refine SeqAt.notIn_listAt (sV x) e.isList (λw f=>ZF g fx r fs w (by simpa using f)) ⟨.bl _,H,I,rfl,?_⟩;rw[show z.toArray.any (sV x)=z.any (sV x) by simp,FI r fs];exact q;obtain⟨z,r,e,j⟩:=I.tuple k;refine SeqAt.notIn_tupleAt (sV x) e (λw f=>ZF g fx r fs w (by simpa using f)) ⟨.bl _,H,I,rfl,?_⟩;rw[show z.toArray.any (sV x)=z.any (sV x) by simp,FI r fs];exact q
theorem UI:BC X (.builtin "len") (λxs H Q=>∃p z,xs=[.ref p]/\(HC X.K H p z∨rD X.K H p z)/\Q (.int z.length) H):=by intro d s j H xs l Q I r h;obtain⟨p,z,rfl,w,q⟩:=h;obtain⟨u,rfl,g⟩:=GG r;cases g;have m:=oH;rcases w with w|w;obtain⟨f,k,e,i⟩:=I.list w;have y:=k.length;exact Calls.call_len_list e.isList (by simp only[QN]<;>omega) ⟨.int z.length,H,I.tok _,⟨s.toks+1,by rw[QN,y]⟩,q⟩;obtain⟨f,k,e,i⟩:=I.tuple w;have y:=k.length;exact len_tuple e (by simp only[QN]<;>omega) ⟨.int z.length,H,I.tok _,⟨s.toks+1,by rw[QN,y]⟩,q⟩
theorem eQ:BC X (.builtin "len") (λxs H Q=>∃z,xs=[.str z]/\z.length<=sizeLine/\Q (.int z.length) H):=by intro d s y H xs w Q I r h;obtain⟨z,rfl,k,q⟩:=h;obtain⟨u,rfl,t,rfl⟩:=GG r;have e:=oH;exact len_str (by omega) ⟨.int z.length,H,I.tok _,⟨_,rfl⟩,q⟩
theorem BC.or{f:Value}{r r':LV->Hp->VK->Prop}(h:BC X f r)(h':BC X f r'):BC X f (λxs H Q=>r xs H Q∨r' xs H Q):=by intro d s y H xs z Q I w q;rcases q with q|q;exact h d s y H xs z Q I w q;exact h' d s y H xs z Q I w q
theorem UN:BC X (.type "tuple") (λxs H Q=>∃p z,xs=[.ref p]/\((HC X.K H p z/\∀l,H l=none->Q (.ref l) (UA H l (.tup z)))∨(rD X.K H p z/\Q (.ref p) H))):=by
 intro d s j H xs C Q I r h;obtain⟨p,z,rfl,h⟩:=h;obtain⟨u,rfl,W⟩:=GG r;cases W;rcases h with⟨i,q⟩| ⟨i,q⟩
 obtain⟨y,f,g,m⟩:=I.list i;have n:=f.length;refine call_tuple_list g.isList (λk A=>?_) (by simp only[QN]<;>omega);have Z:Inv X d j H { s with heap:=k }:=I.kept (t':=s.toks) A;have B:Inv X d j (UA H k.objs.size (.tup z)) { s with heap:=k.push { cls:=.type "tuple",data:=.seq y.toArray } } :=
  Z.laid (t':=s.toks) (λb o e=>QH _ e) (QW _) (show jB X.prog X.w _ _ _ (.tup z) from⟨m,y,f,IsTup.new _ _⟩)
 exact⟨.ref k.objs.size,_,B,rfl,q _ (Z.hok.fresh (QW _))⟩;obtain⟨y,f,g,m⟩:=I.tuple i;exact call_tuple_same g ⟨.ref p,H,I,rfl,q⟩
def JZ(K:QA)(T:String)(x:V)(H:Hp):Prop:=match x with
 | .str _=>T="str"|.int _=>T="int"|.ref p=>(T="list"/\∃y,HC K H p y)∨(T="tuple"/\∃o,K.lookup p=some o/\o.cls=.type "tuple"/\o.dict=none) ∨
   (T="dict"/\((∃h,H p=some (.dK h))∨∃z h,H p=some (.dT z h)))∨(T="set"/\∃S n,H p=some (.set S n))
 |_=>False
theorem z0{σ:St}{H:Hp}{T:String}(I:Inv X d σ H s)(r:JA x v)(ty:JZ X.K T x H) :
  s.TypeIs v T/\∀a,v=.ref a->∃ob,s.heap.get? a=some ob/\ob.dict=none:=by
 cases x with
 |str z=>obtain⟨t,rfl⟩:=r;cases(show T="str" from ty);exact⟨QCT s z t,λ_ e=>nomatch e⟩
 |int i=>obtain⟨t,rfl⟩:=r;cases(show T="int" from ty);exact⟨typeIs_int s i t,λ_ e=>nomatch e⟩
 |ref p =>
  cases r;rcases ty with⟨rfl,l,j⟩| ⟨rfl,o,hk,hc,w⟩| ⟨rfl,hk⟩| ⟨rfl,S,n,hk⟩
  obtain⟨g,_,f,_⟩:=I.list j;refine⟨f.isList.typeIs,λa e=>?_⟩;cases e;obtain⟨o,n,e,c,w,_⟩:=f;exact⟨o,e,w⟩;refine⟨⟨o,I.kIn p o hk,hc⟩,λa e=>?_⟩;cases e;exact⟨o,I.kIn _ o hk,w⟩;have z:∃o,s.heap.get? p=some o/\o.ExactDict:=by
   rcases hk with⟨y,hk⟩| ⟨m,y,hk⟩
   obtain⟨_,_,_,_,o,_,_,e,h,_⟩:=I.hok p _ hk;exact⟨o,e,h⟩;obtain⟨_,_,_,_,o,_,e,h,_⟩:=I.hok p _ hk;exact⟨o,e,h⟩
  obtain⟨o,e,h⟩:=z;refine⟨⟨o,e,h.1⟩,λa k=>?_⟩;cases k;exact⟨o,e,h.2.1⟩;obtain⟨o,_,_,_,e,h,_⟩:=I.hok p _ hk;refine⟨⟨o,e,h.1⟩,λa k=>?_⟩;cases k;exact⟨o,e,h.2.1⟩
 |_=>exact Qc ty
noncomputable def Tq(K:QA)(T:String)(r:V->LV->Hp->VK->Prop)(m:TE):TE:=λy H Q=>m y H λx h=>JZ K T x h/\r x [] h Q
noncomputable def Ov(K:QA)(T:String)(r:V->LV->Hp->VK->Prop)(m:TE)(t:TA):TE:=λh H Q=>m h H λx y=>JZ K T x y/\t h y λz w=>r x z w Q
end
variable{o e:Expr}{es:List Expr}{m:TE}{t:TA}{name:Str}{apos cpos:Pos}{T g:String}{r:V->LV->Hp->VK->Prop}
theorem Eg(p:PlainAttrs T)(w:Slot T name g)(k:typeOf (.builtin g)=pure (.type "method_descriptor"))(Z:K7 X g r)(q:PE X o m)
  (u:attributeBase o name X.env (eval o X.env)=eval o X.env:=by rfl) (z:(apos.endLine==cpos.line)=true:=by rfl):PE X (.Call (.Attribute o name apos) [] [] cpos) (Tq X.K T r m):=by
 intro y s f H Q I h;refine QAm u z (LB (q y s f H _ I h) λv l ⟨x,B,j,i,ty,n⟩=>?_);obtain⟨A,W⟩:=z0 j i ty;exact⟨T,g,p,w,k,A,W,WW rfl (QBW (Z y l f B x [] v [] Q j i .nil n))⟩
theorem Um(F:PlainAttrs T)(k:Slot T name g)(j:typeOf (.builtin g)=pure (.type "method_descriptor"))(L:K7 X g r)(J:PE X o m)(M:PA X (e::es) t)
  (w:attributeBase o name X.env (eval o X.env)=eval o X.env:=by rfl)
  (f:((backTo cpos (starEach (e::es) X.env)).all (λx=>!x.1)&&(backToKw cpos (keywordEach [] X.env)).all (λx=>x.1.isSome)
   && decide ((e::es).length+([]:List Keyword).length+(if([]:List Keyword).isEmpty then 0 else 1)<30))=true:=by rfl)
  (u:(apos.endLine==cpos.line)=true:=by rfl) (G:starEach (e::es) X.env=(false,eval e X.env)::starEach es X.env:=by rfl) (z:(backTo cpos (starEach es X.env)).any (·.1)=false:=by rfl) :
  PE X (.Call (.Attribute o name apos) (e::es) [] cpos) (Ov X.K T r m t):=by
 intro y s i H Q I h;refine wpAny_Call_method_late w f u rfl (LB (J y s i H _ I h) λv A ⟨x,S,p,l,ty,E⟩=>?_);obtain⟨O,N⟩:=z0 p l ty;refine⟨T,g,F,k,j,O,N,?_⟩;have n:=M cpos y A i S _ p E;rw[G]at n ⊢;refine WW (by show(false||(backTo cpos (starEach es X.env)).any (·.1))=false;rw[z]<;>rfl) (Calls.evalArgs_plain ?_);exact LB n λZ W ⟨q,R,P,B,C⟩=>L y W i R x q v Z Q P l B C
end
def Nt(X:Cx)(id:String)(r:V->LV->Hp->VK->Prop):Prop :=
 ∀(h:HB) (s:Shared) (y:St) (H:Hp) (x:V) (z:LV) (v:Value) (u:LW) (Q:VK),Inv X h y H s->JA x v->nA z u->r x z H Q ->
  wpAny (model X.prog X.w) X.A (call (.builtin id) (v::u)) (EP X h y Q) X.xe s
theorem nA.one:∀{x:V}{us:LW},nA [x] us->∃u,us=[u]/\JA x u
 |_,_,.cons r .nil=>⟨_,rfl,r⟩
theorem nA.eraseIdx:∀{xs:LV}{us:LW}(i:Nat),nA xs us->nA (xs.eraseIdx i) (us.eraseIdx i)
 |_,_,_,.nil=>.nil|_,_,0,.cons _ t=>t|_,_,i+1,.cons r t=>.cons r (nA.eraseIdx i t)
theorem cO{α:Type}:∀(l:List α) (i:Nat),(l.eraseIdx i).length<=l.length
 |[],_=>QW _|_::_,0=>wB _|_::r,i+1=>Wn (cO r i)
section
variable{X:Cx}{y:HB}{σ:St}{H:Hp}{s:Shared}{l b:Addr}{xs v w:LV}
theorem Inv.lset{its its':LW}{n:Nat}{f:Array Value->Array Value}{t':Nat}(I:Inv X y σ H s)(a:H l=some (.lst xs))
  (e:s.heap.get? l=some { cls:=.type "list",data:=.seq its.toArray n }) (k:f its.toArray=its'.toArray) (hv:nA v its') (h:v.length<=sizeLine) :
  Inv X y σ (UA H l (.lst v)) { s with heap:=s.heap.update l (qE f),toks:=t' }:=by
 have q:=PySem.IsL.update e f;rw[k]at q;refine I.write (x:=l) (e:=l) (by rw[a];exact trivial) (.inl rfl) (λg u hb z=>(QAz s.heap (qE f) (qD hb)).trans z) ⟨_,q⟩ ?_;exact⟨h,its',_,hv,q⟩
theorem Inv.lnew{its:LW}{t':Nat}(I:Inv X y σ H s)(hv:nA v its)(h:v.length<=sizeLine) :
  Inv X y σ (UA H s.heap.objs.size (.lst v)) { s with heap:=s.heap.push { cls:=.type "list",data:=.seq its.toArray },toks:=t' } :=
 I.laid (λ_ _ q=>QH _ q) (QW _) ⟨h,its,0,hv,QT _ rfl⟩
theorem Inv.fresh(I:Inv X y σ H s):H s.heap.objs.size=none:=I.hok.fresh (QW _)
theorem Inv.lstM(I:Inv X y σ H s)(h:H l=some (.lst xs)):xs.length<=sizeLine/\∃(its:LW) (n:Nat),nA xs its/\xs.length=its.length/\s.heap.get? l=some { cls:=.type "list",data:=.seq its.toArray n }:=by obtain⟨z,its,n,r,e⟩:=I.hok l _ h;exact⟨z,its,n,r,r.length,e⟩
theorem m4{n:Nat}(h:n<=sizeLine):WI n=false:=by unfold WI;exact dF (by omega)
end
section
variable{X:Cx}
def JW:V->LV->Hp->VK->Prop:=λx z H Q=>∃l h y,x=.ref l/\z=[y]/\H l=some (.lst h)/\h.length<sizeLine/\Q .non (UA H l (.lst (h++[y])))
theorem CY:Nt X "list.append" JW:=by intro k s i H x m v o Q I b f h;obtain⟨l,j,y,rfl,rfl,a,p,q⟩:=h;cases b;obtain⟨u,rfl,g⟩:=f.one;obtain⟨z,w,n,r,hl,e⟩:=I.lstM a;refine QBy F.slot_list_append ⟨_,e,rfl⟩ F.entry_list_append (F.args_list_append_2 _ _) (PySem.list_append l w.toArray n u (by rw[QN];omega)) ⟨e,?_⟩;refine⟨.non,_,I.lset (its':=w++[u]) a e (by simp) (r.append (.cons g .nil)) ?_,rfl,q⟩;rw[QI,qI];omega
def J8:V->LV->Hp->VK->Prop:=λx z H Q=>∃l b y h,x=.ref l/\z=[.ref b]/\H l=some (.lst y)/\H b=some (.lst h)/\y.length+h.length<=sizeLine/\Q .non (UA H l (.lst (y++h)))
theorem BY:Nt X "list.extend" J8:=by
 intro f s K H x E v G Q I i j h;obtain⟨l,b,C,A,rfl,rfl,g,Z,J,q⟩:=h;cases i;obtain⟨u,rfl,m⟩:=j.one;cases m;obtain⟨z,w,n,r,hl,e⟩:=I.lstM g;obtain⟨B,y,p,o,Y,W⟩:=I.lstM Z;have a:w.toArray.size+y.toArray.size<=sizeLine:=by rw[QN,QN];omega
 have k:¬ (!w.toArray.isEmpty&&WI (w.toArray.size+y.toArray.size))=true:=by rw[m4 a,QBO];exact QG
 refine QBy F.slot_list_extend ⟨_,e,rfl⟩ F.entry_list_extend (F.args_list_extend_2 _ _)
  (AutoSeq1.list_extend_list_list_0 l w.toArray n b y.toArray p k (by rw[QN];omega) (by omega)) ⟨e,W,?_⟩
 refine⟨.non,_,I.lset (its':=w++y) g e (by simp) (r.append o) ?_,rfl,q⟩;rw[QI];omega
def Vg:V->LV->Hp->VK->Prop:=λx z H Q=>∃l h i k y,x=.ref l/\z=[.int i]/\H l=some (.lst h)/\-(2 ^ 63)<=i/\i<2 ^ 63/\seqIndex? i h.length=some k/\h[k]?=some y/\Q y (UA H l (.lst (h.eraseIdx k)))
theorem M4:Nt X "list.pop" Vg:=by
 intro f s A H x B v C Q I m o h;obtain⟨l,j,i,k,y,rfl,rfl,g,K,W,hk,Y,q⟩:=h;cases m;obtain⟨u,rfl,p⟩:=o.one;obtain⟨t,rfl⟩:=p;obtain⟨z,a,n,r,hl,e⟩:=I.lstM g;obtain⟨w,Z,b⟩:=r.get Y;refine QBy F.slot_list_pop ⟨_,e,rfl⟩ F.entry_list_pop (F.args_list_pop_2 _ _)
  (MeetsSeq.list_pop_at l a.toArray n i t k w (fitsIndex_both K W) (by rw[QN,<- hl];exact hk) (by rw[<- wu];exact Z) (by rw[QN];omega)) ⟨e,?_⟩
 refine⟨y,_,I.lset (its':=a.eraseIdx k) g e ?_ (r.eraseIdx k) ?_,b,q⟩;show a.toArray.eraseIdxIfInBounds k=(a.eraseIdx k).toArray;rw[List.eraseIdxIfInBounds_toArray];have:=cO j k;omega
end
end L2
namespace Att
open PySem PySem.W PySem.Calls PyProof.Rows
theorem tK{P:Params}{h:Heap}:∀(ns:LJ) (vs:LW),WellAll P h vs (ns.map WData.int)->IntsAre vs ns:=by
 intro ns;induction ns with
 |nil=>intro vs w;rw[WH]at w;cases w;exact .nil|cons n ns x =>
  intro vs w;rw[QV]at w;cases w with|cons a b=>cases a;exact .cons _ _ (x _ b)
theorem script_of{l:OpenLaw}{n:Nat}(j:l.most=some n){P:Params}{h:Heap}{args:List WData}{x:LW}
  (y:l.row.toRowW.claim.pre args=true) (k:WellAll P h x args) :
  ∃a vs ns,x=[jx a]/\args=[WData.list (ns.map WData.int)]/\h.get? a=some { cls:=.type "list",data:=.seq vs.toArray }/\IntsAre vs ns/\ns.length<=n:=by
 have b:WShape.hasAll [] args [.list .int]=true:=(pre_splitW y).1;have hc:l.pre.holds [] { args:=args }=true:=(pre_splitW y).2;obtain⟨d,r,rfl,p,o⟩:=hasAllW_cons b;obtain rfl:=hasAllW_nil o;obtain⟨s,rfl,m⟩:=hasW_list p;obtain⟨ns,rfl⟩:=items_int m;have z:ns.length<=n:=by
  unfold OpenLaw.pre at hc;have w:(WTm.not (.lt (.lit (.int (n:Int))) (.len (.arg 0)))).holds [] { args:=[.list (ns.map .int)] }=true:=by have w:=(holds_andW hc).1;rw[j]at w;exact w
  have v:=condW_of w (w_not (w_lt w_lit (w_len_list (w_arg rfl))));rw[QD]at v;refine Wo λq=>?_;have g:(n:Int)<((ns.length:Nat):Int):=by omega
  first
   | (rw[dT g]at v;exact absurd v (by decide))
   | (simp at v;omega)
 cases k with
 |cons f e =>
  cases e;cases f with|list i u=>exact⟨_,_,ns,rfl,rfl,i,tK ns _ u,z⟩
theorem post_true(l:OpenLaw)(args:List WData):l.row.toRowW.claim.post args (.bool true) args=true :=
 postW_of (r:=l.row.toRowW) (X:=(true==true))
  (show WShape.has [] (.bool true) .bool=true by first|rfl|decide|simp[WShape.has,WShape.arms,WShape.armsAll])
  (show(WTm.eq .res (.lit (.bool true))).value [] { args:=args,res:=some (.bool true),after:=args }=some (.bool (true==true)) from w_eq_bool (w_res rfl) w_lit) rfl
end Att
namespace L2
open PySem PySem.Spec PyProof.Rows
theorem GN:∀{vs:LW}{ns:LJ},IntsAre vs ns->nA (ns.map V.int) vs
 |_,_,.nil=>.nil|_,_,.cons n t h=>.cons ⟨t,rfl⟩ (GN h)
def Yp(H:Hp):Prop:=∀b,H b=none∨(∃o h,H b=some (.frz o (.lst h)))∨∃q,H b=some (.tbl q)
theorem v5{P:Program}{w:World}{K:QA}{mg mb:Str->Option Value}{CX:f7}{k:Nat}{fa a:Addr}{fd:FuncData}{x:Str}{sp:Sp}{y:Shared}{vs:LW}{ns:LJ}{T c:Addr}{X:Str}(hT:∀f:Heap,K.In f->∀P q,ZO mg f P q->P=T/\q=X)(j:y.heap.TableAt c T #[])(hKT:K.lookup T=none)
  (KX:K.In y.heap) (Q:y.heap.Ns mainGlobals mg) (hb:y.heap.Ns builtinsNs mb) (hbb:∀x:Str,x≠"__name__"->mb x=bootBuiltins x) (R:y.heap.NoLimit) (hg:y.gens=#[])
  (J:y.heap.get? a=some { cls:=.type "list",data:=.seq vs.toArray }) (hi:IntsAre vs ns) (hl:ns.length<=sizeLine) (hr:Room k callerA)
  (F:∀f:Heap,K.In f->f.Ns mainGlobals mg->FnOk P w K mg f CX k fa fd [x] sp) (B:∀(s:Shared) (u:Value),BindsTo s fd ⟨[u],[]⟩ [(x,u)])
  (hsp:∀H:Hp,Yp H->HC K H a (ns.map V.int)->sp [.ref a] H (λv _=>v=.bl true) λ_ _ _=>False)
  (hCX:∀H e s',CX [] H y (λ_ _ _=>False) e s'->False) :
  codeAny (model P w) callerA (.call (.ref fa) ⟨[.ref a],[]⟩) (λr s'=>r=.ok (.ret (.bool true))/\OldK y.heap s'.heap/\s'.os=y.os/\AllBare s'.gens) y:=by
 have rv:=GN hi;have O:=hi.length;have W:∀H:Hp,Yp H->HC K H a (ns.map V.int)->xN P w H y.heap->(∀b,H b≠none->b=a∨b=T)->(H a≠none->K.lookup a=none)->H T=some (.tbl X) ->
   codeAny (model P w) callerA (.call (.ref fa) ⟨[.ref a],[]⟩) (λr s'=>r=.ok (.ret (.bool true))/\OldK y.heap s'.heap/\s'.os=y.os/\AllBare s'.gens) y:=by
  intro H hO hS A hA hK hP;have l:∀{b:Addr}{o:Obj},y.heap.get? b=some o->H b=none->(cQ y.heap H).get? b=some o:=λe n=>M5 e n;have noA:∀{b:Addr}{o:Obj}{L:Array DictEntry}{M:Nat},y.heap.get? b=some o->o.data=.dict L M->H b=none:=λ{b o L M} e d=>by
   cases q:H b with|none=>rfl|some u=>rcases hA b (by rw[q];simp) with e'|e';subst e';rw[J]at e;cases e;have d':Data.seq vs.toArray _=Data.dict L M:=d;cases d';subst e';rw[j.2]at e;cases e;have d':Data.fields #[]=Data.dict L M:=d;cases d'
  have Y:∀{b:Addr}{m:Str->Option Value},y.heap.Ns b m->(cQ y.heap H).Ns b m:=λ{b m} ⟨o,L,M,e,d,r⟩=>⟨o,L,M,l e (noA e d),d,r⟩
  have G:K.In (cQ y.heap H):=λb o e=>l (KX b o e) (by
   cases q:H b with|none=>rfl|some u=>rcases hA b (by rw[q];simp) with e'|e';subst e';rw[hK (by rw[q];simp)]at e;cases e;subst e';rw[hKT]at e;cases e)
  have hM:Mod K mg (cQ y.heap H):=⟨G,Y Q,⟨mb,Y hb,hbb⟩,let⟨mc,h1,h2⟩:=R;⟨mc,Y h1,h2⟩⟩
  have e0:Env0 P w K mg (cQ y.heap H) callerA [] y H:=⟨rfl,hM,λb o e=>X9 e,wv (IY _ _),trivial,λb hb=>absurd (show b∈([]:List Addr) from hb) (by simp),λP q t=>(by obtain⟨rfl,rfl⟩:=hT _ G P q t;exact hP),A,.of_eq hg⟩
  refine QB9 ((F _ G (Y Q)).run callerA [] y H ⟨[.ref a],[]⟩ [.ref a] [.ref a] _ _ hr e0 (B y (.ref a)) (.cons rfl .nil) (hsp H hO hS)) λr s' h=>?_;cases r with
  |error e=>exact(hCX H e s' h).elim|ok fl =>
   cases fl with
   |next=>exact Qc h|brk=>exact Qc h|cont=>exact Qc h|ret u =>
    obtain⟨v,H',os,bare,un,Z,r',q⟩:=h;have q':v=.bl true:=q;subst q';obtain rfl:u=Value.bool true:=r';have nx:∀b,b∉nX []:=λb z=>absurd (show b∈([]:List Addr) from z) (by simp);refine⟨rfl,⟨λb o e=>?_,λb o e=>un.there b o e (by simp)⟩,os,bare⟩;rcases hO b with z|⟨ob,xs,z⟩| ⟨tq',z⟩
    exact .inl (un.keep b o e z (nx b) (by simp));obtain⟨S,_⟩:=A b _ z;obtain⟨e2,_⟩:=Z b _ (un.frzs b ob _ z);rw[e]at S;cases S;exact .inl e2;have hb:b=T:=by rcases hA b (by rw[z];simp) with rfl|h;obtain⟨ps,S,_⟩:=A b _ z;rw[J]at S;cases S;exact h
    subst hb;obtain⟨ps,e2,_⟩:=Z b _ (un.tbls b _ z);have e0:=e.symm.trans j.2;cases e0;exact .inr (.inl ⟨j.isCodeTable,rfl,#[],ps,rfl,by simpa using e2⟩)
 have aT:a≠T:=λz=>by have e:=j.2;rw[<- z,J]at e;cases e
 have N:∀H:Hp,jB P w H y.heap T (.tbl X):=λH=>⟨#[],j.2,trivial,λpos cv g=>by cases g⟩
 cases hk:K.lookup a with
 |some o =>
  have e:=KX a o hk;rw[J]at e;cases e;refine W (λb=>if b=T then some (.tbl X) else none) (λb=>?_) (.inr ⟨_,vs.toArray,_,hk,rfl,rfl,rfl,by rw[QN,O];exact hl,by simpa using rv⟩) (λb u z=>?_) (λb z=>?_) (λz=>absurd (if_neg aT) z) (if_pos rfl);by_cases hb:b=T
  ·exact .inr (.inr ⟨_,if_pos hb⟩)
  exact .inl (if_neg hb);by_cases hb:b=T
  ·have p:=(if_pos hb).symm.trans z
   cases p;subst hb;exact N _
  have p:=(if_neg hb).symm.trans z;cases p;by_cases hb:b=T
  ·exact .inr hb
  exact absurd (if_neg hb) z
 |none =>
  have C:∀b,b=T->(if b=T then some (.tbl X) else if b=a then some (.frz { cls:=.type "list",data:=.seq vs.toArray } (.lst (ns.map V.int))) else none:Option HO)=some (.tbl X):=λb h=>if_pos h;have I:∀b,b=a->(if b=T then some (.tbl X) else if b=a then some (.frz { cls:=.type "list",data:=.seq vs.toArray } (.lst (ns.map V.int))) else none:Option HO)=some (.frz { cls:=.type "list",data:=.seq vs.toArray } (.lst (ns.map V.int))):=λb h=>(if_neg (h▸aT)).trans (if_pos h);have E:∀b,b≠T->b≠a->(if b=T then some (.tbl X) else if b=a then some (.frz { cls:=.type "list",data:=.seq vs.toArray } (.lst (ns.map V.int))) else none:Option HO)=none:=λb h h2=>(if_neg h).trans (if_neg h2);refine W (λb=>if b=T then some (.tbl X) else if b=a then some (.frz { cls:=.type "list",data:=.seq vs.toArray } (.lst (ns.map V.int))) else none) (λb=>?_) (.inl (.inr ⟨{ cls:=.type "list",data:=.seq vs.toArray },I a rfl⟩)) (λb u z=>?_) (λb z=>?_) (λ_=>hk) (C T rfl);by_cases hb:b=T
  ·exact .inr (.inr ⟨_,C b hb⟩)
  by_cases i:b=a
  ·exact .inr (.inl ⟨_,_,I b i⟩)
  exact .inl (E b hb i);by_cases hb:b=T
  ·have p:=(C b hb).symm.trans z
   cases p;subst hb;exact N _
  by_cases i:b=a
  ·have p:=(I b i).symm.trans z
   cases p;subst i;exact⟨J,by rw[QD];exact hl,vs,_,rv,J⟩
  have p:=(E b hb i).symm.trans z;cases p;by_cases hb:b=T
  ·exact .inr hb
  by_cases i:b=a
  ·exact .inl i
  exact absurd (E b hb i) z
noncomputable def AC(s:Stmt):Arguments:=match s with
 | .FunctionDef _ a _ _ _ _ _ _ _ _=>a|_=>{ posonlyargs:=[],args:=[],vararg:=none,kwonlyargs:=[],kw_defaults:=[],kwarg:=none,defaults:=[] }
noncomputable def fC(s:Stmt):List Stmt:=match s with
 | .FunctionDef _ _ b _ _ _ _ _ _ _=>b|_=>[]
noncomputable def GA(s:Stmt):Scope:=match s with
 | .FunctionDef _ _ _ _ _ _ sc _ _ _=>sc|_=>{ kind:=.function,names:=[],isGenerator:=false,isCoroutine:=false }
noncomputable abbrev DZ:f7:=λ_ _ _ _ _ _=>False
noncomputable abbrev E0:XK:=λ_ _ _=>False
theorem Bm{X:Cx}:OM DZ X E0:=λ_ _ _ _ _ _ _ h=>h.elim
structure Fun(K:QA)(x qual:Str)(st:Stmt)(f:Addr)(fd:FuncData):Prop where
 ex:∃(oc:Value) (od:Option Addr) (kV doc pm:Value) (an:Option Addr) (cdv ct:Value) (osl:Array (Option Value)),
  fd=qp x qual (AC st) (fC st) (GA st) .none kV doc pm an cdv ct/\K.lookup f=some ⟨oc,od,.func fd,osl⟩/\Wg K cdv qual=true
 kp:wK K (.ref f)=true
section
variable{P:Program}{w:World}{K:QA}{mg:Str->Option Value}{base:Heap}
section
variable{x y:Str}{st:Stmt}{f:Addr}{z:FuncData}{ps:LS}
theorem Fun.ok{N:LS}{k:Nat}{a:Sp}(F:Fun K x y st f z)(S:FnScope N ps (GA st))(len:∀vs H Q E,a vs H Q E->vs.length=ps.length)
  (v:∀(u:Value) (A:Around) (outer:List Env) (s:Shared) (H:Hp) (vs:LV) (Q:VK) (E:XK),Room k (A.deeper (envOfC y (GA st) s.heap.objs.size f u))->a vs H Q E ->
   ∃t,RV (aV DZ P w K mg base N y (GA st) f u A outer s H E).nox (fC st) t/\t { nx:=λ_ l=>Q .non l,rt:=Q } (yD N vs) H):FnOk P w K mg base DZ (k+1) f z ps a:=by
 obtain⟨o,n,kV,j,m,r,u,p,g,rfl,lk,e⟩:=F.ex;refine Kd lk e S len λA outer s H vs Q E i b=>?_;obtain⟨t,h,q⟩:=v u A outer s H vs Q E i b;exact⟨t,h.nox,q⟩
theorem Fun.binds(F:Fun K x y st f z)
  (h:∀(kV u k:Value) (a:Option Addr) (v ct:Value) (us:LW),us.length=ps.length->bindArgs (qp x y (AC st) (fC st) (GA st) .none kV u k a v ct) ⟨us,[]⟩=pure (ps.zip us)):kJ K z ps []:=by
 obtain⟨i,g,kV,u,k,a,v,ct,b,rfl,lk,e⟩:=F.ex;exact .all (h kV u k a v ct)
theorem Vi{g:Value}{e b:Option Addr}{v:Array (Option Value)}{kV u a h ct:Value}(l:K.lookup f=some ⟨g,e,.func (qp x y (AC st) (fC st) (GA st) .none kV u a b h ct),v⟩)
  (c:Wg K h y=true) (k:wK K (.ref f)=true):Fun K x y st f (qp x y (AC st) (fC st) (GA st) .none kV u a b h ct):=⟨⟨g,e,kV,u,a,b,h,ct,v,rfl,l,c⟩,k⟩
end
end
def Same(H h:Hp):Prop:=∀b o,H b=some o->h b=some o
theorem Same.refl(H:Hp):Same H H:=λ_ _ h=>h
theorem Same.trans{H y x:Hp}(a:Same H y)(b:Same y x):Same H x:=λc o h=>b c o (a c o h)
theorem Same.free{H x:Hp}(e:Same H x){l:Addr}(h:x l=Option.none):H l=Option.none:=by
 cases q:H l with|none=>rfl|some o=>rw[e l o q]at h;cases h
theorem Same.seq{K:QA}{H x:Hp}{a:Addr}{xs:LV}(e:Same H x)(h:HC K H a xs):HC K x a xs:=by rcases h with(h|⟨o,h⟩)|h;exact .inl (.inl (e _ _ h));exact .inl (.inr ⟨o,e _ _ h⟩);exact .inr h
noncomputable def iN(env:Env):List (Str×NameKind)->List (Str×Addr)->List (Str×Addr)
 |[],cs=>cs|(n,k)::r,cs=>iN env r (if k==.free then(n,(env.cells.lookup n).getD 0)::cs else cs)
theorem YV{u:Scope}{env:Env}(h:∀y∈u.names,y.2=.free->∃c,env.cells.lookup y.1=some c):closureFor u env=pure (iN env u.names []):=by
 have key:∀(l:List (Str×NameKind)) (v:List (Str×Addr)),(∀y∈l,y.2=.free->∃c,env.cells.lookup y.1=some c) ->
   (forIn l v λ(x:Str×NameKind) (r:List (Str×Addr))=>(if(x.2==NameKind.free)=true then(do let c <- cellOf env x.1;pure (ForInStep.yield ((x.1,c)::r))) else pure (ForInStep.yield r):Sem (ForInStep (List (Str×Addr)))))=pure (iN env l v):=by
  intro l;induction l with
  |nil=>intro v _;rfl|cons y l a =>
   intro v hl;obtain⟨n,k⟩:=y;rw[W4];by_cases hk:k=.free;subst hk;obtain⟨c,hc⟩:=hl (n,.free) QF rfl;have hc:env.cells.lookup n=some c:=hc;simp only[beq_self_eq_true,if_true,cellOf,hc,pure_bind,iN,Wp];exact a _ λz w=>hl z (QE _ w);have hb:(k==NameKind.free)=false:=by simpa using hk
   simp only[hb,Qr,if_false,pure_bind,iN];exact a _ λz w=>hl z (QE _ w)
 have e:=key u.names [] h;unfold closureFor;exact(congrArg (· >>= pure) e).trans (pure_bind _ _)
theorem nO{env:Env}{x:Str}{c:Addr}:∀(l:List (Str×NameKind)) (cs:List (Str×Addr)),(∀y∈l,y.2=.free->∃c,env.cells.lookup y.1=some c)->(∀c,cs.lookup x=some c->env.cells.lookup x=some c) ->
  (iN env l cs).lookup x=some c->env.cells.lookup x=some c
 |[],cs,_,hc,h=>hc c h|(n,k)::r,cs,hl,hc,h=>by
  refine nO r _ (λz a=>hl z (QE _ a)) (λd u=>?_) h;by_cases hk:k=.free;subst hk;obtain⟨e,v⟩:=hl (n,.free) QF rfl;have v:env.cells.lookup n=some e:=v;simp only[beq_self_eq_true,if_true,v,Wp,wj]at u;cases w:x==n with|true=>rw[w]at u;cases u;rw[qe w];exact v|false=>rw[w]at u;exact hc d u
  have hb:(k==NameKind.free)=false:=by simpa using hk
  simp only[hb,Qr,if_false]at u;exact hc d u
theorem KM{env:Env}{x:Str}:∀(l:List (Str×NameKind)) (cs:List (Str×Addr)),((∃c,cs.lookup x=some c)∨(x,NameKind.free)∈l)->∃c,(iN env l cs).lookup x=some c
 |[],cs,h=>by rcases h with h|h;exact h;cases h
 | (n,k)::r,cs,h=>by
  refine KM r _ ?_;rcases h with⟨c,h⟩| h;refine .inl ?_;split;rw[wj];split;exact⟨_,rfl⟩;exact⟨c,h⟩;exact⟨c,h⟩;rcases QL.mp h with h|h
  ·cases h
   refine .inl ?_;simp
  exact .inr h
noncomputable def eB:List Bool->Nat->LS->LS
 |b::m,j,x::N=>(if b then⟨#[46,j]⟩ else x)::eB m (j+1) N|_,_,N=>N
noncomputable def YC:List Bool->St->St
 |b::m,v::σ=>(if b then none else v)::YC m σ|_,σ=>σ
theorem eJ:∀(m:List Bool) (σ:St),(YC m σ).length=σ.length
 |[],σ=>by unfold YC;rfl|_::_,[]=>by unfold YC;rfl|b::m,v::σ=>by unfold YC;rw[QM,QM,eJ m σ]
theorem gO:∀(m:List Bool) (j:Nat) (N:LS),(eB m j N).length=N.length
 |[],_,N=>by unfold eB;rfl|_::_,_,[]=>by unfold eB;rfl|b::m,j,x::N=>by unfold eB;rw[QM,QM,gO m (j+1) N]
theorem bM:∀(m:List Bool) (j:Nat) (N:LS) (σ:St) (i:Nat) (v:V),(YC m σ)[i]?=some (some v)->σ[i]?=some (some v)/\(eB m j N)[i]?=N[i]?
 |[],_,N,σ,i,v,h=>by unfold YC at h;unfold eB;exact⟨h,rfl⟩|_::_,_,N,[],i,v,h=>by unfold YC at h;simp at h|b::m,j,[],w::σ,i,v,h=>by
  unfold YC at h;cases i with
  |zero =>
   cases b with|true=>simp at h|false=>simp at h;subst h;exact⟨by simp,by unfold eB;rfl⟩
  |succ i=>have q:=(bM m (j+1) [] σ i v (by simpa using h)).1;exact⟨by simpa using q,by unfold eB;rfl⟩
 |b::m,j,x::N,w::σ,0,v,h=>by
  unfold YC at h;cases b with|true=>simp at h|false=>simp at h;subst h;exact⟨by simp,by unfold eB;simp⟩
 |b::m,j,x::N,w::σ,i+1,v,h=>by unfold YC at h;have q:=bM m (j+1) N σ i v (by simpa using h);unfold eB;exact⟨by simpa using q.1,by simpa using q.2⟩
noncomputable def ZL(h sc:Scope):Scope :=
  { h with names:=h.names.map λ(n,k)=>if(k==.free&&sc.kind==.function&&sc.names.lookup n==some .cell) then(n,.cell) else(n,k) }
theorem iC(sc:Scope)(x:Str):∀(l:List (Str×NameKind)),
  (l.map λ(n,k)=>if(k==NameKind.free&&sc.kind==.function&&sc.names.lookup n==some .cell) then(n,NameKind.cell) else(n,k)).lookup x =
   (l.lookup x).map λk=>if(k==NameKind.free&&sc.kind==.function&&sc.names.lookup x==some .cell) then NameKind.cell else k
 |[]=>rfl|(n,k)::r=>by
  rw[QV];have e:(if(k==NameKind.free&&sc.kind==.function&&sc.names.lookup n==some .cell)=true then(n,NameKind.cell) else(n,k)) =
    (n,if(k==NameKind.free&&sc.kind==.function&&sc.names.lookup n==some .cell)=true then NameKind.cell else k):=by split<;>rfl
  show QCM x ((if(k==NameKind.free&&sc.kind==.function&&sc.names.lookup n==some .cell)=true then(n,NameKind.cell) else(n,k))::_)=_;rw[e,wj,wj];cases h:x==n with|true=>rw[qe h];simp|false=>exact iC sc x r
structure CompSt(N:LS)(sc scope:Scope)(tgs:LS)(mask:List Bool):Prop where
 kind:scope.kind=.function
 nocell:∀y∈scope.names,y.2≠.cell
 names:∀y∈scope.names,y.2=.local->scope.names.lookup y.1=some .local
 free:∀y∈scope.names,y.2=.free->sc.names.lookup y.1=some .cell∨sc.names.lookup y.1=some .free
 loc:∀y∈scope.names,y.2=.local->y.1∈tgs∨y.1=(".0":Str)
 nd:(tgs++eB mask 0 N).Nodup
 no0:(".0":Str)∉tgs++eB mask 0 N
noncomputable def HA(X:Cx)(h:Scope)(y:LS)(x:List Bool)(s:Shared)(H:Hp)(ex:List Addr):Cx :=
  { X with N:=y++eB x 0 X.N,s₀:=s,H₀:=H,env:=compEnvC h (iN X.env h.names []) s.heap.objs.size X.env,outer:=X.stack,stack:=X.stack,ex:=ex,fn:=λ_=>false,pn:=[],xe:=λ_ _=>False }
noncomputable def JI(k:Nat)(h:List Bool)(σ:St):St:=QAU k none++YC h σ
section
variable{X:Cx}{f:HB}{σ:St}{H:Hp}{s:Shared}{w:Scope}{d:LS}{a:List Bool}{ex:List Addr}
theorem CompSt.cells(C:CompSt X.N X.env.scope w d a)(ok:X.Ok):∀y∈w.names,y.2=.free->∃c,X.env.cells.lookup y.1=some c:=λy h x =>
 ok.has y.1 (C.free y h x)
theorem CompSt.kindCF(C:CompSt X.N X.env.scope w d a){x:Str}(h:(relabel w X.env).names.lookup x=some .cell∨(relabel w X.env).names.lookup x=some .free):(x,NameKind.free)∈w.names:=by
 have e:=iC X.env.scope x w.names;have u:(relabel w X.env).names.lookup x=(w.names.lookup x).map λk=>if(k==NameKind.free&&X.env.scope.kind==.function&&X.env.scope.names.lookup x==some .cell) then NameKind.cell else k:=e
 rw[u]at h;cases q:w.names.lookup x with
 |none=>rw[q]at h;simp at h|some k =>
  have y:=qN q;have z:=C.nocell _ y;cases k with|free=>exact y|cell=>exact absurd rfl z|«local»=>rw[q]at h;simp at h|_=>rw[q]at h;simp at h
theorem eV(I:Inv X f σ H s)(C:CompSt X.N X.env.scope w d a)(n:∀b∈ex,zJ X f H b/\b<s.heap.objs.size){h':Heap}{t':Nat}
  (hn:h'.Ns s.heap.objs.size (λ_=>none)) (hs:qV s.heap.objs.size (s.heap.push { cls:=.type "dict",data:=.dict #[] }) h') :
  Inv (HA X w d a s H ex) [] (JI d.length a σ) H { s with heap:=h',toks:=t' }:=by
 have kept:∀b u,s.heap.get? b=some u->h'.get? b=some u:=λb u e=>hs.extBut b u (Qn (Qa e)) (QH _ e);have look:∀x c,(iN X.env w.names []).lookup x=some c->X.env.cells.lookup x=some c:=λx c e=>nO w.names [] (C.cells I.ok) (λc z=>by simp at z) e;have nofs:∀b∈ex,b∉nX X.stack:=λb hb z=>by obtain⟨⟨_,f1,f2,_⟩,_⟩:=n b hb;rcases QL.mp (I.stkSub b z) with e|e;exact f1 e;exact f2 e
 refine⟨⟨I.ok.mod,C.kind,I.ok.glob,I.ok.blt,QW _,λx y c E j=>I.ok.inj x y c (look x c E) (look y c j),λx hx=>?_,λx c hf _=>absurd (show false=true from hf) QG,I.ok.hd,I.ok.frames,.inl rfl,λb hb=>?_,I.bs,QY I.ok.bsz I.sz,λb o e hb=>?_,nofs,I.stack,I.stkFree,I.tb⟩,
  rfl,I.bare,Un.kept kept,⟨_,hn,λi x v E j h3=>?_⟩,λx c h=>?_,I.hok.fresh (QW _),λx c h=>I.freeC x c (look x c h),λp hp=>absurd (show p∈([]:HB) from hp) (by simp),I.hok.kept kept,?_⟩
 exact KM w.names [] (.inr (C.kindCF hx));obtain⟨⟨_,_,_,_,f4,_⟩,lt⟩:=n b hb;exact⟨Qn lt,λx c e=>f4 x c (look x c e)⟩;obtain⟨⟨_,_,_,f3,_⟩,_⟩:=n b hb;rcases f3 with z|z;exact I.ok.noex b o e z;exact absurd (Qo (Qa (I.ok.bs b o e).1) z) (qj _)
 ·
  have hi:d.length<=i:=by rcases QA6 i d.length with z|z;unfold JI at j;rw[qR (by simpa using z),wc]at j;split at j<;>cases j;exact z
  have Z:(eB a 0 X.N)[i - d.length]?=some x:=by have:(d++eB a 0 X.N)[i]?=some x:=E;rw[qJ hi]at this;exact this
  have O:(YC a σ)[i - d.length]?=some (some v):=by unfold JI at j;rw[qJ (by simpa using hi)]at j;simpa using j
  obtain⟨g1,g2⟩:=bM a 0 X.N σ _ v O;rw[g2]at Z;have A:x∈d++eB a 0 X.N:=qQ (show(d++eB a 0 X.N)[i]?=some x from E);have K:x∉d:=λz=>by have nd:=C.nd;rw[qh]at nd;exact nd.2.2 x z x (qQ (by rw[g2];exact Z)) rfl
  have g:(x,NameKind.free)∈w.names:=by
   rcases h3 with z|z|z;exfalso;have e:(relabel w X.env).names.lookup x=some .local:=z;have Q:=iC X.env.scope x w.names;have P:(relabel w X.env).names.lookup x=(w.names.lookup x).map λk=>if(k==NameKind.free&&X.env.scope.kind==.function&&X.env.scope.names.lookup x==some .cell) then NameKind.cell else k:=Q
   rw[P]at e;cases q:w.names.lookup x with
   |none=>rw[q]at e;cases e|some k =>
    rw[q]at e;have L:=qN q;have G:k=.local:=by
     cases k with|«local»=>rfl|free=>simp at e;split at e<;>cases e|_=>simp at e
    subst G;rcases C.loc _ L rfl with z|z;exact K z;exact C.no0 (z▸A)
   exact C.kindCF (.inl z);exact C.kindCF (.inr z)
  obtain⟨m,hnm,hl⟩:=I.loc;have F:yp X.env.scope x:=.inr (C.free _ g rfl);obtain⟨u,r,l⟩:=hl _ x v Z g1 F;refine⟨u,r,?_⟩;rcases l with⟨k,_⟩| ⟨_,c,hc,Y⟩
  exfalso;have S:X.env.scope.names.lookup x=some .local:=k;rcases C.free _ g rfl with z|z;have W:X.env.scope.names.lookup x=some .cell:=z;rw[S]at W;cases W;have W:X.env.scope.names.lookup x=some .free:=z;rw[S]at W;cases W;obtain⟨R,B⟩:=KM (env:=X.env) w.names [] (.inr g);have:R=c:=by have:=look x R B;rw[hc]at this;exact(Qs this).symm
  subst this;refine .inr ⟨?_,R,B,?_⟩;rcases h3 with z|z|z
  ·exfalso
   have e:(relabel w X.env).names.lookup x=some .local:=z;have Q:=iC X.env.scope x w.names;have P:(relabel w X.env).names.lookup x=(w.names.lookup x).map λk=>if(k==NameKind.free&&X.env.scope.kind==.function&&X.env.scope.names.lookup x==some .cell) then NameKind.cell else k:=Q
   rw[P]at e;cases q:w.names.lookup x with
   |none=>rw[q]at e;cases e|some k =>
    rw[q]at e;have L:=qN q;have G:k=.local:=by
     cases k with|«local»=>rfl|free=>simp at e;split at e<;>cases e|_=>simp at e
    subst G;rcases C.loc _ L rfl with z|z;exact K z;exact C.no0 (z▸A)
  exact .inl z;exact .inr z;obtain⟨o,J,M⟩:=Y;exact⟨o,kept _ _ J,M⟩
 obtain⟨v,o,J,M⟩:=I.cell x c (look x c h);exact⟨v,o,kept _ _ J,M⟩;show(JI d.length a σ).length=(d++eB a 0 X.N).length;unfold JI;rw[QI,QI,qq,eJ,gO,I.len]
end
section
variable{X:Cx}{h:HB}{σ a:St}{H k:Hp}{s s':Shared}{x:Scope}{d:LS}{w:List Bool}{ex:List Addr}{D:Addr}{y:LV}{its:LW}
theorem iV(I:Inv X h σ H s)(l:∀b∈ex,zJ X h H b/\b<s.heap.objs.size)(W:D∈ex)(J:Inv (HA X x d w s H ex) [] a k s')(f:k D=none)(hv:nA y its)(B:y.length<=sizeLine)
  (hl:s'.heap.PlainList D its.toArray) {g:Heap}(C:qV s.heap.objs.size s'.heap g):Inv X h σ (UA k D (.lst y)) { s' with heap:=g }:=by
 have un:Un (nX X.stack) ex H k s.heap s'.heap:=J.base;have j:∀b o,s.heap.get? b=some o->b≠s.heap.objs.size:=λb o e=>Qn (Qa e);have E:=l D W;have Z:k s.heap.objs.size=none:=J.free;have N:D≠s.heap.objs.size:=Qn E.2;have m:∀b u,b≠s.heap.objs.size->s'.heap.get? b=some u->g.get? b=some u:=λb u A e=>C.extBut b u A e;refine I.call' (s':={ s' with heap:=g }) (ch:=ex) J.os ⟨λb o e n hb i=>?_,λb o e n hb i=>?_,λb o e n i=>?_,λb o e i=>?_,λb p e=>?_,λb o u e=>?_,λb r e=>?_⟩ ?_ J.bare λb hb=>?_;exact m b o (j b o e) (un.keep b o e n hb i);obtain⟨K,q⟩:=un.slot b o e n hb i;exact⟨K,m b _ (j b o e) q⟩;have q:=un.free b o e n i;rw[vA (λ(z:b=D)=>i (by rw[z];exact W))];exact q;obtain⟨Y,q⟩:=un.there b o e i;exact⟨Y,m b Y (j b o e) q⟩;rw[vA (aA (un.tups b p e) f)];exact un.tups b p e;rw[vA (aA (un.frzs b o u e) f)];exact un.frzs b o u e;rw[vA (aA (un.tbls b r e) f)];exact un.tbls b r e;intro b u e;by_cases hb:b=D;subst hb;rw[iA]at e;cases e;obtain⟨n,q⟩:=hl;exact⟨B,its,n,hv,m _ _ N q⟩;rw[vA hb]at e;refine(J.hok b u e).stay (λc v hc q=>m c v ?_ q) (λc q=>?_) λc p q=>?_;rintro rfl;rcases hc with z|z;subst z;rw[Z]at e;cases e;rw[Z]at z;cases z;rw[vA (aA q f)];exact q;rw[vA (aA q f)];exact q;obtain⟨⟨P,M,O,L,G,F⟩,_⟩:=l b hb;exact⟨L,M,G,F⟩
end
section
variable{X:Cx}{s:Shared}{V Z K:Expr}{U:List Expr}{d:Scope}{pos:Pos}{B:TI}{g:TG}{tc:TT}{te:TE}{Y:LS}{j:List Bool}{l:HB}
def Jp(X:Cx)(U:List Expr)(t:TT):Prop:=∀(l:HB) (s:Shared) (h:St) (H:Hp) (Q:Bool->Hp->Prop),Inv X l h H s->t h H Q ->
 wpAny (model X.prog X.w) X.A (forIn U true λc r=>if r=true then do let ok <- isTrue c X.env (eval c X.env);pure (ForInStep.yield ok) else pure (ForInStep.yield r)) (TP X l h Q) X.xe s
theorem BW:Jp X [] (λ_ H Q=>Q true H):=λl s x H Q I h=>by rw[QBQ];exact QK ⟨H,I,h⟩
theorem UW{c:Expr}{t:TT}(hc:PT X c t):Jp X [c] t:=λl s x H Q I h=>by rw[W4];simp only[if_true];refine QC (QC (LB (hc l s x H Q I h) λb y q=>QK ?_));dsimp only;rw[QBQ];exact QK q
theorem DG{prog:Program}{w:World}{A:Around}{R:Result->Shared->Prop}{y:Expr}{it q:Value}{env:Env}(I:Nat->Shared->Prop)
  (W:∀n s,I n s->wpAny (model prog w) A (pyNext it) (λr k=>match r with
   |none=>R (.ok .next) k|some v=>wpAny (model prog w) A (letOwnedTupleGo y it v) (λ_ u=>wpAny (model prog w) A (assign y env v) (λ_ f =>
     wpAny (model prog w) A (forIn U true λc r=>if r=true then do let ok <- isTrue c env (eval c env);pure (ForInStep.yield ok) else pure (ForInStep.yield r)) (λok z =>
      if ok=true then wpAny (model prog w) A (eval V env) (λx e =>
       wpAny (model prog w) A (call (.builtin "list.append") [q,x]) (λ_ b=>∃m,m<n/\I m b) (λ_ _=>False) e) (λ_ _=>False) z
      else ∃m,m<n/\I m z) (λ_ _=>False) f) (λ_ _=>False) u) (λ_ _=>False) k) (λ_ _=>False) s)
  (n:Nat) (h:I n s) :
  codeAny (model prog w) A (.compLoop (.ListComp V [⟨y,Z,U,0⟩] d pos) 0 it q env) R s:=by
 refine codeAny_loop rfl I (λn s G=>?_) n h;show wpAny _ A ((compTurn (.ListComp V [⟨y,Z,U,0⟩] d pos) 0 it q env).onRaise (λx=>do noteFrame x env;theTreesLotGoes x)) _ _ s;refine wpAny_noted ?_;rw[compTurn_list];refine QC (QBm (QC (qt (W n s G) (λr k o=>?_) λ_ _ a=>a.elim)));cases r with
 |none=>exact QK o|some v =>
  refine QC (qt o (λ_ u p=>?_) λ_ _ a=>a.elim);refine QC (qt p (λ_ f F=>QC (qt F (λok z i=>?_) λ_ _ a=>a.elim)) λ_ _ a=>a.elim);cases ok with|false=>exact QK ⟨rfl,i⟩|true=>exact QC (QC (qt i (λx e E=>QC (qt E (λ_ b C=>QK (QK ⟨rfl,C⟩)) λ_ _ a=>a.elim)) λ_ _ a=>a.elim))
noncomputable def V0(B:TI)(g:TG)(tc:TT)(te:TE)(k:Nat)(j:List Bool):TE:=λa H Q=>B a H λJ q=>∃W:Nat->Nat->LV->St->Hp->Prop,(∃m,W 0 m [] (JI k j a) q) /\
 ∀i m h v u,W i m h v u->(J.stop i u/\h.length<=sizeLine/\∀p,u p=none->Q (.ref p) (UA u p (.lst h))) ∨
  (J.go i u/\∀x f,J.yld i u x f->g x v f λz o=>tc z o λb e=>if b=true then te z e λy n=>h.length<sizeLine/\∃w,w < m/\W (i+1) w (h++[y]) z n else ∃w,w < m/\W (i+1) w h z e)
def Mp(X:Cx)(l:HB)(H:Hp)(s:Shared)(C:Addr):Prop :=
 H C=none/\C≠X.env.locals/\X.s₀.heap.objs.size<=C/\(∀x c,X.env.cells.lookup x=some c->c≠C)/\(∀p∈X.pn++l,p.1≠C)/\∃m,s.heap.Ns C m
theorem MS{pos':Pos}{use:Option (Value->Sem Unit)}(hc:X.calm=true)(hi:PI X K Z B)(C:CompSt X.N X.env.scope d Y j)
  (inner:∀s H ex,PG (HA X d Y j s H ex) K g/\Jp (HA X d Y j s H ex) U tc/\PE (HA X d Y j s H ex) V te)
  (hs:∀x,foldedSetIterable Z X.env x=pure x) {σ:St}{H:Hp}{Q:VK}{QQ:uC}(I:Inv X l σ H s) (h:V0 B g tc te Y.length j σ H Q)
  (fin:∀(D:Addr) (f:Hp) (s6:Shared) (F:Addr),Inv X l σ f s6->Mp X l f s6 F->Q (.ref D) f->compPost (model X.prog X.w) X.A X.xe use QQ (.ref D) F (.ok .next) s6) :
  wpAny (model X.prog X.w) X.A (comprehension (.ListComp V [⟨K,Z,U,0⟩] d pos) d X.env pos' (newList []) false (eval Z X.env) use) QQ X.xe s:=by
 refine wpAny_comprehension_free (use:=use) rfl hs (YV (C.cells I.ok)) C.kind C.names (LB (hi l s σ H _ I h) λv s1 h1=>LB h1 λitv s2 h2=>?_);obtain⟨it,a,tn,J,E,e,I2,T,st2,f2,W,⟨m0,w0⟩,turn⟩:=h2;subst e;refine Q0 ?_;have I3:Inv X l σ E { s2 with heap:=s2.heap.push { cls:=.type "list",data:=.seq ([]:LW).toArray } }:=I2.kept (t':=s2.toks) λb o e=>QH _ e;generalize hS:({ s2 with heap:=s2.heap.push { cls:=.type "list",data:=.seq ([]:LW).toArray } }:Shared)=s3 at I3;have sz3:s3.heap.objs.size=s2.heap.objs.size+1:=by rw[<- hS];exact QAV ..
 have lst3:s3.heap.PlainList s2.heap.objs.size ([]:LW).toArray:=⟨0,by rw[<- hS];exact QT _ rfl⟩
 have old3:∀b o,s2.heap.get? b=some o->s3.heap.get? b=some o:=λb o e=>by rw[<- hS];exact QH _ e
 generalize hDd:s2.heap.objs.size=D at sz3 lst3;have fD:zJ X l E D:=by rw[<- hDd];exact I2.fpOk (QW _) (I2.hok.fresh (QW _))
 have fpl:∀b∈a,b<D:=λb hb=>by obtain⟨o,e,_⟩:=T.obj _ _ st2 b hb;rw[<- hDd];exact Qa e
 have hex:∀b∈D::a,zJ X l E b/\b<s3.heap.objs.size:=λb hb=>by rcases QL.mp hb with z|z;subst z;exact⟨fD,by rw[sz3];exact Nat.lt_succ_self _⟩;exact⟨f2 b z,by rw[sz3];exact Wa (fpl b z)⟩
 refine QBI C.nocell (by intro y hy;simp at hy) (λh' hn hsb=>?_) C.kind;have J0:Inv (HA X d Y j s3 E (D::a)) [] (JI Y.length j σ) E { s3 with heap:=h',toks:=s3.toks+([]:List (Str×Value)).length }:=eV I3 C hex hn hsb;have kept:∀b u,s3.heap.get? b=some u->h'.get? b=some u:=λb u e=>hsb.extBut b u (Qn (Qa e)) (QH _ e);obtain⟨pg,pf,pl⟩:=inner s3 E (D::a);have loop:∀s4:Shared,s4={ s3 with heap:=h',toks:=s3.toks+([]:List (Str×Value)).length } ->
   codeAny (model X.prog X.w) X.A (.compLoop (.ListComp V [⟨K,Z,U,0⟩] d pos) 0 (.ref it) (.ref D) (compEnvC d (iN X.env d.names []) s3.heap.objs.size X.env))
    (compPost (model X.prog X.w) X.A X.xe use QQ (.ref D) s3.heap.objs.size) s4:=by
  rintro s4 rfl;have exok:∀{f:Hp},(∀b∈D::a,f b=none)->∀(pp:HB),(∀p∈pp,p.1∉a)->∀b∈a,zJ (HA X d Y j s3 E (D::a)) pp f b:=λ{f} hn pp hpp b hb=>by have g:=J0.ok.exf b (QE _ hb);exact⟨hn b (QE _ hb),g.1,J0.ok.exfs b (QE _ hb),.inl (QE _ hb),g.2,λp G z=>hpp p (by simpa[HA]using G) (z▸hb)⟩
  have DX:=J0.ok.exf D QF;have Dfp:D∉a:=λz=>qj _ (fpl D z);refine DG (λn M=>∃i m f L k,Inv (HA X d Y j s3 E (D::a)) [] m f M/\tn i M.heap/\(∀b∈D::a,f b=none)/\nA L k/\M.heap.PlainList D k.toArray/\W i n L m f) ?_ m0
   ⟨0,_,E,[],[],J0,T.keep _ _ _ (T.keep _ _ _ st2 λb hb o e=>old3 b o e) λb hb o e=>kept b o e,λb hb=>((hex b hb).1).1,.nil,lst3.at λo e=>kept _ _ e,w0⟩
  rintro n s5 ⟨i,P,H5,L,k,I5,st5,fr5,va5,ls5,w5⟩;obtain⟨R,lo⟩:=id ls5;have pinD:∀{m:St}{f:Hp}{M:Shared},Inv (HA X d Y j s3 E (D::a)) [] m f M->(∀b∈D::a,f b=none)->M.heap.get? D=some { cls:=.type "list",dict:=none,data:=.seq k.toArray R } ->
    Inv (HA X d Y j s3 E (D::a)) [(D,{ cls:=.type "list",dict:=none,data:=.seq k.toArray R })] m f M:=λ{m f M} I' fr' e' =>
   I'.pins_of λp G=>by
    have e:p=(D,{ cls:=.type "list",dict:=none,data:=.seq k.toArray R }):=by simpa using G
    subst e;exact⟨e',fr' D QF,DX.1,J0.ok.exfs D QF,λv z=>by cases z⟩
  have S:∀p∈[(D,({ cls:=.type "list",dict:=none,data:=.seq k.toArray R }:Obj))],p.1∉a:=λp G=>by
   have e:p=(D,{ cls:=.type "list",dict:=none,data:=.seq k.toArray R }):=by simpa using G
   subst e;exact Dfp
  have I5':=pinD I5 fr5 lo;rcases turn i n L P H5 w5 with⟨stop,hz,qn⟩| ⟨go,step⟩
  refine LB (T.done (HA X d Y j s3 E (D::a)) rfl rfl rfl hc i _ s5 P H5 (λ_ _=>False) I5' (exok fr5 _ S) st5 stop) λr s6 ⟨hr,I6⟩=>?_;subst hr;obtain⟨m6,hn6,_⟩:=I6.loc;have l6:s6.heap.PlainList D k.toArray:=⟨R,(I6.pin _ (Qb _ (QJ.mpr rfl))).1⟩
  have I6':Inv (HA X d Y j s3 E (D::a)) [] P H5 s6:=I6.pins_of λp G=>by simp at G
  have Iout:Inv X l σ (UA H5 D (.lst L)) s6:=iV I3 hex QF I6' (fr5 D QF) va5 hz l6 (qV.refl _ _);have lC:H5 s3.heap.objs.size=none:=I6'.free;refine fin D _ s6 s3.heap.objs.size Iout ⟨?_,wo I3.lt,I3.sz,λx c e z=>?_,λp G z=>?_,m6,hn6⟩ (qn D (fr5 D QF));rw[vA (λ(z:s3.heap.objs.size=D)=>absurd (hex D QF).2 (by rw[z];exact qj _))];exact lC;obtain⟨v,q⟩:=I3.cell x c e;exact absurd q.lt (by rw[z];exact qj _);exact absurd (Qa (I3.pin p G).1) (by rw[z];exact qj _);refine LB (T.item (HA X d Y j s3 E (D::a)) rfl rfl rfl hc i _ s5 P H5 (λ_ _=>False) I5' (exok fr5 _ S) st5 go) λr s6 ⟨u,hr,h6⟩=>?_;subst hr;refine LB h6 λ_ s7 ⟨x,H7,I7,r7,y7,st7,fr7⟩=>?_;have hD7:=(I7.pin _ (Qb _ (QJ.mpr rfl)))
  have fr7':∀b∈D::a,H7 b=none:=λb hb=>by rcases QL.mp hb with z|z;subst z;exact hD7.2.1;exact fr7 b z
  have I7':=I7.pinned (exok fr7' _ S) (T.obj _ _ st7);have bk:∀{m:St}{f:Hp}{M:Shared},Inv (HA X d Y j s3 E (D::a)) ([(D,{ cls:=.type "list",dict:=none,data:=.seq k.toArray R })]++LL a s7.heap) m f M ->
    M.heap.get? D=some { cls:=.type "list",dict:=none,data:=.seq k.toArray R }/\tn (i+1) M.heap/\(∀b∈D::a,f b=none):=λ{m f M} I'=>by
   have hD:=I'.pin (D,{ cls:=.type "list",dict:=none,data:=.seq k.toArray R }) (Qb _ (Qp _ (QJ.mpr rfl)));refine⟨hD.1,T.keep _ _ _ st7 λb hb o e=>(I'.pin (b,o) (Qb _ (Qb _ (JE hb e)))).1,λb hb=>?_⟩;rcases QL.mp hb with z|z;subst z;exact hD.2.1;obtain⟨o,e,_⟩:=T.obj _ _ st7 b z;exact(I'.pin (b,o) (Qb _ (Qb _ (JE z e)))).2.1
  refine LB (pg _ s7 P H7 x u _ I7' r7 (step x H7 y7)) λ_ s8 ⟨O,H8,I8,q8⟩=>?_;refine LB (pf _ s8 O H8 _ I8 q8) λok s9 ⟨H9,I9,q9⟩=>?_;cases ok with
  |false=>obtain⟨m',hm,w'⟩:=q9;obtain⟨b1,b2,b3⟩:=bk I9;exact⟨m',hm,i+1,O,H9,L,k,I9.pins_of λp G=>by simp at G,b2,b3,va5,⟨R,b1⟩,w'⟩|true =>
   refine LB (pl _ s9 O H9 _ I9 q9) λy s10 ⟨yv,H10,I10,r10,hz,m',hm,w'⟩=>?_;obtain⟨b1,b2,b3⟩:=bk I10;have hlen:=va5.length;refine wpAny_list_append_plain (hsz:=by rw[QN];omega) (show s10.heap.PlainList D k.toArray from⟨R,b1⟩) λh11 hl11 hs11=>?_;refine⟨m',hm,i+1,O,H10,L++[yv],k++[y],?_,T.keep _ _ _ b2 λb hb o e=>(hs11.2 b (λz=>Dfp (z▸hb))).trans e,b3,va5.append (.cons r10 .nil),by simpa using hl11,w'⟩;have I10':Inv (HA X d Y j s3 E (D::a)) [] O H10 s10:=I10.pins_of λp G=>by simp at G
   exact I10'.turned (t':=s10.toks) (λb o hb e=>(hs11.2 b hb).trans e) (b3 D QF) DX.1 (.inl QF) DX.2 λp G=>by simp[HA]at G
 refine codeAny_compStart_list (loop _ rfl) (T.self X.A 0 _ _ _ (T.keep _ _ _ (T.keep _ _ _ st2 λb hb o e=>old3 b o e) λb hb o e=>kept b o e) (loop _ rfl))
theorem rM{σ:St}{H:Hp}{F:Addr}(I:Inv X l σ H s)(f:Mp X l H s F){h':Heap}(h:qV F s.heap h'):Inv X l σ H { s with heap:=h' }:=by obtain⟨v,u,z,y,x,_⟩:=f;exact I.turned (t':=s.toks) (λb o hb e=>(h.2 b hb).trans e) v u (.inr z) y x
theorem S8(hc:X.calm=true)(w:PI X K Z B)(C:CompSt X.N X.env.scope d Y j)
  (y:∀s H ex,PG (HA X d Y j s H ex) K g/\Jp (HA X d Y j s H ex) U tc/\PE (HA X d Y j s H ex) V te)
  (u:∀x,foldedSetIterable Z X.env x=pure x:=by intro _;rfl):PE X (.ListComp V [⟨K,Z,U,0⟩] d pos) (V0 B g tc te Y.length j):=by
 intro l s b H Q I h;rw[eval_ListComp];refine MS hc w C y u I h λD a e F k f q=>?_;obtain⟨m,v⟩:=f.2.2.2.2.2;exact⟨m,v,λi z=>⟨.ref D,a,rM k f z,rfl,q⟩⟩
theorem V8{cpos u:Pos}{i:Nat}{x:Str}(hc:X.calm=true)(S:X.N.Nodup)(n:X.N[i]?=some x)(p:X.env.scope.names.lookup x=some .local)
  (Q:PI X K Z B) (C:CompSt X.N X.env.scope d Y j)
  (y:∀s H ex,PG (HA X d Y j s H ex) K g/\Jp (HA X d Y j s H ex) U tc/\PE (HA X d Y j s H ex) V te)
  (M:∀x,foldedSetIterable Z X.env x=pure x) (k:swapsWith (.ListComp V [⟨K,Z,U,0⟩] d cpos) (some (.Name x u)) pos.line X.env=pure true) :
  PS X (.Assign [.Name x u] (.ListComp V [⟨K,Z,U,0⟩] d cpos) pos) (jg (V0 B g tc te Y.length j) (hX i)):=by
 intro l s σ H D0 I h;rw[exec_Assign_Name_used _ _ _ _ k];refine QC (QBm (QC ?_));show wpAny _ X.A (do let _ <- comprehension (.ListComp V [⟨K,Z,U,0⟩] d cpos) d X.env _ (newList []) false (eval Z X.env) (some (assign (.Name x u) X.env))) _ _ s;refine QC (qt (MS (use:=some (assign (.Name x u) X.env)) (QQ:=λ_ o=>SP X l D0 .next o) hc Q C y M I h λD H' J F I6 f q=>?_) (λ_ o O=>QK (QK O)) λ_ _ e=>e);show wpAny _ X.A (assign (.Name x u) X.env (.ref D)) _ _ J;refine QBu (MN I6 S n (.inl p) (v:=.ref D) rfl (λG I7 ⟨a,E,R⟩=>?_) (.inr p));obtain⟨f0,W,f2,r,f4,m,P⟩:=f;have L:F≠a:=by rcases R with z|z;rw[z];exact W;exact λe=>r x a z e.symm
 have w:G.heap.Ns F m:=P.sameBut E L;exact⟨m,w,λh' b=>⟨_,H',rM I7 ⟨f0,W,f2,r,f4,m,w⟩ b,q⟩⟩
end
end L2
namespace L2.L3
open PySem PySem.Spec PyProof.Rows
noncomputable def Ym(K:QA):R2:=λx y H Q=>match x,y with
 | .int i,.int j=>Q (.int (i+j)) H|.str a,.str b=>a.length+b.length<=sizeLine/\Q (.str (a++b)) H|.ref a,.ref b=>∃z h,HC K H a z/\HC K H b h/\z.length+h.length<=sizeLine/\∀p,H p=none->Q (.ref p) (UA H p (.lst (z++h)))|_,_=>False
noncomputable def zm:R2:=λx y H Q=>match x,y with
 | .int i,.int j=>Q (.int (i - j)) H|_,_=>False
def nJ(x:Str)(n:Int):Str:=Txt.mul x n
noncomputable def um(K:QA):R2:=λx y H Q=>match x,y with
 | .int i,.int j=>IntMulOk i j/\Q (.int (i * j)) H|.str a,.int k=>(-(2 ^ 31)<=k/\k<2 ^ 31/\a.length * k.toNat<=sizeLine)/\Q (.str (nJ a k)) H|_,_=>False
noncomputable def Jc:R2:=λx y H Q=>match x,y with
 | .int i,.int j=>(0<j/\j<2 ^ 200)/\Q (.int (i / j)) H|_,_=>False
noncomputable def cm:R2:=λx y H Q=>match x,y with
 | .int i,.int j=>0<j/\Q (.int (i % j)) H|_,_=>False
section
variable{X:Cx}
theorem op_add:oE X (binaryOp .Add) (Ym X.K):=by
 intro w s n H x y v u Q I g f h;cases x with
 |int i =>
  cases y with|int j=>exact _root_.L2.op_add w s n H _ _ v u Q I g f ⟨i,j,rfl,rfl,h⟩|_=>exact Qc h
 |str a =>
  cases y with|str b=>exact rU w s n H _ _ v u Q I g f ⟨a,b,rfl,rfl,h.1,h.2⟩|_=>exact Qc h
 |ref a =>
  cases y with
  |ref b =>
   obtain⟨xs,ys,N,M,hz,q⟩:=h;cases g;cases f;obtain⟨k,r,⟨⟨S,R,A,G⟩,L,W,E,d1,p⟩,z1⟩:=I.list N;obtain⟨z,Y,⟨⟨B,l,m,e⟩,J,Z,C,d2,o⟩,z2⟩:=I.list M;simp only at E p C o;subst E p C o;have hl:=r.length;have O:=Y.length;refine concat_meets ⟨_,W,rfl⟩ ⟨_,Z,rfl⟩ noFill_list_add seq_list_add PySem.F.slot_list_add PySem.F.entry_list_add (PySem.F.args_list_add_2 _ _) (list_addW a b k.toArray z.toArray L J R l G e (by simp;omega)) ⟨W,Z,?_⟩;have P:k.toArray++z.toArray=(k++z).toArray:=by simp
   rw[P];exact⟨.ref _,_,I.lnew (t':=s.toks) (r.append Y) (by rw[QI];omega),rfl,q _ I.fresh⟩
  |_=>exact Qc h
 |_=>exact Qc h
theorem op_sub:oE X (binaryOp .Sub) zm:=by
 intro z s w H x y v u Q I a k h;cases x with
 |int i =>
  cases y with|int j=>exact _root_.L2.op_sub z s w H _ _ v u Q I a k ⟨i,j,rfl,rfl,h⟩|_=>exact Qc h
 |_=>exact Qc h
theorem v9:oE X (binaryOp .FloorDiv) Jc:=by
 intro z s a H x y v u Q I k w h;cases x with
 |int i =>
  cases y with
  |int j =>
   obtain⟨t,rfl⟩:=k;obtain⟨b,rfl⟩:=w;obtain⟨⟨f,e⟩,q⟩:=h;refine floordiv_int (by omega) ?_ (.inl (PyProof.noPylong_of_log2 ?_));rw[Int.fdiv_eq_ediv_of_nonneg i (by omega)];exact⟨.int _,H,I.tok _,⟨_,rfl⟩,q⟩;have:j.natAbs<2 ^ 200:=by omega
   have:=(Nat.log2_lt (show j.natAbs≠0 by omega)).mpr this;omega
  |_=>exact Qc h
 |_=>exact Qc h
theorem op_mod:oE X (binaryOp .Mod) cm:=by
 intro z s w H x y v u Q I a k h;cases x with
 |int i =>
  cases y with|int j=>exact _root_.L2.op_mod z s w H _ _ v u Q I a k ⟨i,j,rfl,rfl,h.1,h.2⟩|_=>exact Qc h
 |_=>exact Qc h
theorem zh:oE X (binaryOp .Mult) (um X.K):=by
 intro g s n H x y v u Q I f w h;cases x with
 |int i =>
  cases y with|int j=>obtain⟨t,rfl⟩:=f;obtain⟨z,rfl⟩:=w;exact mul_int ⟨.int _,H,I.tok _,⟨_,rfl⟩,h.2⟩ h.1|_=>exact Qc h
 |str a =>
  cases y with
  |int k =>
   obtain⟨t,rfl⟩:=f;obtain⟨z,rfl⟩:=w;obtain⟨⟨Y,r,p⟩,q⟩:=h;refine SB.mul ⟨?_,λ_ _=>?_,λ_ _=>?_⟩ λz o=>⟨.str (nJ a k),H,I.tok _,⟨_,rfl⟩,q⟩
   have m:decide (k < -(2 ^ 63:Int))=false:=dF (by omega);have l:decide (k ≥ 2 ^ 63)=false:=dF (by omega);rw[m,l];rfl;have e:(a.length:Int) * k=((a.length * k.toNat:Nat):Int):=by rw[Int.natCast_mul,Int.toNat_of_nonneg (by omega)]
   have:=Int.le_ediv_of_mul_le (a:=(a.length:Int)) (b:=2 ^ 63 - 1) (c:=k) (by omega) (by rw[e];omega);omega;unfold Builtin.Str.tooLong;exact dF (by omega)
  |_=>exact Qc h
 |_=>exact Qc h
end
end L2.L3
namespace L2
open PySem PySem.Spec PyProof.Rows
section
variable{κ:Type}[DecidableEq κ]
section
variable{p:κ×V}{r kvs:List (κ×V)}{vs:List (κ×Value)}{u:Value}
noncomputable def uL(kvs:List (κ×V))(k:κ):Option V:=(kvs.find? λh=>decide (h.1=k)).map (·.2)
noncomputable def lU(kvs:List (κ×V))(k:κ)(v:V):List (κ×V) :=
 if(kvs.any λh=>decide (h.1=k))=true then kvs.map (λh=>if h.1=k then(h.1,v) else h) else kvs++[(k,v)]
theorem vL{k:κ}(e:p.1=k):uL (p::r) k=some p.2:=by simp[uL,wC,e]
theorem xL{k:κ}(e:¬ p.1=k):uL (p::r) k=uL r k:=by simp[uL,wC,e]
theorem yR(k:κ):∀kvs:List (κ×V),(kvs.any λh=>decide (h.1=k))=(uL kvs k).isSome
 |[]=>rfl|p::r=>by rw[wy];by_cases e:p.1=k;simp only[vL e,dT e,QB8,Option.isSome_some];rw[xL e,dF e,QAk];exact yR k r
theorem cS(kvs:List (κ×V))(k:κ)(v:V):(lU kvs k v).length<=kvs.length+1:=by unfold lU;split;rw[QD];omega;rw[QI,QM,wQ];omega
theorem PV.isSome_eq{o:Option V}{u:Option Value}(r:PV o u):o.isSome=u.isSome:=by
 cases o with
 |none=>cases u with|none=>rfl|some _=>exact(show False from r).elim
 |some _=>cases u with|none=>exact(show False from r).elim|some _=>rfl
theorem KV.val(r:KV kvs vs)(k:κ):PV (uL kvs k) (valueAt vs k):=by
 unfold KV at r;induction r with
 |nil=>exact True.intro|@cons p q f x h t w =>
  obtain⟨v,a⟩:=h;by_cases e:p.1=k;have y:q.1=k:=v.symm.trans e;have b:valueAt (q::x) k=some q.2:=by simp[valueAt,wC,y]
  rw[vL e,b];exact a;have y:¬ q.1=k:=λz=>e (v.trans z);have b:valueAt (q::x) k=valueAt x k:=by simp[valueAt,wC,y]
  rw[xL e,b];exact w
theorem KV.any(r:KV kvs vs)(k:κ):(kvs.any λx=>decide (x.1=k))=vs.any λx=>decide (x.1=k):=by
 unfold KV at r;induction r with|nil=>rfl|cons h t y=>rw[wy,wy,y,h.1]
theorem KV.repl(r:KV kvs vs)(k:κ){y:V}(w:JA y u) :
  KV (kvs.map λx=>if x.1=k then(x.1,y) else x) (vs.map λx=>if x.1=k then(x.1,u) else x):=by
 unfold KV at r ⊢;induction r with|nil=>exact .nil|@cons p q g f h t a=>rw[QV,QV];refine .cons ?_ a;obtain⟨v,b⟩:=h;by_cases e:p.1=k;rw[if_pos e,if_pos (v.symm.trans e)];exact⟨v,w⟩;rw[if_neg e,if_neg (λz=>e (v.trans z))];exact⟨v,b⟩
theorem KV.put(r:KV kvs vs)(k:κ){y:V}(h:JA y u):KV (lU kvs k y) (stored vs k u):=by unfold lU stored;rw[r.any k];by_cases e:(vs.any λx=>decide (x.1=k))=true;rw[if_pos e,if_pos e];exact r.repl k h;rw[if_neg e,if_neg e];exact Paired.snoc r ⟨rfl,h⟩
theorem KV.length(r:KV kvs vs):kvs.length=vs.length:=Q6 r
end
end
theorem mM{P:Program}{w:World}{k:Key}{u:Value}(r:JA (kV k) u):(VD P w).is k u=true:=by
 cases k with|inl i=>obtain⟨t,e⟩:=(show ∃t,u=Value.int i t from r);subst e;exact yS P w i t|inr x=>obtain⟨t,e⟩:=(show ∃t,u=Value.str x t from r);subst e;exact jS P w x t
end L2
namespace L2.L3
open PySem PySem.Spec PyProof.Rows
section
variable{r kvs:List KE}{xs:List (NK×Addr×Value)}
noncomputable abbrev KE:=NK×Addr×V
noncomputable def VG(kvs:List KE)(k:NK):Option V:=(kvs.find? λp=>decide (p.1=k)).map (·.2.2)
noncomputable def VL(kvs:List KE)(k:NK)(b:Addr)(v:V):List KE :=
 if(VG kvs k).isSome=true then kvs.map (λp=>if p.1=k then(p.1,p.2.1,v) else p) else kvs++[(k,b,v)]
noncomputable abbrev KD:List KE->List (NK×Addr×Value)->Prop:=Paired λ(p:NK×Addr×V) (q:NK×Addr×Value)=>p.1=q.1/\p.2.1=q.2.1/\JA p.2.2 q.2.2
theorem zR{p:KE}{k:NK}(e:p.1=k):VG (p::r) k=some p.2.2:=by simp[VG,wC,e]
theorem kR{p:KE}{k:NK}(e:¬ p.1=k):VG (p::r) k=VG r k:=by simp[VG,wC,e]
theorem KD.val(r:KD kvs xs)(k:NK):PV (VG kvs k) ((atKey xs k).map (·.2)):=by
 induction r with
 |nil=>exact True.intro|@cons p q a x h t v =>
  obtain⟨u,_,w⟩:=h;by_cases e:p.1=k;have y:q.1=k:=u.symm.trans e;have b:atKey (q::x) k=some q.2:=by simp[atKey,wC,y]
  rw[zR e,b];exact w;have y:¬ q.1=k:=λz=>e (u.trans z);have b:atKey (q::x) k=atKey x k:=by simp[atKey,wC,y]
  rw[kR e,b];exact v
theorem KD.put(r:KD kvs xs)(k:NK)(b:Addr){y:V}{u:Value}(v:JA y u):KD (VL kvs k b y) (storedH xs k b u):=by
 have e:(VG kvs k).isSome=(atKey xs k).isSome:=by rw[(r.val k).isSome_eq,QAe]
 unfold VL storedH;rw[e];by_cases q:(atKey xs k).isSome=true;rw[if_pos q,if_pos q];clear e q;induction r with|nil=>exact .nil|@cons p q i g h t a=>rw[QV,QV];refine .cons ?_ a;obtain⟨x,w,f⟩:=h;unfold putAt;by_cases e:p.1=k;rw[if_pos e,if_pos (x.symm.trans e)];exact⟨x,w,v⟩;rw[if_neg e,if_neg (λz=>e (x.trans z))];exact⟨x,w,f⟩
 rw[if_neg q,if_neg q];exact Paired.snoc r ⟨rfl,rfl,v⟩
theorem dS(kvs:List KE)(k:NK)(b:Addr)(v:V):(VL kvs k b v).length<=kvs.length+1:=by unfold VL;split;rw[QD];omega;rw[QI,QM,wQ];omega
end
mutual
def Gj(K:QA)(H:Hp):NK->V->Prop
 | .s x,v=>v=.str x|.t ks,v=>∃a h,v=.ref a/\rD K H a h/\KyVs K H ks h
def KyVs(K:QA)(H:Hp):List NK->LV->Prop
 |[],xs=>xs=[]|k::ks,xs=>∃x r,xs=x::r/\Gj K H k x/\KyVs K H ks r
end
def BN(K:QA)(H:Hp)(b:Addr)(k:NK):Prop:=Gj K H k (.ref b)/\J4 k<=6
theorem uI{P:Program}{w:World}{A:Around}(h:A.units+60<cLine):(aE P w).room A.in1:=by show A.in1.units+8<cLine;rw[QAu];omega
def bG(K:QA)(H:Hp)(kvs:List KE):Prop:=∀p∈kvs,BN K H p.2.1 p.1
theorem Inv.big{X:Cx}{x:HB}{σ:St}{H:Hp}{s:Shared}(I:Inv X x σ H s):sysModules<s.heap.objs.size:=by have h:mainGlobals<s.heap.objs.size:=(I.mod.glob.keeps I.bk).lt;exact Nat.lt_trans (by decide) h
section
variable{X:Cx}{y:HB}{σ:St}{H:Hp}{s:Shared}{a b:Addr}
mutual
theorem Nn(I:Inv X y σ H s):∀{k:NK}{x:V}{u:Value},Gj X.K H k x->JA x u->UZ s.heap k u
 | .s z,x,u,e,r=>by cases(show x=.str z from e);exact r|.t ks,x,u,⟨a,xs,e,q,p⟩,r=>by subst e;cases r;obtain⟨h,v,⟨o,g,f,n,w⟩,_⟩:=I.tuple q;exact⟨a,h.toArray,rfl,⟨o,g,f,n,w⟩,by simpa using ky_vs I p v⟩
theorem ky_vs(I:Inv X y σ H s):∀{ks:List NK}{xs:LV}{us:LW},KyVs X.K H ks xs->nA xs us->NKvs s.heap ks us
 |[],xs,us,e,r=>by cases(show xs=[] from e);cases r;rfl|k::ks,xs,us,⟨x,r,e,p,q⟩,rv=>by
  subst e;cases rv with|cons h t=>exact⟨_,_,rfl,Nn I p h,ky_vs I q t⟩
end
theorem nS{k:NK}(I:Inv X pins σ H s)(h:BN X.K H b k):(aE X.prog X.w).is s.heap k b:=⟨Nn I h.1 rfl,h.2⟩
theorem gK{ep:Nat}{kvs:List KE}(I:Inv X pins σ H s)(e:H a=some (.dT ep kvs))(hk:bG X.K H kvs):kvs.length<=sizeLine/\(a==sysModules)=false/\∃xs,KD kvs xs/\s.heap.DictOfH (aE X.prog X.w) a xs:=by
 obtain⟨z,y,xs,r,o,l,j,i,g,k,v⟩:=(show jB X.prog X.w H s.heap a (.dT ep kvs) from I.hok a _ e)
 refine⟨z,y,xs,r,o,l,ep,j,i,g,k,?_,v⟩;clear k v z e;induction r with
 |nil=>intro x h;exact nomatch h
 |@cons p q n m u t b=>intro x h;rcases QL.mp h with e|h;subst e;rw[<- u.1,<- u.2.1];exact nS I (hk p QF);exact b (λp f=>hk p (QE _ f)) x h
theorem DS{kvs:List (Key×V)}(I:Inv X pins σ H s)(e:H a=some (.dK kvs)):kvs.length<=sizeLine/\(a==sysModules)=false/\∃vs,KV kvs vs/\s.heap.DictOf (VD X.prog X.w) a vs :=
 show jB X.prog X.w H s.heap a (.dK kvs) from I.hok a _ e
end
theorem i6{X:Cx}{h:HB}{σ:St}{H:Hp}{s:Shared}{a:Addr}{ep:Nat}(I:Inv X h σ H s)(e:H a=some (.dT ep [])):(a==sysModules)=false/\s.heap.DictOf (VD X.prog X.w) a []:=by
 obtain⟨z,y,g,r,o,f,b,k,v,u,i⟩:=(show jB X.prog X.w H s.heap a (.dT ep []) from I.hok a _ e)
 cases r;have x:f=#[]:=by apply WB.mp;simpa using u
 subst x;exact⟨y,o,#[],ep,b,k,v,λe x=>by simp at x,.nil,Q7⟩
noncomputable def kD:Key->PyData
 | .inl i=>.int i|.inr x=>.str x
mutual
def tD:NK->PyData
 | .s x=>.str x|.t h=>.tuple (tDs h)
def tDs:List NK->List PyData
 |[]=>[]|k::ks=>tD k::tDs ks
end
theorem Y5{a b:Key}(e:kD a=kD b):a=b:=by
 cases a with
 |inl i=>cases b with|inl j=>injection e with e;rw[e]|inr y=>exact nomatch (show Jy i=Jx y from e)
 |inr x=>cases b with
  |inl j=>exact nomatch (show Jx x=Jy j from e)
  |inr y=>injection e with e;rw[e]
mutual
theorem uU:∀{a b:NK},tD a=tD b->a=b
 | .s x,.s y,e=>by rw[PyData.str.inj e]|.s x,.t l,e=>QBp e|.t k,.s y,e=>QBp e|.t k,.t l,e=>by rw[tDs_inj (PyData.tuple.inj e)]
theorem tDs_inj:∀{a b:List NK},tDs a=tDs b->a=b
 |[],[],_=>rfl|[],_::_,e=>(nomatch e)
 |_::_,[],e=>(nomatch e)
 |x::xs,y::ys,e=>by have e:tD x::tDs xs=tD y::tDs ys:=e;injection e with e1 e2;rw[uU e1,tDs_inj e2]
end
def NJ(K:QA)(H:Hp)(b:Bool)(o:HO)(ks:List PyData)(vs:LV):Prop:=match b with
 |true=>∃x,∃h:List KE,o=.dT x h/\ks=h.map (λp=>tD p.1)/\vs=h.map (·.2.2)/\bG K H h/\(h.map (·.1)).Nodup|false=>(∃h:List (Key×V),h≠[]/\o=.dK h/\ks=h.map (λp=>kD p.1)/\vs=h.map (·.2)/\(h.map (·.1)).Nodup)∨∃x,o=.dT x []/\ks=[]/\vs=[]
theorem NJ.len{K:QA}{H:Hp}{b:Bool}{o:HO}{ks:List PyData}{vs:LV}(h:NJ K H b o ks vs):ks.length=vs.length:=by
 cases b with|true=>obtain⟨y,x,_,rfl,rfl,_⟩:=h;simp|false=>rcases h with⟨x,_,_,rfl,rfl,_⟩| ⟨_,_,rfl,rfl⟩<;>simp
def FQ(K:QA)(H:Hp)(a:Addr)(y:V)(r:Option V):Prop:=match y with
 | .str z=>(∃h,H a=some (.dK h)/\r=uL h (.inr z))∨∃x,H a=some (.dT x [])/\r=none|.ref b=>∃x h k,H a=some (.dT x h)/\bG K H h/\BN K H b k/\r=VG h k|_=>False
def Rj(K:QA)(H:Hp)(a:Addr)(y v:V)(Q:Hp->Prop):Prop:=match y with
 | .str z=>(∃h,H a=some (.dK h)/\h.length<sizeLine/\Q (UA H a (.dK (lU h (.inr z) v))))∨∃u,H a=some (.dT u [])/\Q (UA H a (.dK [(.inr z,v)]))|.ref b=>∃u h k,H a=some (.dT u h)/\bG K H h/\BN K H b k/\h.length<sizeLine/\∀x,Q (UA H a (.dT x (VL h k b v)))|_=>False
theorem AN{v:V}{o:Option Value}(r:PV (some v) o):∃w,o=some w/\JA v w:=by
 cases o with|none=>exact(show False from r).elim|some w=>exact⟨w,rfl,r⟩
section
variable{X:Cx}
section
variable{c:HB}{s:Shared}{σ:St}{H:Hp}{a:Addr}{u:Value}{o:Option V}{h':Heap}{pos:Pos}
theorem Ja(P:X.A.units+66<cLine):u7 X (λx y H Q=>∃a v,x=.ref a/\FQ X.K H a y (some v)/\Q v H):=by
 intro n Y c s σ H x y v u Q I J C h E;obtain⟨a,r,rfl,g,q⟩:=h;cases J;cases y with
 |str z =>
  rcases g with⟨W,e,l⟩| ⟨N,e,l⟩
  rotate_left
  cases l;obtain⟨_,M,G,f,m⟩:=DS I e;obtain⟨i,B,w⟩:=AN (v:=r) (o:=valueAt G (.inr z)) (by rw[l];exact f.val _);exact qf (x:=i) m.typeIs QAW.lookup
   (wpAny_getItem_of (Q:=λr Z=>r=i/\EP X c σ Q r Z) (mM (k:=.inr z) C) m.mapOf B ⟨rfl,r,H,I.tok _,w,q⟩) E
 |ref b =>
  obtain⟨N,W,k,e,hk,O,l⟩:=g;cases C;obtain⟨_,M,F,f,m⟩:=gK I e hk;obtain⟨i,B,w⟩:=AN (v:=r) (o:=(atKey F k).map (·.2)) (by rw[l];exact f.val _);obtain⟨p,L,j⟩:=Option.map_eq_some_iff.mp B;refine qf (x:=i) m.typeIs QAW.lookup
   (wpAny_getItem_heap (Q:=λr Z=>r=i/\EP X c σ Q r Z) (uI (by omega)) (nS I O) m L ?_) E
  exact⟨j,r,H,I.tok _,by rw[j];exact w,q⟩
 |_=>exact Qc g
theorem Ba(r:X.A.units+66<cLine){y:V}{Q:VK}(I:Inv X c σ H s)(f:JA y u)(g:FQ X.K H a y o)(q:Q (.bl o.isSome) H) :
  wpAny (model X.prog X.w) X.A (compareOp .In u (.ref a)) (EP X c σ Q) X.xe s:=by
 cases y with
 |str z =>
  rcases g with⟨i,e,l⟩| ⟨j,e,l⟩
  rotate_left
  subst l;obtain⟨x,v⟩:=i6 I e;exact wpAny_in_of (mM (k:=.inr z) f) x v.mapOf ⟨.bl false,H,I.tok _,rfl,q⟩;obtain⟨_,x,p,h,v⟩:=DS I e;refine wpAny_in_of (mM (k:=.inr z) f) x v.mapOf ⟨.bl o.isSome,H,I.tok _,?_,q⟩;rw[<- (h.val (.inr z)).isSome_eq,<- l];rfl
 |ref b=>obtain⟨j,i,k,e,hk,m,l⟩:=g;cases f;obtain⟨_,x,n,h,v⟩:=gK I e hk;refine wpAny_in_heap (uI (by omega)) (nS I m) x v ⟨.bl o.isSome,H,I.tok _,?_,q⟩;have q:=(h.val k).isSome_eq;rw[QAe]at q;rw[<- q,<- l];rfl|_=>exact Qc g
theorem VU(r:X.A.units+66<cLine){y:V}{Q:VK}(I:Inv X c σ H s)(f:JA y u)(g:FQ X.K H a y o)(q:Q (.bl (!o.isSome)) H) :
  wpAny (model X.prog X.w) X.A (compareOp .NotIn u (.ref a)) (EP X c σ Q) X.xe s:=by
 cases y with
 |str z =>
  rcases g with⟨i,e,l⟩| ⟨j,e,l⟩
  rotate_left
  subst l;obtain⟨x,v⟩:=i6 I e;exact wpAny_notIn_of (mM (k:=.inr z) f) x v.mapOf ⟨.bl true,H,I.tok _,rfl,q⟩;obtain⟨_,x,p,h,v⟩:=DS I e;refine wpAny_notIn_of (mM (k:=.inr z) f) x v.mapOf ⟨.bl (!o.isSome),H,I.tok _,?_,q⟩;rw[<- (h.val (.inr z)).isSome_eq,<- l];rfl
 |ref b=>obtain⟨j,i,k,e,hk,m,l⟩:=g;cases f;obtain⟨_,x,n,h,v⟩:=gK I e hk;refine wpAny_notIn_heap (uI (by omega)) (nS I m) x v ⟨.bl (!o.isSome),H,I.tok _,?_,q⟩;have q:=(h.val k).isSome_eq;rw[QAe]at q;rw[<- q,<- l];rfl|_=>exact Qc g
theorem oQ{t':Nat}{ob:HO}(I:Inv X c σ H s)(h:Kk (H a))(y:qV a s.heap h')(v:∃q,h'.get? a=some q)(new:jB X.prog X.w (UA H a ob) h' a ob) :
  Inv X c σ (UA H a ob) { s with heap:=h',toks:=t' } :=
 I.write (x:=a) (e:=a) h (.inl rfl) (λb q hb z=>(y.2 b hb).trans z) v new
theorem YM{t':Nat}{kvs:List KE}{xs:List (NK×Addr×Value)}(I:Inv X c σ H s)(y:Kk (H a))(k:(a==sysModules)=false)(z:kvs.length<=sizeLine)(h:KD kvs xs)
  (j:h'.DictOfH (aE X.prog X.w) a xs) (v:qV a s.heap h'):∃ep,Inv X c σ (UA H a (.dT ep kvs)) { s with heap:=h',toks:=t' }:=by
 obtain⟨q,i,ep,x,g,f,e,_,b⟩:=j;exact⟨ep,oQ I y v ⟨q,x⟩ ⟨z,k,xs,h,q,i,x,g,f,e,b⟩⟩
def setD(K:QA)(o y v:V)(H:Hp)(Q:Hp->Prop):Prop:=match o with
 | .ref a=>Rj K H a y v Q|_=>False
theorem nR(M:X.A.units+66<cLine):Gb X (setD X.K):=by
 intro c s σ H o y v J L u Q I W n m h;cases o with
 |ref a =>
  cases W;cases y with
  |str z =>
   rcases h with⟨f,e,l,q⟩| ⟨B,e,q⟩
   rotate_left
   obtain⟨i,j⟩:=i6 I e;refine QBX (hsz:=Qt _) (mM (k:=.inr z) n) j λh' x g=>⟨_,?_,q⟩
   have Y:∃q,h'.get? a=some q:=let⟨q,_,_,r,_⟩:=x;⟨q,r⟩
   exact oQ I (by rw[e];exact True.intro) g Y ⟨by simp;decide,i,_,.cons ⟨rfl,m⟩ .nil,x⟩;obtain⟨p,i,G,w,j⟩:=DS I e;have hl:(lU f (.inr z) v).length<=sizeLine:=by have:=cS f (.inr z) v;omega
   refine QBX (hsz:=by rw[<- w.length];exact p) (mM (k:=.inr z) n) j λh' x g=>⟨_,?_,q⟩
   have Y:∃q,h'.get? a=some q:=let⟨q,_,_,r,_⟩:=x;⟨q,r⟩
   exact oQ I (by rw[e];exact True.intro) g Y ⟨hl,i,_,w.put _ m,x⟩
  |ref b =>
   obtain⟨B,f,k,e,hk,C,l,q⟩:=h;cases n;obtain⟨p,i,F,w,j⟩:=gK I e hk;have hl:(VL f k b v).length<=sizeLine:=by have:=dS f k b v;omega
   refine wpAny_setItem_heap (hsz:=by rw[<- Q6 w];exact p) (uI (by omega)) (nS I C) j λh' x g=>?_;obtain⟨Z,E⟩:=YM (t':=_) I (by rw[e];exact True.intro) i hl (w.put k b m) x g;exact⟨_,E,q Z⟩
  |_=>exact Qc h
 |_=>exact Qc h
theorem Gd{P:Program}{w:World}(h:Heap)(hb:sysModules<h.objs.size):jB P w H (h.push { cls:=.type "dict",data:=.dict #[] }) h.objs.size (.dT 0 []) :=
 ⟨Qt _,beq_eq_false_iff_ne.mpr (qD (Qn hb)),[],.nil,_,#[],QT _ rfl,⟨rfl,rfl,rfl⟩,rfl,rfl,Q7⟩
theorem R8:PE X (.Dict [] [] pos) (λ_ H Q=>∀p,H p=none->Q (.ref p) (UA H p (.dT 0 []))):=λc s σ H Q I h =>
 wpAny_Dict_empty ⟨.ref s.heap.objs.size,_,I.laid (a:=s.heap.objs.size) (o:=.dT 0 []) (t':=s.toks) (λ_ _ q=>QH _ q) (QW _) (Gd s.heap (Inv.big I)),rfl,h _ (I.hok.fresh (QW _))⟩
theorem P8(hu:X.A.units+66<cLine){k v:Expr}{l j:TE}(hk:PE X k l)(hv:PE X v j) :
  PE X (.Dict [some k] [v] pos) (λσ H Q=>∀p,H p=none->l σ (UA H p (.dT 0 [])) λy i=>j σ i λv h=>h p=some (.dT 0 [])/\∃b ks,y=.ref b/\BN X.K h b ks/\∀ep,Q (.ref p) (UA h p (.dT ep [(ks,b,v)]))):=by
 intro c s σ H Q I q;have E:=I.hok.fresh (QW s.heap.objs.size);have N:=I.laid (a:=s.heap.objs.size) (o:=.dT 0 []) (h':=s.heap.push { cls:=.type "dict",data:=.dict #[] }) (t':=s.toks) (λ_ _ q=>QH _ q) (QW _) (Gd s.heap (Inv.big I));refine wpAny_Dict_any rfl rfl (by simp) (by simp) (pairTrees_cons_walk (LB (hk c _ σ _ _ N (q _ E)) λu n ⟨y,i,M,Y,W⟩=>LB (hv c n σ i _ M W) λm R ⟨z,h,g,r,e,b,ks,G,J,Z⟩=>pairTrees_nil_walk ?_));subst G;cases Y;obtain⟨S,F,P,x,L⟩:=gK g e (λp C=>nomatch C);cases x;show wpAny _ _ (forIn [(jx b,m)] PUnit.unit _) _ _ _;rw[W4];refine QC (QC (wpAny_dictSet_heap (hsz:=Qt _) (show X.A.units+8<cLine by omega) (nS g J) L λh' f B=>QK ?_));show wpAny _ _ (forIn ([]:List (Value×Value)) _ _) _ _ _;rw[QBQ];obtain⟨w,O⟩:=YM (t':=_) (kvs:=[(ks,b,z)]) g (by rw[e];exact True.intro) F (by simp;decide) (.cons ⟨rfl,rfl,r⟩ .nil) f B;exact QK ⟨.ref _,_,O,rfl,Z w⟩
end
end
mutual
inductive Rep(K:QA)(H:Hp):V->PyData->Prop where
 |non:Rep K H .non .none
 |bl (b:Bool):Rep K H (.bl b) (.bool b)
 |int (i:Int):Rep K H (.int i) (.int i)
 |str (x:Str):Rep K H (.str x) (.str x)
 |lst {a:Addr}{xs:LV}{ds:List PyData}:HC K H a xs->Reps K H xs ds->Rep K H (.ref a) (.list ds)
 |tup {a:Addr}{xs:LV}{ds:List PyData}:rD K H a xs->Reps K H xs ds->Rep K H (.ref a) (.tuple ds)
 |dct {b:Bool}{a:Addr}{o:HO}{ks:List PyData}{xs:LV}{ds:List PyData}:H a=some o->NJ K H b o ks xs->Reps K H xs ds->Rep K H (.ref a) (.dict (ks.zip ds))
inductive Reps(K:QA)(H:Hp):LV->List PyData->Prop where
 |nil:Reps K H [] []
 |cons {x:V}{d:PyData}{xs:LV}{ds:List PyData}:Rep K H x d->Reps K H xs ds->Reps K H (x::xs) (d::ds)
end
section
variable{K:QA}{H:Hp}{R:LV->List PyData->Prop}{xs:LV}{ds:List PyData}
theorem Rep.both{P:V->PyData->Prop}(z:P .non .none)(v:∀b,P (.bl b) (.bool b))(int:∀i,P (.int i) (.int i))(str:∀x,P (.str x) (.str x))
    (lst:∀{a:Addr}{xs:LV}{ds:List PyData},HC K H a xs->Reps K H xs ds->R xs ds->P (.ref a) (.list ds))
    (tup:∀{a:Addr}{xs:LV}{ds:List PyData},rD K H a xs->Reps K H xs ds->R xs ds->P (.ref a) (.tuple ds))
    (dct:∀{b:Bool}{a:Addr}{o:HO}{ks:List PyData}{xs:LV}{ds:List PyData},H a=some o->NJ K H b o ks xs->Reps K H xs ds->R xs ds->P (.ref a) (.dict (ks.zip ds)))
    (u:R [] []) (y:∀{x:V}{d:PyData}{xs:LV}{ds:List PyData},Rep K H x d->Reps K H xs ds->P x d->R xs ds->R (x::xs) (d::ds)) :
    (∀{x:V}{d:PyData},Rep K H x d->P x d)/\∀{xs:LV}{ds:List PyData},Reps K H xs ds->R xs ds :=
  ⟨λh=>Rep.rec (motive_1:=λx d _=>P x d) (motive_2:=λx d _=>R x d) z v int str @lst @tup @dct u @y h,
   λh=>Reps.rec (motive_1:=λx d _=>P x d) (motive_2:=λx d _=>R x d) z v int str @lst @tup @dct u @y h⟩
theorem Reps.ind(z:R [] [])(y:∀{x:V}{d:PyData}{xs:LV}{ds:List PyData},Rep K H x d->R xs ds->R (x::xs) (d::ds))(h:Reps K H xs ds):R xs ds :=
 (Rep.both (P:=λ_ _=>True) trivial (λ_=>trivial) (λ_=>trivial) (λ_=>trivial) (λ_ _ _=>trivial) (λ_ _ _=>trivial) (λ_ _ _ _=>trivial) z λh _ _ r=>y h r).2 h
theorem Reps.length(h:Reps K H xs ds):xs.length=ds.length:=Reps.ind (R:=λxs ds=>xs.length=ds.length) rfl (λ_ e=>congrArg Nat.succ e) h
end
section
variable{X:Cx}{y:HB}{σ:St}{H:Hp}{s:Shared}
mutual
theorem SR{h:Heap}:∀{k:NK}{u:Value},UZ h k u->∃z,Reads h u (tD k) z
 | .s x,u,⟨t,e⟩=>by subst e;exact⟨_,.str x t⟩|.t ks,u,⟨a,its,e,⟨o,e1,c,n,d⟩,q⟩=>by subst e;obtain⟨z,v⟩:=nks_reads q;exact⟨_,.tuple e1 c d v⟩
theorem nks_reads{h:Heap}:∀{ks:List NK}{us:LW},NKvs h ks us->∃x,ReadsAll h us (tDs ks) x
 |[],us,e=>by cases(show us=[] from e);exact⟨_,.nil⟩|k::ks,us,⟨v,r,e,p,q⟩=>by subst e;obtain⟨x,u⟩:=SR p;obtain⟨bs,z⟩:=nks_reads q;exact⟨_,.cons u z⟩
end
section
variable{kvs:List (Key×V)}{xs:List (NK×Addr×Value)}{vs:List (Key×Value)}
theorem N1(I:Inv X pins σ H s){kvs:List KE}(r:KD kvs xs)(hk:bG X.K H kvs):∃z,ReadsAll s.heap (xs.map λx=>.ref x.2.1) (kvs.map λp=>tD p.1) z:=by
 induction r with|nil=>exact⟨_,.nil⟩|@cons p x _ _ h t u=>obtain⟨z,q⟩:=u λp v=>hk p (QE _ v);obtain⟨bs,y⟩:=SR (nS I (hk p QF)).1;rw[h.2.1]at y;exact⟨_,.cons y q⟩
theorem iR{P:Program}{w:World}{es:List DictEntry}(hk:KV kvs vs)(u:Pairs (VD P w) es vs):(∃v,ReadsAll s.heap (es.map (·.key)) (kvs.map λp=>kD p.1) v)/\es.map (·.val)=vs.map (·.2):=by
 unfold KV at hk;induction hk generalizing es with
 |nil=>cases u;exact⟨⟨_,.nil⟩,rfl⟩|cons h t e =>
  cases u with
  |cons a b c =>
   obtain⟨⟨v,q⟩,k⟩:=e c;refine⟨?_,by rw[QV,QV,k,b]⟩;rw[QV,QV];rw[<- h.1]at a;rcases LA a with⟨i,t,z,y⟩| ⟨x,t,z,y⟩
   rw[z,y];exact⟨_,.cons (.int i t) q⟩;rw[z,y];exact⟨_,.cons (.str x t) q⟩
theorem N7{kvs:List KE}(r:KD kvs xs):nA (kvs.map (·.2.2)) (xs.map (·.2.2)):=by
 induction r with|nil=>exact .nil|cons h _ x=>exact .cons h.2.2 x
theorem M7(r:KV kvs vs):nA (kvs.map (·.2)) (vs.map (·.2)):=by
 induction r with|nil=>exact .nil|cons h _ x=>exact .cons h.2 x
theorem bZ(I:Inv X pins σ H s){b:Bool}{a:Addr}{o:HO}{ks:List PyData}{xs:LV}(h:H a=some o)(q:NJ X.K H b o ks xs):∃ob es ep us,s.heap.get? a=some ob/\ob.cls=.type "dict"/\ob.dict=none/\ob.data=.dict es ep/\(a==sysModules)=false /\
  (∃j,ReadsAll s.heap (es.toList.map (·.key)) ks j)/\nA xs us/\es.toList.map (·.val)=us:=by
 cases b with
 |true=>obtain⟨e,kvs,rfl,rfl,rfl,hk,_⟩:=q;obtain⟨_,v,f,x,ob,es,ep,k,y,w,u,_⟩:=gK I h hk;refine⟨ob,es,ep,_,k,y.1,y.2.1,w,v,?_,N7 x,?_⟩;rw[u,QS];exact N1 I x hk;rw[u,QS];rfl|false =>
  rcases q with⟨kvs,_,rfl,rfl,rfl,_⟩| ⟨e,rfl,rfl,rfl⟩
  rotate_left
  obtain⟨_,v,f,x,ob,es,ep,k,y,w,u,_⟩:=gK I h λ_ z=>nomatch z;cases x;exact⟨ob,es,ep,[],k,y.1,y.2.1,w,v,⟨_,by rw[u];exact .nil⟩,.nil,by rw[u];rfl⟩;obtain⟨_,v,vs,x,ob,es,ep,k,y,w,_,u,_⟩:=DS I h;obtain⟨i,g⟩:=iR (s:=s) x u;exact⟨ob,es,ep,_,k,y.1,y.2.1,w,v,i,M7 x,g⟩
theorem Rep.reads2(I:Inv X pins σ H s):(∀{x:V}{d:PyData},Rep X.K H x d->∀u,JA x u->∃y,Reads s.heap u d y)/\∀{xs:LV}{ds:List PyData},Reps X.K H xs ds->∀us,nA xs us->∃y,ReadsAll s.heap us ds y:=by
 refine Rep.both (P:=λx d=>∀u,JA x u->∃y,Reads s.heap u d y) (R:=λxs ds=>∀us,nA xs us->∃y,ReadsAll s.heap us ds y) (λu r=>?_) (λb u r=>?_) (λi u r=>?_) (λx u r=>?_) (λh q v u r=>?_) (λh q v u r=>?_) (λ{b a o w xs ds} h q r v u l=>?_) (λus r=>?_) λ_ _ p m us r=>?_;cases r;exact⟨_,.none⟩;cases r;exact⟨_,.bool b⟩;obtain⟨t,rfl⟩:=r;exact⟨_,.int i t⟩;obtain⟨t,rfl⟩:=r;exact⟨_,.str x t⟩;cases r;obtain⟨g,k,⟨o,n,e,c,_,d⟩,_⟩:=I.list h;obtain⟨y,z⟩:=v _ k;exact⟨_,.list e c d (by simpa using z)⟩;cases r;obtain⟨g,k,⟨o,e,c,n,d⟩,_⟩:=I.tuple h;obtain⟨y,z⟩:=v _ k;exact⟨_,.tuple e c d (by simpa using z)⟩;cases l;obtain⟨ob,L,M,us,C,B,J,A,G,⟨y,W⟩,Z,Y⟩:=bZ I h q;obtain⟨bs,f⟩:=v _ Z;have hl:w.length=ds.length:=by rw[q.len,Reps.length r]
 have F:(w.zip ds).map (λx=>x.1)=w:=Wq (wv hl);have E:(w.zip ds).map (λx=>x.2)=ds:=WC (wv hl.symm);exact⟨_,.dict C B A (by rw[F];exact W) (by rw[E,Y];exact f)⟩;cases r;exact⟨_,.nil⟩;cases r with|cons r j=>obtain⟨y,z⟩:=p _ r;obtain⟨bs,f⟩:=m _ j;exact⟨_,.cons z f⟩
theorem Rep.reads(I:Inv X pins σ H s){x:V}{d:PyData}{u:Value}(h:Rep X.K H x d)(r:JA x u):∃y,Reads s.heap u d y:=(Rep.reads2 I).1 h u r
def sE(d:PyData):Prop:=d.canLay0=true/\d.depth<=64
noncomputable def rEq(K:QA)(neg:Bool):R2:=λx y H Q=>match x,y with
 | .int i,.int j=>Q (.bl (if neg then !decide (i=j) else decide (i=j))) H|.str a,.str b=>Q (.bl (if neg then !decide (a=b) else decide (a=b))) H|.bl a,.bl b=>Q (.bl (if neg then !decide (a=b) else decide (a=b))) H|x,y=>∃z h,Rep K H x z/\Rep K H y h/\sE z/\sE h/\Q (.bl (if neg then !PyData.eqv z h else Qx z h)) H
theorem op_eq(C:X.A.units+64<cLine):oE X (compareOp .Eq) (rEq X.K false):=by
 intro z s g H x y v u Q I o n h;have k:(∃f e,Rep X.K H x f/\Rep X.K H y e/\sE f/\sE e/\Q (.bl (if false=true then !PyData.eqv f e else Qx f e)) H)->wpAny (model X.prog X.w) X.A (compareOp .Eq v u) (EP X z g Q) X.xe s:=by rintro⟨f,e,m,l,⟨Z,B⟩,⟨Y,W⟩,q⟩;obtain⟨E,r⟩:=m.reads I o;obtain⟨bs,p⟩:=l.reads I n;exact SeqAt.compareEq_reads r p Z Y (by omega) ⟨.bl _,H,I,rfl,q⟩
 have sc:n8 x y=true->Q (.bl (decide (x=y))) H->wpAny (model X.prog X.w) X.A (compareOp .Eq v u) (EP X z g Q) X.xe s:=λm l=>_root_.L2.op_eq z s g H x y v u Q I o n ⟨m,l⟩;cases x with
 |int i =>
  cases y with|int j=>exact sc rfl (by simpa[rEq]using h)|_=>exact k h
 |str a =>
  cases y with|str b=>exact sc rfl (by simpa[rEq]using h)|_=>exact k h
 |bl a =>
  cases y with|bl b=>exact sc rfl (by simpa[rEq]using h)|_=>exact k h
 |_=>exact k h
theorem op_ne(C:X.A.units+64<cLine):oE X (compareOp .NotEq) (rEq X.K true):=by
 intro z s g H x y v u Q I o n h;have k:(∃f e,Rep X.K H x f/\Rep X.K H y e/\sE f/\sE e/\Q (.bl (if true=true then !PyData.eqv f e else Qx f e)) H)->wpAny (model X.prog X.w) X.A (compareOp .NotEq v u) (EP X z g Q) X.xe s:=by rintro⟨f,e,m,l,⟨Z,B⟩,⟨Y,W⟩,q⟩;obtain⟨E,r⟩:=m.reads I o;obtain⟨bs,p⟩:=l.reads I n;exact SeqAt.compareNe_reads r p Z Y (by omega) ⟨.bl _,H,I,rfl,q⟩
 have sc:n8 x y=true->Q (.bl (!decide (x=y))) H->wpAny (model X.prog X.w) X.A (compareOp .NotEq v u) (EP X z g Q) X.xe s:=λm l=>_root_.L2.op_ne z s g H x y v u Q I o n ⟨m,l⟩;cases x with
 |int i =>
  cases y with|int j=>exact sc rfl (by simpa[rEq]using h)|_=>exact k h
 |str a =>
  cases y with|str b=>exact sc rfl (by simpa[rEq]using h)|_=>exact k h
 |bl a =>
  cases y with|bl b=>exact sc rfl (by simpa[rEq]using h)|_=>exact k h
 |_=>exact k h
noncomputable def cY(f:Int->Int->Bool):R2:=λx y H Q=>match x,y with
 | .int i,.int j=>Q (.bl (f i j)) H|_,_=>False
theorem oP{op:CmpOp}{f:Int->Int->Bool}(b:oE X (compareOp op) (i8 λi j=>.bl (f i j))):oE X (compareOp op) (cY f):=by
 intro z s w H x y v u Q I a k h;cases x with
 |int i =>
  cases y with|int j=>exact b z s w H _ _ v u Q I a k ⟨i,j,rfl,rfl,h⟩|_=>exact Qc h
 |_=>exact Qc h
noncomputable def inStr(b a:Str):Bool:=match a.cps.toList with
 |[c]=>decide (c∈b.cps.toList)|_=>!(wb b a 0 b.length 1).isEmpty
theorem eS(b a:Str):inStr b a=!(wb b a 0 b.length 1).isEmpty:=by
 unfold inStr;split;rename_i c e;have x:a=⟨#[c]⟩:=by
  obtain⟨h⟩:=a;have:h=#[c]:=by apply WB.mp;simpa using e
  rw[this]
 rw[x];exact(StrLaws.found_one b c).symm;rfl
noncomputable def ZR(K:QA)(neg:Bool):R2:=λx y H Q=>match y with
 | .str b=>match x with
  | .str a=>Q (.bl (if neg then !inStr b a else inStr b a)) H|_=>False
 | .ref p=>Yr K neg x (.ref p) H Q∨(∃d h,Rep K H x d/\(Rep K H (.ref p) (.list h)∨Rep K H (.ref p) (.tuple h))/\sE d/\sE (.list h)/\Q (.bl (if neg then !(h.any λy=>Qx y d) else h.any λy=>Qx y d)) H)∨(∃o,FQ K H p x o/\Q (.bl (if neg then !o.isSome else o.isSome)) H)|_=>False
theorem kO{ds:List PyData}(h:sE (.list ds)):qi ds=true/\wX ds<=63:=by obtain⟨x,y⟩:=h;simp only[QAX]at x;simp only[QA7]at y;exact⟨x,by omega⟩
theorem Fm(Y:X.A.units+66<cLine):oE X (compareOp .In) (ZR X.K false):=by
 intro z s i H x y v u Q I e w h;cases y with
 |str b =>
  cases x with|str a=>refine pY z s i H _ _ v u Q I e w ⟨a,b,rfl,rfl,?_⟩;rw[<- eS];simpa[ZR]using h|_=>exact Qc h
 |ref p =>
  rcases h with h|⟨d,Z,r,k,l,n,q⟩| ⟨o,g,q⟩
  rotate_left 2
  cases w;exact Ba Y I e g q;exact rY z s i H _ _ v u Q I e w h;obtain⟨B,j⟩:=r.reads I e;obtain⟨m,W⟩:=kO n;rcases k with k|k;obtain⟨bs,f⟩:=k.reads I w;exact SeqAt.in_list_reads f j m l.1 (by omega) ⟨.bl _,H,I,rfl,q⟩;obtain⟨bs,f⟩:=k.reads I w;exact SeqAt.in_tuple_reads f j m l.1 (by omega) ⟨.bl _,H,I,rfl,q⟩
 |_=>exact Qc h
theorem Y3(Y:X.A.units+66<cLine):oE X (compareOp .NotIn) (ZR X.K true):=by
 intro z s i H x y v u Q I e w h;cases y with
 |str b =>
  cases x with|str a=>refine pP z s i H _ _ v u Q I e w ⟨a,b,rfl,rfl,?_⟩;rw[<- eS];simpa[ZR]using h|_=>exact Qc h
 |ref p =>
  rcases h with h|⟨d,Z,r,k,l,n,q⟩| ⟨o,g,q⟩
  rotate_left 2
  cases w;exact VU Y I e g q;exact rP z s i H _ _ v u Q I e w h;obtain⟨B,j⟩:=r.reads I e;obtain⟨m,W⟩:=kO n;rcases k with k|k;obtain⟨bs,f⟩:=k.reads I w;exact SeqAt.notIn_list_reads f j m l.1 (by omega) ⟨.bl _,H,I,rfl,q⟩;obtain⟨bs,f⟩:=k.reads I w;exact SeqAt.notIn_tuple_reads f j m l.1 (by omega) ⟨.bl _,H,I,rfl,q⟩
 |_=>exact Qc h
end
end
section
variable{X:Cx}
theorem gT:∀{bs:List Bool}{us:LW},nA (bs.map V.bl) us->∀(i:Nat) (v:Value),us[i]?=some v->∃b,bs[i]?=some b/\v=Value.bool b
 |[],_,.nil,i,v,h=>by simp at h|b::bs,_,.cons r t,0,v,h=>by simp at h;subst h;exact⟨b,by simp,r⟩|b::bs,_,.cons r t,i+1,v,h=>by obtain⟨c,y,x⟩:=gT (bs:=bs) t i v (by simpa using h);exact⟨c,by simpa using y,x⟩
theorem bY(bs:List Bool):(Qj bs.length).any (λi=>bs.getD i false)=bs.any id:=by
 rw[Q4,Wr,Wr];constructor;rintro⟨i,x,e⟩;have h:i<bs.length:=by simpa using x
 exact⟨bs[i],wk h,by simpa[QCW,h]using e⟩;rintro⟨b,hb,e⟩;obtain⟨i,x,y⟩:=List.getElem_of_mem hb;exact⟨i,by simpa using x,by simp[QCW,x,y];simpa using e⟩
def Jm(K:QA):LV->Hp->VK->Prop:=λh H Q=>match h with
 |[.ref a]=>∃bs:List Bool,HC K H a (bs.map V.bl)/\Q (.bl (bs.any id)) H|_=>False
theorem B6(l:X.calm=true):BC X (.builtin "any") (Jm X.K):=by
 intro k s Z H f W Q I r h
 match f,h with
 |[.ref a],⟨bs,hq,q⟩ =>
  obtain⟨u,rfl,j⟩:=GG r;cases j;obtain⟨x,w,p,C⟩:=I.list hq;have hl:=w.length;rw[QD]at hl;refine call_any_walk (QAf p.isList ?_);have y:a<s.heap.objs.size:=by obtain⟨o,n,e,_⟩:=p;exact Qa e
  refine⟨s.heap.objs.size,_,_,_,_,_,λi=>bs.getD i false,rfl,Walks.list (A:=X.A.in1) (I.ok.hd l) s.heap.objs.size a (Qn y) x.toArray,⟨⟨_,QT _ rfl,rfl,rfl⟩,?_⟩,?_,?_⟩;obtain⟨o,n,e,c,d,sq⟩:=p;exact⟨o,QH _ e,c,n,sq⟩;intro i v B F G m z;obtain⟨b,hb,rfl⟩:=gT w i v (by simpa using m);refine wR ?_;have:bs.getD i false=b:=by simp[QCW,hb]
  rw[<- this];exact z;intro E g hk;have Y:(Qj x.toArray.size).any (λi=>bs.getD i false)=bs.any id:=by rw[QN,<- hl,bY]
  rw[Y];exact⟨.bl _,H,I.kept (t':=g) (λb o e=>hk b o (by simp;exact Qn (Qa e)) (QH _ e)),rfl,q⟩
def lm(K:QA):LV->Hp->VK->Prop:=λx H Q=>(∃z,x=[.str z]/\z.length<=sizeLine/\Q (.int z.length) H)∨∃a h,x=[.ref a]/\(HC K H a h∨rD K H a h)/\Q (.int h.length) H
theorem U6:BC X (.builtin "len") (lm X.K):=λx s y H z u Q I r h=>h.elim (eQ x s y H z u Q I r) (UI x s y H z u Q I r)
def Jr(K:QA):V->Option Int->Option Int->Hp->VK->Prop:=λx h y H Q=>match x with
 | .str z=>z.length<=sizeLine/\Q (.str (wl z h y)) H|.ref a=>vm K (.ref a) h y H Q∨km K (.ref a) h y H Q|_=>False
theorem og:Ue X (Jr X.K):=by
 intro y s m H x v E C Y B b Q I p W r e h;cases x with
 |str z =>
  obtain⟨t,rfl⟩:=p;obtain⟨J,q⟩:=h;refine⟨"str",_,F.slot_str_getitem.lookup,QCT _ _ _,?_⟩;have fin:∀l u:Option (Int×Tok),l.map (·.1)=Y->u.map (·.1)=B->s.heap.IsSlice b l u none->wpAny (model X.prog X.w) X.A (getItem (.str z t) (.ref b)) (EP X y m Q) X.xe s:=λl u M L Z=>by refine wpAny_getItem_str_slice Z rfl ?_;subst M L;exact post_val_or_str ⟨QY (Txt.slice_le z _ _) J,λN k=>⟨.str (wl z _ _),H,I.tok k,⟨_,rfl⟩,q⟩⟩
  obtain⟨o,f,hc,g⟩:=W;cases r with
  |none =>
   cases e with|none=>exact fin none none rfl rfl ⟨o,f,hc,g⟩|int j n=>exact fin none (some (j,n)) rfl rfl ⟨o,f,hc,g⟩
  |int i G =>
   cases e with|none=>exact fin (some (i,G)) none rfl rfl ⟨o,f,hc,g⟩|int j n=>exact fin (some (i,G)) (some (j,n)) rfl rfl ⟨o,f,hc,g⟩
 |ref a=>rcases h with h|h;exact l8 y s m H _ v E C Y B b Q I p W r e h;exact lg y s m H _ v E C Y B b Q I p W r e h
 |_=>exact Qc h
end
section
variable{h h':Heap}{j:Addr}{z:Src}{k:Nat}{xs:Array Value}
inductive Src where
 |l (a:Addr)|t (a:Addr)
noncomputable def Src.adr:Src->Addr
 | .l a=>a|.t a=>a
def CD(h:Heap)(j:Addr):Src->Nat->Prop
 | .l a,k=>h.IsListIter j a k|.t a,k=>h.IsTupleIter j a k
def BB(h:Heap):Src->Array Value->Prop
 | .l a,xs=>h.IsList a xs|.t a,xs=>h.IsTuple a xs
theorem CD.keep(x:CD h j z k)(e:∀o,h.get? j=some o->h'.get? j=some o):CD h' j z k:=by
 cases z with|l a=>obtain⟨o,u,y⟩:=x;exact⟨o,e o u,y⟩|t a=>obtain⟨o,u,y⟩:=x;exact⟨o,e o u,y⟩
theorem CD.obj(x:CD h j z k):∃o,h.get? j=some o/\∀v,o.data≠.cell v:=by
 cases z with|l a=>obtain⟨o,u,w,y⟩:=x;exact⟨o,u,λv q=>by rw[y]at q;cases q⟩|t a=>obtain⟨o,u,w,y⟩:=x;exact⟨o,u,λv q=>by rw[y]at q;cases q⟩
theorem BB.ext{b:Addr}(x:BB h z xs)(e:W6 b h h')(n:z.adr≠b):BB h' z xs:=by
 cases z with|l a=>exact QCN.extBut x e n|t a=>exact Heap.IsTuple.extBut x e n
theorem BB.lt(x:BB h z xs):z.adr<h.objs.size:=by
 cases z with|l a=>obtain⟨o,y,_⟩:=x;exact Qa y|t a=>obtain⟨o,y,_⟩:=x;exact Qa y
theorem CD.lt(x:CD h j z k):j<h.objs.size:=by obtain⟨o,y,_⟩:=x.obj;exact Qa y
end
section
variable{prog:Program}{w:World}{A:Around}{E:uC}{s:Shared}
section
variable{j t:Addr}{k:Nat}{xs:Array Value}{x:Value}{Q:uC}{z:Src}
theorem Vh(p:s.heap.IsTupleIter j t k)(pt:s.heap.IsTuple t xs)(a:xs[k]?=some x)
  (q:∀h',h'.IsTupleIter j t (k+1)->qV j s.heap h'->Q x { s with heap:=h' }):wpAny (model prog w) A (qS (.ref j)) Q E s:=by
 obtain⟨ob,y,b,h⟩:=id p;obtain⟨e,v,_,f,u⟩:=pt;unfold qS;refine QC (qO (name:=QR "__next__") p.typeIs qb (qL qb p.typeIs WO ?_ (WJ _)));show wpAny _ _ (field (.ref j) 0 >>= _) _ _ _;refine QC (wM y h (x:=.ref t) rfl ?_);show wpAny _ _ (if(jx t==Jz)=true then _ else _) _ _ _;rw[if_neg (show ¬ (jx t==Jz)=true from QG)];show wpAny _ _ (field (.ref j) 1 >>= _) _ _ _;refine QC (wM y h (x:=.int k 0) rfl ?_);show wpAny _ _ (seqItems? (.ref t) >>= _) _ _ _;refine QC (QBP v u ?_);simp only[qM,a];refine QC (QAY y h (by simp) (QK ⟨x,rfl,QK (q _ ?_ (qC ..))⟩));refine⟨_,wt _ y (QA8 (WP h _)),(QBz ..).trans b,?_⟩;rw[WP h];simp[rawInt]
theorem ZU(u:A.handled=none)(p:s.heap.IsTupleIter j t k)(pt:s.heap.IsTuple t xs)(f:xs[k]?=none)
  (q:∀h' e,W6 j s.heap h'->(∃o,h'.get? e=some o/\o.cls=.type "StopIteration")->E (.ref e) { s with heap:=h' }):wpAny (model prog w) A (qS (.ref j)) Q E s:=by
 obtain⟨ob,y,l,h⟩:=id p;obtain⟨g,b,_,i,v⟩:=pt;unfold qS;refine QC (qO (name:=QR "__next__") p.typeIs qb (qL qb p.typeIs WO ?_ (WJ _)));show wpAny _ _ (field (.ref j) 0 >>= _) _ _ _;refine QC (wM y h (x:=.ref t) rfl ?_);show wpAny _ _ (if(jx t==Jz)=true then _ else _) _ _ _;rw[if_neg (show ¬ (jx t==Jz)=true from QG)];show wpAny _ _ (field (.ref j) 1 >>= _) _ _ _;refine QC (wM y h (x:=.int k 0) rfl ?_);show wpAny _ _ (seqItems? (.ref t) >>= _) _ _ _;refine QC (QBP b v ?_);simp only[qM,f];refine QC (QB0 (QC (QAY y h (by simp) ?_)));refine QC (m:=newExc (.type "StopIteration") []) ?_;simp only[newExc,newTuple];refine QC (Q0 ?made (by size_fits));refine QC (m:=firstArgMember _ _) (QCO (a:=Jz) (by first|rfl | (rw[firstArgMember];rfl)) ?arg);refine Q0 ?made2 (by size_fits);simp only[raiseNew];refine QC (QBq ?_);first|rw[show A.in1.handled=none from u]|rw[u]
 refine QC (QK (QCP (q _ _ (((qC ..).extBut.push _).push _) ⟨_,QT _ rfl,rfl⟩)))
theorem D9(p:CD s.heap j z k)(pt:BB s.heap z xs)(h:xs[k]?=some x)
  (q:∀h',CD h' j z (k+1)->qV j s.heap h'->Q x { s with heap:=h' }):wpAny (model prog w) A (qS (.ref j)) Q E s:=by
 cases z with|l a=>exact wpAny_nextOf_list_item p pt h q|t a=>exact Vh p pt h q
theorem v4(y:A.handled=none)(p:CD s.heap j z k)(pt:BB s.heap z xs)(h:xs[k]?=none)
  (q:∀h' e,W6 j s.heap h'->(∃o,h'.get? e=some o/\o.cls=.type "StopIteration")->E (.ref e) { s with heap:=h' }):wpAny (model prog w) A (qS (.ref j)) Q E s:=by
 cases z with|l a=>exact wpAny_nextOf_list_end y p pt h q|t a=>exact ZU y p pt h q
noncomputable def Src.it:Src->Obj
 | .l a=>{ cls:=.type "list_iterator",data:=.fields #[.ref a,.int 0 0] }|.t a=>{ cls:=.type "tuple_iterator",data:=.fields #[.ref a,.int 0 0] }
theorem dR(pt:BB s.heap z xs)(q:Q (.ref s.heap.objs.size) { s with heap:=s.heap.push z.it }):wpAny (model prog w) A (pyIter (.ref z.adr)) Q E s:=by
 cases z with|l a=>exact QAf pt q|t a=>exact QBr pt q
theorem x8(h:Heap)(z:Src):CD (h.push z.it) h.objs.size z 0:=by
 cases z with|l a=>exact⟨_,QT _ rfl,rfl,rfl⟩|t a=>exact⟨_,QT _ rfl,rfl,rfl⟩
end
end
section
variable{prog:Program}{w:World}{A:Around}{E:uC}{s:Shared}
theorem ig{h h':Heap}{b:Addr}{z:Src}{xs:Array Value}(x:BB h z xs)(e:qV b h h')(n:z.adr≠b):BB h' z xs:=x.ext e.extBut n
end
section
variable{X:Cx}{w:HB}{σ:St}{H:Hp}{s:Shared}{h':Heap}
theorem _root_.L2.Inv.turnedL{t':Nat}{ch:List Addr}(I:Inv X w σ H s)(k:∀b o,b∉ch->s.heap.get? b=some o->h'.get? b=some o)(f:∀b∈ch,zJ X w H b):Inv X w σ H { s with heap:=h',toks:=t' }:=by
 have h:∀b u,H b=some u->b∉ch:=λb u e z=>by rw[(f b z).1]at e;cases e
 have a:X.env.locals∉ch:=λz=>(f _ z).2.1 rfl;refine I.step (g':=s.gens) (d':=s.drawn) (ch:=ch) (λb hb=>?_) (λb o _ _ hc e _=>k b o hc e) (λb o _ _ hc e _=>⟨o.slots,k b o hc e⟩) (λ_ _ _ _ n=>n)
  (λb o hc e=>⟨o,k b o hc e⟩) (λ_ _ e=>e) (λ_ _ _ e=>e) (λ_ _ e=>e) (λm y=>?_) (λb u e=>?_) I.bare
 obtain⟨_,l,_,j,i,g⟩:=f b hb;exact⟨j,l,i,g⟩;obtain⟨o,p,Y,x,r⟩:=y;exact⟨o,p,Y,k _ o a x,r⟩;refine(I.hok b u e).stay (λc v hc q=>k c v ?_ q) (λ_ q=>q) λ_ _ q=>q;rcases hc with z|z;rw[z];exact h b u e;exact h c _ z
def XZ(K:QA)(H:Hp):Src->LV->Prop
 | .l a,xs=>HC K H a xs|.t a,xs=>rD K H a xs
theorem _root_.L2.Inv.src(I:Inv X w σ H s){z:Src}{xs:LV}(h:XZ X.K H z xs):∃its:LW,nA xs its/\BB s.heap z its.toArray/\xs.length<=sizeLine:=by
 cases z with|l a=>obtain⟨its,x,p,y⟩:=I.list h;exact⟨its,x,p.isList,y⟩|t a=>obtain⟨its,x,p,y⟩:=I.tuple h;exact⟨its,x,p,y⟩
theorem _root_.L2.Inv.src_inj(I:Inv X w σ H s){z:Src}{xs x:LV}(h:XZ X.K H z xs)(h':XZ X.K H z x):xs=x:=by
 cases z with|l a=>exact I.list_inj h h'|t a=>exact I.tuple_inj h h'
theorem _root_.L2.Inv.pair{p:Addr}{a b:Value}{x y:V}{t':Nat}(I:Inv X w σ H s)(k:∀b u,s.heap.get? b=some u->h'.get? b=some u)(v:s.heap.objs.size<=p)(e:h'.get? p=some { cls:=.type "tuple",data:=.seq #[a,b] })(z:JA x a)(h:JA y b) :
  Inv X w σ (UA H p (.tup [x,y])) { s with heap:=h',toks:=t' } :=
 I.laid k v ⟨by rw[qA];show 2<=_;decide,[a,b],.cons z (.cons h .nil),_,e,rfl,_,rfl⟩
end
section
variable{prog:Program}{w:World}{A:Around}{E:uC}{s:Shared}
section
variable{z d:Addr}{u:Obj}{es:Array DictEntry}{i ep:Nat}{f c:Value}{Q:Option Value->Shared->Prop}
theorem zD:Wx "dict_itemiterator"=true:=by decide +kernel
theorem pJ(l:List String)(h:(l.contains "dict_itemiterator" || l.contains "object")=false):(l.any λt=>[Value.type "dict_itemiterator",Value.type "object"].contains (.type t))=false:=by
 rw[List.any_eq_false];intro t x;rw[Bool.or_eq_false_iff]at h;have v:t≠"dict_itemiterator":=λe=>by subst e;rw[qF.mpr x]at h;cases h.1
 have y:t≠"object":=λe=>by subst e;rw[qF.mpr x]at h;cases h.2
 simp[v,y]
theorem y4{e:DictEntry}
  (n:IsItemIter s.heap z d i es.size ep f c) (Y:s.heap.get? d=some u) (C:u.data=.dict es ep) (J:es[i]?=some e)
  (q:∀h',IsItemIterOut h' z d (i+1) es.size ep e.key e.val s.heap.objs.size->h'.get? s.heap.objs.size=some { cls:=.type "tuple",data:=.seq #[e.key,e.val] } ->
   h'.objs.size=s.heap.objs.size+1->(∀b o,b≠z->s.heap.get? b=some o->h'.get? b=some o)->Q (some (.ref s.heap.objs.size)) { s with heap:=h' }) :
  wpAny (model prog w) A (pyNext (.ref z)) Q E s:=by
 have G:s.TypeIs (.ref z) "dict_itemiterator":=⟨_,n,rfl⟩
 show wpAny _ _ (bind _ _) _ _ _;refine QC (Wz (qO G qT (qL qT G Wh ?_ (Wb _))));show wpAny _ _ (bind _ _) _ _ _;refine QC (QK (QC (QC (QC (qr G (QK (QC (QAZ n rfl ?_))))))));rw[zD];show wpAny _ _ (if(jx d==Jz)=true then _ else _) _ _ _;rw[if_neg (show ¬ (jx d==Jz)=true from QG)];show wpAny _ _ (wN (.ref d) >>= _) _ _ _;refine QC (QK (QC (q0 Y C ?_)));rw[if_neg (show ¬ (((es.size:Nat):Int) != ((es.size:Nat):Int))=true by simp)];refine QC (QK (QC (ww Y C ?_)));rw[if_neg (show ¬ (((ep:Nat):Int) != ((ep:Nat):Int))=true by simp)];refine QK ?_;have L:(if((i:Nat):Int)<0 then none else es[((i:Nat):Int).toNat]?)=some e:=by rw[if_neg (by omega),qM];exact J
 simp only[L];refine QC ?_;show wpAny _ _ (typeNameOfWhole (.ref z) >>= _) _ _ _;refine QC (qr G (QK (QC (WX G ?_))));rw[zD,if_pos rfl];rw[show(List.any _ λt=>[Value.type "dict_itemiterator",Value.type "object"].contains (.type t))=false from pJ _ (by decide +kernel),if_neg QG];refine QC (wI n (by simp) λa h X=>?_);have h:IsItemIter a z d (i+1) es.size ep f c:=h;refine QC (qk ?_);have F:({ s with heap:=a }:Shared).TypeIs (.ref z) "dict_itemiterator":=⟨_,h,rfl⟩
 show wpAny _ _ (Builtin.Dict_items.isOneOf (.ref z) _ >>= _) _ _ _;refine QC (WX F ?_);rw[pJ _ (by decide +kernel),if_neg QG];refine QC (WX F ?_);rw[pJ _ (by decide +kernel),if_neg QG];show wpAny _ _ (newTuple [e.key,e.val] >>= _) _ _ _;refine QC (QBR ?_);have r:a.objs.size=s.heap.objs.size:=X.1;have y:IsItemIter (a.push { cls:=.type "tuple",data:=.seq #[e.key,e.val] }) z d (i+1) es.size ep f c:=QH _ h;show wpAny _ _ (Builtin.Dict_items.ownedTupleIsFree (.ref z) >>= _) _ _ _;refine QC ?_;show wpAny _ _ (field (.ref z) 0 >>= _) _ _ _;refine QC (wM y rfl (x:=.none) rfl (QK ?_));rw[if_pos rfl];show wpAny _ _ (field (.ref z) 6 >>= _) _ _ _;refine QC (wM y rfl (x:=f) rfl ?_);refine QC (wM y rfl (x:=c) rfl ?_);refine QC (wI y (by simp) λO B m=>?_);refine QC (wI B (by simp) λN K l=>?_);refine QC (wI K (by simp) λM W j=>?_);refine QC (wI W (by simp) λI Z g=>?_);refine QC (wpAny_letGo (QK ?_));refine QK ⟨_,rfl,QK ?_⟩;have k:z<a.objs.size:=Qa h;have pt:I.get? a.objs.size=some { cls:=.type "tuple",data:=.seq #[e.key,e.val] } :=
  g.extBut _ _ (wo k) (j.extBut _ _ (wo k) (l.extBut _ _ (wo k) (m.extBut _ _ (wo k) (QT _ rfl))))
 have p:I.objs.size=a.objs.size+1:=by rw[g.1,j.1,l.1,m.1,QAV]
 have v:IsItemIterOut I z d (i+1) es.size ep e.key e.val a.objs.size:=Z;rw[r]at pt p v;have:=q I v pt p λb o hb x=>g.extBut _ _ hb (j.extBut _ _ hb (l.extBut _ _ hb (m.extBut _ _ hb (QH _ (X.extBut _ _ hb x)))));show Q (some (.ref a.objs.size)) _;rw[r];exact this
theorem iP(g:A.handled=none)
  (h:IsItemIter s.heap z d i es.size ep f c) (x:s.heap.get? d=some u) (y:u.data=.dict es ep) (j:es[i]?=none)
  (q:∀h',W6 z s.heap h'->Q none { s with heap:=h' }) :
  wpAny (model prog w) A (pyNext (.ref z)) Q E s:=by
 have v:s.TypeIs (.ref z) "dict_itemiterator":=⟨_,h,rfl⟩
 show wpAny _ _ (bind _ _) _ _ _;refine QC (Wz (qO v qT (qL qT v Wh ?_ (Wb _))));show wpAny _ _ (bind _ _) _ _ _;refine QC (QK (QC (QC (QC (qr v (QK (QC (QAZ h rfl ?_))))))));rw[zD];show wpAny _ _ (if(jx d==Jz)=true then _ else _) _ _ _;rw[if_neg (show ¬ (jx d==Jz)=true from QG)];show wpAny _ _ (wN (.ref d) >>= _) _ _ _;refine QC (QK (QC (q0 x y ?_)));rw[if_neg (show ¬ (((es.size:Nat):Int) != ((es.size:Nat):Int))=true by simp)];refine QC (QK (QC (ww x y ?_)));rw[if_neg (show ¬ (((ep:Nat):Int) != ((ep:Nat):Int))=true by simp)];refine QK ?_;have l:(if((i:Nat):Int)<0 then none else es[((i:Nat):Int).toNat]?)=none:=by rw[if_neg (by omega),qM];exact j
 simp only[l];refine QC ?_;show wpAny _ _ (typeNameOfWhole (.ref z) >>= _) _ _ _;refine QC (qr v (QK ?_));rw[zD,if_pos rfl];refine QC (wI h (by simp) λn e k=>?_);refine QC (m:=newExc (.type "StopIteration") []) ?_;simp only[newExc,newTuple];refine QC (Q0 ?made (by size_fits));refine QC (m:=firstArgMember _ _) (QCO (a:=Jz) (by first|rfl | (rw[firstArgMember];rfl)) ?arg);refine Q0 ?made2 (by size_fits);simp only[raiseNew];refine QC (QBq ?_);first|rw[show A.in1.handled=none from g]|rw[g]
 refine QC (QK (QCP ?_));refine QC (QAv (T:="StopIteration") (b:=true) ⟨_,QT _ rfl,rfl⟩ (by kernel_rfl) ?_);rw[if_pos rfl];exact QK (q _ ((k.extBut.push _).push _))
theorem U5{v:Addr}{Q:uC}(hv:s.heap.IsItemsView v d)(h:s.heap.get? d=some u)(x:u.data=.dict es ep)
  (q:Q (.ref s.heap.objs.size) { s with heap:=s.heap.push { cls:=.type "dict_itemiterator",data:=.fields #[.none,.bool false,.ref d,.int 0 0,.int es.size 0,.int ep 0,.none,.none] } }) :
  wpAny (model prog w) A (pyIter (.ref v)) Q E s:=by
 have a:=Heap.IsItemsView.typeIs hv;obtain⟨c,y,b,k⟩:=id hv;refine QB1 a QA0 (qL QA0 a F.entry_dict_items_iter ?_ (F.args_dict_items_iter_1 _));show wpAny _ _ (bind _ _) _ _ _;refine QC (QK (QC ?_));show wpAny _ _ (bind _ _) _ _ _;refine QC (wM y k rfl (QK (QC ?_)));show wpAny _ _ (bind _ _) _ _ _;refine QC (q0 h x (QC (ww h x ?_)));simp only[zD,if_true];refine Q0 (QK ⟨_,rfl,"dict_itemiterator",_,⟨_,QT _ rfl,rfl⟩,qT.lookup,q⟩) (show _<=sizeLine+2 by simp[Builtin.Dict_items.ownedTupleFields,qA])
theorem CV{Q:uC}(h:s.heap.get? d=some u)(x:u.cls=.type "dict")(v:(d==sysModules)=false)
  (q:Q (.ref s.heap.objs.size) { s with heap:=s.heap.push { cls:=.type "dict_items",data:=.fields #[.ref d] } }):wpAny (model prog w) A (call (.builtin "dict.items") [.ref d]) Q E s:=by
 have y:s.TypeIs (.ref d) "dict":=⟨_,h,x⟩
 refine qL F.slot_dict_items y F.entry_dict_items ?_ (F.args_dict_items_1 _);show wpAny _ _ (bind _ _) _ _ _;refine QC ?_;show wpAny _ _ (bind _ _) _ _ _;refine QC (Wi y ?_);refine QK ?_;show wpAny _ _ ((if(d==sysModules)=true then _ else _) >>= _) _ _ _;rw[v,if_neg QG];exact QC (QK (QC (Q0 (QK ⟨_,rfl,q⟩) (show _<=sizeLine+2 by simp[qA]))))
theorem RX{κ:Type}[DecidableEq κ]{h:HeapKind prog w κ}{d a:Addr}{xs:List (κ×Addr×Value)}{k:κ}{v:Value}{Q:uC}(K:h.room A)(g:h.is s.heap k a)(C:s.heap.DictOfH h d xs)(hsz:xs.length<=sizeLine)
  (G:∀p,atKey xs k=some p->Q p.2 { s with toks:=s.toks+h.draws k })
  (F:atKey xs k=none->∀h',h'.DictOfH h d (storedH xs k a v)->qV d s.heap h'->Q v { s with heap:=h',toks:=s.toks+h.draws k }) :
  wpAny (model prog w) A (dictSetDefault d (.ref a) v) Q E s:=by
 obtain⟨o,es,ep,n,hc,m,Y,X,Z⟩:=id C;have I:es.size=xs.length:=by have:=congrArg qw Y;simpa using this
 unfold dictSetDefault;refine qk (QC (h.pyHash K g (QC (wpAny_dictFind_heap K g n m Y X Z (λr=>?_) λj p B=>?_))));have b:=atKey_none_of_get r;have q:=not_mem_keys_of_get r;refine QC (QB0 (QC (wpAny_updateDictKeys n m (QK (F b _ ?_ (qC ..))) (by omega) (by simp))));refine⟨_,_,ep+1,wt _ n (Obj.isFreed_of_dict (QBJ m _)),Obj.ExactDict.mapDictKeys hc _,QBJ m _,?_,?_,?_⟩;rw[QCQ b];simp[Y,entryOfKey];rw[QCQ b];intro x l;rcases Qh.mp l with l|l;exact h.keeps (X x l) n m (qC ..);rw[QJ.mp l];exact h.keeps g n m (qC ..);rw[QCQ b,QO];exact qh.mpr ⟨Z,by simp,λx l y W e=>by rw[QV,WH,QJ]at W;rw[e,W]at l;exact q l⟩;have b:=atKey_of_get Z B;have J:es[j]?=some (entryOfKey h (k,p)):=by
  have:es.toList[j]?=some (entryOfKey h (k,p)):=by rw[Y,QX,B];rfl
  simpa using this
 refine QC (q0 n m ?_);rw[J];exact QC (QB0 (QK (G p b)))
theorem bT{κ:Type}[DecidableEq κ]{h:HeapKind prog w κ}{d a:Addr}{xs:List (κ×Addr×Value)}{k:κ}{v:Value}{Q:uC}(e:h.room A.in1)(x:h.is s.heap k a)(y:s.heap.DictOfH h d xs)(hsz:xs.length<=sizeLine)(l:(d==sysModules)=false)
  (n:∀p,atKey xs k=some p->Q p.2 { s with toks:=s.toks+h.draws k })
  (m:atKey xs k=none->∀h',h'.DictOfH h d (storedH xs k a v)->qV d s.heap h'->Q v { s with heap:=h',toks:=s.toks+h.draws k }) :
  wpAny (model prog w) A (call (.builtin "dict.setdefault") [.ref d,.ref a,v]) Q E s:=by
 have b:s.TypeIs (.ref d) "dict":=Heap.DictOfH.typeIs y;refine qL F.slot_dict_setdefault b F.entry_dict_setdefault ?_ (F.args_dict_setdefault_3 _ _ _);show wpAny _ _ (bind _ _) _ _ _;refine QC ?_;show wpAny _ _ (bind _ _) _ _ _;refine QC (Wi b ?_);refine QK ?_;show wpAny _ _ (if(d==sysModules)=true then _ else _) _ _ _;rw[l,if_neg QG];exact QC (RX e x y hsz (λp g=>QK ⟨_,rfl,n p g⟩) λj h' q o=>QK ⟨_,rfl,m j h' q o⟩)
end
end
def UK(K:QA):V->LV->Hp->VK->Prop:=λx z H Q=>∃a b v w h k,x=.ref a/\z=[.ref b,v]/\H a=some (.dT w h)/\bG K H h/\BN K H b k/\h.length<sizeLine /\
   (∀u,VG h k=some u->Q u H)/\(VG h k=none->∀y,Q v (UA H a (.dT y (VL h k b v))))
theorem UY{X:Cx}(R:X.A.units+66<cLine):K7 X "dict.setdefault" (UK X.K):=by
 intro m s L H x N v P Q I o r h;obtain⟨a,b,y,ep,f,k,rfl,rfl,e,hk,F,l,Z,Y⟩:=h;cases o;obtain⟨u,O,rfl,q,g⟩:=ol r;cases q;obtain⟨W,n,M,w,G⟩:=gK I e hk;have hl:(VL f k b y).length<=sizeLine:=by have:=dS f k b y;omega
 refine bT (uI (by omega)) (nS I F) G (by rw[<- Q6 w];exact W) n (λp C=>?_) λE S j B=>?_;have z:=w.val k;rw[C]at z;cases ev:VG f k with|none=>rw[ev]at z;exact(show False from z).elim|some u=>rw[ev]at z;exact⟨u,H,I.tok _,z,Z u ev⟩
 have z:=w.val k;rw[E]at z;cases ev:VG f k with|some u=>rw[ev]at z;exact(show False from z).elim|none=>obtain⟨i,J⟩:=YM (t':=_) I (by rw[e];exact True.intro) n hl (w.put k b g) j B;exact⟨y,_,J,g,Y ev i⟩
noncomputable def Yv(ep n:Nat)(a:Addr):It :=
  ⟨λi H=>∃h p,H a=some (.dT ep h)/\h.length=n/\h[i]?=some p,
   λi H v x=>∃q p,H q=none/\v=.ref q/\x=UA H q (.tup [.ref p.2.1,p.2.2])/\∀h,H a=some (.dT ep h)->h[i]?=some p,
   λi H=>∃h,H a=some (.dT ep h)/\h.length=n/\n<=i⟩
theorem fH{α h:Type}{R:α->h->Prop}:∀{l:List α}{m:List h}{i:Nat}{x:α},Paired R l m->l[i]?=some x->∃y,m[i]?=some y/\R x y
 |_,_,i,_,.nil,e=>by simp at e|_,_,0,_,.cons r _,e=>by simp at e;subst e;exact⟨_,rfl,r⟩|_,_,i+1,x,.cons _ t,e=>by obtain⟨y,u,z⟩:=fH (i:=i) (x:=x) t (by simpa using e);exact⟨y,by simpa using u,z⟩
theorem zU{P:Program}{w:World}{K:QA}{es:List Expr}{kk:Nat}{pp:Pos}{a it:Addr}{n ep:Nat}:Turn0 P w K (.Tuple es kk pp) (Yv ep n a) [it] it (λi h=>∃ok Y,IsItemIter h it a i n ep ok Y) where
 mem:=by simp
 obj:=λi h st b hb=>by obtain⟨ok,Y,st⟩:=st;rw[QJ]at hb;subst hb;exact⟨_,st,λv q=>by cases(show Data.fields _=Data.cell v from q)⟩
 keep:=λi h h' st k=>by obtain⟨ok,Y,st⟩:=st;exact⟨ok,Y,k it (by simp) _ st⟩
 item:=by
  intro X J C L hc i Z s σ H E I A st G;subst J C L;obtain⟨j,p,e,F,ep⟩:=G;obtain⟨ok,Y,st⟩:=st;obtain⟨z,y,xs,r,o,u,N,h2,M,B,h5⟩:=(show jB X.prog X.w H s.heap a (.dT _ j) from I.hok a _ e)
  have l:u.size=n:=by have:=congrArg qw B;rw[QD,Ql]at this;rw[this,<- Q6 r,F]
  obtain⟨q,hq,rq⟩:=fH r ep;have he:u[i]?=some (entryOfKey (aE X.prog X.w) q):=by
   have:u.toList[i]?=some (entryOfKey (aE X.prog X.w) q):=by rw[B,QX,hq];rfl
   simpa using this
  subst l;refine y4 st N M he λh' b1 b3 b4 b5=>⟨_,rfl,wpAny_letOwnedTupleGo_items b1 λm c1 sb=>?_⟩
  have hp:=I.hok.fresh (QW s.heap.objs.size);have W:it<s.heap.objs.size:=Qa st;have g:∀b∈[it],b<s.heap.objs.size:=λb hb=>by rw[QJ]at hb;subst hb;exact W
  have kept:∀b o,b∉[it]->s.heap.get? b=some o->m.get? b=some o:=λb o hb q=>by rw[QJ]at hb;exact(sb.2 b hb).trans (b5 b o hb q)
  have f:m.get? s.heap.objs.size=some { cls:=.type "tuple",data:=.seq #[.ref q.2.1,q.2.2] }:=(sb.2 _ (wo W)).trans b3;have I1:=I.pair (x:=.ref p.2.1) (y:=p.2.2) (h':=s.heap.push { cls:=.type "tuple",data:=.seq #[.ref q.2.1,q.2.2] }) (t':=s.toks) (λb o e=>QH _ e) (QW _) (QT _ rfl) (show jx q.2.1=jx p.2.1 by rw[rq.2.1]) rq.2.2;have I2:=I1.turnedL (h':=m) (t':=s.toks) (ch:=[it]) (λb o hb e=>by
   rcases QBK e with⟨q1,q2⟩| q;subst q1 q2;exact f;exact kept b o hb q) λb hb=>by
   obtain⟨f0,S,f2,R,Q,O⟩:=A b hb;exact⟨by rw[vA (Qn (g b hb))];exact f0,S,f2,R,Q,O⟩
  refine⟨.ref s.heap.objs.size,_,I2,rfl,⟨s.heap.objs.size,p,hp,rfl,rfl,λkvs' g1=>?_⟩,⟨_,_,c1⟩,λb hb=>?_⟩;rw[e]at g1;cases g1;exact ep;rw[vA (Qn (g b hb))];exact(A b hb).1
 done:=by
  intro X J C L hc i Z s σ H E I A st G;subst J C L;obtain⟨j,e,F,ep⟩:=G;obtain⟨ok,Y,st⟩:=st;obtain⟨z,y,xs,r,o,u,N,h2,M,B,h5⟩:=(show jB X.prog X.w H s.heap a (.dT _ j) from I.hok a _ e)
  have l:u.size=n:=by have:=congrArg qw B;rw[QD,Ql]at this;rw[this,<- Q6 r,F]
  subst l;obtain⟨f0,S,f2,R,Q,O⟩:=A it (by simp);exact iP (I.ok.hd hc) st N M (QA1 ep) λh' eb=>⟨rfl,I.turned (t':=s.toks) (λb o hb e=>eb b o hb e) f0 S R Q O⟩
section
variable{prog:Program}{w:World}{A:Around}{E:uC}{s:Shared}
section
variable{d h:Addr}{x:Obj}{es:Array DictEntry}{ep i:Nat}{Q:Option Value->Shared->Prop}
theorem sG:Wx "dict_keyiterator"=false:=by decide +kernel
theorem Xa{Q:uC}(v:(d==sysModules)=false)(y:s.heap.get? d=some x)(hc:x.cls=.type "dict")(z:x.data=.dict es ep)
  (q:Q (.ref s.heap.objs.size) { s with heap:=s.heap.push { cls:=.type "dict_keyiterator",data:=.fields #[.ref d,.int 0 0,.int es.size 0,.int ep 0] } }) :
  wpAny (model prog w) A (pyIter (.ref d)) Q E s:=by
 have u:s.TypeIs (.ref d) "dict":=⟨_,y,hc⟩
 refine QB1 u QCI (qL QCI u F.entry_dict_iter ?body (F.args_dict_iter_1 _))
 case body =>
  show wpAny _ _ (bind _ _) _ _ _;refine QC ?sl
  case sl =>
   show wpAny _ _ (bind _ _) _ _ _;refine QC (Wi u (QK ?go))
   case go =>
    have e:Wj d=pure PUnit.unit:=by unfold Wj;rw[v];rfl
    show wpAny _ _ (Wj d >>= _) _ _ _;rw[e];refine QC (QK (QC (q0 y z (QC (ww y z (QC (Q0 (QK ⟨_,rfl,"dict_keyiterator",_,⟨_,QT _ rfl,rfl⟩,qX.lookup,?_⟩))))))));simpa[rawInt]using q
theorem C9{e:DictEntry}
  (v:s.heap.IsKeyIter h d i es.size ep) (u:s.heap.get? d=some x) (k:x.data=.dict es ep) (g:es[i]?=some e)
  (q:∀h',h'.IsKeyIter h d (i+1) es.size ep->qV h s.heap h'->Q (some e.key) { s with heap:=h' }) :
  wpAny (model prog w) A (pyNext (.ref h)) Q E s:=by
 have a:=v.typeIs;obtain⟨l,b,f,y⟩:=id v;show wpAny _ _ (bind _ _) _ _ _;refine QC (Wz (qO a qX (qL qX a Ws ?_ (Wk _))));show wpAny _ _ (bind _ _) _ _ _;refine QC (QK (QC (QC (QC (qy a (QK (QC (QAZ b y ?_))))))));rw[sG];show wpAny _ _ (if(jx d==Jz)=true then _ else _) _ _ _;rw[if_neg (show ¬ (jx d==Jz)=true from QG)];show wpAny _ _ (wN (.ref d) >>= _) _ _ _;refine QC (QK (QC (q0 u k ?_)));rw[if_neg (show ¬ (((es.size:Nat):Int) != ((es.size:Nat):Int))=true by simp)];refine QC (QK (QC (ww u k ?_)));rw[if_neg (show ¬ (((ep:Nat):Int) != ((ep:Nat):Int))=true by simp)];refine QK ?_;have j:(if((i:Nat):Int)<0 then none else es[((i:Nat):Int).toNat]?)=some e:=by rw[if_neg (by omega),qM];exact g
 simp only[j];refine QC ?_;show wpAny _ _ (typeNameOfWhole (.ref h) >>= _) _ _ _;refine QC (qy a (QK (QC (QA9 a ?_))));rw[sG];show wpAny _ _ (setField (.ref h) 1 _ >>= _) _ _ _;refine QC (QAY b y (by simp) ?_);have z:(s.heap.update h (Obj.mapFields (·.setIfInBounds 1 (rawInt ((i:Int)+1))))).IsKeyIter h d (i+1) es.size ep :=
  ⟨_,wt _ b (QA8 (WP y _)),(QBz ..).trans f,by rw[WP y];simp[rawInt]⟩
 refine QC (qk (QC (QA9 (s:={ s with heap:=s.heap.update h (Obj.mapFields (·.setIfInBounds 1 (rawInt ((i:Int)+1)))) }) z.typeIs ?_)));show wpAny _ _ (pure e.key) _ _ _;exact QK (QK ⟨_,rfl,QK (q _ z (qC ..))⟩)
theorem MR(f:A.handled=none)
  (z:s.heap.IsKeyIter h d i es.size ep) (y:s.heap.get? d=some x) (v:x.data=.dict es ep) (g:es[i]?=none)
  (q:∀h',W6 h s.heap h'->Q none { s with heap:=h' }) :
  wpAny (model prog w) A (pyNext (.ref h)) Q E s:=by
 have k:=z.typeIs;obtain⟨n,e,j,u⟩:=id z;show wpAny _ _ (bind _ _) _ _ _;refine QC (Wz (qO k qX (qL qX k Ws ?_ (Wk _))));show wpAny _ _ (bind _ _) _ _ _;refine QC (QK (QC (QC (QC (qy k (QK (QC (QAZ e u ?_))))))));rw[sG];show wpAny _ _ (if(jx d==Jz)=true then _ else _) _ _ _;rw[if_neg (show ¬ (jx d==Jz)=true from QG)];show wpAny _ _ (wN (.ref d) >>= _) _ _ _;refine QC (QK (QC (q0 y v ?_)));rw[if_neg (show ¬ (((es.size:Nat):Int) != ((es.size:Nat):Int))=true by simp)];refine QC (QK (QC (ww y v ?_)));rw[if_neg (show ¬ (((ep:Nat):Int) != ((ep:Nat):Int))=true by simp)];refine QK ?_;have l:(if((i:Nat):Int)<0 then none else es[((i:Nat):Int).toNat]?)=none:=by rw[if_neg (by omega),qM];exact g
 simp only[l];refine QC ?_;show wpAny _ _ (typeNameOfWhole (.ref h) >>= _) _ _ _;refine QC (qy k (QK ?_));rw[sG];show wpAny _ _ (setField (.ref h) 0 .none >>= _) _ _ _;refine QC (QAY e u (by simp) ?_);refine QC (m:=newExc (.type "StopIteration") []) ?_;simp only[newExc,newTuple];refine QC (Q0 ?made (by size_fits));refine QC (m:=firstArgMember _ _) (QCO (a:=Jz) (by first|rfl | (rw[firstArgMember];rfl)) ?arg);refine Q0 ?made2 (by size_fits);simp only[raiseNew];refine QC (QBq ?_);first|rw[show A.in1.handled=none from f]|rw[f]
 refine QC (QK (QCP ?_));refine QC (QAv (T:="StopIteration") (b:=true) ⟨_,QT _ rfl,rfl⟩ (by kernel_rfl) ?_);rw[if_pos rfl];exact QK (q _ (((qC ..).extBut.push _).push _))
end
end
noncomputable def Kv(ep n:Nat)(a:Addr):It :=
  ⟨λi H=>∃h p,H a=some (.dT ep h)/\h.length=n/\h[i]?=some p,
   λi H v x=>x=H/\∀h,H a=some (.dT ep h)->∃p,h[i]?=some p/\v=.ref p.2.1,
   λi H=>∃h,H a=some (.dT ep h)/\h.length=n/\n<=i⟩
theorem EX{P:Program}{w:World}{K:QA}{S:Expr}{a it:Addr}{n ep:Nat}:Turn P w K S (Kv ep n a) [it] it (λi h=>h.IsKeyIter it a i n ep) where
 mem:=by simp
 obj:=λi h st b hb=>by obtain⟨o,e,c,d⟩:=st;rw[QJ]at hb;subst hb;exact⟨o,e,λv z=>by rw[d]at z;cases z⟩
 keep:=λi h Y st k=>st.at λo e=>k it (by simp) o e
 item:=by
  intro X B Z C hc i u s Q H E I l st A;subst B Z C;obtain⟨f,p,e,W,ep⟩:=A;obtain⟨z,y,R,r,o,x,G,h2,F,m,h5⟩:=(show jB X.prog X.w H s.heap a (.dT _ f) from I.hok a _ e)
  have g:x.size=n:=by have:=congrArg qw m;rw[QD,Ql]at this;rw[this,<- Q6 r,W]
  obtain⟨q,hq,rq⟩:=fH r ep;have he:x[i]?=some (entryOfKey (aE X.prog X.w) q):=by
   have:x.toList[i]?=some (entryOfKey (aE X.prog X.w) q):=by rw[m,QX,hq];rfl
   simpa using this
  subst g;obtain⟨O,N,f2,M,L,J⟩:=l it (by simp);refine C9 st G F he λY j sb=>?_;have I1:Inv X u Q H { s with heap:=Y }:=I.turned (t':=s.toks) (λb o hb e=>(sb.2 b hb).trans e) O N M L J;obtain⟨oi,ei,ci,di⟩:=id j;exact⟨_,rfl,go_of (s:={ s with heap:=Y }) ei ci di (by decide) ⟨.ref p.2.1,H,I1,show jx q.2.1=jx p.2.1 by rw[rq.2.1],⟨rfl,λks hk=>by rw[e]at hk;cases hk;exact⟨p,ep,rfl⟩⟩,j,λb hb=>(l b hb).1⟩⟩
 done:=by
  intro X B Z C hc i u s Q H E I l st A;subst B Z C;obtain⟨f,e,W,ep⟩:=A;obtain⟨z,y,R,r,o,x,G,h2,F,m,h5⟩:=(show jB X.prog X.w H s.heap a (.dT _ f) from I.hok a _ e)
  have g:x.size=n:=by have:=congrArg qw m;rw[QD,Ql]at this;rw[this,<- Q6 r,W]
  subst g;obtain⟨O,N,f2,M,L,J⟩:=l it (by simp);exact MR (I.ok.hd hc) st G F (QA1 ep) λY eb=>⟨rfl,I.turned (t':=s.toks) (λb o hb e=>eb b o hb e) O N M L J⟩
 self:=λ_ _ _ _ _ st h=>wpAny_pyIter_keyiter st h
open PySem.SeqAt
open AutoSeq1 (wpAny_loadPart')
open MeetsSeq MeetsSeq2 MeetsSeq3
noncomputable def ck:LS->LS->Bool
 |[],[]=>false|[],_::_=>true|_::_,[]=>false|x::a,y::b=>if(x==y)=true then ck a b else decide (x.cps.toList<y.cps.toList)
theorem LH{vs:LW}{z:LS}(h:StrsAre vs z):vs.length=z.length/\∀(i:Nat) (x:Str),z[i]?=some x->∃t:Tok,vs[i]?=some (Value.str x t):=by
 induction h with
 |nil=>exact⟨rfl,λi x e=>by simp at e⟩|cons y t _ u =>
  refine⟨by rw[QM,QM,u.1],λi x e=>?_⟩;cases i with|zero=>simp at e;subst e;exact⟨t,rfl⟩|succ i=>simp at e;simpa using u.2 i x e
theorem GY(l b:Addr)(v x:Array Value)(n B:Nat)(L X:Option Addr)(W o:Array (Option Value))(a ts:LS)(I:StrsAre v.toList a)(G:StrsAre x.toList ts)(k:Nat) :
  ∀i:Nat,v.size - i=k->i<=v.size->i<=x.size->Meets (Builtin.«list.__eq__.loop» ⟨[.ref l,.ref b,rawInt i,rawInt 0],[]⟩)
   (λA R s=>s.heap.get? l=some { cls:=.type "list",dict:=L,data:=.seq v n,slots:=W }/\s.heap.get? b=some { cls:=.type "list",dict:=X,data:=.seq x B,slots:=o } /\
    R (.ok (.ret (.bool (ck (a.drop i) (ts.drop i))))) s):=by
 obtain⟨Q,P⟩:=LH I;obtain⟨O,N⟩:=LH G;rw[Ql]at Q O;induction k with
 |zero =>
  intro i hk F p e w A R s h;obtain⟨E,g,d,Z,K⟩:=s;obtain⟨hl,hb,h⟩:=h;wp_walk using Q5 hl,Q5 hb;have m:v[((i:Nat):Int).toNat]?=none:=by simp;omega
  rw[m];wp_walk using Q5 hl,Q5 hb;have Y:a.drop i=[]:=by simp;omega
  rw[Y]at h;have f:ck [] (ts.drop i)=decide (v.size<x.size):=by
   cases z:ts.drop i with
   |nil =>
    have:ts.length<=i:=by simpa using z
    exact(dF (by omega)).symm
   |cons y r =>
    have:i<ts.length:=by by_cases c:i<ts.length;exact c;rw[WY (by omega)]at z;cases z
    exact(dT (by omega)).symm
  rw[f]at h;exact h
 |succ k C =>
  intro i hk F p e w A R s h;obtain⟨E,g,d,Z,K⟩:=s;obtain⟨hl,hb,h⟩:=h;wp_walk using Q5 hl,Q5 hb;have j:i<a.length:=by omega
  obtain⟨t,ev⟩:=P i a[i] (Qe j);have m:v[((i:Nat):Int).toNat]?=some (.str a[i] t):=by simpa using ev
  rw[m];have Y:a.drop i=a[i]::a.drop (i+1):=QAa j;rw[Y]at h;by_cases c:i<ts.length;obtain⟨u,J⟩:=N i ts[i] (Qe c);have f:x[((i:Nat):Int).toNat]?=some (.str ts[i] u):=by simpa using J
  have M:ts.drop i=ts[i]::ts.drop (i+1):=QAa c;rw[M]at h;have h:R (.ok (.ret (.bool (if(a[i]==ts[i])=true then ck (a.drop (i+1)) (ts.drop (i+1)) else decide (a[i].cps.toList<ts[i].cps.toList))))) _:=h;rw[f];refine QC (EqAt.str_str a[i] t ts[i] u e w _ _ ?_);have hc:((i:Int)+1)=((i+1:Nat):Int):=by push_cast;rfl
  cases q:(a[i]==ts[i]) with|true=>rw[q,if_pos rfl]at h;wp_walk;rw[hc];exact⟨QBs plain_eq_loop _,W7 entry_eq_loop (by rw[w6 plain_eq_loop _];exact C (i+1) (by omega) (by omega) (by omega) e w A R _ ⟨hl,hb,h⟩)⟩|false=>rw[q,if_neg QG]at h;wp_walk using Q5 hl,Q5 hb;rw[m,f];show wpAny _ _ (compareOp .Lt (.str a[i] t) (.str ts[i] u) >>= _) _ _ _;refine QC (QBS ?_);exact QK h
  have f:x[((i:Nat):Int).toNat]?=none:=by simp;omega
  rw[f];wp_walk using Q5 hl,Q5 hb;rw[WY (show ts.length<=i by omega)]at h;have:decide (v.size<x.size)=false:=dF (by omega);have h:R (.ok (.ret (.bool false))) _:=h;rw[<- this]at h;exact h
theorem MY(l b:Addr)(y x:Array Value)(n e:Nat)(f v:Option Addr)(a z:Array (Option Value))(k ts:LS)(j:StrsAre y.toList k)(i:StrsAre x.toList ts) :
  Meets (Builtin.«list.__lt__» ⟨[.ref l,.ref b],[]⟩)
   (λA R s=>s.heap.get? l=some { cls:=.type "list",dict:=f,data:=.seq y n,slots:=a }/\s.heap.get? b=some { cls:=.type "list",dict:=v,data:=.seq x e,slots:=z } /\
    R (.ok (.ret (.bool (ck k ts)))) s):=by
 intro u w A R s h;obtain⟨p,g,d,m,o⟩:=s;obtain⟨hl,hb,h⟩:=h;have q:=AutoSeq1.sub_list_list;wp_walk using Q5 hl,Q5 hb;exact⟨QBs plain_eq_loop _,W7 entry_eq_loop (by rw[w6 plain_eq_loop _];exact GY l b y x n e f v a z k ts j i _ 0 rfl (Qt _) (Qt _) u w A R _ ⟨hl,hb,h⟩)⟩
section
variable{prog:Program}{w:World}{A:Around}{E:uC}{s:Shared}
theorem sU{l b:Addr}{y x:Array Value}{n a:Nat}{e u:Option Addr}{k z:Array (Option Value)}{v ts:LS}{Q:Bool->Shared->Prop}(f:A.units<cLine)(hl:s.heap.get? l=some { cls:=.type "list",dict:=e,data:=.seq y n,slots:=k })(hb:s.heap.get? b=some { cls:=.type "list",dict:=u,data:=.seq x a,slots:=z })
  (i:StrsAre y.toList v) (g:StrsAre x.toList ts) (h:Q (ck v ts) s):wpAny (model prog w) A (keyLt' oneType' (.ref l) (.ref b)) Q E s:=by
 rw[keyLt'_oneType,oneLt'_eq];simp only[if_true];refine QC (wpAny_cRoomFor f (QC (wpAny_callSpecialIfBound?_slot (T:="list") ⟨_,hl,rfl⟩ F.slot_list_lt ?_)));refine QBy F.slot_list_lt ⟨_,hl,rfl⟩ F.entry_list_lt (F.args_list_lt_2 _ _) (MY l b y x n a e u k z v ts i g) ⟨hl,hb,?_⟩;exact wR h
end
end L2.L3
namespace L2.L3
open PySem PySem.Spec PyProof.Rows PySem.W
def MC{α:Type}(n:Nat)(P:α->Prop):KasT α->Prop
 | .ret a=>P a|.ask i j k=>i<n/\j<n/\∀b,MC n P (k b)
theorem MC.bnd{α x:Type}{n:Nat}{P:α->Prop}{R:x->Prop}{f:α->KasT x}(y:∀a,P a->MC n R (f a)):∀{t:KasT α},MC n P t->MC n R (t.bind f)
 | .ret a,h=>y a h|.ask i j k,⟨h1,h2,h⟩=>⟨h1,h2,λb=>MC.bnd y (h b)⟩
theorem MC.wp{α:Type}{n:Nat}{P:α->Prop}{x:Nat->Nat->(Bool->Shared->Prop)->Shared->Prop}{Q:α->Shared->Prop}{s:Shared}(y:∀i j,i<n->j<n->∀C:Bool->Shared->Prop,(∀b,C b s)->x i j C s)(z:∀a,P a->Q a s):∀{t:KasT α},MC n P t->t.kasWp x Q s
 | .ret a,h=>z a h|.ask i j k,⟨h1,h2,h⟩=>y i j h1 h2 _ λb=>MC.wp y z (h b)
def Pm(n:Nat)(p:Array Nat):Prop:=p.Perm (Q2 (Qj n))
section
variable{n:Nat}
section
variable{p:Array Nat}
theorem Pm.lt(h:Pm n p)(x:0<n)(i:Nat):p.getD i 0<n:=by
 by_cases c:i<p.size;have e:p.getD i 0=p[i]:=by simp[QBG,c]
 rw[e];have m:p[i]∈p.toList:=by simp
 have:=(Q3.mp h).mem_iff.mp m;simpa using this;have e:p.getD i 0=0:=by simp[QBG,c]
 rw[e];exact x
theorem Pm.rev(h:Pm n p)(i j:Nat):Pm n (kas_rev p i j):=(mirror_perm _ _ _ _).trans h
theorem VQ{p:Array Nat}(h:Pm n p)(x:0<n):∀(f m:Nat),MC n (λ_=>True) (kas_asc p f m)
 |0,m=>trivial|f+1,m=>⟨h.lt x _,h.lt x _,λb=>by
  cases b with|true=>exact trivial|false=>exact VQ h x f (m+1)⟩
theorem LI(x:0<n):∀(f:Nat) {p:Array Nat}(h:Pm n p) (m q:Nat),MC n (λr=>Pm n r.1) (kas_desc f p m q)
 |0,p,h,m,q=>h|f+1,p,h,m,q=>⟨h.lt x _,h.lt x _,λb=>by
  cases b with
  |true=>show MC n _ (if q > 0 then _ else _);split;exact LI x f (h.rev _ _) _ _;exact LI x f h _ _|false =>
   refine⟨h.lt x _,h.lt x _,λb=>?_⟩;cases b with|true=>exact h|false=>exact LI x f h _ _⟩
theorem YO(x:0<n)(h:Pm n p)(a b:Nat):MC n (λr=>Pm n r.2) (kas_tail3 a b p):=by refine MC.bnd (f:=λm=>.ret (m,kas_rev p 0 a)) (λm _=>?_) (VQ (h.rev _ _) x _ _);exact h.rev _ _
theorem HI(x:0<n)(h:Pm n p)(a b:Nat):MC n (λr=>Pm n r.2) (kas_descPart a b p):=by refine MC.bnd (λr y=>?_) (LI x _ h _ _);split;exact YO x (Pm.rev y _ _) _ _;exact YO x y _ _
theorem sZ(x:0<n)(h:Pm n p)(b:Nat):MC n (λr=>Pm n r.2) (kas_count b p):=by
 refine MC.bnd (λm _=>?_) (VQ h x _ _);split;exact h;split
 ·refine⟨h.lt x _,h.lt x _,λc=>?_⟩
  cases c with|true=>exact h|false=>exact HI x (h.rev _ _) _ _
 exact HI x h _ _
theorem HJ(x:0<n){p:Array Nat}(h:Pm n p)(k:Nat):∀(f l r:Nat),MC n (λ_=>True) (kas_place p k f l r)
 |0,l,r=>trivial|f+1,l,r=>by
  show MC n _ (if l ≥ r then _ else _);split;exact trivial;refine⟨h.lt x _,h.lt x _,λb=>?_⟩;cases b with|true=>exact HJ x h k f _ _|false=>exact HJ x h k f _ _
theorem UX(x:0<n):∀(f:Nat) {p:Array Nat}(h:Pm n p) (k:Nat),MC n (Pm n) (kas_bin f p k)
 |0,p,h,k=>h|f+1,p,h,k=>MC.bnd (λl _=>UX x f ((bubble_perm _ _ _).trans h) _) (HJ x h _ _ _ _)
theorem O6(x:0<n):MC n (Pm n) (kas_sort n):=by refine MC.bnd (λr h=>?_) (sZ x (W8 _) _);split;exact UX x _ h _;exact h
end
end
theorem oG{α:Type}(vs:List α)(d:α):(Qj vs.length).map (λi=>vs.getD i d)=vs:=by apply qU;intro i;rw[QX];by_cases c:i<vs.length;rw[wE c];simp[c];rw[Qk (by simp;omega),Qk (by omega)];rfl
section
variable{prog:Program}{w:World}{A:Around}{E:uC}{s:Shared}
section
variable{vs:LW}{R:Array Nat->Prop}{l:Addr}{Q:uC}
theorem Rn{M:Model}{Q:SortKind->Shared->Prop}(k:2<=vs.length)(z:∀v∈vs,s.TypeIs v "list")(h:Q oneType' s):wpAny M A (keyKind' vs.toArray) Q E s:=by
 cases vs with
 |nil=>simp at k|cons v r =>
  rw[keyKind'_eq,QB2,map_eq_pure_bind];refine QC (QC (kas_mapM (r:=none) _ (λu y e q=>?_) (QK ?_)));rw[kas_first_eq];exact QC (QCA (z u y) (QK q));rw[if_neg (by simp),if_neg (by simp),oneTypeOnly'_eq,QB2,map_eq_pure_bind];refine QC (QC (QC (kas_mapM (r:=.type "list") _ (λu y e q=>QCA (z u y) q) (QK ?_))));have b:((v::r).map λ_=>Value.type "list").toArray[0]?=some (.type "list"):=by simp
  have a:(((v::r).map λ_=>Value.type "list").toArray.all λx=>x==Value.type "list")=true:=by simp only[List.all_toArray,List.all_map,Qw];intro _ _;rfl
  rw[b];simp only[a,if_true];exact QK (QK h)
theorem Mh{κ:SortKind}{a:Addr}{n:Nat}{P:PySem.Fin->Shared->Prop}(m:s.heap.get? a=some (seqObj "list" vs.toArray n))(W:vs.length<64)
  (kind:2<=vs.length->∀u:Heap,(∀b o,b≠a->s.heap.get? b=some o->u.get? b=some o)->∀Q:SortKind->Shared->Prop,Q κ { s with heap:=u }->wpAny (model prog w) A (keyKind' vs.toArray) Q E { s with heap:=u })
  (h:2<=vs.length->∀u:Heap,(∀b o,b≠a->s.heap.get? b=some o->u.get? b=some o)->(kas_sort vs.length).kasWp (kas_ask prog w A κ vs) (λp s'=>s'={ s with heap:=u }/\Pm vs.length p/\R p) { s with heap:=u })
  (B:vs.length<2->R (Q2 (Qj vs.length)))
  (k:∀p:Array Nat,Pm vs.length p->R p->P (.done (.ret .none)) { s with heap:=sortedHeap s.heap a vs (p.toList.map λi=>vs.getD i Jz).toArray }):wpAny (model prog w) A (Builtin.«list.sort» ⟨[.ref a],[]⟩) P E s:=by
 have S:a<s.heap.objs.size:=Qa m;have F:=qC s.heap a (qE λ_=>(#[]:Array Value));obtain⟨q,j⟩:∃q,(s.heap.update a (qE λ_=>(#[]:Array Value))).get? a=some (seqObj "list" #[] q):=⟨_,W9 m λ_=>#[]⟩
 have g:(((s.heap.update a (qE λ_=>(#[]:Array Value))).push (seqObj "tuple" vs.toArray 0)).push (seqObj "list" #[] 0)).get? a=some (seqObj "list" #[] q):=QH _ (QH _ j);have kept:∀b o,b≠a->s.heap.get? b=some o->(((s.heap.update a (qE λ_=>(#[]:Array Value))).push (seqObj "tuple" vs.toArray 0)).push (seqObj "list" #[] 0)).get? b=some o:=λb o hb e=>QH _ (QH _ ((F.2 b hb).trans e));rw[list_sort_plain];refine QC (QCC m rfl (QC (WQ m rfl ?_ (by rw[QN];omega) (Qt _))));refine QC (QBY j rfl (QC (QBR ?_ (by show vs.length<=_;omega))));refine QC (QAn (qk ?_) (Qt _));show wpAny (model prog w) A _ P E { s with heap:=((s.heap.update a (qE λ_=>(#[]:Array Value))).push (seqObj "tuple" vs.toArray 0)).push (seqObj "list" #[] 0) };dsimp only;have fin:∀p:Array Nat,Pm vs.length p->R p->wpAny (model prog w) A (do
   let x:=(<- seqEpoch a) != q
   Builtin.List.listUpdate (.ref a) λ_=>(p.toList.map λi=>vs.getD i Jz).toArray
   if x then rule "list.sort.modified";raiseError "ValueError" "list modified during sort"
   ret .none) P E { s with heap:=((s.heap.update a (qE λ_=>(#[]:Array Value))).push (seqObj "tuple" vs.toArray 0)).push (seqObj "list" #[] 0) }:=λp X Z=>by
  have hl:p.toList.length=vs.length:=by have:=X.size_eq;simpa using this
  refine QC (QBY g rfl (QC (WQ g rfl ?_ (Qt _) (by rw[QN,QD];omega))));simp only[bne_self_eq_false,Qr,if_false];exact QK (k p X Z)
 by_cases K:vs.length<2;have z:vs.toArray.size<2:=by rw[QN];exact K
 rw[if_pos z,if_pos z];refine QC (QK ?_);rw[QCR];refine QC (QK ?_);have e:(arrOf (QB3 general' (vs.toArray.zip vs.toArray) #[] 7 none)).map (·.2)=vs.toArray:=by show(vs.toArray.zip vs.toArray).map (·.2)=_;apply WB.mp;simp[WC]
 dsimp only;rw[e];have r:=fin (Q2 (Qj vs.length)) (W8 _) (B K);rw[show((Q2 (Qj vs.length)).toList.map λi=>vs.getD i Jz)=vs from oG vs Jz]at r;exact r;have z:¬ vs.toArray.size<2:=by rw[QN];exact K
 rw[if_neg z,if_neg z];refine QC (kind (by omega) _ kept _ ?_);have C:QB3 κ (vs.toArray.zip vs.toArray) #[] 7 none=kas_st κ (pairsOf vs) (Q2 (Qj vs.length)):=by have e:=kas_range (pairsOf vs);rw[pairsOf_size]at e;show QB3 κ (pairsOf vs) #[] 7 none=QB3 κ ((Q2 (Qj vs.length)).map (kas_item (pairsOf vs))) #[] 7 none;rw[e]
 have h:=h (by omega) _ kept;rw[kas_ask_eq]at h;have v:=kas_runs (prog:=prog) (w:=w) (A:=A) (E:=E) (Q:=λ_ y s'=>∃p:Array Nat,p.size=vs.length/\arrOf y=p.map (kas_item (pairsOf vs))/\failedOf y=none/\s'={ s with heap:=((s.heap.update a (qE λ_=>(#[]:Array Value))).push (seqObj "tuple" vs.toArray 0)).push (seqObj "list" #[] 0) }/\Pm vs.length p/\R p)
  (by omega) W (λI y s' O N M L=>⟨I,O,N,M,L⟩) h
 rw[<- C]at v;refine QC (qt v ?_ λ_ _ e=>e);rintro⟨⟨⟩,y⟩ s' ⟨p,X,Y,J,rfl,G,Z⟩;dsimp only;have f:(arrOf y).map (·.2)=Q2 (p.toList.map λi=>vs.getD i Jz):=by apply WB.mp;rw[Y,Array.map_map,Array.toList_map];exact qK λi _=>by show(kas_item (pairsOf vs) i).2=_;rw[kas_item_eq]
 rw[f,J];exact fin p G Z
theorem fW{κ:SortKind}(hl:s.heap.IsList l vs.toArray)(e:vs.length<64)
  (kind:2<=vs.length->∀h:Heap,(∀b o,s.heap.get? b=some o->h.get? b=some o)->∀Q:SortKind->Shared->Prop,Q κ { s with heap:=h }->wpAny (model prog w) A.in1.in1 (keyKind' vs.toArray) Q E { s with heap:=h })
  (x:2<=vs.length->∀h:Heap,(∀b o,s.heap.get? b=some o->h.get? b=some o)->(kas_sort vs.length).kasWp (kas_ask prog w A.in1.in1 κ vs) (λp s'=>s'={ s with heap:=h }/\Pm vs.length p/\R p) { s with heap:=h })
  (g:vs.length<2->R (Q2 (Qj vs.length)))
  (k:∀p:Array Nat,Pm vs.length p->R p->Q (.ref (s.heap.objs.size+1)) { s with heap:=sortedAll s.heap vs (p.toList.map λi=>vs.getD i Jz).toArray }):wpAny (model prog w) A (call (.builtin "sorted") [.ref l]) Q E s:=by
 refine Calls.call_function_entry kind_sorted plain_sorted entry_sorted (args_sorted1 _) ?_;unfold Builtin.«sorted»;refine QC (m:=checkCount "sorted" 1 1 _) (QK (QC (collect_list hl ?_ (by omega))));refine QC (QAn ?_ (by show vs.length<=_;omega));have z:((s.heap.push (seqObj "list" #[] 0)).update s.heap.objs.size (qE (·++vs.toArray))).objs.size=s.heap.objs.size+1:=by rw[QCJ,size_push']
 have u:(((s.heap.push (seqObj "list" #[] 0)).update s.heap.objs.size (qE (·++vs.toArray))).push (seqObj "list" vs.toArray 0)).get? (s.heap.objs.size+1)=some (seqObj "list" vs.toArray 0):=by rw[<- z];exact QT _ rfl
 have v:∀b o,s.heap.get? b=some o->(((s.heap.push (seqObj "list" #[] 0)).update s.heap.objs.size (qE (·++vs.toArray))).push (seqObj "list" vs.toArray 0)).get? b=some o:=λb o q=>by have a:b<s.heap.objs.size:=Qa q;refine QH _ ?_;rw[Heap.get?_update_ne _ _ _ _ (Qn a)];exact QH _ q
 show wpAny _ _ _ _ _ { s with heap:=((s.heap.push (seqObj "list" #[] 0)).update s.heap.objs.size (qE (·++vs.toArray))).push (seqObj "list" vs.toArray 0) };rw[z];refine QC (qk (qL slot_list_sort ⟨_,u,rfl⟩ entry_list_sort ?body (args_list_sort _)))
 case body=>have j:∀h:Heap,(∀b o,b≠s.heap.objs.size+1->(((s.heap.push (seqObj "list" #[] 0)).update s.heap.objs.size (qE (·++vs.toArray))).push (seqObj "list" vs.toArray 0)).get? b=some o->h.get? b=some o)->∀b o,s.heap.get? b=some o->h.get? b=some o:=λh y b o q=>y b o (Qn (Wa (Qa q))) (v b o q);exact Mh (s:={ s with heap:=((s.heap.push (seqObj "list" #[] 0)).update s.heap.objs.size (qE (·++vs.toArray))).push (seqObj "list" vs.toArray 0) }) u e (λf h y=>kind f h (j h y)) (λf h y=>x f h (j h y)) g λp n r=>⟨_,rfl,QK ⟨_,rfl,k p n r⟩⟩
theorem C8{p:Array Nat}(h:Pm vs.length p):(p.toList.map λi=>vs.getD i Jz).Perm vs:=by refine((Q3.mp h).map λi=>vs.getD i Jz).trans ?_;show((Qj vs.length).map λi=>vs.getD i Jz).Perm vs;rw[oG]
theorem b8(hl:s.heap.IsList l vs.toArray)(f:vs.length<64)(Y:∀v∈vs,∃b o,v=.ref b/\s.heap.get? b=some o/\o.cls=.type "list")
  (g:∀h:Heap,(∀b o,s.heap.get? b=some o->h.get? b=some o)->∀x∈vs,∀y∈vs,∀C:Bool->Shared->Prop,(∀k,C k { s with heap:=h })->wpAny (model prog w) A.in1.in1 (keyLt' oneType' x y) C (λ_ _=>False) { s with heap:=h })
  (k:∀out:LW,out.Perm vs->Q (.ref (s.heap.objs.size+1)) { s with heap:=sortedAll s.heap vs out.toArray }):wpAny (model prog w) A (call (.builtin "sorted") [.ref l]) Q E s:=by
 refine fW (κ:=oneType') (R:=λ_=>True) hl f (λm h z Q q=>Rn m (λv hv=>?_) q) (λm h z=>?_) (λ_=>trivial) λp u _=>k _ (C8 u);obtain⟨b,o,rfl,e,c⟩:=Y v hv;exact⟨o,z b o e,c⟩;have r:∀i,i<vs.length->vs.getD i Jz∈vs:=λi a=>by
  have:vs.getD i Jz=vs[i]:=by simp[a]
  rw[this];exact wk _
 exact MC.wp (λi j a X C Z=>g _ z _ (r i a) _ (r j X) C Z) (λp u=>⟨rfl,u,trivial⟩) (O6 (n:=vs.length) (by omega))
end
end
def zH{α:Type}(n:Nat)(lt:Nat->Nat->Bool)(P:α->Prop):KasT α->Prop
 | .ret a=>P a|.ask i j k=>(i<n/\j<n/\i≠j)/\zH n lt P (k (lt i j))
theorem zH.bnd{α x:Type}{n:Nat}{lt:Nat->Nat->Bool}{P:α->Prop}{R:x->Prop}{f:α->KasT x}(y:∀a,P a->zH n lt R (f a)):∀{t:KasT α},zH n lt P t->zH n lt R (t.bind f)
 | .ret a,h=>y a h|.ask _ _ _,⟨h1,h⟩=>⟨h1,zH.bnd y h⟩
theorem zH.imp{α:Type}{n:Nat}{lt:Nat->Nat->Bool}{P R:α->Prop}(x:∀a,P a->R a):∀{t:KasT α},zH n lt P t->zH n lt R t
 | .ret a,h=>x a h|.ask _ _ _,⟨h1,h⟩=>⟨h1,zH.imp x h⟩
theorem zH.wp{α:Type}{n:Nat}{lt:Nat->Nat->Bool}{P:α->Prop}{x:Nat->Nat->(Bool->Shared->Prop)->Shared->Prop}{Q:α->Shared->Prop}{s:Shared}(y:∀i j,i<n->j<n->i≠j->∀C:Bool->Shared->Prop,C (lt i j) s->x i j C s)(z:∀a,P a->Q a s):∀{t:KasT α},zH n lt P t->t.kasWp x Q s
 | .ret a,h=>z a h|.ask i j _,⟨⟨h1,h2,h3⟩,h⟩=>y i j h1 h2 h3 _ (zH.wp y z h)
def lI(lt:Nat->Nat->Bool)(a b:Nat):Prop:=lt b a=false
structure Ord(lt:Nat->Nat->Bool):Prop where
 asy:∀a b,lt a b=true->lt b a=false
 tr:∀a b c,lI lt a b->lI lt b c->lI lt a c
noncomputable def gD(p:Array Nat)(i:Nat):Nat:=p.getD i 0
theorem ZS{p q:Array Nat}{i j:Nat}(h:p[i]?=q[j]?):gD p i=gD q j:=by unfold gD;rw[QAA,QAA,h]
def Up(lt:Nat->Nat->Bool)(p:Array Nat)(k:Nat):Prop:=∀i j,i<=j->j<k->lI lt (gD p i) (gD p j)
def Dn(lt:Nat->Nat->Bool)(p:Array Nat)(k:Nat):Prop:=∀i j,i<=j->j<k->lI lt (gD p j) (gD p i)
theorem Pm.two{n:Nat}{p:Array Nat}(h:Pm n p){a b:Nat}(w:a<n)(hb:b<n)(z:a≠b):p.getD a 0<n/\p.getD b 0<n/\p.getD a 0≠p.getD b 0:=by
 have u:p.size=n:=by have:=h.size_eq;simpa using this
 have x:0<n:=by omega
 refine⟨h.lt x a,h.lt x b,λe=>?_⟩;have nd:p.toList.Nodup:=(Q3.mp h).nodup_iff.mpr (by simpa using QCK);have y:∀i,i<n->p.toList[i]?=some (p.getD i 0):=λi v=>by rw[wu,Array.getElem?_eq_getElem (by omega)];simp[QBG,u,v]
 exact z ((QB4 (by rw[Ql];omega) nd).mp ((y a w).trans ((congrArg some e).trans (y b hb).symm)))
section
variable{lt:Nat->Nat->Bool}{p:Array Nat}
theorem xP{i j:Nat}(h:j<=p.size)(k:Nat):gD (kas_rev p i j) k=if i<=k/\k<j then gD p (i+j - 1 - k) else gD p k:=by have:=getElem?_mirror_all (xs:=p) (i:=i) h k;split;rename_i c;rw[if_pos c]at this;exact ZS this;rename_i c;rw[if_neg c]at this;exact ZS this
theorem tV{a b k:Nat}(hb:b<=p.size)(hk:Dn lt p k)(e:∀x y,a<=x->x<b->a<=y->y<b->lI lt (gD p x) (gD p y))(w:b<=k):Dn lt (kas_rev p a b) k:=λi j v z=>by rw[xP hb,xP hb];by_cases u:a<=i/\i<b;rw[if_pos u];by_cases h:a<=j/\j<b;rw[if_pos h];exact e _ _ (by omega) (by omega) (by omega) (by omega);rw[if_neg h];exact hk _ _ (by omega) z;rw[if_neg u];by_cases h:a<=j/\j<b;rw[if_pos h];exact hk _ _ (by omega) (by omega);rw[if_neg h];exact hk _ _ v z
theorem Tf{k:Nat}(hk:k<=p.size)(h:Dn lt p k):Up lt (kas_rev p 0 k) k:=λi j y x=>by rw[xP hk,xP hk,if_pos (by omega),if_pos (by omega)];exact h _ _ (by omega) (by omega)
theorem F6{k d:Nat}(h:k<p.size)(x:d<=k)(i:Nat):gD (bubble p k d) i=if i=k - d then gD p k else if k - d<i/\i<=k then gD p (i - 1) else gD p i:=by have:=getElem?_bubble h d x i;split;rename_i c;rw[if_pos c]at this;exact ZS this;rename_i c;rw[if_neg c]at this;split;rename_i c2;rw[if_pos c2]at this;exact ZS this;rename_i c2;rw[if_neg c2]at this;exact ZS this
end
section
variable{n:Nat}{lt:Nat->Nat->Bool}(o:Ord lt){p:Array Nat}
include o
theorem Ord.re(a:Nat):lI lt a a:=by
 unfold lI;cases h:lt a a with|false=>rfl|true=>exact(o.asy a a h).symm.trans h |>.symm▸rfl
theorem Ord.le{a b:Nat}(h:lt a b=true):lI lt a b:=o.asy a b h
theorem j0:Up lt p 1:=λi j x h=>by
 obtain rfl:i=j:=by omega
 exact o.re _
theorem P7{k:Nat}(z:1<=k)(h:Up lt p k)(l:lI lt (gD p (k - 1)) (gD p k)):Up lt p (k+1):=λi j x y=>by
 by_cases e:j<k;exact h i j x e;obtain rfl:j=k:=by omega
 by_cases e:i=j;subst e;exact o.re _;exact o.tr _ _ _ (h i (j - 1) (by omega) (by omega)) l
theorem YI{k:Nat}(z:1<=k)(h:Dn lt p k)(l:lI lt (gD p k) (gD p (k - 1))):Dn lt p (k+1):=λi j x y=>by
 by_cases e:j<k;exact h i j x e;obtain rfl:j=k:=by omega
 by_cases e:i=j;subst e;exact o.re _;exact o.tr _ _ _ l (h i (j - 1) (by omega) (by omega))
theorem YU(h:Pm n p)(v:0<n):∀(f m:Nat),1<=m->m+f<=n->Up lt p m->zH n lt (λr=>m<=r/\r<=m+f/\Up lt p r/\(r<m+f->lt (gD p r) (gD p (r - 1))=true)) (kas_asc p f m)
 |0,m,h1,h2,u=>⟨QW _,QW _,u,λz=>absurd z (by omega)⟩|f+1,m,h1,h2,u=>by
  refine⟨h.two (by omega) (by omega) (by omega),?_⟩;cases c:lt (p.getD m 0) (p.getD (m - 1) 0) with|true=>exact⟨QW _,by omega,u,λ_=>c⟩|false=>have y:=YU h v f (m+1) (by omega) (by omega) (P7 o h1 u c);show zH n lt _ (kas_asc p f (m+1));rw[show m+1+f=m+(f+1) by omega]at y;exact zH.imp (λr x=>⟨by omega,x.2.1,x.2.2.1,x.2.2.2⟩) y
theorem BK(w:0<n):∀(f:Nat) {p:Array Nat}(m q:Nat),Pm n p->q+1<=m->m+f<=n->Dn lt p m->(∀x y,m - (q+1)<=x->x<m->m - (q+1)<=y->y<m->lI lt (gD p x) (gD p y)) ->
  zH n lt (λr=>Pm n r.1/\r.2.2+1<=r.2.1/\r.2.1<=n/\Dn lt r.1 r.2.1/\∀x y,r.2.1 - (r.2.2+1)<=x->x<r.2.1->r.2.1 - (r.2.2+1)<=y->y<r.2.1->lI lt (gD r.1 x) (gD r.1 y)) (kas_desc f p m q)
 |0,p,m,q,h,hq,hm,d,al=>⟨h,hq,by omega,d,al⟩|f+1,p,m,q,h,hq,hm,d,al=>by
  have s:p.size=n:=by have:=h.size_eq;simpa using this
  refine⟨h.two (by omega) (by omega) (by omega),?_⟩;cases c:lt (p.getD m 0) (p.getD (m - 1) 0) with
  |true =>
   have l:lI lt (gD p m) (gD p (m - 1)):=o.le c;show zH n lt _ (if q > 0 then kas_desc f (kas_rev p (m - (q+1)) m) (m+1) 0 else kas_desc f p (m+1) 0);have one:∀{p:Array Nat}(x y:Nat),m+1 - (0+1)<=x->x<m+1->m+1 - (0+1)<=y->y<m+1->lI lt (gD p x) (gD p y):=λx y a v k u=>by
    obtain rfl:x=y:=by omega
    exact o.re _
   split;refine BK w f (m+1) 0 (h.rev _ _) (by omega) (by omega) ?_ one;exact tV (by omega) (YI o (by omega) d l) (λx y a v k u=>al x y a v k u) (by omega);exact BK w f (m+1) 0 h (by omega) (by omega) (YI o (by omega) d l) one
  |false =>
   refine⟨h.two (by omega) (by omega) (by omega),?_⟩;cases e:lt (p.getD (m - 1) 0) (p.getD m 0) with
   |true=>exact⟨h,hq,show m<=n by omega,d,al⟩|false =>
    have j:lI lt (gD p (m - 1)) (gD p m):=c;have g:lI lt (gD p m) (gD p (m - 1)):=e;refine BK w f (m+1) (q+1) h (by omega) (by omega) (YI o (by omega) d g) λx y a v k u=>?_;have b:∀x,m - (q+1)<=x->x<m+1->lI lt (gD p x) (gD p m)/\lI lt (gD p m) (gD p x):=λx i X=>by by_cases z:x=m;subst z;exact⟨o.re _,o.re _⟩;exact⟨o.tr _ _ _ (al x (m - 1) i (by omega) (by omega) (by omega)) j,o.tr _ _ _ g (al (m - 1) x (by omega) (by omega) i (by omega))⟩
    exact o.tr _ _ _ (b x (by omega) v).1 (b y (by omega) u).2
theorem HR(h:Pm n p)(z:0<n){a:Nat}(y:1<=a)(v:a<=n)(d:Dn lt p a):zH n lt (λr=>Pm n r.2/\r.1<=n/\Up lt r.2 r.1) (kas_tail3 a n p):=by
 have u:p.size=n:=by have:=h.size_eq;simpa using this
 refine zH.bnd (f:=λm=>.ret (m,kas_rev p 0 a)) (λm x=>?_) (YU o (h.rev 0 a) z (n - a) a y (by omega) (Tf (by omega) d));exact⟨h.rev _ _,by omega,x.2.2.1⟩
theorem uK(h:Pm n p)(z:0<n){a:Nat}(g:1<=a)(f:a+1<=n)(d:Dn lt p (a+1)):zH n lt (λr=>Pm n r.2/\r.1<=n/\Up lt r.2 r.1) (kas_descPart a n p):=by
 refine zH.bnd (λr k=>?_) (BK o z (n - (a+1)) (a+1) 0 h (by omega) (by omega) d λx y q m l j=>?_);obtain⟨u,i,w,v,b⟩:=k;have e:r.1.size=n:=by have:=u.size_eq;simpa using this
 split;exact HR o (u.rev _ _) z (by omega) w (tV (by omega) v b (QW _));exact HR o u z (by omega) w v;obtain rfl:x=y:=by omega
 exact o.re _
theorem R3(h:Pm n p)(z:0<n):zH n lt (λr=>Pm n r.2/\r.1<=n/\Up lt r.2 r.1) (kas_count n p):=by
 have Y:p.size=n:=by have:=h.size_eq;simpa using this
 refine zH.bnd (λm f=>?_) (YU o h z (n - 1) 1 (QW _) (by omega) (j0 o));obtain⟨w,s,u,st⟩:=f;split;exact⟨h,by omega,u⟩;rename_i v;have v:m≠n:=λe=>v (by rw[e];exact beq_self_eq_true _);have st:=st (by omega);have l:lI lt (gD p m) (gD p (m - 1)):=o.le st;split;rename_i g1;refine⟨h.two (by omega) (by omega) (by omega),?_⟩;cases c:lt (p.getD 0 0) (p.getD (m - 1) 0) with|true=>exact⟨h,by omega,u⟩|false=>have c:lI lt (gD p (m - 1)) (gD p 0):=c;have a:∀x y,x<m->y<m->lI lt (gD p x) (gD p y):=λx y X b=>o.tr _ _ _ (u x (m - 1) (by omega) (by omega)) (o.tr _ _ _ c (u 0 y (by omega) b));refine uK o (h.rev _ _) z w (by omega) (tV (by omega) (YI o w (λi j _ k=>a j i k (by omega)) l) (λx y _ q _ g=>a x y q g) (by omega))
 obtain rfl:m=1:=by omega
 refine uK o h z (QW _) (by omega) (YI o (QW _) (λi j Z k=>?_) l);obtain rfl:i=j:=by omega
 exact o.re _
theorem EL(h:Pm n p){k:Nat}(hk:k<n)(u:Up lt p k):∀(f l r:Nat),l<=r->r<=k->r - l<=f->(∀i,i<l->lI lt (gD p i) (gD p k))->(∀i,r<=i->i<k->lI lt (gD p k) (gD p i))->zH n lt (λl=>l<=k/\(∀i,i<l->lI lt (gD p i) (gD p k))/\∀i,l<=i->i<k->lI lt (gD p k) (gD p i)) (kas_place p k f l r)
 |0,l,r,h1,h2,h3,h4,h5=>⟨by omega,h4,λi x hk=>h5 i (by omega) hk⟩|f+1,l,r,h1,h2,h3,h4,h5=>by
  show zH n lt _ (if l ≥ r then _ else _);split;exact⟨by omega,h4,λi x hk=>h5 i (by omega) hk⟩;refine⟨h.two hk (by omega) (by omega),?_⟩;cases c:lt (p.getD k 0) (p.getD ((l+r) / 2) 0) with|true=>exact EL h hk u f _ _ (by omega) (by omega) (by omega) h4 λi x hk=>o.tr _ _ _ (o.le c) (u _ _ x hk)|false=>exact EL h hk u f _ _ (by omega) (by omega) (by omega) (λi x=>o.tr _ _ _ (u i ((l+r) / 2) (by omega) (by omega)) c) h5
theorem JU(e:0<n):∀(f:Nat) {p:Array Nat}(k:Nat),Pm n p->k+f=n->Up lt p k->zH n lt (λr=>Pm n r/\Up lt r n) (kas_bin f p k)
 |0,p,k,h,hk,u=>⟨h,by rw[<- hk];exact u⟩|f+1,p,k,h,hk,u=>by
  have m:p.size=n:=by have:=h.size_eq;simpa using this
  refine zH.bnd (λl hl=>?_) (EL o h (by omega) u k 0 k (Qt _) (QW _) (by omega) (λi y=>absurd y (by omega)) λi y hk=>absurd hk (by omega));obtain⟨g,b,a⟩:=hl;refine JU e f (k+1) ((bubble_perm _ _ _).trans h) (by omega) λi j y q=>?_;rw[F6 (by omega) (by omega),F6 (by omega) (by omega),show k - (k - l)=l by omega];by_cases w:i=l;rw[if_pos w];by_cases x:j=l;rw[if_pos x];exact o.re _;rw[if_neg x,if_pos (by omega)];exact a _ (by omega) (by omega);rw[if_neg w];by_cases x:j=l;rw[if_pos x,if_neg (by omega)];exact b _ (by omega);rw[if_neg x];by_cases v:l<i/\i<=k;rw[if_pos v,if_pos (by omega)];exact u _ _ (by omega) (by omega);rw[if_neg v];by_cases z:l<j/\j<=k;rw[if_pos z];exact u _ _ (by omega) (by omega);rw[if_neg z];exact u _ _ y (by omega)
theorem NW(y:0<n):zH n lt (λr=>Pm n r/\Up lt r n) (kas_sort n):=by
 refine zH.bnd (λr z=>?_) (R3 o (W8 _) y);obtain⟨x,u,h⟩:=z;split;by_cases c:1<=r.1
 ·rw[Nat.max_eq_left c]
  exact JU o y _ _ x (by omega) h
 rw[Nat.max_eq_right (by omega)];exact JU o y _ _ x (by omega) (j0 o);rw[show r.1=n by omega]at h;exact⟨x,h⟩
end
open PySem.SeqAt
open AutoSeq1 (wpAny_loadPart')
structure Tot{α:Type}(lt:α->α->Bool):Prop where
 asy:∀a b,lt a b=true->lt b a=false
 tr:∀a b c,lt b a=false->lt c b=false->lt c a=false
 eq:∀a b,lt a b=false->lt b a=false->a=b
noncomputable def OQ{α:Type}[DecidableEq α](lt:α->α->Bool):List α->List α->Bool
 |x::a,y::b=>if x=y then OQ lt a b else lt x y|[],_::_=>true|_,[]=>false
section
variable{α:Type}[DecidableEq α]{lt:α->α->Bool}(t:Tot lt)
include t
theorem Zd:∀a b:List α,OQ lt a b=true->OQ lt b a=false
 |x::a,y::b,h=>by unfold OQ at h ⊢;by_cases e:x=y;subst e;rw[if_pos rfl]at h ⊢;exact Zd a b h;rw[if_neg e]at h;rw[if_neg (qD e)];exact t.asy _ _ h|[],_::_,_=>rfl|[],[],h=>by cases h|_::_,[],h=>by cases h
theorem so:∀a b:List α,OQ lt a b=false->OQ lt b a=false->a=b
 |x::a,y::b,h,k=>by unfold OQ at h k;by_cases e:x=y;subst e;rw[if_pos rfl]at h k;rw[so a b h k];rw[if_neg e]at h;rw[if_neg (qD e)]at k;exact absurd (t.eq _ _ h k) e|[],_::_,h,_=>by cases h|[],[],_,_=>rfl|_::_,[],_,h=>by cases h
theorem oo:∀a b c:List α,OQ lt b a=false->OQ lt c b=false->OQ lt c a=false
 |x::a,y::b,z::c,h,k=>by unfold OQ at h k ⊢;by_cases e:y=x;subst e;rw[if_pos rfl]at h;by_cases u:z=y;subst u;rw[if_pos rfl]at k ⊢;exact oo a b c h k;rw[if_neg u]at k ⊢;exact k;rw[if_neg e]at h;by_cases u:z=y;subst u;rw[if_neg e];exact h;rw[if_neg u]at k;rw[if_neg λv:z=x=>e (t.eq _ _ h (by rw[v]at k;exact k))];exact t.tr _ _ _ h k|[],[],[],_,_=>rfl|[],_,_::_,_,_=>rfl|_::_,_,[],h,k=>by
  rename_i b;cases b with|nil=>cases h|cons _ _=>cases k
 |_::_,[],_::_,h,_=>by cases h|[],_::_,[],_,h=>by cases h
theorem gX:Tot (OQ lt):=⟨Zd t,oo t,so t⟩
end
section
variable{h h':Heap}{v:Value}
noncomputable def Hh(x y:Str):Bool:=decide (x.cps.toList<y.cps.toList)
theorem SN:Tot Hh where
 asy a b h:=dF (QAB.mpr (List.le_of_lt (of_decide_eq_true h)))
 tr a b c h k:=dF (QAB.mpr (List.le_trans (QAB.mp (of_decide_eq_false h)) (QAB.mp (of_decide_eq_false k))))
 eq a b h k:=by have:=List.le_antisymm (QAB.mp (of_decide_eq_false k)) (QAB.mp (of_decide_eq_false h));obtain⟨⟨a⟩⟩:=a;obtain⟨⟨b⟩⟩:=b;cases this;rfl
inductive Ky where
 |i (n:Int)|s (x:Str)|l (x:LS)
 deriving DecidableEq
noncomputable def Ky.kd:Ky->Nat
 | .i _=>0|.s _=>1|.l _=>2
noncomputable def jq:Ky->Ky->Bool
 | .i a,.i b=>decide (a<b)|.s a,.s b=>Hh a b|.l a,.l b=>OQ Hh a b|a,b=>decide (a.kd<b.kd)
theorem Ck:Tot jq where
 asy a b h:=by cases a<;>cases b<;>first|exact SN.asy _ _ h|exact(gX SN).asy _ _ h|rfl | (cases h;done)|exact dF (by have:=of_decide_eq_true h;omega)
 tr a b c h k:=by cases a<;>cases b<;>first | (cases h;done) | (cases c<;>first | (cases k;done)|rfl|exact SN.tr _ _ _ h k|exact(gX SN).tr _ _ _ h k|exact dF (by have:=of_decide_eq_false h;have:=of_decide_eq_false k;omega))
 eq a b h k:=by cases a<;>cases b<;>first | (cases h;done) | (cases k;done)|exact congrArg _ (SN.eq _ _ h k)|exact congrArg _ ((gX SN).eq _ _ h k)|exact congrArg _ (by have:=of_decide_eq_false h;have:=of_decide_eq_false k;omega)
def ltR:List Ky->List Ky->Bool:=OQ jq
def ZZ(a b:List Ky):Prop:=ltR b a=false
theorem YR:Tot ltR:=gX Ck
theorem ca{a b:List (List Ky)}(p:a.Perm b)(z:a.Pairwise ZZ)(hb:b.Pairwise ZZ):a=b:=p.eq_of_pairwise (λx y _ _ h k=>YR.eq x y k h) z hb
noncomputable def A4(x:List (List Ky))(i j:Nat):Bool:=ltR (x.getD i []) (x.getD j [])
theorem T4(x:List (List Ky)):Ord (A4 x):=⟨λ_ _ h=>YR.asy _ _ h,λ_ _ _ h k=>YR.tr _ _ _ h k⟩
def Cj(y:List (List Ky)):Prop:=∃k x,k<2/\∀r∈y,r.map Ky.kd=k::x
def k7(h:Heap)(v:Value):Ky->Prop
 | .i n=>∃t,v=.int n t|.s x=>∃t,v=.str x t|.l z=>∃a y,v=.ref a/\h.IsTuple a y/\StrsAre y.toList z
def MI(h:Heap)(v:Value)(r:List Ky):Prop:=∃a o n x,v=.ref a/\h.get? a=some o/\o.cls=.type "tuple"/\o.data=.seq (Q2 x) n/\Paired (k7 h) x r
theorem k7.keep(y:∀b o,h.get? b=some o->h'.get? b=some o){k:Ky}(t:k7 h v k):k7 h' v k:=by
 cases k with|l z=>obtain⟨a,x,e,⟨o,g,c⟩,st⟩:=t;exact⟨a,x,e,⟨o,y _ _ g,c⟩,st⟩|_=>exact t
theorem MI.keep(x:∀b o,h.get? b=some o->h'.get? b=some o){r:List Ky}(t:MI h v r):MI h' v r:=by obtain⟨a,o,n,y,e,g,c,d,p⟩:=t;exact⟨a,o,n,y,e,x _ _ g,c,d,L2.Paired.mapP p λ_ _ t=>t.keep x⟩
theorem SW{vs:LW}{y:LS}(st:StrsAre vs y):NKvs h (y.map NK.s) vs:=by
 induction st with|nil=>exact rfl|cons x t _ z=>exact⟨_,_,rfl,⟨t,rfl⟩,z⟩
theorem Oc:∀l:LS,nkds (l.map NK.s)=0
 |[]=>rfl|x::l=>by show max 0 (nkds (l.map NK.s))=0;rw[Oc l];rfl
end
section
variable{prog:Program}{w:World}{A:Around}{E:uC}{s:Shared}{v u:Value}{k l:Ky}
section
variable{Q:Bool->Shared->Prop}{vs:LW}{X:List (List Ky)}
theorem Pn(hv:k7 s.heap v k)(m:k7 s.heap u l)(e:k.kd=l.kd)(o:A.units+1<cLine):EqAt A s v u (decide (k=l)):=by
 cases k<;>cases l<;>first|cases e|skip
 obtain⟨t,rfl⟩:=hv;obtain⟨z,rfl⟩:=m;rename_i a b;rw[show decide (Ky.i a=Ky.i b)=(a==b) from Q4.mpr (by rw[decide_eq_true_iff,beq_iff_eq];exact⟨λh=>(by cases h;rfl),λh=>h▸rfl⟩)];exact EqAt.int_int a t b z;obtain⟨t,rfl⟩:=hv;obtain⟨z,rfl⟩:=m;rename_i a b;rw[show decide (Ky.s a=Ky.s b)=(a==b) from Q4.mpr (by rw[decide_eq_true_iff,beq_iff_eq];exact⟨λh=>(by cases h;rfl),λh=>h▸rfl⟩)];exact EqAt.str_str a t b z;obtain⟨a,j,rfl,p,st⟩:=hv;obtain⟨b,g,rfl,n,f⟩:=m;rename_i x y;have:=Z4 (.t (x.map NK.s)) (.t (y.map NK.s)) (.ref a) (.ref b) A s ⟨a,j,rfl,p,SW st⟩ ⟨b,g,rfl,n,SW f⟩ (by show A.units+(nkds (x.map NK.s)+1)<cLine;rw[Oc];exact o);rw[show decide (Ky.l x=Ky.l y)=decide (NK.t (x.map NK.s)=NK.t (y.map NK.s)) from decide_eq_decide.mpr ⟨λh=>(by cases h;rfl),λh=>(by injection h with h;rw[(wn λa b e=>by injection e).mp h])⟩];exact this
theorem Y0(l b:Addr)(its a:Array Value)(n n2:Nat)(dd I:Option Addr)(sl B:Array (Option Value))(K ts:LS)(h1:StrsAre its.toList K)(H:StrsAre a.toList ts) :
  Meets (Builtin.«tuple.__lt__» ⟨[.ref l,.ref b],[]⟩) (λA R s=>s.heap.get? l=some ⟨.type "tuple",dd,.seq its n,sl⟩/\s.heap.get? b=some ⟨.type "tuple",I,.seq a n2,B⟩/\R (.ok (.ret (.bool (OQ Hh K ts)))) s) :=
 .of_wp λprog w A R s h=>by
  obtain⟨S,g,d,J,N⟩:=s;obtain⟨hl,hb,h⟩:=h;have f2:=AutoSeq1.sub_tuple_tuple;wp_walk using Q5 hl,Q5 hb,QCF _ (λf b F=>b.1=none/\F=⟨S,g,d,J,N⟩/\∃vs Z m j,f=List.zip vs Z/\StrsAre vs m/\StrsAre Z j/\(decide (its.size<a.size)=decide (m.length<j.length)) /\
   R (.ok (.ret (.bool (OQ Hh m j)))) ⟨S,g,d,J,N⟩) _
  case turn =>
   rintro⟨y,x⟩ f b F ⟨p,rfl,vs,Z,m,j,o,C,W,e,i⟩;cases C with
   |nil=>cases o|cons Y M r1 =>
    cases W with
    |nil=>cases o|cons r L r2 =>
     injection o with o hr;injection o with e1 G;subst e1 G;refine QC (EqAt.str_str Y M r L prog w _ _ ?_);unfold OQ at i;cases q:(Y==r) with|true=>rw[if_pos (beq_iff_eq.mp q)]at i;wp_walk;refine⟨rfl,rfl,_,_,_,_,hr,r1,r2,?_,i⟩;rw[e,QM,QM];exact decide_eq_decide.mpr (by omega)|false=>rw[if_neg λz=>by rw[z,beq_self_eq_true]at q;cases q]at i;have key:∀{Q:uC}{E:uC}{s:Shared},Q (.bool (Hh Y r)) s->wpAny (model prog w) A.in1 (richCompare .Lt (.str Y M) (.str r L)) Q E s:=λh=>QBS h;wp_walk using key;exact⟨_,rfl,i⟩
  case fin =>
   rintro⟨b1,b2⟩ F ⟨p,rfl,vs,Z,m,j,o,C,W,e,i⟩;simp only at p;subst p;have G:OQ Hh m j=decide (m.length<j.length):=by
    cases C with
    |nil =>
     cases W with|nil=>rfl|cons _ _ _=>exact(dT (Nat.succ_pos _)).symm
    |cons _ _ _ =>
     cases W with|nil=>exact(dF (QBA _)).symm|cons _ _ _=>cases o
   rw[G,<- e]at i;wp_walk;exact⟨_,rfl,by simpa[Builtin.Tuple.tupleCompareSizes]using i⟩
  case h=>have P:=(LH h1).1;have O:=(LH H).1;rw[Ql]at P O;exact⟨rfl,rfl,its.toList,a.toList,K,ts,rfl,h1,H,by rw[P,O],h⟩
theorem On{c:Bool}(hc:c=true->k.kd<2)(hv:k7 s.heap v k)(i:k7 s.heap u l)(e:k.kd=l.kd)(K:A.units<cLine)(q:Q (jq k l) s):wpAny (model prog w) A (oneLt' c v u) Q E s:=by
 cases k<;>cases l<;>first|cases e|skip
 obtain⟨t,rfl⟩:=hv;obtain⟨Y,rfl⟩:=i;cases c;exact kat_one _ _ (QBZ q);exact oneLt_int q;obtain⟨t,rfl⟩:=hv;obtain⟨Y,rfl⟩:=i;cases c;exact kat_one _ _ (QBS q);exact oneLt_str q;obtain⟨a,g,rfl,⟨⟨L,C,I,z⟩,r,m,W,o⟩,st⟩:=hv;obtain⟨b,f,rfl,⟨⟨J,B,G,y⟩,p,j,Z,n⟩,h⟩:=i;cases c;simp only at m o j n;subst m o j n;exact kat_one _ _ (richCompare_meets_room (op:=.Lt) ⟨_,r,rfl⟩ ⟨_,p,rfl⟩ F.slot_tuple_lt F.entry_tuple_lt (F.args_tuple_lt_2 _ _) (Y0 a b g f W Z C B z y _ _ st h) ⟨r,p,⟨(λx=>nomatch x),q⟩⟩ K);exact absurd (hc rfl) (qj 2)
theorem tW{Q:Bool->Shared->Prop}(h:A.units+1<cLine):∀{vs us:LW}{r r':List Ky}{i:Nat},Paired (k7 s.heap) vs r->Paired (k7 s.heap) us r'->r.map Ky.kd=r'.map Ky.kd->(i=0->∀k∈r.head?,k.kd<2)->Q (ltR r r') s->KatLex prog w A true false Q (vs.zip us) i s
 |_,_,_,_,_,.nil,.nil,_,_,q=>kat_nil q|_,_,_,_,_,.nil,.cons _ _,e,_,_=>by cases e|_,_,_,_,_,.cons _ _,.nil,e,_,_=>by cases e|_,_,k::r,l::r',i,.cons hv p,.cons hu p',e,h0,q=>by injection e with e1 e2;refine kat_cons (Pn hv hu e1 h prog w _ _ ?_);have q:Q (if k=l then ltR r r' else jq k l) s:=q;by_cases c:k=l;rw[if_pos c]at q;rw[dT c];exact kat_yes (tW h p p' e2 (λz=>absurd z (Nat.succ_ne_zero _)) q);rw[if_neg c]at q;rw[dF c];refine kat_no (On (λz=>h0 ?_ k rfl) hv hu e1 (Nat.lt_of_succ_lt h) q);exact beq_iff_eq.mp z
theorem Kg{r r':List Ky}(y:A.units+1<cLine)(hv:MI s.heap v r)(z:MI s.heap u r')(e:r.map Ky.kd=r'.map Ky.kd)(f:∀k∈r.head?,k.kd<2)(q:Q (ltR r r') s):wpAny (model prog w) A (keyLt' (tuples' true) v u) Q E s:=by obtain⟨a,o,n,vs,rfl,g,_,d,p⟩:=hv;obtain⟨b,Y,Z,x,rfl,i,_,m,h⟩:=z;refine kat_lt g d i m ?_;have K:=Q6 p;have W:=Q6 h;have j:=congrArg qw e;rw[QD,QD]at j;rw[show decide (vs.toArray.size<x.toArray.size)=false from dF (by rw[QN,QN];omega)];exact tW y p h e (λ_=>f) q
theorem D1{Q:SortKind->Shared->Prop}(G:Paired (MI s.heap) vs X)(i:Cj X)(M:2<=vs.length)(q:Q (tuples' true) s):wpAny (model prog w) A (keyKind' vs.toArray) Q E s:=by
 obtain⟨k,i,hk,b⟩:=i;have key:∀{vs:LW}{X:List (List Ky)},Paired (MI s.heap) vs X->(∀r∈X,r.map Ky.kd=k::i)->∃fs,KatTups s.heap vs fs/\fs.length=vs.length/\∀f∈fs,∃y,y.kd=k/\k7 s.heap f y:=by
  intro vs X h;induction h with
  |nil=>exact λ_=>⟨[],.nil,rfl,λ_ z=>(nomatch z)⟩
  |@cons v r J I h _ Z =>
   intro b;obtain⟨fs,B,K,W⟩:=Z λr F=>b r (QE _ F);obtain⟨a,o,n,ws,rfl,g,c,d,p⟩:=h;have e:=b r QF;cases p with|nil=>cases e|@cons f y _ _ Y _=>injection e with e _;refine⟨f::fs,.cons g c d (by simp) B,congrArg (·+1) K,λx C=>?_⟩;rcases QL.mp C with rfl|z;exact⟨y,e,Y⟩;exact W x z
 obtain⟨fs,m,L,j⟩:=key G b;by_cases c:k=0;exact kat_kind (T:=.type "int") m (by omega) (λv hv=>by obtain⟨y,e,z⟩:=j v hv;cases y<;>first | (obtain⟨t,rfl⟩:=z;exact .of_pure rfl)|cases e.trans c) (by decide) q;exact kat_kind (T:=.type "str") m (by omega) (λv hv=>by
  obtain⟨y,e,z⟩:=j v hv;have e:y.kd=1:=by omega
  cases y<;>first | (obtain⟨t,rfl⟩:=z;exact .of_pure rfl)|cases e) (by decide) q
theorem kE{α x:Type}{R:α->x->Prop}{d:α}{e:x}:∀{l:List α}{m:List x},Paired R l m->∀i,i<l.length->R (l.getD i d) (m.getD i e)
 |_,_,.nil,i,h=>absurd h (QBA _)|_,_,.cons r _,0,_=>r|_,_,.cons _ t,i+1,h=>kE t i (wF h)
theorem u8{l:Addr}{Q:uC}(B:A.units+3<cLine)(hl:s.heap.IsList l vs.toArray)(Z:vs.length<64)(h:Paired (MI s.heap) vs X)(f:Cj X)
  (k:∀p:Array Nat,Pm vs.length p->Up (A4 X) p vs.length->Q (.ref (s.heap.objs.size+1)) { s with heap:=sortedAll s.heap vs (p.toList.map λi=>vs.getD i Jz).toArray }):wpAny (model prog w) A (call (.builtin "sorted") [.ref l]) Q E s:=by
 have J:=Q6 h;have o:=T4 X;refine fW (κ:=tuples' true) (R:=λp=>Up (A4 X) p vs.length) hl Z (λK W g Q q=>D1 (s:={ s with heap:=W }) (L2.Paired.mapP h λ_ _ t=>MI.keep g t) f K q) (λK W g=>?_) (λK i j x Y=>?_) k;refine zH.wp (lt:=A4 X) (λi j x Y I C G=>?_) (λp h=>⟨rfl,h⟩) (NW o (by omega));obtain⟨k,f,hk,F⟩:=f;have n:∀i,i<vs.length->(X.getD i []).map Ky.kd=k::f:=λi x=>F _ (by rw[wG,Qe (by omega)];exact wk _);refine Kg (s:={ s with heap:=W }) (r:=X.getD i []) (r':=X.getD j []) (show A.units+1+1+1<cLine from B) ((kE h i x).keep g) ((kE h j Y).keep g) ((n i x).trans (n j Y).symm) (λy m=>?_) G;have e:=n i x;cases z:X.getD i []with|nil=>rw[z]at m;cases m|cons a b=>rw[z]at m e;cases m;injection e with e _;omega
 obtain rfl:i=j:=by omega
 exact o.re _
end
end
theorem R7{x:List (List Ky)}{p:Array Nat}{n:Nat}(w:p.size=n)(u:Up (A4 x) p n):(p.toList.map λi=>x.getD i []).Pairwise ZZ:=by
 refine wz.mpr (WA.mpr λi j z y v=>?_);rw[Ql]at z y;have:=u i j (by omega) (by omega);have e:∀i (h:i<p.size),gD p i=p.toList[i]:=λi h=>by unfold gD;simp[QBG,h]
 rw[e i z,e j y]at this;exact this
end L2.L3
namespace L2.L3
open PySem PySem.Spec PyProof.Rows
section
variable{prog:Program}{w:World}{A:Around}
theorem Gi(Z:A.handled=none)(j:Addr)(z:Src)(m:z.adr≠j)(y:Array Value)(c:Nat) :
  Draws prog w A j [j,z.adr] (c+y.size) (λi v=>∃k,i=c+k/\y[k]?=some v) (λi h=>∃k,i=c+k/\CD h j z k/\BB h z y) where
 live:=λ_ _ ⟨_,_,p,_⟩=>let⟨o,e,_⟩:=p.obj;⟨o,e⟩
 frame:=λ_ h f ⟨k,e,p,q⟩ u=>⟨k,e,p.keep λo x=>u j (by simp) o x,by
  cases z with|l a=>exact QCN.at q λo x=>u a (by simp[Src.adr]) o x|t a=>obtain⟨o,Y,X⟩:=q;exact⟨o,u a (by simp[Src.adr]) o Y,X⟩⟩
 item:=λi s Q E W ⟨k,e,p,q⟩ n=>by
  have hk:k<y.size:=by omega
  exact D9 p q (x:=y[k]) (by simp[hk]) λf g b=>n _ f s.toks ⟨k,e,by simp[hk]⟩ ⟨k+1,by omega,g,ig q b m⟩ b
 done:=λs Q E ⟨k,e,p,q⟩ r=>by
  have hk:k=y.size:=by omega
  exact v4 Z p q (by simp[hk]) r
theorem Hi(r:A.handled=none)(j:Addr)(z:Src)(y:Array Value)(n k:Nat)(v:y[k]?=none) :
  Draws prog w A j [j,z.adr] n (λ_ _=>False) (λi h=>i=n/\CD h j z k/\BB h z y) where
 live:=λ_ _ ⟨_,p,_⟩=>let⟨o,e,_⟩:=p.obj;⟨o,e⟩
 frame:=λ_ h Y ⟨e,p,q⟩ u=>⟨e,p.keep λo x=>u j (by simp) o x,by
  cases z with|l a=>exact QCN.at q λo x=>u a (by simp[Src.adr]) o x|t a=>obtain⟨o,m,g⟩:=q;exact⟨o,u a (by simp[Src.adr]) o m,g⟩⟩
 item:=λi s Q E b ⟨e,_,_⟩ X=>absurd b (by omega)
 done:=λs Q E ⟨_,p,q⟩ f=>v4 r p q v f
noncomputable def Vv(K:QA)(z:Src)(c:Nat):It :=
  ⟨λi H=>∃h x,XZ K H z h/\h[i]?=some x,
   λi H v y=>∃p x,H p=none/\v=.ref p/\y=UA H p (.tup [.int ((c+i:Nat):Int),x])/\∀h,XZ K H z h->h[i]?=some x,
   λi H=>∃h,XZ K H z h/\h.length<=i⟩
def SV(e j:Addr)(z:Src)(c i:Nat)(h:Heap):Prop:=(∃x,IsEnum h e j ((c+i:Nat):Int) x)/\CD h j z i
theorem IX{P:Program}{K:QA}{es:List Expr}{kk:Nat}{pp:Pos}{e j:Addr}{z:Src}{c:Nat}(L:e≠j)(n2:z.adr≠e)(n3:z.adr≠j) :
  Turn P w K (.Tuple es kk pp) (Vv K z c) [e,j] e (SV e j z c) where
 mem:=by simp
 obj:=λi h st b hb=>by obtain⟨⟨a,g⟩,n⟩:=st;simp only[QL,WD,or_false]at hb;rcases hb with rfl|rfl;exact⟨_,g,λv q=>by cases(show Data.fields _=Data.cell v from q)⟩;exact n.obj
 keep:=λi h h' st k=>by obtain⟨⟨a,g⟩,n⟩:=st;exact⟨⟨a,k e (by simp) _ g⟩,n.keep λo x=>k j (by simp) o x⟩
 item:=by
  intro X O M Q hc i r s σ H E I B st N;subst O M Q;obtain⟨xs,x,C,ex⟩:=N;obtain⟨f,J,F,_⟩:=I.src C;obtain⟨u,hu,ru⟩:=J.get ex;obtain⟨⟨a,g⟩,n⟩:=st;have hi:i<f.toArray.size:=by have:=(Qf.mp hu).1;simpa using this
  refine wpAny_pyNext_enum_itemD (Gi (show X.A.in1.handled=none from I.ok.hd hc) j z n3 f.toArray c) g ⟨i,rfl,n,F⟩ (by omega) L (by simp[L,qD n2]) λy h' W ⟨k,ek,hy⟩ b1 b2 b3 b4 b5=>?_;have ek:k=i:=by omega
  subst ek;have ey:y=u:=by
   have:f.toArray[k]?=some u:=by simpa using hu
   rw[this]at hy;exact(Qs hy).symm
  subst ey;refine⟨_,rfl,wpAny_letOwnedTupleGo_enum b1 λp c1 G=>?_⟩;obtain⟨k2,Z,b2,b2'⟩:=b2;have Z:k2=k+1:=by omega
  subst Z;have hp:=I.hok.fresh (QW s.heap.objs.size);have Y:e<s.heap.objs.size:=Qa g;have m:∀b∈[e,j],b<s.heap.objs.size:=λb hb=>by simp only[QL,WD,or_false]at hb;rcases hb with rfl|rfl;exact Y;exact n.lt
  have kept:∀b o,b∉[e,j]->s.heap.get? b=some o->p.get? b=some o:=λb o hb q=>by simp only[QL,WD,or_false,not_or]at hb;exact(G.2 b hb.1).trans (b5 b o hb.1 hb.2 q)
  have l:p.get? s.heap.objs.size=some { cls:=.type "tuple",data:=.seq #[.int ((c+k:Nat):Int) W,y] }:=(G.2 _ (wo Y)).trans b3;have I1:=I.pair (x:=.int ((c+k:Nat):Int)) (h':=s.heap.push { cls:=.type "tuple",data:=.seq #[.int ((c+k:Nat):Int) W,y] }) (t':=W+1) (λb o e=>QH _ e) (QW _) (QT _ rfl) ⟨_,rfl⟩ ru;have I2:=I1.turnedL (h':=p) (t':=W+1) (ch:=[e,j]) (λb o hb e=>by
   rcases QBK e with⟨q1,q2⟩| q;subst q1 q2;exact l;exact kept b o hb q) λb hb=>by
   obtain⟨f0,f1,f2,f3,S,R⟩:=B b hb;exact⟨by rw[vA (Qn (m b hb))];exact f0,f1,f2,f3,S,R⟩
  refine⟨.ref s.heap.objs.size,_,I2,rfl,⟨s.heap.objs.size,x,hp,rfl,rfl,λxs' g1=>?_⟩,⟨⟨y,?_⟩,b2.keep λo q=>(G.2 _ (qD L)).trans q⟩,λb hb=>?_⟩;rw[I.src_inj g1 C];exact ex;have:(((c+(k+1):Nat)):Int)=((c+k:Nat):Int)+1:=by omega
  rw[this];exact c1;rw[vA (Qn (m b hb))];exact(B b hb).1
 done:=by intro X O M Q hc i r s σ H E I B st N;subst O M Q;obtain⟨xs,C,en⟩:=N;obtain⟨f,J,F,_⟩:=I.src C;obtain⟨⟨a,g⟩,n⟩:=st;have l1:=J.length;obtain⟨f0,f1,f2,f3,S,R⟩:=B j (by simp);exact wpAny_pyNext_enum_endD (Hi (show X.A.in1.handled=none from I.ok.hd hc) j z f.toArray 0 i (by simp;omega)) g ⟨rfl,n,F⟩ λh' eb=>⟨rfl,I.turned (t':=s.toks) (λb o hb e=>eb b o hb e) f0 f1 f3 S R⟩
 self:=λ_ _ _ _ _ st h=>by obtain⟨⟨a,g⟩,_⟩:=st;exact QB5 g h
end
theorem xZ(z:Src)(xs:Array Value):Meets (Builtin.«enumerate.__new__» ⟨[.type "enumerate",.ref z.adr],[]⟩) (λ_ R s=>BB s.heap z xs /\
   R (.ok (.ret (.ref (s.heap.push z.it).objs.size))) { s with heap:=(s.heap.push z.it).push { cls:=.type "enumerate",data:=.fields #[.none,.bool false,.ref s.heap.objs.size,rawInt 0,.none,.none] } }) :=
 .of_wp λy w A R s h=>by
  obtain⟨b,g,d,v,a⟩:=s;obtain⟨k,h⟩:=h;have u:=sub_enumerate;have x:BB (Shared.heap ⟨b,g,d,v,a⟩) z xs:=k;wp_walk;refine wpAny_stack_any λst=>QK ?_;split;rename_i cl _ _ _ _ _;cases(cl==Value.type "enumerate")<;>(wp_walk using dR x;exact⟨_,rfl,h⟩)
  wp_walk using dR x;exact⟨_,rfl,h⟩
section
variable{prog:Program}{w:World}{A:Around}{E:uC}{s:Shared}
theorem rX{h:Heap}{z:Src}{n:Int}:IsEnum ((h.push z.it).push { cls:=.type "enumerate",data:=.fields #[.none,.bool false,.ref h.objs.size,rawInt n,.none,.none] }) (h.objs.size+1) h.objs.size n .none:=by have:=QT (h.push z.it) (o:={ cls:=.type "enumerate",data:=.fields #[.none,.bool false,.ref h.objs.size,rawInt n,.none,.none] }) rfl;rw[QAV]at this;exact this
theorem DV{z:Src}{xs:Array Value}{Q:uC}(y:BB s.heap z xs)
  (h:∀h',SV (s.heap.objs.size+1) s.heap.objs.size z 0 0 h'->(∀c o,s.heap.get? c=some o->h'.get? c=some o)->Q (.ref (s.heap.objs.size+1)) { s with heap:=h' }):wpAny (model prog w) A (call (.type "enumerate") [.ref z.adr]) Q E s:=by
 refine callType_new PySem.F.called_enumerate (by decide) (PySem.F.typeCall_enumerate_1 _) (PySem.F.newCall_enumerate_1 _) (λobj=>PySem.F.args_object_init_2 obj _) PySem.F.entry_enumerate_new (xZ z xs) ⟨y,?_⟩;show _/\_;rw[QAV];exact⟨⟨_,rX,rfl⟩,h _ ⟨⟨.none,rX⟩,(x8 s.heap z).keep λo e=>QH _ e⟩ λc o x=>QH _ (QH _ x)⟩
end
theorem Iv{a b:Nat}(h:a≠b):((a:Addr)≠(b:Addr)):=h
inductive Bi where
 |len|any|sorted|tuple|int
 deriving DecidableEq
inductive Mt where
 |append|pop|setd|extend
 deriving DecidableEq
inductive ItK where
 |val|rng1|enum|itm
 deriving DecidableEq
inductive Tg where
 |nm (i:Nat)|tp (is:LN)
 deriving DecidableEq
set_option genSizeOf false in
set_option genInjectivity false in
inductive PX where
 |xz (i:Nat)|int (i:Int)|str (x:Str)|bl (b:Bool)|non
 |glo (x:Str)
 |bin (op:Operator) (a b:PX)
 |cmp (op:CmpOp) (a b:PX)
 |and (a b:PX)|or (a b:PX)|not (a:PX)
 |call (f:Str) (as:PX)
 |bi (f:Bi) (as:PX)
 |mt (m:Mt) (o as:PX)
 |idx (a b:PX)|slc (a lo hi:PX)|nop
 |lst (as:PX)|tup (as:PX)|dnew (b:Bool)|dsp (a b:PX)
 |comp (mask:List Bool) (tgs:LS) (tg:Tg) (ik:ItK) (its cond elt:PX)
 |nz|ny (a as:PX)
structure Ev where
 sp:Str->Sp
 va:Str->V
structure W3 where
 e:TE
 t:TT
 a:TA
noncomputable def never:W3:=⟨λ_ _ _=>False,λ_ _ _=>False,λ_ _ _=>False⟩
def UG(K:QA)(x:V)(H:Hp)(Q:Bool->Hp->Prop):Prop:=match x with
 | .bl b=>Q b H|.int i=>Q (i != 0) H|.non=>Q false H|.str z=>z.length<=sizeLine/\Q ((z.length:Int) != 0) H|x=>∃k,Xj K x H k/\Q k H
def N6(x:V)(H:Hp)(Q:Bool->Hp->Prop):Prop:=match x with
 | .bl b=>Q b H|_=>False
noncomputable def Ub(K:QA):Operator->R2
 | .Add=>Ym K|.Sub=>zm|.Mult=>um K|.FloorDiv=>Jc|.Mod=>cm|_=>λ_ _ _ _=>False
noncomputable def bX(neg:Bool):R2:=λx y H Q=>match y with
 | .non=>Q (.bl (if neg then !decide (x=.non) else decide (x=.non))) H|.bl c=>∃b,x=.bl b/\Q (.bl (if neg then !decide (b=c) else decide (b=c))) H|_=>False
noncomputable def V6(K:QA):CmpOp->R2
 | .Eq=>rEq K false|.NotEq=>rEq K true|.Lt=>cY λi j=>decide (i<j)|.LtE=>cY λi j=>decide (i<=j)|.Gt=>cY λi j=>decide (j<i)|.GtE=>cY λi j=>decide (j<=i)|.In=>ZR K false|.NotIn=>ZR K true|.Is=>bX false|.IsNot=>bX true
noncomputable def dY(K:QA):R2:=λx y H Q=>match x,y with
 | .str z,.int i=>z.length<=sizeLine/\∃c,AD z.cps.toList i=some c/\Q (.str ⟨#[c]⟩) H|.ref a,.int i=>∃h v,(HC K H a h∨rD K H a h)/\AD h i=some v/\Q v H|.ref a,.str z=>∃v,FQ K H a (.str z) (some v)/\Q v H|.ref a,.ref b=>∃v,FQ K H a (.ref b) (some v)/\Q v H|_,_=>False
def bw(K:QA)(H:Hp)(x:V):Ky->Prop
 | .i n=>x=.int n|.s z=>x=.str z|.l h=>∃b,x=.ref b/\rD K H b (h.map V.str)
def zp(K:QA)(H:Hp)(x:V)(r:List Ky):Prop:=∃a h,x=.ref a/\rD K H a h/\Paired (bw K H) h r
def iW(K:QA):LV->Hp->VK->Prop:=λf H Q=>∃p,f=[.ref p]/\((∃w:LS,HC K H p (w.map V.str)/\w.length<64/\∀l y,H l=none->y.Perm w->sortedS y=true->Q (.ref l) (UA H l (.lst (y.map V.str)))) ∨
   (∃h,HC K H p h/\h.length<64/\(∀x∈h,∃a,∃w:LS,x=.ref a/\HC K H a (w.map V.str))/\∀l e,H l=none->e.Perm h->Q (.ref l) (UA H l (.lst e))) ∨
   (∃b:LJ,HC K H p (b.map V.int)/\b.length<64/\∀l (u:LJ),H l=none->u.Perm b->u.Pairwise (·<=·)->Q (.ref l) (UA H l (.lst (u.map V.int)))) ∨
   (∃(R:V->List Ky->Prop) (h:LV) (k:List (List Ky)),(HC K H p h/\Paired R h k/\∀x r,R x r->zp K H x r)/\h.length<64/\Cj k/\∀l v z,H l=none->Paired R v z->z.Perm k->z.Pairwise ZZ->Q (.ref l) (UA H l (.lst v))))
def T1(K:QA):LV->Hp->VK->Prop:=λx H Q=>∃p h,x=[.ref p]/\HC K H p h/\∀l,H l=none->Q (.ref l) (UA H l (.tup h))
def ec:LV->Hp->VK->Prop:=λh H Q=>∃b:Bool,h=[.bl b]/\Q (.int (if b then 1 else 0)) H
def Eo(K:QA):Bi->LV->Hp->VK->Prop
 | .len=>lm K|.any=>Jm K|.sorted=>iW K|.tuple=>T1 K|.int=>ec
def rc:V->LV->Hp->VK->Prop:=λx y H Q=>∃l i h k v,x=.ref l/\y=[.int i]/\H l=some (.lst h)/\DT h.length i=some k/\h[k]?=some v/\Q v (UA H l (.lst (h.eraseIdx k)))
def Yc:V->LV->Hp->VK->Prop:=λx z H Q=>∃l b y h,x=.ref l/\z=[.ref b]/\H l=some (.lst y)/\H b=some (.lst h)/\y.length+h.length<=sizeLine/\Q .non (UA H l (.lst (y++h)))
def R9(K:QA):Mt->V->LV->Hp->VK->Prop
 | .append=>JW|.pop=>rc|.setd=>UK K|.extend=>Yc
noncomputable def Mt.ty:Mt->String
 | .append=>"list"|.pop=>"list"|.setd=>"dict"|.extend=>"list"
def OL(x:V)(H:Hp)(Q:Option Int->Hp->Prop):Prop:=match x with
 | .int i=>Q (some i) H|_=>False
inductive Item where
 |one (v:V)|tup (vs:LV)
def mC(K:QA):ItK->LV->Hp->(List Item->(Hp->Prop)->Hp->Prop)->Prop
 | .val,[.ref a],H,R=>(∃x,HC K H a x/\R (x.map .one) (λH=>HC K H a x) H)∨(∃x,rD K H a x/\R (x.map .one) (λH=>rD K H a x) H)∨(∃y,∃h:List KE,H a=some (.dT y h)/\R (h.map λp=>.one (.ref p.2.1)) (λH=>H a=some (.dT y h)) H)|.rng1,[.int j],H,R=>(-(2 ^ 62)<=j/\j<2 ^ 62)/\R ((Qj j.toNat).map λ(i:Nat)=>.one (.int (i:Int))) (λ_=>True) H|.enum,[.ref a],H,R=>∃z x,Src.adr z=a/\XZ K H z x/\R (x.zipIdx.map λp=>.tup [.int (p.2:Int),p.1]) (λH=>XZ K H z x) H|.itm,[.ref a],H,R=>∃y,∃h:List KE,H a=some (.dT y h)/\R (h.map λp=>.tup [.ref p.2.1,p.2.2]) (λH=>H a=some (.dT y h)) H|_,_,_,_=>False
noncomputable def yB:LN->LV->St->Option St
 |[],[],σ=>some σ|i::is,v::vs,σ=>yB is vs (σ.set i (some v))|_,_,_=>none
noncomputable def RF(K:QA):Tg->TG
 | .nm i=>λv x H Q=>Q (x.set i (some v)) H|.tp z=>λv x H Q=>match v with
  | .ref p=>∃y h,rD K H p y/\yB z y x=some h/\Q h H|_=>False
def bindI(K:QA)(z:Tg):Item->St->Hp->(St->Hp->Prop)->Prop
 | .one v=>RF K z v|.tup y=>λx H Q=>match z with
  | .tp w=>∀u,Same H u->∃h,yB w y x=some h/\Q h u|.nm i=>∀p,H p=none->Q (x.set i (some (.ref p))) (UA H p (.tup y))
def Uo(K:QA)(xs:List Item)(st:Hp->Prop)(bind:Item->St->Hp->(St->Hp->Prop)->Prop)(tc:TT)(te:TE)(σ:St)(H:Hp)(Q:VK):Prop :=
 ∃W:Nat->LV->Hp->Prop,W 0 [] H/\(∀i h H,i<=xs.length->W i h H->st H) /\
  (∀i x h H,xs[i]?=some x->W i h H->bind x σ H λz u=>tc z u λb v=>if b=true then te z v λy w=>h.length<sizeLine/\W (i+1) (h++[y]) w else W (i+1) h v) /\
  ∀h u,W xs.length h u->h.length<=sizeLine/\∀p,u p=none->Q (.ref p) (UA u p (.lst h))
structure Yields(J:It)(xs:List Item)(st:Hp->Prop):Prop where
 go:∀i H,st H->i<xs.length->J.go i H
 yld:∀i H x H',st H->i<xs.length->J.yld i H x H'->∃it,xs[i]?=some it/\match it with
  | .one v=>x=v/\H'=H|.tup vs=>∃p,H p=none/\x=.ref p/\H'=UA H p (.tup vs)
 stop:∀i H,st H->xs.length<=i->J.stop i H
def Bo(J:It)(g:TG)(tc:TT)(te:TE)(k:St)(l:Hp)(Q:VK):Prop:=∃W:Nat->Nat->LV->St->Hp->Prop,(∃m,W 0 m [] k l) /\
 ∀i m h v u,W i m h v u->(J.stop i u/\h.length<=sizeLine/\∀p,u p=none->Q (.ref p) (UA u p (.lst h))) ∨
  (J.go i u/\∀x e,J.yld i u x e->g x v e λz j=>tc z j λb a=>if b=true then te z a λy f=>h.length<sizeLine/\∃w,w < m/\W (i+1) w (h++[y]) z f else ∃w,w < m/\W (i+1) w h z a)
def OX(K:QA)(xs:List Item)(st:Hp->Prop)(x:Tg)(tc:TT)(te:TE)(h:St)(H:Hp)(Q:VK):Prop:=∀J,Yields J xs st->Bo J (RF K x) tc te h H Q
noncomputable def isNop:PX->Bool
 | .nop=>true|_=>false
noncomputable def wp(K:QA)(Γ:Ev):PX->XK->W3
 | .xz i,E=>let e:TE:=λh H Q=>match h[i]? with
   |some (some v)=>Q v H|_=>False
  ⟨e,λh H Q=>e h H λx z=>UG K x z Q,never.a⟩
 | .int i,E=>⟨λ_ H Q=>Q (.int i) H,λ_ H Q=>Q (i != 0) H,never.a⟩|.str x,E=>⟨λ_ H Q=>Q (.str x) H,never.t,never.a⟩|.bl b,E=>⟨λ_ H Q=>Q (.bl b) H,λ_ H Q=>Q b H,never.a⟩|.non,E=>⟨λ_ H Q=>Q .non H,λ_ H Q=>Q false H,never.a⟩|.glo x,E=>⟨λ_ H Q=>Q (Γ.va x) H,λ_ H Q=>UG K (Γ.va x) H Q,never.a⟩|.bin op a b,E=>let e:TE:=λh H Q=>(wp K Γ a E).e h H λx z=>(wp K Γ b E).e h z λy w=>Ub K op x y w Q
  ⟨e,λh H Q=>e h H λx z=>UG K x z Q,never.a⟩
 | .cmp op a b,E=>let e:TE:=λh H Q=>(wp K Γ a E).e h H λx z=>(wp K Γ b E).e h z λy w=>V6 K op x y w Q
  ⟨e,λh H Q=>e h H λx z=>N6 x z Q,never.a⟩
 | .and a b,E=>⟨λh H Q=>(wp K Γ a E).e h H λx z=>N6 x z λc w=>if c=true then(wp K Γ b E).e h w Q else Q (.bl false) w,
   λh H Q=>(wp K Γ a E).t h H λc z=>if c=true then(wp K Γ b E).t h z Q else Q false z,never.a⟩
 | .or a b,E=>⟨λh H Q=>(wp K Γ a E).e h H λx z=>N6 x z λc w=>if c=true then Q (.bl true) w else(wp K Γ b E).e h w Q,
   λh H Q=>(wp K Γ a E).t h H λc z=>if c=true then Q true z else(wp K Γ b E).t h z Q,never.a⟩
 | .not a,E=>⟨λh H Q=>(wp K Γ a E).e h H λx z=>UG K x z λc w=>Q (.bl (!c)) w,λh H Q=>(wp K Γ a E).t h H λc z=>Q (!c) z,never.a⟩|.call f as,E=>let e:TE:=λh H Q=>(wp K Γ as E).a h H λg z=>Γ.sp f g z Q E
  ⟨e,λh H Q=>e h H λx z=>UG K x z Q,never.a⟩
 | .bi f as,E=>let e:TE:=λh H Q=>(wp K Γ as E).a h H λg z=>Eo K f g z Q
  ⟨e,λh H Q=>e h H λx z=>UG K x z Q,never.a⟩
 | .mt m o as,E=>let e:TE:=λh H Q=>(wp K Γ o E).e h H λx z=>JZ K m.ty x z/\(wp K Γ as E).a h z λg w=>R9 K m x g w Q
  ⟨e,λh H Q=>e h H λx z=>UG K x z Q,never.a⟩
 | .idx a b,E=>let e:TE:=λh H Q=>(wp K Γ a E).e h H λx z=>(wp K Γ b E).e h z λy w=>dY K x y w Q
  ⟨e,λh H Q=>e h H λx z=>UG K x z Q,never.a⟩
 | .slc a lo hi,E=>⟨λh H Q=>(wp K Γ a E).e h H λx z =>
   (if isNop lo=true then λ(R:Option Int->Hp->Prop)=>R none z else λR=>(wp K Γ lo E).e h z λl w=>OL l w R) λl w =>
   (if isNop hi=true then λ(R:Option Int->Hp->Prop)=>R none w else λR=>(wp K Γ hi E).e h w λu j=>OL u j R) λu j=>Jr K x l u j Q,never.t,never.a⟩
 | .nop,E=>never|.lst as,E=>⟨λh H Q=>(wp K Γ as E).a h H λk z=>k.length<=sizeLine/\∀p,z p=none->Q (.ref p) (UA z p (.lst k)),never.t,never.a⟩|.tup as,E=>⟨λh H Q=>(wp K Γ as E).a h H λk z=>k.length<=sizeLine/\∀p,z p=none->Q (.ref p) (UA z p (.tup k)),never.t,never.a⟩|.comp mask tgs tg ik its cond elt,E=>⟨λh H Q=>(wp K Γ its E).a h H λg z=>mC K ik g z λk st w =>
   OX K k st tg (if isNop cond=true then λ_ H Q=>Q true H else(wp K Γ cond (λ_ _ _=>False)).t) (wp K Γ elt (λ_ _ _=>False)).e (JI tgs.length mask h) w Q,never.t,never.a⟩
 | .dnew b,E=>⟨λ_ H Q=>∀p,H p=none->Q (.ref p) (UA H p (.dT 0 [])),never.t,never.a⟩|.dsp a b,E=>⟨λh H Q=>∀p,H p=none->(wp K Γ a E).e h (UA H p (.dT 0 [])) λy z=>(wp K Γ b E).e h z λv w=>w p=some (.dT 0 [])/\∃b n,y=.ref b/\BN K w b n/\∀q,Q (.ref p) (UA w p (.dT q [(n,b,v)])),never.t,never.a⟩|.nz,E=>⟨never.e,never.t,λ_ H Q=>Q [] H⟩|.ny a as,E=>⟨never.e,never.t,λh H Q=>(wp K Γ a E).e h H λx z=>(wp K Γ as E).a h z λk w=>Q (x::k) w⟩
structure Glob where
 ev:Ev
 fn:Str->Prop
 val:Str->Prop
 no:Str->Prop
noncomputable def Bi.nm:Bi->Str
 | .len=>"len"|.any=>"any"|.sorted=>"sorted"|.tuple=>"tuple"|.int=>"int"
noncomputable def Mt.nm:Mt->Str
 | .append=>"append"|.pop=>"pop"|.setd=>"setdefault"|.extend=>"extend"
def yo(G:Glob):ItK->Prop
 | .val=>True|.rng1=>G.no "range"|.enum=>G.no "enumerate"|.itm=>True
def uB(G:Glob):PX->Prop
 | .glo x=>G.val x|.bin _ a b | .cmp _ a b | .and a b | .or a b | .idx a b | .ny a b | .dsp a b=>uB G a/\uB G b
 | .not a | .lst a | .tup a=>uB G a
 | .slc a b c=>uB G a/\uB G b/\uB G c|.call f y=>G.fn f/\uB G y|.bi f y=>G.no f.nm/\uB G y|.mt _ o y=>uB G o/\uB G y|.comp _ _ _ v z h u=>yo G v/\uB G z/\uB G h/\uB G u|_=>True
structure SC where
 N:LS
 sc:Scope
noncomputable def tE:Expr->Bool
 | .Starred _ _=>false|_=>true
noncomputable def Rf(S:SC)(i:Nat)(x:Str):Bool :=
 S.N[i]?==some x&&(S.sc.names.lookup x==some .local||S.sc.names.lookup x==some .cell||S.sc.names.lookup x==some .free)&&x != "__debug__" && x != "__classdict__"
noncomputable def Nh(S:SC)(i:Nat)(x:Str):Bool:=S.N[i]?==some x&&S.sc.names.lookup x==some .local
noncomputable def xV(S:SC)(x:Str):Bool:=S.sc.names.lookup x==some .globalImplicit&&x != "__debug__" && x != "__name__"
noncomputable def JX(S:SC)(h:Scope)(y:LS)(x:List Bool):SC:=⟨y++eB x 0 S.N,ZL h S.sc⟩
noncomputable def sJ:LS->Bool
 |[]=>true|x::r=>!r.contains x&&sJ r
noncomputable def Z6(S:SC)(h:Scope)(z:LS)(x:List Bool):Bool :=
 h.kind==.function&&h.names.all (λy=>y.2 != .cell&&(y.2 != .local||(h.names.lookup y.1==some .local&&(z.contains y.1||y.1==(".0":Str)))) &&
  (y.2 != .free||S.sc.names.lookup y.1==some .cell||S.sc.names.lookup y.1==some .free))&&sJ (z++eB x 0 S.N)&&!(z++eB x 0 S.N).contains (".0":Str)
noncomputable def gk(c:Bool)(S:SC)(i:Nat)(x:Str):Bool:=S.N[i]?==some x&&(S.sc.names.lookup x==some .local||(c&&S.sc.names.lookup x==some .cell))
noncomputable def Fq(c:Bool)(S:SC):Tg->Expr->Bool
 | .nm i,.Name x _=>gk c S i x|.tp is,.Tuple es _ _=>is.length==es.length&&(is.zip es).all λp=>match p.2 with
  | .Name x _=>gk c S p.1 x|_=>false
 |_,_=>false
noncomputable def VP:Expr->Bool
 | .Call (.Name _ _) [] [] _=>false|_=>true
noncomputable def OR:Expr->Bool
 | .Set _ _ _=>false|_=>true
noncomputable def UP:Expr->Bool
 | .Slice _ _ _ _=>false|_=>true
noncomputable def UE:PX->Bool
 | .nz=>true|.ny _ r=>UE r|_=>false
noncomputable def EU:Expr->Bool
 | .Tuple _ _ _=>true|_=>false
section
variable{α:Type}
section
variable{e:Expr}{l:List α}
noncomputable def rJ(e:Expr)(f:Str->Pos->Bool):Bool:=match e with | .Name x p=>f x p|_=>false
noncomputable def xI(e:Expr)(f:Const->Bool):Bool:=match e with | .Constant c _ _=>f c|_=>false
noncomputable def Hc(e:Expr)(f:Expr->Operator->Expr->Pos->Bool):Bool:=match e with | .BinOp l o r p=>f l o r p|_=>false
noncomputable def Lm(e:Expr)(f:UnaryOp->Expr->Bool):Bool:=match e with | .UnaryOp o x _=>f o x|_=>false
noncomputable def Gc(e:Expr)(f:Expr->List CmpOp->List Expr->Bool):Bool:=match e with | .Compare l x h _=>f l x h|_=>false
noncomputable def iU(e:Expr)(f:BoolOp->List Expr->Pos->Bool):Bool:=match e with | .BoolOp o h p=>f o h p|_=>false
noncomputable def eU(e:Expr)(f:Expr->List Expr->List Keyword->Pos->Bool):Bool:=match e with | .Call g x h p=>f g x h p|_=>false
noncomputable def C3(e:Expr)(f:Expr->Str->Pos->Bool):Bool:=match e with | .Attribute v n p=>f v n p|_=>false
noncomputable def GW(e:Expr)(f:Expr->Expr->Pos->Bool):Bool:=match e with | .Subscript v i p=>f v i p|_=>false
noncomputable def HW(e:Expr)(f:Option Expr->Option Expr->Option Expr->Bool):Bool:=match e with | .Slice l h s _=>f l h s|_=>false
noncomputable def tP(e:Expr)(f:List Expr->Pos->Bool):Bool:=match e with | .List h p=>f h p|_=>false
noncomputable def Bc(e:Expr)(f:List Expr->Nat->Pos->Bool):Bool:=match e with | .Tuple h k p=>f h k p|_=>false
noncomputable def bh(e:Expr)(f:Expr->List Comprehension->Scope->Pos->Bool):Bool:=match e with | .ListComp x h sc p=>f x h sc p|_=>false
noncomputable def aU(e:Expr)(f:List (Option Expr)->List Expr->Bool):Bool:=match e with | .Dict x h _=>f x h|_=>false
noncomputable def zO(l:List α)(f:α->Bool):Bool:=match l with | [x]=>f x|_=>false
noncomputable def g9(l:List α)(f:α->List α->Bool):Bool:=match l with|x::r=>f x r|_=>false
noncomputable def Mm(o:Option α)(n:Bool)(f:α->Bool):Bool:=match o with|none=>n|some x=>f x
theorem JF{f:Str->Pos->Bool}(h:rJ e f=true):∃x p,e=.Name x p/\f x p=true:=by
 cases e with|Name x p=>exact⟨x,p,rfl,h⟩|_=>exact(QG h).elim
theorem tG{f:Const->Bool}(h:xI e f=true):∃c k p,e=.Constant c k p/\f c=true:=by
 cases e with|Constant c k p=>exact⟨c,k,p,rfl,h⟩|_=>exact(QG h).elim
theorem l9{f:Expr->Operator->Expr->Pos->Bool}(h:Hc e f=true):∃l o r p,e=.BinOp l o r p/\f l o r p=true:=by
 cases e with|BinOp l o r p=>exact⟨l,o,r,p,rfl,h⟩|_=>exact(QG h).elim
theorem uh{f:UnaryOp->Expr->Bool}(h:Lm e f=true):∃o x p,e=.UnaryOp o x p/\f o x=true:=by
 cases e with|UnaryOp o x p=>exact⟨o,x,p,rfl,h⟩|_=>exact(QG h).elim
theorem f9{f:Expr->List CmpOp->List Expr->Bool}(h:Gc e f=true):∃l y x p,e=.Compare l y x p/\f l y x=true:=by
 cases e with|Compare l y x p=>exact⟨l,y,x,p,rfl,h⟩|_=>exact(QG h).elim
theorem GR{f:BoolOp->List Expr->Pos->Bool}(h:iU e f=true):∃o es p,e=.BoolOp o es p/\f o es p=true:=by
 cases e with|BoolOp o es p=>exact⟨o,es,p,rfl,h⟩|_=>exact(QG h).elim
theorem FR{f:Expr->List Expr->List Keyword->Pos->Bool}(h:eU e f=true):∃g es ks p,e=.Call g es ks p/\f g es ks p=true:=by
 cases e with|Call g es ks p=>exact⟨g,es,ks,p,rfl,h⟩|_=>exact(QG h).elim
theorem B3{f:Expr->Str->Pos->Bool}(h:C3 e f=true):∃v n p,e=.Attribute v n p/\f v n p=true:=by
 cases e with|Attribute v n p=>exact⟨v,n,p,rfl,h⟩|_=>exact(QG h).elim
theorem sP{f:Expr->Expr->Pos->Bool}(h:GW e f=true):∃v i p,e=.Subscript v i p/\f v i p=true:=by
 cases e with|Subscript v i p=>exact⟨v,i,p,rfl,h⟩|_=>exact(QG h).elim
theorem sY{f:Option Expr->Option Expr->Option Expr->Bool}(h:HW e f=true):∃l u s p,e=.Slice l u s p/\f l u s=true:=by
 cases e with|Slice l u s p=>exact⟨l,u,s,p,rfl,h⟩|_=>exact(QG h).elim
theorem AL{f:List Expr->Pos->Bool}(h:tP e f=true):∃es p,e=.List es p/\f es p=true:=by
 cases e with|List es p=>exact⟨es,p,rfl,h⟩|_=>exact(QG h).elim
theorem u9{f:List Expr->Nat->Pos->Bool}(h:Bc e f=true):∃es k p,e=.Tuple es k p/\f es k p=true:=by
 cases e with|Tuple es k p=>exact⟨es,k,p,rfl,h⟩|_=>exact(QG h).elim
theorem tU{f:Expr->List Comprehension->Scope->Pos->Bool}(h:bh e f=true):∃x y sc p,e=.ListComp x y sc p/\f x y sc p=true:=by
 cases e with|ListComp x y sc p=>exact⟨x,y,sc,p,rfl,h⟩|_=>exact(QG h).elim
theorem DR{f:List (Option Expr)->List Expr->Bool}(h:aU e f=true):∃ks vs p,e=.Dict ks vs p/\f ks vs=true:=by
 cases e with|Dict ks vs p=>exact⟨ks,vs,p,rfl,h⟩|_=>exact(QG h).elim
theorem xK{f:α->List α->Bool}(h:g9 l f=true):∃x r,l=x::r/\f x r=true:=by
 cases l with|nil=>exact(QG h).elim|cons x r=>exact⟨x,r,rfl,h⟩
theorem zC{f:α->Bool}(h:zO l f=true):∃x,l=[x]/\f x=true:=by
 cases l with
 |nil=>exact(QG h).elim|cons x r =>
  cases r with|nil=>exact⟨x,rfl,h⟩|cons _ _=>exact(QG h).elim
end
end
section
variable{c:Const}{n:Str}{e:Expr}
noncomputable def Ro(c:Const)(f:Int->Bool):Bool:=match c with | .int i=>f i|_=>false
noncomputable def Po(c:Const)(f:Str->Bool):Bool:=match c with | .str i=>f i|_=>false
noncomputable def je(c:Const)(f:Bool->Bool):Bool:=match c with | .bool i=>f i|_=>false
noncomputable def Ed(c:Const):Bool:=match c with | .none=>true|_=>false
theorem vj{f:Int->Bool}(h:Ro c f=true):∃i,c=.int i/\f i=true:=by
 cases c with|int i=>exact⟨i,rfl,h⟩|_=>exact(QG h).elim
theorem kj{f:Str->Bool}(h:Po c f=true):∃i,c=.str i/\f i=true:=by
 cases c with|str i=>exact⟨i,rfl,h⟩|_=>exact(QG h).elim
theorem Vb{f:Bool->Bool}(h:je c f=true):∃i,c=.bool i/\f i=true:=by
 cases c with|bool i=>exact⟨i,rfl,h⟩|_=>exact(QG h).elim
theorem Kb(h:Ed c=true):c=.none:=by
 cases c with|none=>rfl|_=>exact(QG h).elim
theorem yA{a b:Bool}(h:(a&&b)=true):a=true/\b=true:=by cases a<;>cases b<;>first|exact⟨rfl,rfl⟩| exact(QG h).elim
noncomputable def cT(S:SC)(n:Str)(e:Expr)(f:List Expr->List Keyword->Pos->Bool):Bool:=eU e λg y h p=>rJ g λx _=>n==x&&(xV S x&&f y h p)
theorem OK{S:SC}{f:List Expr->List Keyword->Pos->Bool}(h:cT S n e f=true):∃y es ks p,e=.Call (.Name n y) es ks p/\xV S n=true/\f es ks p=true:=by obtain⟨g,es,ks,p,rfl,w⟩:=FR h;obtain⟨x,y,rfl,v⟩:=JF w;have u:=yA v;have z:=yA u.2;have e:=qe u.1;exact⟨y,es,ks,p,by rw[e],by rw[e];exact z.1,z.2⟩
noncomputable def N4(n:Str)(e:Expr)(f:Expr->List Expr->Pos->Pos->Bool):Bool:=eU e λg z y p=>C3 g λv x h=>n==x&&(y.isEmpty&&(h.endLine==p.line&&f v z h p))
theorem IW{f:Expr->List Expr->Pos->Pos->Bool}(h:N4 n e f=true):∃v y es p,e=.Call (.Attribute v n y) es [] p/\(y.endLine==p.line)=true/\f v es y p=true:=by obtain⟨g,es,i,p,rfl,a⟩:=FR h;obtain⟨v,x,y,rfl,k⟩:=B3 a;have w:=yA k;have u:=yA w.2;have z:=yA u.2;have e:=qe w.1;have b:=Q9.mp u.1;exact⟨v,y,es,p,by rw[e,b],z.1,z.2⟩
noncomputable def Ac(op:BoolOp)(r:Expr)(h:List Expr)(pos:Pos):Expr:=match h with
 |[]=>r|q::t=>.BoolOp op (r::q::t) pos
noncomputable def kq(y:Bool)(S:SC)(z:ItK)(c:List Expr->Pos->Bool)(t it:Expr)(pos:Pos):Bool:=match z with
 | .val=>y&&c [it] pos|.rng1=>cT S "range" it λh x p=>x.isEmpty&&zO h λa=>c [a] p|.enum=>EU t&&cT S "enumerate" it λh x p=>x.isEmpty&&zO h λa=>c [a] p|.itm=>EU t&&(y&&N4 "items" it λv h _ p=>VP v&&(h.isEmpty&&c [v] p))
noncomputable def Rr(h:List Expr)(n:Bool)(f:Expr->Bool):Bool:=match h with
 |[]=>n|c::r=>r.isEmpty&&(!n&&f c)
noncomputable def isItm:ItK->Bool
 | .itm=>true|_=>false
noncomputable def xC:PX->SC->Expr->Bool
 | .xz i,S,e=>rJ e λx _=>Rf S i x|.int i,_,e=>xI e λc=>Ro c λj=>i==j|.str x,_,e=>xI e λc=>Po c λy=>x==y|.bl b,_,e=>xI e λc=>je c λk=>b==k|.non,_,e=>xI e Ed|.glo x,S,e=>rJ e λy _=>x==y&&xV S x|.bin op a b,S,e=>Hc e λl o r _=>op==o&&(xC a S l&&xC b S r)|.cmp op a b,S,e=>Gc e λl Z Y=>zO Z λo=>zO Y λr=>op==o&&(OR r&&(xC a S l&&xC b S r))|.and a b,S,e=>iU e λo z p=>o==.And&&g9 z λl t=>g9 t λr t=>xC a S l&&xC b S (Ac .And r t p)|.or a b,S,e=>iU e λo z p=>o==.Or&&g9 z λl t=>g9 t λr t=>xC a S l&&xC b S (Ac .Or r t p)|.not a,S,e=>Lm e λo x=>o==.Not&&xC a S x|.call f as,S,e=>cT S f e λz w p=>w.isEmpty&&xC as S (.List z p)|.bi f as,S,e=>cT S f.nm e λz w p=>w.isEmpty&&g9 z λx t=>xC as S (.List (x::t) p)|.mt m o as,S,e=>N4 m.nm e λv z _ p=>UE as&&(VP v&&(decide (z.length<20)&&(xC o S v&&xC as S (.List z p))))|.idx a b,S,e=>GW e λv i _=>UP i&&(xC a S v&&xC b S i)|.slc a lo hi,S,e=>GW e λv X _=>HW X λl h s=>s.isNone&&(xC a S v&&(Mm l (isNop lo) (λe=>!isNop lo&&xC lo S e)&&Mm h (isNop hi) λe=>!isNop hi&&xC hi S e))|.nop,_,_=>false|.lst as,S,e=>tP e λz p=>xC as S (.List z p)|.tup as,S,e=>Bc e λz _ p=>xC as S (.List z p)|.comp mask tgs tg ik its cond elt,S,e=>bh e λK W u p=>zO W λg=>g.is_async==0&&(!isItm ik&&(Z6 S u tgs mask&&(Fq false (JX S u tgs mask) tg g.target&&(OR g.iter &&
   (kq (UE its) S ik (λz p=>xC its S (.List z p)) g.target g.iter p&&(Rr g.ifs (isNop cond) (λc=>xC cond (JX S u tgs mask) c)&&xC elt (JX S u tgs mask) K))))))
 | .dnew _,_,e=>aU e λw q=>w.isEmpty&&q.isEmpty|.dsp a b,S,e=>aU e λw q=>zO w λk=>zO q λv=>Mm k false (xC a S)&&xC b S v|.nz,_,e=>tP e λz _=>z.isEmpty|.ny a as,S,e=>tP e λz p=>g9 z λx t=>tE x&&(xC a S x&&xC as S (.List t p))
end
variable{Γ:Ev}
theorem ij(x:V)(H:Hp)(Q:Bool->Hp->Prop):N6 x H Q=∃k,x=.bl k/\Q k H:=by
 apply propext;cases x with|bl b=>exact⟨λh=>⟨b,rfl,h⟩,λ⟨k,e,h⟩=>by cases e;exact h⟩|_=>exact⟨λh=>Qc h,λ⟨k,e,h⟩=>by cases e⟩
theorem x3(x:V)(H:Hp)(Q:Option Int->Hp->Prop):OL x H Q=∃i,x=.int i/\Q (some i) H:=by
 apply propext;cases x with|int b=>exact⟨λh=>⟨b,rfl,h⟩,λ⟨k,e,h⟩=>by cases e;exact h⟩|_=>exact⟨λh=>Qc h,λ⟨k,e,h⟩=>by cases e⟩
theorem vW(K:QA)(x:V)(H:Hp)(Q:Bool->Hp->Prop):UG K x H Q=∃k,Xj K x H k/\Q k H:=by
 apply propext;cases x with|bl b=>exact⟨λh=>⟨b,rfl,h⟩,λ⟨k,(e:k=b),h⟩=>by subst e;exact h⟩|int i=>exact⟨λh=>⟨i != 0,rfl,h⟩,λ⟨k,(e:k=(i != 0)),h⟩=>by subst e;exact h⟩|non=>exact⟨λh=>⟨false,rfl,h⟩,λ⟨k,(e:k=false),h⟩=>by subst e;exact h⟩|str z=>exact⟨λh=>⟨_,⟨h.1,rfl⟩,h.2⟩,λ⟨k,⟨u,y⟩,h⟩=>by subst y;exact⟨u,h⟩⟩|_=>exact WR
section
variable{X:Cx}
section
variable{e b:Expr}{es:List Expr}{env:Env}{its:LW}
theorem E2:PE X e never.e:=λ_ _ _ _ _ _ h=>Qc h
theorem BL:PT X e never.t:=λ_ _ _ _ _ _ h=>Qc h
theorem UR:PA X es never.a:=λ_ _ _ _ _ _ _ h=>Qc h
theorem FD{a:Expr}{ta:TE}(i:PE X a ta)(g:∀y,isTrue a X.env y=(do let v <- y;standAt a.pos;holding [v] (truthy v))) :
  PT X a (λσ H Q=>ta σ H λx l=>UG X.K x l Q):=by
 intro z s σ H Q I h;refine isTrue_plain (LB (i z s σ H _ I h) λv k ⟨x,w,j,f,u⟩=>?_) (g _);have u:UG X.K x w Q:=u;rw[vW]at u;exact Z0 z k σ w x v Q j f u
theorem K3{f:Value->Value->Sem Value}:oE X f (λ_ _ _ _=>False):=λ_ _ _ _ _ _ _ _ _ _ _ _ h=>h.elim
theorem vh(op:Operator):oE X (binaryOp op) (Ub X.K op):=by
 cases op with|Add=>exact op_add|Sub=>exact op_sub|Mult=>exact zh|FloorDiv=>exact v9|Mod=>exact op_mod|_=>exact K3
theorem tS(neg:Bool){h:HB}{s:Shared}{σ:St}{H:Hp}{b c:Bool}{Q:VK}(I:Inv X h σ H s)(q:Q (.bl (if neg then !decide (b=c) else decide (b=c))) H):wpAny (model X.prog X.w) X.A (compareOp (if neg then .IsNot else .Is) (.bool b) (.bool c)) (EP X h σ Q) X.xe s:=by
 have e:compareOp (if neg then .IsNot else .Is) (.bool b) (.bool c)=pure (.bool (if neg then !decide (b=c) else decide (b=c))):=by cases neg<;>cases b<;>cases c<;>rfl
 rw[e];exact QK ⟨.bl _,H,I,rfl,q⟩
theorem V3(f:X.A.units+66<cLine)(op:CmpOp):oE X (compareOp op) (V6 X.K op):=by
 cases op with
 |Eq=>exact op_eq (by omega)|NotEq=>exact op_ne (by omega)|Lt=>exact oP _root_.L2.op_lt|LtE=>exact oP _root_.L2.op_le|Gt=>exact oP _root_.L2.op_gt|GtE=>exact oP _root_.L2.op_ge|In=>exact Fm f|NotIn=>exact Y3 f|Is =>
  intro z s a H x y v u Q I k w h;cases y with|non=>exact kh z s a H x _ v u Q I k w ⟨rfl,h⟩|bl c=>obtain⟨b,rfl,q⟩:=h;cases k;cases w;cases b<;>cases c<;>exact tS false I q|_=>exact Qc h
 |IsNot =>
  intro z s a H x y v u Q I k w h;cases y with|non=>exact k9 z s a H x _ v u Q I k w ⟨rfl,h⟩|bl c=>obtain⟨b,rfl,q⟩:=h;cases k;cases w;cases b<;>cases c<;>exact tS true I q|_=>exact Qc h
theorem ui(Z:X.A.units+66<cLine):u7 X (dY X.K):=by
 intro w k f s n H x y v u Q I r p h Y;have sq:=λh=>xi (X:=X) w k f s n H x y v u Q I r p h Y;have dc:=λh=>Ja Z w k f s n H x y v u Q I r p h Y;cases x with
 |str z =>
  cases y with|int i=>obtain⟨W,c,m,q⟩:=h;exact sq (.inr (.inr ⟨z,i,c,rfl,rfl,W,m,q⟩))|_=>exact Qc h
 |ref a =>
  cases y with
  |int i=>obtain⟨o,j,l,m,q⟩:=h;rcases l with l|l;exact sq (.inl ⟨a,o,i,j,rfl,rfl,l,m,q⟩);exact sq (.inr (.inl ⟨a,o,i,j,rfl,rfl,l,m,q⟩))
  |str z=>obtain⟨j,g,q⟩:=h;exact dc ⟨a,j,rfl,g,q⟩|ref b=>obtain⟨j,g,q⟩:=h;exact dc ⟨a,j,rfl,g,q⟩|_=>exact Qc h
 |_=>exact Qc h
theorem i4{op:CmpOp}(h:OR b=true):behindInMarks op b=false:=by cases b<;>first|rfl|cases h
theorem D8(h:UP b=true):MX b:=by intro o i;cases b<;>first|rfl|cases h
theorem DB(env:Env)(h:tE e=true):starEach (e::es) env=(false,eval e env)::starEach es env:=by cases e<;>first|rfl|cases h
theorem UU(h:OR e=true)(x:Value):foldedSetIterable e env x=pure x:=by cases e<;>first|rfl|cases h
theorem t4{o:Expr}{n:Str}(h:VP o=true):attributeBase o n env (eval o env)=eval o env:=by unfold attributeBase;split;cases h;rfl
theorem N9:K7 X "list.pop" rc:=by intro z s f H x u v g Q I j m h;obtain⟨l,i,u,k,y,rfl,rfl,a,hk,n,q⟩:=h;obtain⟨o,Y,r,p⟩:=kQ hk;have hl:u.length<=sizeLine:=(show jB X.prog X.w H s.heap l (.lst u) from I.hok l _ a).1;rw[qA]at hl;exact M4 z s f H _ _ v g Q I j m ⟨l,u,i,k,y,rfl,rfl,a,by omega,by omega,o,n,q⟩
theorem gL{x:LS}(h:nA (x.map V.str) its):StrsAre its x:=by
 induction x generalizing its with
 |nil=>cases h;exact .nil|cons y x z =>
  cases h with|cons h t=>obtain⟨k,rfl⟩:=h;exact .cons _ _ (z t)
theorem SX{x:LS}(h:StrsAre its x):nA (x.map V.str) its:=by
 induction h with|nil=>exact .nil|cons y t _ z=>exact .cons ⟨t,rfl⟩ z
theorem mY{out:LW}(g:its.Perm out):∀{xs:LV},nA xs its->∃z,z.Perm xs/\nA z out:=by
 induction g with
 |nil=>intro xs r;cases r;exact⟨[],QBB.refl _,.nil⟩|cons x _ k =>
  intro xs r;cases r with|cons h t=>obtain⟨z,p,v⟩:=k t;exact⟨_::z,p.cons _,.cons h v⟩
 |swap x y l =>
  intro xs r;cases r with
  |cons h t=>cases t with|cons i t=>exact⟨_::_::_,QBB.swap _ _ _,.cons i (.cons h t)⟩
 |trans _ _ f a=>intro xs r;obtain⟨z,p,v⟩:=f r;obtain⟨w,q,u⟩:=a v;exact⟨w,q.trans p,u⟩
theorem AZ{xs:LV}{v:Value}(r:nA xs its)(h:v∈its):∃x∈xs,JA x v:=by
 induction r with
 |nil=>exact nomatch h
 |cons r t z=>rcases QL.mp h with e|h;subst e;exact⟨_,QF,r⟩;obtain⟨x,u,y⟩:=z h;exact⟨x,QE _ u,y⟩
theorem AY{vs:LW}{ns:LJ}(h:IntsAre vs ns):nA (ns.map V.int) vs:=by
 induction h with|nil=>exact .nil|cons n t _ x=>exact .cons ⟨t,rfl⟩ x
theorem dH{x α y:Type}{R:α->y->Prop}{f:x->α}{g:x->y}:∀{l:List x},(∀i∈l,R (f i) (g i))->Paired R (l.map f) (l.map g)
 |[],_=>.nil|i::_,h=>.cons (h i QF) (dH λj z=>h j (QE _ z))
theorem RL{α v h:Type}{R:α->v->Prop}{P:α->h->Prop}{S:h->v->Prop}:∀{l:List α}{m:List v}{n:List h},Paired R l m->Paired P l n->(∀x y z,R x y->P x z->S z y)->Paired S n m
 |_,_,_,.nil,.nil,_=>.nil|_,_,_,.cons a t,.cons b u,k=>.cons (k _ _ _ a b) (RL t u k)
theorem uT(hu:X.A.units+66<cLine):BC X (.builtin "sorted") (iW X.K):=by
 intro pins s σ H xs us Q I r h;obtain⟨p,rfl,h⟩:=h;rcases h with⟨ss,W,F,q⟩| ⟨xs,W,F,hx,q⟩| ⟨ns,W,F,q⟩| ⟨R,xs,rs,⟨W,pr,hr⟩,F,sh,q⟩
 skip;obtain⟨u,rfl,m⟩:=GG r;cases m;obtain⟨its,g,Z,hz⟩:=I.list W;have hl:=g.length;rw[QD]at hl;refine sorted_strs Z.isList (by simpa using gL g) (by omega) λout J a1 P a3=>?_;obtain⟨e,E⟩:=QBC s.heap its out;have hlen:=(LH a1).1;have B:=P.length_eq;refine⟨.ref (s.heap.objs.size+1),_,I.laid (t':=s.toks) (λb o z=>QAo z) (wB _) (show jB X.prog X.w _ _ _ (.lst (J.map V.str)) from⟨by rw[QD,qA];omega,out.toList,e,SX a1,by simpa using E⟩),rfl,q _ J (I.hok.fresh (wB _)) P a3⟩;skip;obtain⟨u,rfl,m⟩:=GG r;cases m;obtain⟨its,g,Z,hz⟩:=I.list W;have hl:=g.length;have j:∀v∈its,∃b dd sl n k,∃G:LS,v=.ref b/\s.heap.get? b=some { cls:=.type "list",dict:=dd,data:=.seq k n,slots:=sl }/\StrsAre k.toList G:=λv hv=>by obtain⟨x,hx',rxv⟩:=AZ g hv;obtain⟨a,G,rfl,sq⟩:=hx x hx';cases rxv;obtain⟨f,Y,⟨o,n,e,c,d,z⟩,_⟩:=I.list sq;obtain⟨oc,od,odt,osl⟩:=o;cases c;exact⟨a,od,osl,n,f.toArray,G,rfl,by rw[e,show odt=Data.seq f.toArray n from z],by simpa using gL Y⟩
 refine b8 Z.isList (by omega) (λv hv=>?_) (λh3 kp x hx y hy C hC=>?_) λout B=>?_;obtain⟨b,dd,sl,n,k,G,rfl,e,_⟩:=j v hv;exact⟨b,_,rfl,e,rfl⟩;obtain⟨b,dd,sl,n,k,G,rfl,e,st⟩:=j x hx;obtain⟨b2,dd2,sl2,n2,items2,ts2,rfl,e2,st2⟩:=j y hy;exact sU (s:={ s with heap:=h3 }) (show X.A.units+1+1<cLine by omega) (kp _ _ e) (kp _ _ e2) st st2 (hC _);obtain⟨e,E⟩:=QBC s.heap its out.toArray;obtain⟨ys,S,vy⟩:=mY B.symm g;have hp2:=S.length_eq;refine⟨.ref (s.heap.objs.size+1),_,I.laid (t':=s.toks) (λb o z=>QAo z) (wB _) (show jB X.prog X.w _ _ _ (.lst ys) from⟨by rw[qA];omega,out,e,vy,E⟩),rfl,q _ ys (I.hok.fresh (wB _)) S⟩;obtain⟨u,rfl,m⟩:=GG r;cases m;obtain⟨its,g,Z,hz⟩:=I.list W;have hl:=g.length;rw[QD]at hl;refine sorted_ints Z.isList (yV g) (by omega) λout L a1 P a3=>?_;obtain⟨e,E⟩:=QBC s.heap its out;have B:=P.length_eq;refine⟨.ref (s.heap.objs.size+1),_,I.laid (t':=s.toks) (λb o z=>QAo z) (wB _) (show jB X.prog X.w _ _ _ (.lst (L.map V.int)) from⟨by rw[QD,qA];omega,out.toList,e,AY a1,by simpa using E⟩),rfl,q _ L (I.hok.fresh (wB _)) P a3⟩;obtain⟨u,rfl,m⟩:=GG r;cases m;obtain⟨its,g,Z,hz⟩:=I.list W;have hl:=g.length;have hl2:=Q6 pr;refine u8 (by omega) Z.isList (by omega) (RL pr g λx y v ra b=>?_) sh λp B hu=>?_;obtain⟨a,ys,rfl,sq,S⟩:=hr x y ra;cases b;obtain⟨f,Y,⟨o,e,c,n,d⟩,_⟩:=I.tuple sq;refine⟨a,o,n,f,rfl,e,c,d,RL S Y λx y v a b=>?_⟩;cases y with|l zs=>obtain⟨b',rfl,sq⟩:=a;cases b;obtain⟨N,rv3,z,_⟩:=I.tuple sq;exact⟨b',N.toArray,rfl,z,by simpa using gL rv3⟩|_=>cases a;exact b
 have hs:p.size=its.length:=by have:=B.size_eq;simpa using this
 have M:∀i∈p.toList,i<its.length:=λi O=>by simpa using(Q3.mp B).mem_iff.mp O
 obtain⟨e,E⟩:=QBC s.heap its (p.toList.map λi=>its.getD i Jz).toArray;refine⟨.ref (s.heap.objs.size+1),_,I.laid (t':=s.toks) (λb o z=>QAo z) (wB _) (show jB X.prog X.w _ _ _ (.lst (p.toList.map λi=>xs.getD i V.non)) from⟨by rw[qA,QD,Ql];omega,_,e,dH λi O=>kE g i (by have:=M i O;omega),E⟩),rfl,q _ _ (p.toList.map λi=>rs.getD i []) (I.hok.fresh (wB _)) (dH λi O=>kE pr i (by have:=M i O;omega)) ?_ (R7 hs hu)⟩;refine((Q3.mp B).map _).trans ?_;show((Qj its.length).map _).Perm rs;rw[<- hl,hl2,oG]
theorem fZ:BC X (.type "tuple") (T1 X.K):=by intro x s y H k u Q I r h;obtain⟨p,z,rfl,w,v⟩:=h;exact UN x s y H _ u Q I r ⟨p,z,rfl,.inl ⟨w,v⟩⟩
theorem gZ:BC X (.type "int") ec:=by intro x s y H u z Q I r h;obtain⟨b,rfl,q⟩:=h;exact lZ x s y H _ z Q I r (.inr ⟨b,rfl,q⟩)
theorem O9:K7 X "list.extend" Yc:=by intro y s u H x z v k Q I a f h;obtain⟨l,b,z,w,rfl,rfl,h⟩:=h;exact BY y s u H _ _ v k Q I a f ⟨l,b,z,w,rfl,rfl,h⟩
theorem So(h:X.A.units+66<cLine)(hc:X.calm=true)(f:Bi):(∃id,bootBuiltins f.nm=some (.builtin id)/\BC X (.builtin id) (Eo X.K f))∨∃T,bootBuiltins f.nm=some (.type T)/\BC X (.type T) (Eo X.K f):=by
 cases f with|len=>exact .inl ⟨_,PySem.boot_len,U6⟩|any=>exact .inl ⟨_,PyProof.Rows.boot_any,B6 hc⟩|sorted=>exact .inl ⟨_,PyProof.Rows.boot_sorted,uT h⟩|tuple=>exact .inr ⟨_,by kernel_rfl,fZ⟩|int=>exact .inr ⟨_,PyProof.Rows.boot_int,gZ⟩
end
end
end L2.L3
namespace L2.L3
open PySem PySem.Spec PyProof.Rows
section
variable{S:SC}{i:Nat}{x:Str}
structure OkX(X:Cx)(S:SC)(G:Glob)(E:XK):Prop where
 N:X.N=S.N
 sc:X.env.scope=S.sc
 calm:X.calm=true
 un:X.A.units+66<cLine
 fn:∀f,G.fn f->∃(CX:f7) (k:Nat) (a:Addr) (fd:FuncData) (ps:LS),FnOk X.prog X.w X.K X.mg X.base CX k a fd ps (G.ev.sp f)/\Room k X.A/\X.mg f=some (.ref a)/\wK X.K (.ref a)=true/\kJ X.K fd ps [] /\
  OM CX X E/\∀l H s e s',CX l H s (λ_ _ _=>False) e s'->False
 val:∀x,G.val x->∃u,X.mg x=some u/\JA (G.ev.va x) u
 no:∀x,G.no x->X.mg x=none
def GQ(X:Cx)(Γ:Ev)(E:XK):PX->List Expr->Prop
 | .ny a as,e::es=>PE X e (wp X.K Γ a E).e/\GQ X Γ E as es|_,_=>True
structure Snd(X:Cx)(Γ:Ev)(E:XK)(p:PX)(e:Expr):Prop where
 pe:PE X e (wp X.K Γ p E).e
 pt:PT X e (wp X.K Γ p E).t
 pw:∀op es pos,e=.BoolOp op es pos->PW X e (wp X.K Γ p E).t
 pa:∀es pos,e=.List es pos->PA X es (wp X.K Γ p E).a
 pas:∀es pos,e=.List es pos->GQ X Γ E p es
theorem L7(h:Rf S i x=true):S.N[i]?=some x/\yp S.sc x/\(x==("__debug__":Str))=false/\(x==("__classdict__":Str))=false:=by simp only[Rf,Qd,WS,beq_iff_eq,bne_iff_ne,ne_eq]at h;obtain⟨⟨⟨v,y⟩,u⟩,z⟩:=h;refine⟨v,?_,by simpa using u,by simpa using z⟩;rcases y with(y|y)|y;exact .inl y;exact .inr (.inl y);exact .inr (.inr y)
theorem ua(h:Nh S i x=true):S.N[i]?=some x/\S.sc.names.lookup x=some .local:=by simp only[Nh,Qd,beq_iff_eq]at h;exact h
theorem FK(h:xV S x=true):S.sc.names.lookup x=some .globalImplicit/\(x==("__debug__":Str))=false/\x≠"__name__":=by simp only[xV,Qd,beq_iff_eq,bne_iff_ne,ne_eq]at h;exact⟨h.1.1,by simpa using h.1.2,h.2⟩
theorem xE:∀{l:LS},sJ l=true->l.Nodup
 |[],_=>Q7|x::r,h=>by simp only[sJ,Qd,Q1]at h;exact Qi.mpr ⟨by simpa using h.1,xE h.2⟩
theorem NS{z:Scope}{w:LS}{u:List Bool}(h:Z6 S z w u=true):CompSt S.N S.sc z w u:=by simp only[Z6,Qd,Qw,beq_iff_eq,Q1]at h;obtain⟨⟨⟨f,k⟩,b⟩,a⟩:=h;refine⟨f,λy v e=>?_,λy v e=>?_,λy v e=>?_,λy v e=>?_,xE b,by simpa using a⟩;have:=(k y v).1.1;rw[e]at this;exact absurd this (by decide);have:=(k y v).1.2;rw[e]at this;simp at this;exact this.1;have:=(k y v).2;rw[e]at this;simp at this;exact this;have:=(k y v).1.2;rw[e]at this;simp at this;exact this.2
theorem OkX.comp{X:Cx}{G:Glob}{E:XK}(ok:OkX X S G E)(y:Scope)(v:LS)(u:List Bool)(s:Shared)(H:Hp)(ex:List Addr):OkX (HA X y v u s H ex) (JX S y v u) G (λ_ _ _=>False) where
 N:=by show v++eB u 0 X.N=v++eB u 0 S.N;rw[ok.N]
 sc:=by show ZL y X.env.scope=ZL y S.sc;rw[ok.sc]
 calm:=ok.calm
 un:=ok.un
 fn:=λf h=>by obtain⟨o,k,a,n,b,m,l,j,g,e,p,w⟩:=ok.fn f h;exact⟨o,k,a,n,b,m,l,j,g,e,λ_ _ _ _ _ _ _ z=>(w _ _ _ _ _ z).elim,w⟩
 val:=ok.val
 no:=ok.no
end
section
variable{X:Cx}
theorem k5{c:Bool}{S:SC}{i:Nat}{x:Str}(k:X.N=S.N)(y:X.env.scope=S.sc)(u:c=true->∀x,X.fn x=true)(h:gk c S i x=true):X.N[i]?=some x/\Vk X.env.scope x/\(X.fn x=true∨X.env.scope.names.lookup x=some .local):=by
 simp only[gk,Qd,WS,beq_iff_eq]at h;rw[k,y];rcases h.2 with z|⟨w,v⟩
 exact⟨h.1,.inl z,.inr z⟩;exact⟨h.1,.inr v,.inl (u w x)⟩
theorem RN{c:Bool}{S:SC}(a:c=true->∀x,X.fn x=true)(j:X.N=S.N)(k:X.env.scope=S.sc)(nd:X.N.Nodup):∀(w:LN) (es:List Expr),w.length=es.length->((w.zip es).all λp=>match p.2 with | .Name x _=>gk c S p.1 x|_=>false)=true ->
  Nu X es (λvs σ H Q=>∃y,yB w vs σ=some y/\Q y H)
 |[],[],_,_=>by
  intro z s σ H vs n Q I r h;obtain⟨y,e,q⟩:=h;cases vs with|nil=>cases r;simp only[yB]at e;cases e;exact assignInOrder_nil ⟨σ,H,I,q⟩|cons _ _=>simp[yB]at e
 |[],_::_,h,_=>by cases h|_::_,[],h,_=>by cases h|i::w,e::es,hl,hz=>by
  simp only[QAP,ql,Qd]at hz;obtain⟨l,W⟩:=hz;cases e with
  |Name x pos =>
   obtain⟨g,f,b⟩:=k5 j k a l;have Z:=RN a j k nd w es (by simpa using hl) W;intro z s σ H vs n Q I r h;obtain⟨y,e,q⟩:=h;cases vs with
   |nil=>simp[yB]at e|cons v vs =>
    simp only[yB]at e;cases r with|cons r Y=>show wpAny _ _ (assignInOrder (assign (.Name x pos) X.env::(assignEach es X.env).map (·.2)) _) _ _ _;refine assignInOrder_cons (LB (CW (pos:=pos) nd g f b z s σ H v _ _ I r (show hX i v σ H (λu m=>u=σ.set i (some v)/\m=H) from⟨rfl,rfl⟩)) λ_ o ⟨u,m,B,A,K⟩=>?_);subst A K;exact Z z o _ _ vs _ Q B Y ⟨y,e,q⟩
  |_=>simp at l
theorem gS{c:Bool}:∀(z:LN) (es:List Expr) (S:SC),z.length=es.length->((z.zip es).all λp=>match p.2 with | .Name x _=>gk c S p.1 x|_=>false)=true->(assignEach es X.env).length=es.length/\(assignEach es X.env).findIdx? (·.1)=none
 |[],[],_,_,_=>⟨rfl,rfl⟩|[],_::_,_,h,_=>by cases h|_::_,[],_,h,_=>by cases h|i::z,e::es,S,hl,hz=>by
  simp only[QAP,ql,Qd]at hz;obtain⟨w,v⟩:=hz;cases e with|Name x y=>have u:=gS z es S (by simpa using hl) v;have k:assignEach (.Name x y::es) X.env=(false,assign (.Name x y) X.env)::assignEach es X.env:=rfl;rw[k];refine⟨by rw[QM,QM,u.1],?_⟩;rw[List.findIdx?_cons];simp[u.2]|_=>simp at w
theorem iL:∀{y:LN}{vs:LV}{σ x:St},yB y vs σ=some x->vs.length=y.length
 |[],[],_,_,_=>rfl|[],_::_,_,_,h=>by simp[yB]at h|_::_,[],_,_,h=>by simp[yB]at h|_::y,_::vs,σ,x,h=>by simp only[yB]at h;rw[QM,QM,iL h]
theorem G2{c:Bool}{S:SC}{G:Glob}{E:XK}(ok:OkX X S G E)(z:c=true->∀x,X.fn x=true)(nd:X.N.Nodup){b:Tg}{e:Expr}(h:Fq c S b e=true):PG X e (RF X.K b):=by
 cases b with
 |nm i =>
  cases e with|Name x pos=>obtain⟨l,j,g⟩:=k5 ok.N ok.sc z h;exact CW nd l j g|_=>cases h
 |tp o =>
  cases e with
  |Tuple m k pos =>
   obtain⟨J,Z⟩:=yA h;have f:=qe J;obtain⟨C,B⟩:=gS (X:=X) o m S f Z;have w:=Mg (pos:=pos) (k:=k) (n:=m.length) ok.calm (RN z ok.N ok.sc nd o m f Z) C B;intro y s W H v u Q I r Y;refine w y s W H v u Q I r ?_;cases v with|ref p=>obtain⟨A,a,F,e,q⟩:=Y;exact⟨p,A,rfl,F,by rw[iL e,f],a,e,q⟩|_=>exact Qc Y
  |_=>cases h
end
variable{Γ:Ev}
theorem X7(K:QA)(a:Addr)(xs:LV):Yields (Zv K a) (xs.map .one) (λH=>HC K H a xs) :=
  { go:=λi H h u=>by
      have z:i<xs.length:=by simpa using u
      exact⟨xs,xs[i],h,by simp[z]⟩
    yld:=λi H x v h _ ⟨e,y⟩=>⟨.one x,by rw[QX,y xs h];rfl,rfl,e⟩
    stop:=λi H h u=>⟨xs,h,by simpa using u⟩ }
theorem Uf(K:QA)(a:Addr)(xs:LV):Yields (Jv K a) (xs.map .one) (λH=>rD K H a xs) :=
  { go:=λi H h u=>by
      have z:i<xs.length:=by simpa using u
      exact⟨xs,xs[i],h,by simp[z]⟩
    yld:=λi H x v h _ ⟨e,y⟩=>⟨.one x,by rw[QX,y xs h];rfl,rfl,e⟩
    stop:=λi H h u=>⟨xs,h,by simpa using u⟩ }
theorem Bf(u:Int)(n:Nat):Yields (zu u n) ((Qj n).map λ(k:Nat)=>.one (.int (u+(k:Int)))) (λ_=>True) :=
  { go:=λi H h z=>by
      have y:i<n:=by simpa using z
      exact y
    yld:=λi H x w h z ⟨e,v⟩=>by
      have y:i<n:=by simpa using z
      exact⟨.one x,by rw[QX,wE y,v];rfl,rfl,e⟩
    stop:=λi H h z=>by
      have y:n<=i:=by simpa using z
      exact y }
theorem B7(K:QA)(z:Src)(c:Nat)(xs:LV):Yields (Vv K z c) (xs.zipIdx.map λp=>.tup [.int ((c+p.2:Nat):Int),p.1]) (λH=>XZ K H z xs) :=
  { go:=λi H h u=>by
      have y:i<xs.length:=by simpa using u
      exact⟨xs,xs[i],h,by simp[y]⟩
    yld:=λi H x g h u ⟨p,a,v,e,w,k⟩=>by
      have y:i<xs.length:=by simpa using u
      have f:=k xs h;refine⟨.tup [.int ((c+i:Nat):Int),a],?_,p,v,e,w⟩;have b:xs.zipIdx[i]?=some (a,i):=by rw[QBL,f];simp
      rw[QX,b];rfl
    stop:=λi H h u=>⟨xs,h,by simpa using u⟩ }
theorem FZ(ep:Nat)(a:Addr)(kvs:List KE):Yields (Yv ep kvs.length a) (kvs.map λp=>.tup [.ref p.2.1,p.2.2]) (λH=>H a=some (.dT ep kvs)) :=
  { go:=λi H h y=>by
      have z:i<kvs.length:=by simpa using y
      exact⟨kvs,kvs[i],h,rfl,by simp[z]⟩
    yld:=λi H x w h y ⟨q,p,u,e,v,k⟩=>⟨.tup [.ref p.2.1,p.2.2],by rw[QX,k kvs h];rfl,q,u,e,v⟩
    stop:=λi H h y=>⟨kvs,h,rfl,by simpa using y⟩ }
theorem U7(ep:Nat)(a:Addr)(kvs:List KE):Yields (Kv ep kvs.length a) (kvs.map λp=>.one (.ref p.2.1)) (λH=>H a=some (.dT ep kvs)) :=
  { go:=λi H h y=>by
      have z:i<kvs.length:=by simpa using y
      exact⟨kvs,kvs[i],h,rfl,by simp[z]⟩
    yld:=λi H x b h y ⟨u,k⟩=>by obtain⟨p,w,v⟩:=k kvs h;exact⟨.one (.ref p.2.1),by rw[QX,w];rfl,v,u⟩
    stop:=λi H h y=>⟨kvs,h,rfl,by simpa using y⟩ }
noncomputable def OT(h:St->Hp->(List Item->(Hp->Prop)->Hp->Prop)->Prop):TI:=λx H R=>h x H λy st z=>∀J,Yields J y st->R J z
section
variable{X:Cx}{f:Expr}
section
variable{a:Expr}{ta:TA}{p pos k:Pos}{x:Str}{es:List Expr}{d:Nat}
theorem F8{l:Expr}{t:TE}(hl:PE X l t):PI X f l (OT λσ H R=>t σ H λv m=>mC X.K .val [v] m R):=by
 intro g s σ H R I h;refine LB (hl g s σ H _ I h) λv y ⟨x,m,i,F,C⟩=>?_;have j:∀b∈[y.heap.objs.size],zJ X g m b:=λb hb=>by
  have e:b=y.heap.objs.size:=by simpa using hb
  subst e;exact i.fpOk (QW _) (i.hok.fresh (QW _))
 cases x with
 |ref a =>
  cases F;rcases C with⟨Z,A,q⟩| ⟨Z,A,q⟩| ⟨ep,u,e,q⟩
  obtain⟨Y,E,p,G⟩:=i.list A;refine QAf p.isList ?_;exact⟨y.heap.objs.size,[y.heap.objs.size],_,_,m,rfl,i.kept (t':=y.toks) λb o e=>QH _ e,AX a _,⟨_,QT _ rfl,rfl,rfl⟩,j,q _ (X7 _ a Z)⟩;obtain⟨Y,E,p,G⟩:=i.tuple A;refine QBr (show y.heap.IsTuple a Y.toArray from p) ?_;exact⟨y.heap.objs.size,[y.heap.objs.size],_,_,m,rfl,i.kept (t':=y.toks) λb o e=>QH _ e,jU a _,⟨_,QT _ rfl,rfl,rfl⟩,j,q _ (Uf _ a Z)⟩;obtain⟨z,J,Z,r,ob,B,O,N,M,L,P⟩:=(show jB X.prog X.w m y.heap a (.dT ep u) from i.hok a _ e)
  have W:B.size=u.length:=by have:=congrArg qw L;rw[QD,Ql]at this;rw[this,<- Q6 r]
  refine Xa J O N.1 M ?_;exact⟨y.heap.objs.size,[y.heap.objs.size],_,_,m,rfl,i.kept (t':=y.toks) λb o e=>QH _ e,EX (a:=a) (n:=u.length) (ep:=ep),⟨_,QT _ rfl,rfl,by rw[<- W];rfl⟩,j,q _ (U7 ep a u)⟩
 |_=>exact Qc C
theorem G8(g:x="range")(m:Gl X x)(l:X.mg x=none)(n:PA X [a] ta)(i:tE a=true) :
  PI X f (.Call (.Name x p) [a] [] pos) (OT λσ H R=>ta σ H λvs v=>mC X.K .rng1 vs v R):=by
 subst g;intro z s σ H R I h;refine Call_ (iJ I m l boot_range (wq (LB (n pos z s σ H _ I h) λY Z ⟨vs,v,o,b,u⟩=>?_) (DB _ i) rfl))
 match vs,u with
 |[.int j],⟨⟨u,q2⟩,q⟩ =>
  cases b with
  |cons r w =>
   cases w;obtain⟨t,rfl⟩:=r;refine call_range_1 (O1 o (by omega) (by omega) u q2 ?_);have e:(j - 0).toNat=j.toNat:=by simp
   rw[e];have y:=Bf 0 j.toNat;refine q _ ?_;simpa using y
theorem nZ:bootBuiltins ("enumerate":Str)=some (.type "enumerate"):=by kernel_rfl
theorem f6{y:HB}{σ:St}{e:Hp}{h:Shared}{R:It->Hp->Prop}{c:Nat}{z:Src}{xs:LV}{its:Array Value}{h':Heap}(v:Inv X y σ e h)(g:BB h.heap z its)(st:SV (h.heap.objs.size+1) h.heap.objs.size z c 0 h')(j:∀c o,h.heap.get? c=some o->h'.get? c=some o)
  (q:∀J,Yields J (xs.zipIdx.map λp=>.tup [.int ((c+p.2:Nat):Int),p.1]) (λH=>XZ X.K H z xs)->R J e):wpAny (model X.prog X.w) X.A (pyIter (.ref (h.heap.objs.size+1))) (Ht X y σ (.Tuple es d k) R) X.xe { h with heap:=h' }:=by
 obtain⟨⟨i,l⟩,_⟩:=id st;refine QB5 l ?_;have m:=v.kept (h':=h') (t':=h.toks) j;have lt:=g.lt;refine⟨_,[h.heap.objs.size+1,h.heap.objs.size],_,_,e,rfl,m,IX (Iv (Nat.succ_ne_self _)) (Qn (Wa lt)) (Qn lt),st,λb hb=>?_,q _ (B7 _ z c xs)⟩;have u:h.heap.objs.size<=b:=by simp only[QL,WD,or_false]at hb;rcases hb with rfl|rfl;exact QAx _ _;exact QW _
 exact v.fpOk u (v.hok.fresh u)
theorem M8(l:x="enumerate")(o:Gl X x)(n:X.mg x=none)(Y:PA X [a] ta)(m:tE a=true) :
  PI X (.Tuple es d k) (.Call (.Name x p) [a] [] pos) (OT λσ H R=>ta σ H λvs w=>mC X.K .enum vs w R):=by
 subst l;intro u s σ H R I h;refine Call_ (iJ I o n nZ (wq (LB (Y pos u s σ H _ I h) λZ W ⟨vs,w,v,e,g⟩=>?_) (DB _ m) rfl))
 match vs,g with
 |[.ref l1],⟨z,xs,e1,h1,q⟩ =>
  subst e1;cases e with|cons r b=>cases b;cases r;obtain⟨j,_,y,_⟩:=v.src h1;refine DV y λA st i=>f6 (xs:=xs) v y st i ?_;simpa using q
theorem Ka{K:QA}{u:V}{H:Hp}{R:List Item->(Hp->Prop)->Hp->Prop}(h:mC K .itm [u] H R):∃a ep kvs,u=.ref a/\H a=some (.dT ep kvs)/\R (kvs.map λp=>.tup [.ref p.2.1,p.2.2]) (λH=>H a=some (.dT ep kvs)) H:=by
 cases u with|ref a=>obtain⟨ep,kvs,e,q⟩:=h;exact⟨a,ep,kvs,rfl,e,q⟩|_=>exact Qc h
theorem Lg{o:Expr}{B:TE}{apos cpos:Pos}(J:PE X o B)(i:attributeBase o "items" X.env (eval o X.env)=eval o X.env)(g:(apos.endLine==cpos.line)=true) :
  cq X (.Tuple es d k) (.Call (.Attribute o "items" apos) [] [] cpos) (OT λσ H R=>B σ H λv l=>mC X.K .itm [v] l R):=by
 intro u s σ H R I h;refine QAm i g (LB (J u s σ H _ I h) λv j ⟨x,l,C,E,G⟩=>?_);obtain⟨a,ep,y,rfl,e,q⟩:=Ka G;cases E;obtain⟨z,L,P,r,ob,W,m,Z,N,M,Q⟩:=(show jB X.prog X.w l j.heap a (.dT ep y) from C.hok a _ e)
 refine⟨"dict",_,QAp,PySem.F.slot_dict_items,PySem.F.type_dict_items,⟨ob,m,Z.1⟩,λb O=>?_,WW rfl (QBW (CV m Z.1 L ?_))⟩;cases O;exact⟨ob,m,Z.2.1⟩;have A:Inv X u σ l { j with heap:=j.heap.push { cls:=.type "dict_items",data:=.fields #[.ref a] } }:=C.kept (t':=j.toks) λb o e=>QH _ e;refine U5 ⟨_,QT _ rfl,rfl,rfl⟩ (QH _ m) N ?_;have Y:W.size=y.length:=by have:=congrArg qw M;rw[QD,Ql]at this;rw[this,<- Q6 r]
 refine⟨_,[_],_,_,l,rfl,A.kept (t':=j.toks) λb o e=>QH _ e,zU (a:=a) (n:=y.length) (ep:=ep),⟨.none,.none,?_⟩,λb hb=>?_,q _ (FZ ep a y)⟩;rw[<- Y];exact QT _ rfl;have e:=QJ.mp hb;subst e;exact A.fpOk (QW _) (A.hok.fresh (QW _))
end
end
section
variable{u σ:St}{K:QA}{k:Tg}{H:Hp}{Q:St->Hp->Prop}
def Tg.at:Tg->LN
 | .nm i=>[i]|.tp h=>h
def VT(k:Tg)(u σ:St):Prop:=u.length=σ.length/\∀(j:Nat),j∉k.at->u[j]?=σ[j]?
theorem kY{i:Nat}{v:Option V}(h:u.length=σ.length)(x:∀j,j≠i->u[j]?=σ[j]?):u.set i v=σ.set i v:=by apply qU;intro j;by_cases e:j=i;subst e;by_cases hl:j<σ.length;rw[qd (by omega),qd hl];rw[Qk (by rw[qY];omega),Qk (by rw[qY];omega)];rw[qP (qD e),qP (qD e)];exact x j e
theorem AH:∀(x:LN) (vs:LV) (u σ:St),u.length=σ.length->(∀j,j∉x->u[j]?=σ[j]?)->yB x vs u=yB x vs σ
 |[],[],u,σ,hl,h=>by have:u=σ:=qU λj=>h j (by simp);rw[this]|[],_::_,_,_,_,_=>rfl|_::_,[],_,_,_,_=>rfl|i::x,v::vs,u,σ,hl,h=>by simp only[yB];refine AH x vs _ _ (by simp[hl]) λj z=>?_;by_cases e:j=i;subst e;by_cases y:j<σ.length;rw[qd (by omega),qd y];rw[Qk (by rw[qY];omega),Qk (by rw[qY];omega)];rw[qP (qD e),qP (qD e)];exact h j (by simp[e,z])
theorem rE:∀(h:LN) (vs:LV) (σ u:St),yB h vs σ=some u->u.length=σ.length/\∀j,j∉h->u[j]?=σ[j]?
 |[],[],σ,u,e=>by simp only[yB]at e;cases e;exact⟨rfl,λ_ _=>rfl⟩|[],_::_,_,_,e=>by simp[yB]at e|_::_,[],_,_,e=>by simp[yB]at e|i::h,v::vs,σ,u,e=>by simp only[yB]at e;obtain⟨w,y⟩:=rE h vs _ _ e;refine⟨by rw[w,qY],λj x=>?_⟩;rw[y j (λz=>x (QE _ z)),qP (λz=>x (by simp[z]))]
theorem mT{v:V}(a:VT k u σ)(h:RF K k v σ H Q):RF K k v u H λx m=>VT k x σ/\Q x m:=by
 obtain⟨f,g⟩:=a;cases k with
 |nm i=>have e:u.set i (some v)=σ.set i (some v):=kY f λj y=>g j (by simpa[Tg.at]using y);show VT (.nm i) (u.set i (some v)) σ/\Q (u.set i (some v)) H;rw[e];exact⟨⟨by simp,λj y=>qP (λz=>y (by simp[Tg.at,z]))⟩,h⟩|tp b =>
  cases v with|ref p=>obtain⟨w,x,l,e,q⟩:=h;exact⟨w,x,l,by rw[AH b w u σ f λj y=>g j y];exact e,⟨(rE b w σ x e).1,λj y=>(rE b w σ x e).2 j y⟩,q⟩|_=>exact Qc h
theorem FV{v:V}{y:St->Hp->Prop}(m:∀σ H,Q σ H->y σ H)(h:RF K k v σ H Q):RF K k v σ H y:=by
 cases k with
 |nm i=>exact m _ _ h|tp a =>
  cases v with|ref p=>obtain⟨z,x,w,e,q⟩:=h;exact⟨z,x,w,e,m _ _ q⟩|_=>exact Qc h
theorem FM{it:Item}{x:V}{y:Hp}(w:match it with | .one v=>x=v/\y=H | .tup vs=>∃p,H p=none/\x=.ref p/\y=UA H p (.tup vs))(h:bindI K k it σ H Q):RF K k x σ y Q:=by
 cases it with
 |one v=>obtain⟨rfl,rfl⟩:=w;exact h|tup vs =>
  obtain⟨p,z,rfl,rfl⟩:=w;cases k with
  |nm i=>exact h p z|tp a =>
   obtain⟨u,e,q⟩:=h (UA H p (.tup vs)) λb o e=>by rw[vA (aA e z)];exact e
   exact⟨vs,u,rD.of iA,e,q⟩
theorem Y6{xs:List Item}{st:Hp->Prop}{tc:TT}{te:TE}{a:St}{Q:VK}(h:Uo K xs st (bindI K k) tc te a H Q):OX K xs st k tc te a H Q:=by
 obtain⟨W,Z,o,j,done⟩:=h;intro J Y;refine⟨λi m v u f=>m=xs.length - i/\i<=xs.length/\VT k u a/\W i v f,⟨xs.length,by simp,Qt _,⟨rfl,λ_ _=>rfl⟩,Z⟩,?_⟩;rintro i m v u f ⟨rfl,C,F,w⟩;have n:=o i v f C w;by_cases g:i<xs.length;refine .inr ⟨Y.go i f n g,λx G y=>?_⟩;obtain⟨it,p,B⟩:=Y.yld i f x G n g y;have b:=mT F (FM B (j i it v f p w));refine FV (λl I q=>?_) b;obtain⟨r,q⟩:=q;have E:∀(z:LV) (s:Hp),(∃X,X < xs.length - i/\X=xs.length - (i+1)/\i+1<=xs.length/\VT k l a/\W (i+1) z s)=W (i+1) z s:=λz s =>
  propext ⟨λ⟨_,_,_,_,_,w⟩=>w,λw=>⟨_,by omega,rfl,g,r,w⟩⟩
 simp only[E];exact q
 ·have e:i=xs.length:=by omega
  subst e;obtain⟨A,q⟩:=done v f w;exact .inl ⟨Y.stop _ f n (QW _),A,q⟩
end
end L2.L3
namespace L2.L3
open PySem PySem.Spec PyProof.Rows
variable{Γ:Ev}
section
variable{X:Cx}{E:XK}{p its:PX}{es:List Expr}{e t n:Expr}{pos:Pos}{S:SC}{Q:LV->Hp->Prop}{G:Glob}{d:ItK}
noncomputable def ZP:PX->Bool
 | .ny _ _=>false|_=>true
theorem rT(h:ZP p=true):GQ X Γ E p es:=by cases p<;>first|trivial|cases h
theorem ZQ(Q:Bool->Hp->Prop):(λ(x:V) (h:Hp)=>N6 x h Q)=λ(x:V) (h:Hp)=>∃k,x=.bl k/\Q k h:=by funext x h;exact ij x h Q
theorem Snd.of(pe:PE X e (wp X.K Γ p E).e)(pt:PT X e (wp X.K Γ p E).t)(hb:∀op es pos,e≠.BoolOp op es pos)(x:(wp X.K Γ p E).a=never.a)(h:ZP p=true:=by rfl):Snd X Γ E p e :=
 ⟨pe,pt,λop es pos z=>absurd z (hb op es pos),λes pos z=>by rw[x];exact UR,λ_ _ _=>rT h⟩
theorem Snd.lit(pe:PE X e (wp X.K Γ p E).e)(h:(wp X.K Γ p E).t=never.t)(hb:∀op es pos,e≠.BoolOp op es pos)(y:(wp X.K Γ p E).a=never.a)(x:ZP p=true:=by rfl):Snd X Γ E p e :=
 Snd.of pe (by rw[h];exact BL) hb y x
theorem Snd.args(w:PA X es (wp X.K Γ p E).a)(u:GQ X Γ E p es)(v:(wp X.K Γ p E).e=never.e)(y:(wp X.K Γ p E).t=never.t):Snd X Γ E p (.List es pos) :=
 ⟨by rw[v];exact E2,by rw[y];exact BL,λ_ _ _ z=>(by cases z),λx h z=>by cases z;exact w,λx h z=>by cases z;exact u⟩
theorem Ag{x:Str}{v:V}{u:Value}(y:X.env.scope=S.sc)(h:xV S x=true)(z:X.mg x=some u)(r:JA v u):PE X (.Name x pos) (λ_ H Q=>Q v H):=by obtain⟨k,w,a⟩:=FK h;exact O8 (show X.env.scope.names.lookup x=some .globalImplicit by rw[y];exact k) z r w
theorem mE:∀(p:PX) {es:List Expr},xC p S (.List es pos)=true->es.all tE=true:=by
 intro p;induction p with|nz=>intro es h;have h:es.isEmpty=true:=h;rw[Q9.mp h];rfl|ny a u _ y=>intro es h;have h:g9 es _=true:=h;obtain⟨x,t,rfl,h⟩:=xK h;have z:=yA h;rw[ql,z.1,y (yA z.2).2];rfl|lst u y=>exact λh=>y h|_=>exact λh=>(QG h).elim
theorem pT{K:QA}{σ:St}{H:Hp}:∀(p:PX),UE p=true->xC p S (.List [] pos)=true->((wp K Γ p E).a σ H Q↔Q [] H):=by
 intro p;cases p with|nz=>exact λ_ _=>WR|ny _ _=>exact λ_ h=>(QG h).elim|_=>exact λh=>(QG h).elim
theorem rZ{K:QA}{σ:St}{H:Hp}(p:PX)(h:xC p S (.List [] pos)=true)(q:(wp K Γ p E).a σ H Q):Q [] H:=by
 cases x:UE p with
 |true=>exact(pT p x h).mp q|false =>
  cases p with|nz=>exact q|ny _ _=>exact(QG h).elim|_=>exact q.elim
theorem oT{a:Expr}(p:PX)(y:UE p=true)(h:xC p S (.List [a] pos)=true):∃x,p=.ny x .nz:=by
 cases p with
 |ny x r =>
  have z:xC r S (.List [] pos)=true:=(yA (yA h).2).2;cases r with|nz=>exact⟨x,rfl⟩|ny _ _=>exact(QG z).elim|_=>exact(QG y).elim
 |nz=>exact(QG h).elim|_=>exact(QG y).elim
theorem Jn(h:X.A.units+66<cLine)(m:Mt):∃id,PlainAttrs m.ty/\Slot m.ty m.nm id/\typeOf (.builtin id)=pure (.type "method_descriptor")/\K7 X id (R9 X.K m):=by
 cases m with|append=>exact⟨_,WT,PySem.F.slot_list_append,PySem.F.type_list_append,CY⟩|pop=>exact⟨_,WT,PySem.F.slot_list_pop,PySem.F.type_list_pop,N9⟩|extend=>exact⟨_,WT,PySem.F.slot_list_extend,PySem.F.type_list_extend,O9⟩|setd=>exact⟨_,QAp,PySem.F.slot_dict_setdefault,PySem.F.type_dict_setdefault,UY h⟩
theorem kG{env:Env}{pos:Pos}:∀{es:List Expr},es.all tE=true->(backTo pos (starEach es env)).any (·.1)=false
 |[],_=>rfl|e::es,h=>by rw[ql]at h;obtain⟨y,x⟩:=yA h;rw[DB env y];show(false||(backTo pos (starEach es env)).any (·.1))=false;rw[kG x];rfl
theorem eT{env:Env}{pos:Pos}:∀{es:List Expr},es.all tE=true->(backTo pos (starEach es env)).all (λx=>!x.1)=true
 |[],_=>rfl|e::es,h=>by rw[ql]at h;obtain⟨z,y⟩:=yA h;rw[DB env z];show(true&&(backTo pos (starEach es env)).all (λx=>!x.1))=true;rw[eT y];rfl
theorem nU(ok:OkX X S G E)(y:kq (UE its) S d (λes p=>xC its S (.List es p)) t n pos=true)(j:yo G d)(m:isItm d=false)
  (b:∀es p,xC its S (.List es p)=true->Snd X G.ev E its (.List es p)):PI X t n (OT λσ H R=>(wp X.K G.ev its E).a σ H λvs q=>mC X.K d vs q R):=by
 have w:∀{x:Str},xV S x=true->Gl X x:=λ{x} h=>by show X.env.scope.names.lookup x=some .globalImplicit;rw[ok.sc];exact(FK h).1
 have z:EU t=true->∃es k p,t=.Tuple es k p:=λh=>by
  cases t with|Tuple es k p=>exact⟨es,k,p,rfl⟩|_=>exact(QG h).elim
 cases d with|val=>have i:=yA y;have f:=(b _ pos i.2).pas _ pos rfl;obtain⟨a,rfl⟩:=oT its i.1 i.2;exact F8 f.1|rng1=>obtain⟨l,es,o,p,rfl,g,h⟩:=OK y;have v:=yA h;cases Q9.mp v.1;obtain⟨a,rfl,u⟩:=zC v.2;exact G8 rfl (w g) (ok.no _ j) ((b _ p u).pa _ p rfl) (by simpa using mE its u)|enum=>have i:=yA y;obtain⟨es,k,pt,rfl⟩:=z i.1;obtain⟨l,es,o,p,rfl,g,h⟩:=OK i.2;have v:=yA h;cases Q9.mp v.1;obtain⟨a,rfl,u⟩:=zC v.2;exact M8 rfl (w g) (ok.no _ j) ((b _ p u).pa _ p rfl) (by simpa using mE its u)|itm=>cases m
theorem L8(ok:OkX X S G E)(x:kq (UE its) S d (λes p=>xC its S (.List es p)) t n pos=true)(g:yo G d)
  (u:∀es p,xC its S (.List es p)=true->Snd X G.ev E its (.List es p)):cq X t n (OT λσ H R=>(wp X.K G.ev its E).a σ H λvs j=>mC X.K d vs j R):=by
 cases b:isItm d with
 |false=>exact(nU ok x g b u).to0|true =>
  cases d with
  |itm =>
   have i:=yA x;have w:=yA i.2;cases t with|Tuple es k pt=>obtain⟨v,l,es,p,rfl,hl,h⟩:=IW w.2;have f:=yA h;have z:=yA f.2;cases Q9.mp z.1;have y:=(u _ p z.2).pas _ p rfl;obtain⟨a,rfl⟩:=oT its w.1 z.2;exact Lg y.1 (t4 f.1) hl|_=>exact(QG i.1).elim
  |_=>cases b
theorem rG{te x:TE}(h:PE X e te)(q:∀σ H Q,x σ H Q->te σ H Q):PE X e x:=λy s σ H Q I z=>h y s σ H Q I (q σ H Q z)
theorem snd:∀(p:PX) {X:Cx}{S:SC}{E:XK}(ok:OkX X S G E) {e:Expr},xC p S e=true->uB G p->Snd X G.ev E p e:=by
 intro p;induction p with
 |xz i =>
  intro X S E ok e h _;obtain⟨x,pos,rfl,h⟩:=JF h;obtain⟨Y,B,M,h4⟩:=L7 h;have base:=N2 (pos:=pos) (show X.N[i]?=some x by rw[ok.N];exact Y) (show yp X.env.scope x by rw[ok.sc];exact B) M h4;have pe:PE X (.Name x pos) (wp X.K G.ev (.xz i) E).e:=rG base λW H Q q=>by
   have q:(match W[i]? with|some (some v)=>Q v H|_=>False):=q;cases hs:W[i]? with
   |none=>rw[hs]at q;exact q.elim|some o =>
    rw[hs]at q;cases o with|none=>exact q.elim|some v=>exact⟨v,hs,q⟩
  exact Snd.of pe (FD pe λ_=>rfl) (λ_ _ _ z=>by cases z) rfl
 |int i=>intro X S E ok e h _;obtain⟨c,k,pos,rfl,h⟩:=tG h;obtain⟨j,rfl,h⟩:=vj h;cases qe h;exact Snd.of j3 (FD (ta:=λ_ H Q=>Q (.int i) H) j3 λ_=>rfl) (λ_ _ _ z=>by cases z) rfl|str x=>intro X S E ok e h _;obtain⟨c,k,pos,rfl,h⟩:=tG h;obtain⟨j,rfl,h⟩:=kj h;cases qe h;exact Snd.lit Rg rfl (λ_ _ _ z=>by cases z) rfl|bl b=>intro X S E ok e h _;obtain⟨c,k,pos,rfl,h⟩:=tG h;obtain⟨j,rfl,h⟩:=Vb h;cases qe h;exact Snd.of Uc (FD (ta:=λ_ H Q=>Q (.bl b) H) Uc λ_=>rfl) (λ_ _ _ z=>by cases z) rfl|non=>intro X S E ok e h _;obtain⟨c,k,pos,rfl,h⟩:=tG h;cases Kb h;exact Snd.of A2 (FD (ta:=λ_ H Q=>Q .non H) A2 λ_=>rfl) (λ_ _ _ z=>by cases z) rfl|glo x=>intro X S E ok e h nd;obtain⟨y,pos,rfl,h⟩:=JF h;have h:=yA h;cases qe h.1;obtain⟨u,hm,r⟩:=ok.val x nd;have pe:=Ag (pos:=pos) ok.sc h.2 hm r;exact Snd.of pe (FD pe λ_=>rfl) (λ_ _ _ z=>by cases z) rfl|bin op a b A J=>intro X S E ok e h nd;obtain⟨l,o,r,pos,rfl,h⟩:=l9 h;have Y:=yA h;have B:=yA Y.2;cases qe Y.1;have pe:=Vm (pos:=pos) (vh op) (A ok B.1 nd.1).pe (J ok B.2 nd.2).pe;exact Snd.of pe (FD pe λ_=>rfl) (λ_ _ _ z=>by cases z) rfl|cmp op a b A J=>intro X S E ok e h nd;obtain⟨l,os,rs,pos,rfl,h⟩:=f9 h;obtain⟨o,rfl,h⟩:=zC h;obtain⟨r,rfl,h⟩:=zC h;have Y:=yA h;have B:=yA Y.2;have M:=yA B.2;cases qe Y.1;have pa:=(A ok M.1 nd.1).pe;have pb:=(J ok M.2 nd.2).pe;refine Snd.of (T8 (pos:=pos) (V3 ok.un op) pa pb (i4 B.1)) (λL s W H Q I q=>Z8 (pos:=pos) (V3 ok.un op) pa pb (i4 B.1) L s W H Q I ?_) (λ_ _ _ z=>by cases z) rfl;show Kl _ _ _ W H (λ(x:V) (Z:Hp)=>∃k,x=.bl k/\Q k Z);rw[<- ZQ Q];exact q|and a b A J =>
  intro X S E ok e h nd;obtain⟨o,es,pos,rfl,h⟩:=GR h;have Y:=yA h;cases qe Y.1;obtain⟨l,t,rfl,B⟩:=xK Y.2;obtain⟨r,t,rfl,M⟩:=xK B;have h4:=yA M;have P:=A ok h4.1 nd.1;have sb:=J ok h4.2 nd.2;have eqA:∀(W:St) (Q:VK),(λ(x:V) (Z:Hp)=>∃c,x=.bl c/\if c=true then(wp X.K G.ev b E).e W Z Q else Q (.bl false) Z)=λ(x:V) (Z:Hp)=>N6 x Z λc H2=>if c=true then(wp X.K G.ev b E).e W H2 Q else Q (.bl false) H2:=λW Q=>(ZQ _).symm
  have key:PW X (.BoolOp .And (l::r::t) pos) (wp X.K G.ev (.and a b) E).t/\PE X (.BoolOp .And (l::r::t) pos) (λW H Q=>(wp X.K G.ev a E).e W H λx Z=>∃c,x=.bl c/\if c=true then(wp X.K G.ev b E).e W Z Q else Q (.bl false) Z):=by
   cases t with|nil=>exact⟨A1 P.pt (Y8 sb.pt),v3 (pos:=pos) P.pe (T2 sb.pe)⟩|cons q t=>exact⟨A1 P.pt (sb.pw _ _ _ rfl),v3 (pos:=pos) P.pe sb.pe⟩
  refine⟨rG key.2 λW H Q q=>?_,key.1.pt,λ_ _ _ _=>key.1,λ_ _ z=>(by cases z),λ_ _ z=>trivial⟩;rw[eqA];exact q
 |or a b A J =>
  intro X S E ok e h nd;obtain⟨o,es,pos,rfl,h⟩:=GR h;have Y:=yA h;cases qe Y.1;obtain⟨l,t,rfl,B⟩:=xK Y.2;obtain⟨r,t,rfl,M⟩:=xK B;have h4:=yA M;have P:=A ok h4.1 nd.1;have sb:=J ok h4.2 nd.2;have eqA:∀(W:St) (Q:VK),(λ(x:V) (Z:Hp)=>∃c,x=.bl c/\if c=true then Q (.bl true) Z else(wp X.K G.ev b E).e W Z Q)=λ(x:V) (Z:Hp)=>N6 x Z λc H2=>if c=true then Q (.bl true) H2 else(wp X.K G.ev b E).e W H2 Q:=λW Q=>(ZQ _).symm
  have key:PW X (.BoolOp .Or (l::r::t) pos) (wp X.K G.ev (.or a b) E).t/\PE X (.BoolOp .Or (l::r::t) pos) (λW H Q=>(wp X.K G.ev a E).e W H λx Z=>∃c,x=.bl c/\if c=true then Q (.bl true) Z else(wp X.K G.ev b E).e W Z Q):=by
   cases t with|nil=>exact⟨Zc P.pt (Xg sb.pt),Xc (pos:=pos) P.pe (T2 sb.pe)⟩|cons q t=>exact⟨Zc P.pt (sb.pw _ _ _ rfl),Xc (pos:=pos) P.pe sb.pe⟩
  refine⟨rG key.2 λW H Q q=>?_,key.1.pt,λ_ _ _ _=>key.1,λ_ _ z=>(by cases z),λ_ _ z=>trivial⟩;rw[eqA];exact q
 |not a A=>intro X S E ok e h nd;obtain⟨o,x,pos,rfl,h⟩:=uh h;have Y:=yA h;cases qe Y.1;have P:=A ok Y.2 nd;refine Snd.of (λL s W H Q I q=>?_) (Ug P.pt) (λ_ _ _ z=>by cases z) rfl;refine UnaryOp_ (LB (P.pe L s W H _ I q) λv s1 ⟨x,Z,I1,r1,q1⟩=>?_);have q1:UG X.K x Z (λc H2=>Q (.bl (!c)) H2):=q1;rw[vW]at q1;refine not_of (LB (Z0 L s1 W Z x v _ I1 r1 q1) λc s2 ⟨H2,I2,q2⟩=>?_);exact⟨.bl (!c),H2,I2,rfl,q2⟩|call f as ih =>
  intro X S E ok e h nd;obtain⟨p,es,ks,pos,rfl,hg,h⟩:=OK h;have Y:=yA h;cases Q9.mp Y.1;obtain⟨g1,g2,g3⟩:=FK hg;have hg:Gl X f:=show X.env.scope.names.lookup f=some .globalImplicit by rw[ok.sc];exact g1
  obtain⟨CX,k,a,fd,ps,F,hr,hm,hk,hb,hx,_⟩:=ok.fn f nd.1;have pa:=(ih ok Y.2 nd.2).pa es pos rfl;have st:=mE as Y.2;have pe:PE X (.Call (.Name f p) es [] pos) (wp X.K G.ev (.call f as) E).e:=by
   cases es with|nil=>exact rG (y3 (pos:=pos) (p:=p) F hr hg hm hk hb .nil hx g2) λW H Q q=>rZ as Y.2 q|cons e1 O=>have st:=yA st;refine rG (A8 (pos:=pos) (p:=p) F hr hg hm hk hb .nil hx pa g2 (DB _ st.1) (kG st.2)) λW H Q q=>?_;show(wp X.K G.ev as E).a W H λvs Z=>G.ev.sp f (vs++[]) Z Q E;simp only[qB];exact q
  exact Snd.of pe (FD pe λ_=>rfl) (λ_ _ _ z=>by cases z) rfl
 |idx a b A J=>intro X S E ok e h nd;obtain⟨v,i,pos,rfl,h⟩:=sP h;have Y:=yA h;have B:=yA Y.2;have pe:=Xm (pos:=pos) (ui ok.un) (A ok B.1 nd.1).pe (J ok B.2 nd.2).pe (D8 Y.1);exact Snd.of pe (FD pe λ_=>rfl) (λ_ _ _ z=>by cases z) rfl|nop=>intro X S E ok e h nd;exact(QG h).elim|lst as ih=>intro X S E ok e h nd;obtain⟨es,pos,rfl,h⟩:=AL h;have pa:=(ih ok h nd).pa es pos rfl;exact⟨Sg pa,BL,λ_ _ _ z=>(by cases z),λ_ _ z=>UR,λ_ _ z=>trivial⟩|tup as ih=>intro X S E ok e h nd;obtain⟨es,k,pos,rfl,h⟩:=u9 h;exact Snd.lit (Pg ((ih ok h nd).pa es pos rfl)) rfl (λ_ _ _ z=>by cases z) rfl|dnew b=>intro X S E ok e h nd;obtain⟨ks,vs,pos,rfl,h⟩:=DR h;have Y:=yA h;cases Q9.mp Y.1;cases Q9.mp Y.2;exact Snd.lit R8 rfl (λ_ _ _ z=>by cases z) rfl|dsp a b A J =>
  intro X S E ok e h nd;obtain⟨ks,vs,pos,rfl,h⟩:=DR h;obtain⟨k,rfl,h⟩:=zC h;obtain⟨v,rfl,h⟩:=zC h;have Y:=yA h;cases k with|none=>exact(QG Y.1).elim|some k=>exact Snd.lit (P8 ok.un (A ok Y.1 nd.1).pe (J ok Y.2 nd.2).pe) rfl (λ_ _ _ z=>by cases z) rfl
 |nz=>intro X S E ok e h nd;obtain⟨es,pos,rfl,h⟩:=AL h;cases Q9.mp h;exact Snd.args oU trivial rfl rfl|ny a as A ih=>intro X S E ok e h nd;obtain⟨es,pos,rfl,h⟩:=AL h;obtain⟨e1,O,rfl,h⟩:=xK h;have Y:=yA h;have B:=yA Y.2;have P:=(A ok B.1 nd.1).pe;have ss:=ih ok B.2 nd.2;exact Snd.args (lP P (ss.pa O pos rfl) (DB _ Y.1)) ⟨P,ss.pas O pos rfl⟩ rfl rfl|bi f as ih =>
  intro X S E ok e h nd;obtain⟨p,es,ks,pos,rfl,hg,h⟩:=OK h;have Y:=yA h;cases Q9.mp Y.1;obtain⟨e1,O,rfl,M⟩:=xK Y.2;obtain⟨g1,g2,g3⟩:=FK hg;have hg:Gl X f.nm:=show X.env.scope.names.lookup f.nm=some .globalImplicit by rw[ok.sc];exact g1
  have pa:=(ih ok M nd.2).pa _ pos rfl;have st:=yA (mE as M);have pe:PE X (.Call (.Name f.nm p) (e1::O) [] pos) (wp X.K G.ev (.bi f as) E).e:=by
   rcases So ok.un ok.calm f with⟨id,hb,hc⟩| ⟨T,hb,hc⟩
   exact XR (pos:=pos) (p:=p) hc hg (ok.no _ nd.1) hb pa g3 g2 (DB _ st.1) (kG st.2);exact nY (pos:=pos) (p:=p) hc hg (ok.no _ nd.1) hb pa g3 g2 (DB _ st.1) (kG st.2)
  exact Snd.of pe (FD pe λ_=>rfl) (λ_ _ _ z=>by cases z) rfl
 |mt m o as iho ih =>
  intro X S E ok e h nd;obtain⟨v,ap,es,pos,rfl,B,h⟩:=IW h;have h0:=yA h;have Y:=yA h0.2;have M:=yA Y.2;have h4:=yA M.2;have po:=(iho ok h4.1 nd.1).pe;have pa:=(ih ok h4.2 nd.2).pa _ pos rfl;have st:=mE as h4.2;obtain⟨id,pat,sl,ty,mr⟩:=Jn (X:=X) ok.un m;have pe:PE X (.Call (.Attribute v m.nm ap) es [] pos) (wp X.K G.ev (.mt m o as) E).e:=by
   cases es with
   |nil =>
    refine rG (Eg (apos:=ap) (cpos:=pos) pat sl ty mr po (t4 Y.1) B) λW H Q q=>?_;have e:(λ(x:V) (Z:Hp)=>JZ X.K m.ty x Z/\R9 X.K m x [] Z Q)=λ(x:V) (Z:Hp)=>JZ X.K m.ty x Z/\(wp X.K G.ev as E).a W Z λvs H2=>R9 X.K m x vs H2 Q:=by funext x Z;rw[propext (pT as h0.1 h4.2)]
    show(wp X.K G.ev o E).e W H (λ(x:V) (Z:Hp)=>JZ X.K m.ty x Z/\R9 X.K m x [] Z Q);rw[e];exact q
   |cons e1 O=>have s2:=yA st;refine Um (apos:=ap) (cpos:=pos) pat sl ty mr po pa (t4 Y.1) ?_ B (DB _ s2.1) (kG s2.2);rw[eT st];have hl':(e1::O).length<20:=of_decide_eq_true M.1;show(true&&true&&decide ((e1::O).length+0+0<30))=true;rw[dT (Qo hl' (by decide:20<=30):(e1::O).length+0+0<30)];rfl
  exact Snd.of pe (FD pe λ_=>rfl) (λ_ _ _ z=>by cases z) rfl
 |slc a lo hi A ihl ihh =>
  intro X S E ok e h nd;obtain⟨v,sl,pos,rfl,h⟩:=sP h;obtain⟨l,u,st,p2,rfl,h⟩:=sY h;have Y:=yA h;have B:=yA Y.2;have M:=yA B.2;have part:∀(q:PX) (w:Option Expr),(∀{e:Expr},xC q S e=true->PE X e (wp X.K G.ev q E).e)->Mm w (isNop q) (λe=>!isNop q&&xC q S e)=true ->
    PO X w (λW H R=>(if isNop q=true then λ(R:Option Int->Hp->Prop)=>R none H else λR=>(wp X.K G.ev q E).e W H λl H2=>OL l H2 R) R):=by
   intro q w ihq hq;cases w with
   |none=>have e:isNop q=true:=hq;simp only[e,if_true];exact B8|some e' =>
    have q1:=yA hq;have e:isNop q=false:=(Q1 _).mp q1.1;simp only[e,Qr,if_false];intro L s W H Q I w;refine U8 (ihq q1.2) L s W H Q I ?_;show(wp X.K G.ev q E).e W H (λ(x:V) (Z:Hp)=>∃i,x=.int i/\Q (some i) Z);have e2:(λ(x:V) (Z:Hp)=>∃i,x=.int i/\Q (some i) Z)=λ(x:V) (Z:Hp)=>OL x Z Q:=by funext x Z;exact(x3 x Z Q).symm
    rw[e2];exact w
  cases QAb.mp Y.1;exact Snd.lit (O2 (pos:=pos) (p2:=p2) og (A ok B.1 nd.1).pe (part lo l (λhc=>(ihl ok hc nd.2.1).pe) M.1) (part hi u (λhc=>(ihh ok hc nd.2.2).pe) M.2)) rfl (λ_ _ _ z=>by cases z) rfl
 |comp mask tgs tg d its cond elt ihi ihc ihe =>
  intro X S E ok e h nd;obtain⟨e,gens,scope,pos,rfl,h⟩:=tU h;obtain⟨⟨t,n,ifs,asy⟩,rfl,h⟩:=zC h;have h0:=yA h;have hi:=yA h0.2;have Y:=yA hi.2;have B:=yA Y.2;have M:=yA B.2;have h4:=yA M.2;have h5:=yA h4.2;have ea:asy=0:=qe h0.1;cases ea;have C:CompSt X.N X.env.scope scope tgs mask:=by rw[ok.N,ok.sc];exact NS Y.1
  obtain⟨n1,n2,n3,n4⟩:=nd;have pi:PI X t n (OT λW H R=>(wp X.K G.ev its E).a W H λvs Z=>mC X.K d vs Z R):=nU ok h4.1 n1 ((Q1 _).mp hi.1) λes p q=>ihi ok q n2;refine Snd.lit (S8 (pos:=pos) (g:=RF X.K tg) (tc:=if isNop cond=true then λ_ H Q=>Q true H else(wp X.K G.ev cond (λ_ _ _=>False)).t) (te:=(wp X.K G.ev elt (λ_ _ _=>False)).e) ok.calm pi C (λs H ex=>?_) (λx=>UU M.1 x)) rfl (λ_ _ _ z=>by cases z) rfl;have okc:=ok.comp scope tgs mask s H ex;refine⟨G2 okc (λz=>(QG z).elim) C.nd B.1,?_,(ihe okc h5.2 n4).pe⟩;have hif:=h5.1;cases ifs with|nil=>have e:isNop cond=true:=hif;simp only[e,if_true];exact BW|cons c r=>have q1:=yA hif;have q2:=yA q1.2;cases Q9.mp q1.1;have e:isNop cond=false:=(Q1 _).mp q2.1;simp only[e,Qr,if_false];exact UW (ihc okc q2.2 n3).pt
end
end L2.L3
namespace L2.L3
open PySem PySem.Spec PyProof.Rows
section
variable{s:Stmt}{f:Expr->List Stmt->List Stmt->Bool}
set_option genSizeOf false in
set_option genInjectivity false in
inductive PT where
 |nil|seq (s r:PT)
 |set (i:Nat) (e:PX)
 |expr (e:PX)|ret (e:PX)
 |ife (c:PX) (a b:PT)
 |for_ (tg:Tg) (ik:ItK) (its:PX) (body:PT)
 |own (i:Nat) (e:PX)|six (o i e:PX)|sdf (i:Nat) (k:PX)|whl (c:PX) (body:PT)|frz (is:LN) (s:PT)
def oR(K:QA):V->V->V->Hp->(Hp->Prop)->Prop:=λo i v H Q=>match o,i with
 | .ref p,.int k=>∃h j,H p=some (.lst h)/\DT h.length k=some j/\Q (UA H p (.lst (h.set j v)))|.ref p,.str z=>Rj K H p (.str z) v Q|.ref p,.ref b=>Rj K H p (.ref b) v Q|_,_=>False
noncomputable def jm(i:Nat)(k:PX):PX:=.mt .setd (.xz i) %[k,.dnew true|1]
def Ms(J:It)(g:TG)(tb:TS)(D:Ends)(σ:St)(w:Hp):Prop:=∃W:Nat->Nat->St->Hp->Prop,(∃m,W 0 m σ w)/\∀i m σ H,W i m σ H ->
 (J.stop i H/\D.nx σ H)∨(J.go i H/\∃N:St->Hp->Prop,(∀h y,N h y->∃u,u < m/\W (i+1) u h y)/\∀x y,J.yld i H x y->g x σ y λz v=>tb { D with nx:=N,ct:=N,bk:=D.nx } z v)
def Nj(K:QA)(xs:List Item)(st:Hp->Prop)(h:Tg)(tb:TS)(D:Ends)(σ:St)(H:Hp):Prop:=∀J,Yields J xs st->Ms J (RF K h) tb D σ H
noncomputable def EQ(K:QA)(Γ:Ev)(E:XK):PT->TS
 | .nil=>λD h H=>D.nx h H|.seq s r=>λD h H=>EQ K Γ E s { D with nx:=λh H=>EQ K Γ E r D h H } h H|.set i e=>λD h H=>(wp K Γ e E).e h H λx y=>D.nx (h.set i (some x)) y|.own i e=>λD h H=>(wp K Γ e E).e h H λx y=>D.nx (h.set i (some x)) y|.expr e=>λD h H=>(wp K Γ e E).e h H λ_ y=>D.nx h y|.ret e=>λD h H=>(wp K Γ e E).e h H D.rt|.ife c a b=>λD h H=>(wp K Γ c E).t h H λk y=>if k=true then EQ K Γ E a D h y else EQ K Γ E b D h y|.for_ l p u z=>λD h H=>(wp K Γ u E).a h H λj y=>mC K p j y λg st w=>Nj K g st l (EQ K Γ E z) D h w|.six o i e=>λD h H=>(wp K Γ e E).e h H λv y=>(wp K Γ o E).e h y λm w=>(wp K Γ i E).e h w λn X=>oR K m n v X λq=>D.nx h q|.sdf i k=>λD h H=>(wp K Γ (jm i k) E).e h H λ_ y=>D.nx h y|.whl c z=>K0 (wp K Γ c E).t (EQ K Γ E z)|.frz _ s=>EQ K Γ E s
def eE(G:Glob):PT->Prop
 | .nil=>True|.seq s r=>eE G s/\eE G r|.set _ e=>uB G e|.own _ e=>uB G e|.six o i e=>uB G o/\uB G i/\uB G e|.sdf i k=>uB G (jm i k)|.whl c h=>uB G c/\eE G h|.frz _ s=>eE G s|.expr e=>uB G e|.ret e=>uB G e|.ife c a b=>uB G c/\eE G a/\eE G b|.for_ _ y x h=>yo G y/\uB G x/\eE G h
noncomputable def mH:Expr->Bool
 | .ListComp _ _ _ _ | .SetComp _ _ _ _ | .DictComp _ _ _ _ _=>false
 |_=>true
noncomputable def FO(S:SC)(i:Nat)(x:Str):Bool:=S.N[i]?==some x&&(S.sc.names.lookup x==some .local||S.sc.names.lookup x==some .cell)
noncomputable def uX:PT->Bool
 | .nil=>false|.seq _ _=>false|.frz _ s=>uX s|_=>true
noncomputable def MW(s:Stmt)(f:List Expr->Expr->Bool):Bool:=match s with | .Assign h v _=>f h v|_=>false
noncomputable def dh(s:Stmt)(f:Expr->Bool):Bool:=match s with | .Expr v _=>f v|_=>false
noncomputable def Cc(s:Stmt)(f:Option Expr->Bool):Bool:=match s with | .Return v _=>f v|_=>false
noncomputable def Dc(s:Stmt)(f:Expr->List Stmt->List Stmt->Bool):Bool:=match s with | .If t x y _=>f t x y|_=>false
noncomputable def Fc(s:Stmt)(f:Expr->Expr->List Stmt->List Stmt->Pos->Bool):Bool:=match s with | .For t it x y p=>f t it x y p|_=>false
noncomputable def Hm(s:Stmt)(f:Expr->List Stmt->List Stmt->Bool):Bool:=match s with | .While t x y _=>f t x y|_=>false
theorem aP{f:List Expr->Expr->Bool}(h:MW s f=true):∃ts v p,s=.Assign ts v p/\f ts v=true:=by
 cases s with|Assign ts v p=>exact⟨ts,v,p,rfl,h⟩|_=>exact(QG h).elim
theorem U3{f:Expr->Bool}(h:dh s f=true):∃v p,s=.Expr v p/\f v=true:=by
 cases s with|Expr v p=>exact⟨v,p,rfl,h⟩|_=>exact(QG h).elim
theorem b9{f:Option Expr->Bool}(h:Cc s f=true):∃v p,s=.Return v p/\f v=true:=by
 cases s with|Return v p=>exact⟨v,p,rfl,h⟩|_=>exact(QG h).elim
theorem c9(h:Dc s f=true):∃t x y p,s=.If t x y p/\f t x y=true:=by
 cases s with|If t x y p=>exact⟨t,x,y,p,rfl,h⟩|_=>exact(QG h).elim
theorem d9{f:Expr->Expr->List Stmt->List Stmt->Pos->Bool}(h:Fc s f=true):∃t it x y p,s=.For t it x y p/\f t it x y p=true:=by
 cases s with|For t it x y p=>exact⟨t,it,x,y,p,rfl,h⟩|_=>exact(QG h).elim
theorem xh(h:Hm s f=true):∃t x y p,s=.While t x y p/\f t x y=true:=by
 cases s with|While t x y p=>exact⟨t,x,y,p,rfl,h⟩|_=>exact(QG h).elim
noncomputable def setB(S:SC)(i:Nat)(c:Expr->Bool)(l:List Stmt):Bool:=zO l λst=>MW st λh v=>zO h λt=>rJ t λx _=>FO S i x&&((mH v||S.sc.names.lookup x==some .cell)&&c v)
noncomputable def sd:PX->Bool
 | .comp _ _ _ _ _ _ _=>true|_=>false
noncomputable def nW(S:SC)(i:Nat)(e:PX)(l:List Stmt):Bool:=zO l λst=>MW st λy v=>zO y λt=>rJ t λx z=>bh v λw u sc h=>Nh S i x&&(S.sc.kind==.function&&(z.line==h.line&&(!(sc.names.any λ(n,k)=>n==x&&(k==.local||k==.cell))&&(sd e&&xC e S (.ListComp w u sc h)))))
noncomputable def sQ:PT->SC->List Stmt->Bool
 | .nil,_,l=>l.isEmpty|.seq s r,S,l=>g9 l λst l=>uX s&&(sQ s S [st]&&sQ r S l)|.set i e,S,l=>setB S i (xC e S) l||nW S i e l
 | .own i e,S,l=>setB S i (xC e S) l||nW S i e l
 | .frz _ s,S,l=>sQ s S l|.expr e,S,l=>zO l λst=>dh st λv=>mH v&&xC e S v|.ret e,S,l=>zO l λst=>Cc st λv=>Mm v false (xC e S)|.ife c a b,S,l=>zO l λst=>Dc st λt x y=>xC c S t&&(sQ a S x&&sQ b S y)|.for_ tg ik its body,S,l=>zO l λst=>Fc st λt it x y h=>y.isEmpty&&(Fq true S tg t&&(OR it&&(kq (UE its) S ik (λg p=>xC its S (.List g p)) t it h&&sQ body S x)))|.six o i e,S,l=>zO l λst=>MW st λu v=>zO u λt=>GW t λw z _=>UP z&&(mH v&&(xC e S v&&(xC o S w&&xC i S z)))|.sdf i k,S,l=>zO l λst=>dh st λv=>mH v&&xC (jm i k) S v|.whl c body,S,l=>zO l λst=>Hm st λt x y=>y.isEmpty&&(xC c S t&&sQ body S x)
structure OkS(X:Cx)(S:SC)(G:Glob)(E:XK):Prop extends OkX X S G E where
 po:PassesOwn (model X.prog X.w) X.A X.env X.xe
 nd:X.N.Nodup
 cel:∀x,X.fn x=true
end
section
variable{X:Cx}{S:SC}{G:Glob}{E:XK}
section
variable{i:Nat}{x:Str}{e:PX}
theorem KP{e:Expr}{t:Option Expr}{n:Nat}{env:Env}(h:mH e=true):swapsWith e t n env=pure false:=by cases e<;>first|rfl|cases h
theorem A0(n:X.A.units+66<cLine):Gb X (oR X.K):=by
 intro y s w H o i v l m u Q I f g a h;cases o with
 |ref p =>
  cases i with|int k=>obtain⟨r,j,Z,Y,q⟩:=h;exact J1 y s w H _ _ v l m u Q I f g a ⟨p,r,k,j,rfl,rfl,Z,Y,q⟩|str z=>exact nR n y s w H _ _ v l m u Q I f g a h|ref b=>exact nR n y s w H _ _ v l m u Q I f g a h|_=>exact Qc h
 |_=>exact Qc h
theorem jY(ok:OkX X S G E)(h:FO S i x=true):X.N[i]?=some x/\Vk X.env.scope x:=by simp only[FO,Qd,WS,beq_iff_eq]at h;rw[ok.N,ok.sc];exact⟨h.1,h.2⟩
theorem gY(ok:OkS X S G E){v:Expr}{u pos:Pos}(g:FO S i x=true)(w:(mH v||S.sc.names.lookup x==some .cell)=true)(pe:PE X v (wp X.K G.ev e E).e) :
  PS X (.Assign [.Name x u] v pos) (EQ X.K G.ev E (.set i e)):=by
 obtain⟨l,j⟩:=jY ok.toOkX g;refine Bg (pos':=u) ok.nd l j pe ?_ (.inl (ok.cel x));cases z:mH v with
 |true=>exact KP z|false =>
  rw[z,QAk,beq_iff_eq,<- ok.sc]at w;have hk:X.env.kindOf x=some .cell:=w;have key:∀(b c:Bool) (y h:Nat),(pure (b&&X.env.kindOf x==some .local&&y==h&&!c):Sem Bool)=pure false:=λb c y h=>by
   rw[hk];have:(b&&(some NameKind.cell==some NameKind.local)&&y==h&&!c)=false:=by cases b<;>rfl
   rw[this]
  cases v with|ListComp m a sc f=>exact key _ _ _ _|SetComp m a sc f=>exact key _ _ _ _|DictComp k v a sc f=>exact key _ _ _ _|_=>cases z
theorem Ua(h:sd e=true):∃a b c d f g k,e=.comp a b c d f g k:=by
 cases e with|comp a b c d f g k=>exact⟨a,b,c,d,f,g,k,rfl⟩|_=>exact(QG h).elim
theorem Dg(ok:OkS X S G E){l:List Stmt}(h:nW S i e l=true)(nd:uB G e):∃st,l=[st]/\PS X st (EQ X.K G.ev E (.set i e)):=by
 obtain⟨st,e1,q1⟩:=zC h;obtain⟨ts,v,p,e2,q2⟩:=aP q1;obtain⟨t,e3,q3⟩:=zC q2;obtain⟨x,px,e4,q4⟩:=JF q3;obtain⟨el,gs,sc,cp,e5,q5⟩:=tU q4;subst e1 e2 e3 e4 e5;have L:=yA q5;have J:=yA L.2;have I:=yA J.2;have F:=yA I.2;have B:=yA F.2;obtain⟨u,a,tg,ik,o,y,j,rfl⟩:=Ua B.1;refine⟨_,rfl,?_⟩;have h6:=B.2;obtain⟨el',O,m,pos,ee,g⟩:=tU h6;cases ee;obtain⟨⟨t,it,Y,Z⟩,rfl,g⟩:=zC g;have g0:=yA g;have M:=yA g0.2;have g1:=yA M.2;have g2:=yA g1.2;have g3:=yA g2.2;have R:=yA g3.2;have P:=yA R.2;have ea:Z=0:=qe g0.1;cases ea;have C:CompSt X.N X.env.scope sc a u:=by rw[ok.N,ok.sc];exact NS g1.1
 obtain⟨n1,n2,n3,n4⟩:=nd;obtain⟨l1,l2⟩:=ua L.1;have b:X.env.scope.names.lookup x=some .local:=by rw[ok.sc];exact l2
 refine V8 (g:=RF X.K tg) (tc:=if isNop y=true then λ_ H Q=>Q true H else(wp X.K G.ev y (λ_ _ _=>False)).t) (te:=(wp X.K G.ev j (λ_ _ _=>False)).e) ok.calm ok.nd (by rw[ok.N];exact l1) b (nU ok.toOkX (pos:=cp) R.1 n1 ((Q1 _).mp M.1) λes p q=>snd o ok.toOkX q n2) C (λs H ex=>?_) (λx=>UU g3.1 x) ?_;have w:=ok.toOkX.comp sc a u s H ex;refine⟨G2 w (λz=>(QG z).elim) C.nd g2.1,?_,(snd j w P.2 n4).pe⟩;have f:=P.1;cases Y with|nil=>have e:isNop y=true:=f;simp only[e,if_true];exact BW|cons c r=>have A:=yA f;have W:=yA A.2;cases Q9.mp A.1;have e:isNop y=false:=(Q1 _).mp W.1;simp only[e,Qr,if_false];exact UW (snd y w W.2 n3).pt
 have k1:X.env.scope.kind=.function:=by rw[ok.sc];exact qe J.1
 have k2:(X.env.blockKind==.function)=true:=by simp[Env.blockKind,k1,ScopeKind.isAnnotationScope]
 have k3:(X.env.kindOf x==some .local)=true:=by show(X.env.scope.names.lookup x==some .local)=true;rw[b];rfl
 show(pure (X.env.blockKind==.function&&X.env.kindOf x==some .local&&px.line==cp.line&&!(sc.names.any λ(n,k)=>n==x&&(k==.local||k==.cell))):Sem Bool)=pure true;rw[k2,k3,I.1,F.1];rfl
theorem jr:∀(p:PT) {l:List Stmt},OkS X S G E->sQ p S l=true->eE G p->RV X l (EQ X.K G.ev E p)/\(uX p=true->∀st,l=[st]->PS X st (EQ X.K G.ev E p)):=by
 intro p;have one:∀{p:PT}{st:Stmt},PS X st (EQ X.K G.ev E p)->RV X [st] (EQ X.K G.ev E p)/\(uX p=true->∀g,[st]=[g]->PS X g (EQ X.K G.ev E p)):=λh=>⟨ZW h,λ_ g e=>by cases e;exact h⟩
 have f:∀{i:Nat}{e:PX}{l:List Stmt},OkS X S G E->(setB S i (xC e S) l||nW S i e l)=true->uB G e->∃st,l=[st]/\PS X st (EQ X.K G.ev E (.set i e)):=λ{i e l} ok h nd=>by
  rcases(WS _ _).mp h with h|h
  rotate_left
  exact Dg ok h nd;obtain⟨st,N,W⟩:=zC h;obtain⟨H,v,p,M,Z⟩:=aP W;obtain⟨t,L,q3⟩:=zC Z;obtain⟨x,px,J,Y⟩:=JF q3;subst N M L J;have z:=yA Y;have u:=yA z.2;exact⟨_,rfl,gY ok z.1 u.1 (snd e ok.toOkX u.2 nd).pe⟩
 induction p with
 |nil=>intro l ok h nd;cases Q9.mp h;exact⟨K8,λh=>(QG h).elim⟩|seq s r B C=>intro l ok h nd;obtain⟨st,l,rfl,h⟩:=xK h;have z:=yA h;have u:=yA z.2;exact⟨J2 ((B ok u.1 nd.1).2 z.1 st rfl) (C ok u.2 nd.2).1,λh=>(QG h).elim⟩|set i e=>intro l ok h nd;obtain⟨st,rfl,q⟩:=f ok h nd;exact one q|own i e=>intro l ok h nd;obtain⟨st,rfl,q⟩:=f ok h nd;exact one q|expr e=>intro l ok h nd;obtain⟨st,rfl,h⟩:=zC h;obtain⟨v,p,rfl,h⟩:=U3 h;have z:=yA h;exact one (VW (snd e ok.toOkX z.2 nd).pe (KP z.1))|ret e =>
  intro l ok h nd;obtain⟨st,rfl,h⟩:=zC h;obtain⟨v,p,rfl,h⟩:=b9 h;cases v with|none=>exact(QG h).elim|some v=>exact one (K2 (snd e ok.toOkX h nd).pe)
 |ife c a b I F=>intro l ok h nd;obtain⟨st,rfl,h⟩:=zC h;obtain⟨t,x,y,p,rfl,h⟩:=c9 h;have z:=yA h;have u:=yA z.2;exact one (Km (snd c ok.toOkX z.1 nd.1).pt (I ok u.1 nd.2.1).1 (F ok u.2 nd.2.2).1)|for_ tg ik A n j=>intro l ok h nd;obtain⟨st,rfl,h⟩:=zC h;obtain⟨t,it,x,y,p,rfl,h⟩:=d9 h;have R:=yA h;have z:=yA R.2;have u:=yA z.2;have m:=yA u.2;cases Q9.mp R.1;exact one (Cg ok.po ok.calm (L8 ok.toOkX m.1 nd.1 λes p q=>snd A ok.toOkX q nd.2.1) (G2 ok.toOkX (λ_=>ok.cel) ok.nd z.1) (j ok m.2 nd.2.2).1 λx=>UU u.1 x)|six o i e =>
  intro l ok h nd;obtain⟨st,N,W⟩:=zC h;obtain⟨H,v,p,M,Z⟩:=aP W;obtain⟨t,L,h⟩:=zC Z;subst N M L;obtain⟨ov,P,O,J,Y⟩:=sP h;subst J;have z:=yA Y;have u:=yA z.2;have m:=yA u.2;have Q:=yA m.2;refine one (Fg (snd e ok.toOkX m.1 nd.2.2).pe (Ng (pos:=O) (snd o ok.toOkX Q.1 nd.1).pe (snd i ok.toOkX Q.2 nd.2.1).pe (A0 ok.un) ?_) ?_ ?_ ?_);intro w;cases P<;>first|rfl|exact(QG z.1).elim
  show swapsWith v (some (.Subscript ov P O)) p.line X.env=pure false;exact KP u.1;cases v<;>rfl;rfl
 |sdf i k=>intro l ok h nd;obtain⟨st,rfl,h⟩:=zC h;obtain⟨v,p,rfl,h⟩:=U3 h;have z:=yA h;exact one (VW (snd (jm i k) ok.toOkX z.2 nd).pe (KP z.1))|whl c n j=>intro l ok h nd;obtain⟨st,rfl,h⟩:=zC h;obtain⟨t,x,y,p,rfl,h⟩:=xh h;have z:=yA h;have u:=yA z.2;cases Q9.mp z.1;exact one (Y2 ok.po (snd c ok.toOkX u.1 nd.1).pt (j ok u.2 nd.2).1)|frz is s j=>intro l ok h nd;exact j ok h nd
end
end
noncomputable abbrev D:=PyData
set_option genInjectivity true in
inductive T where
 |d (x:D)|lst (ts:List T)|tup (ts:List T)|dct (b:Bool) (ks:List D) (ts:List T)
abbrev LT:=List T
mutual
def T.er:T->D
 | .d x=>x|.lst h=>.list (ersT h)|.tup h=>.tuple (ersT h)|.dct _ y h=>.dict (y.zip (ersT h))
def ersT:LT->List D
 |[]=>[]|t::r=>t.er::ersT r
end
theorem RA(ds:List D):ersT (ds.map T.d)=ds:=by
 induction ds with|nil=>rfl|cons d r h=>simp only[QV,ersT,h,T.er]
theorem v6:∀(ts:LT),(ersT ts).length=ts.length
 |[]=>rfl|t::r=>by simp only[ersT,QM,v6 r]
theorem HK:∀(ts:LT),ersT ts=ts.map T.er
 |[]=>rfl|t::r=>by simp only[ersT,QV,HK r]
noncomputable def T.isD:T->Bool
 | .d _=>true|_=>false
set_option genInjectivity true in
inductive Sl where
 |own (t:T)|ky (t:T)
noncomputable abbrev kA:=List (Option Sl)
abbrev bD(x:D):Option Sl:=some (.ky (.d x))
abbrev oW(t:T):Option Sl:=some (.own t)
def tH(t:T)(n:Bool):Bool:=n||t.isD
noncomputable def pA(t:T):Bool->T
 |true=>.d t.er|false=>t
theorem rA(x:D)(n:Bool):pA (.d x) n=.d x:=by cases n<;>rfl
theorem mX(t:T)(n:Bool):(pA t n).er=t.er:=by cases n<;>rfl
noncomputable def XG:LT->Option (List D)
 |[]=>some []|.d x::r=>(XG r).map (x::·)|_::_=>none
theorem VA(ds:List D):XG (ds.map T.d)=some ds:=by
 induction ds with|nil=>rfl|cons d r h=>simp only[QV,XG,h,Qy]
theorem dL:∀{ts:LT}{ds:List D},XG ts=some ds->ts=ds.map T.d
 |[],ds,h=>by simp only[XG,Qq]at h;subst h;rfl|.d x::r,ds,h=>by
  simp only[XG]at h;cases e:XG r with|none=>rw[e]at h;cases h|some y=>rw[e]at h;cases h;rw[QV,dL e]
 | .lst _::_,_,h=>by simp[XG]at h|.tup _::_,_,h=>by simp[XG]at h|.dct _ _ _::_,_,h=>by simp[XG]at h
noncomputable def xD:List (D×D)->Option Bool
 | (.tuple _,_)::_=>some true|(.str _,_)::_=>some false|_=>none
def aD:Bool->D->Prop
 |true,k=>∃q,k=tD (.t q)/\J4 (.t q)<=6|false,k=>∃z,k=.str z
open Classical in
noncomputable def bA:List D->D->Option Nat
 |[],_=>none|x::r,k=>if x=k then some 0 else(bA r k).map (·+1)
noncomputable def oJ(b:Bool)(ks:List D)(ts:LT)(k:D)(t:T):T:=match bA ks k with
 |some n=>.dct b ks (ts.set n t)|none=>.dct b (ks++[k]) (ts++[t])
theorem VC:∀{ks:List D}{k:D}{n:Nat},bA ks k=some n->ks[n]?=some k
 |[],_,_,h=>by cases h|x::r,k,n,h=>by
  unfold bA at h;by_cases e:x=k;rw[if_pos e]at h;cases h;rw[e];rfl;rw[if_neg e]at h;cases q:bA r k with|none=>rw[q]at h;cases h|some m=>rw[q]at h;cases h;simpa using VC q
theorem OA:∀{ks:List D}{k:D},bA ks k=none↔k∉ks
 |[],_=>by simp[bA]|x::r,k=>by unfold bA;by_cases e:x=k;simp[e];rw[if_neg e,Option.map_eq_none_iff,OA];simp[qD e]
theorem oV{ks:List D}{k:D}:(bA ks k).isSome=true↔k∈ks:=by
 cases h:bA ks k with|none=>simp[OA.mp h]|some n=>simp[qQ (VC h)]
set_option genInjectivity true in
inductive Vw where
 |sc (x:D)|ls (ts:LT)|tp (ts:LT)|dc (b:Bool) (ks:List D) (ts:LT)
noncomputable def jC(kvs:List (D×D)):Vw:=match xD kvs with
 |some b=>.dc b (kvs.map (·.1)) (kvs.map λp=>T.d p.2)|none=>.sc (.dict kvs)
noncomputable def T.vw:T->Vw
 | .lst h=>.ls h|.tup h=>.tp h|.dct b u h=>.dc b u h|.d x=>match x with
  | .list z=>.ls (z.map T.d)|.tuple z=>.tp (z.map T.d)|.dict y=>jC y|.none=>.sc .none|.bool b=>.sc (.bool b)|.int i=>.sc (.int i)|.str s=>.sc (.str s)
noncomputable def uE(ts:LT):T:=match XG ts with
 |some h=>.d (.tuple h)|none=>.tup ts
noncomputable abbrev XD:=Value×List (Str×D)
noncomputable abbrev XE:=XD->Prop
noncomputable abbrev TK:=T->Bool->kA->Prop
inductive Md where
 |xx|xy|ky|chg
 deriving DecidableEq
structure PSp where
 md:List Md:=[]
 run:LT->(T->LT->Prop)->XE->Prop
 mono:∀{ts:LT}{Q Q':T->LT->Prop}{E E':XE},(∀t os,Q t os->Q' t os)->(∀x,E x->E' x)->run ts Q E->run ts Q' E':=by intro _ _ _ _ _ h _ z;(repeat obtain⟨y,z⟩:=z;refine⟨y,?_⟩);first|exact h _ _ z|(intros;apply h;apply z<;>assumption)
structure PEv where
 sp:Str->PSp
 va:Str->Option D
def binT(op:Operator)(x y:Vw)(Q:T->Bool->Prop):Prop:=match op with
 | .Add=>(∃i j,x=.sc (.int i)/\y=.sc (.int j)/\Q (.d (.int (i+j))) false)∨(∃a b,x=.sc (.str a)/\y=.sc (.str b)/\a.length+b.length<=sizeLine/\Q (.d (.str (a++b))) false) ∨
  (∃v u z h,x=.ls v/\y=.ls u/\XG v=some z/\XG u=some h/\z.length+h.length<=sizeLine/\Q (.lst ((z++h).map T.d)) true)
 | .Sub=>∃i j,x=.sc (.int i)/\y=.sc (.int j)/\Q (.d (.int (i - j))) false|.Mult=>(∃i j,x=.sc (.int i)/\y=.sc (.int j)/\IntMulOk i j/\Q (.d (.int (i * j))) false)∨(∃a k,x=.sc (.str a)/\y=.sc (.int k)/\(-(2 ^ 31)<=k/\k<2 ^ 31/\a.length * k.toNat<=sizeLine)/\Q (.d (.str (nJ a k))) false)|.FloorDiv=>∃i j,x=.sc (.int i)/\y=.sc (.int j)/\(0<j/\j<2 ^ 200)/\Q (.d (.int (i / j))) false|.Mod=>∃i j,x=.sc (.int i)/\y=.sc (.int j)/\0<j/\Q (.d (.int (i % j))) false|_=>False
section
variable{Q:T->Bool->Prop}
theorem oj(i j:Int):binT .Add (.sc (.int i)) (.sc (.int j)) Q=Q (.d (.int (i+j))) false:=by simp[binT]
theorem nj(a b:Str):binT .Add (.sc (.str a)) (.sc (.str b)) Q=(a.length+b.length<=sizeLine/\Q (.d (.str (a++b))) false):=by simp[binT]
theorem mj(i j:Int):binT .Sub (.sc (.int i)) (.sc (.int j)) Q=Q (.d (.int (i - j))) false:=by simp[binT]
theorem lj(i j:Int):binT .Mult (.sc (.int i)) (.sc (.int j)) Q=(IntMulOk i j/\Q (.d (.int (i * j))) false):=by simp[binT]
theorem gj(a:Str)(k:Int):binT .Mult (.sc (.str a)) (.sc (.int k)) Q=((-(2 ^ 31)<=k/\k<2 ^ 31/\a.length * k.toNat<=sizeLine)/\Q (.d (.str (nJ a k))) false):=by simp[binT]
theorem fj(i j:Int):binT .FloorDiv (.sc (.int i)) (.sc (.int j)) Q=((0<j/\j<2 ^ 200)/\Q (.d (.int (i / j))) false):=by simp[binT]
theorem cj(i j:Int):binT .Mod (.sc (.int i)) (.sc (.int j)) Q=(0<j/\Q (.d (.int (i % j))) false):=by simp[binT]
end
section
variable{Q:T->Prop}
def bq:D->D->(Bool->Prop)->Prop
 | .int i,.int j,Q=>Q (decide (i=j))|.str x,.str y,Q=>Q (decide (x=y))|.bool x,.bool y,Q=>Q (decide (x=y))|a,b,Q=>sE a/\sE b/\Q (Qx a b)
noncomputable def FB:D->Bool
 | .none | .bool _ | .int _ | .str _=>true
 |_=>false
def vq:D->D->(Bool->Prop)->Prop
 | .str x,.str y,Q=>Q (inStr y x)|a,.list ds,Q|a,.tuple ds,Q=>((FB a=true/\ds.all FB=true)∨(sE a/\sE (.list ds)))/\Q (ds.any λy=>Qx y a)
 |a,.dict kvs,Q=>∃b,xD kvs=some b/\aD b a/\Q (bA (kvs.map (·.1)) a).isSome|_,_,_=>False
def oY(f:Int->Int->Bool):D->D->(Bool->Prop)->Prop
 | .int i,.int j,Q=>Q (f i j)|_,_,_=>False
def C5:D->Bool
 | .none=>true|_=>false
def SY:D->D->(Bool->Prop)->Prop
 |a,.none,Q=>Q (C5 a)|.bool a,.bool b,Q=>Q (decide (a=b))|_,_,_=>False
def rQ:CmpOp->D->D->(Bool->Prop)->Prop
 | .Eq,a,b,Q=>bq a b Q|.NotEq,a,b,Q=>bq a b λk=>Q (!k)|.Lt,a,b,Q=>oY (λi j=>decide (i<j)) a b Q|.LtE,a,b,Q=>oY (λi j=>decide (i<=j)) a b Q|.Gt,a,b,Q=>oY (λi j=>decide (j<i)) a b Q|.GtE,a,b,Q=>oY (λi j=>decide (j<=i)) a b Q|.In,a,b,Q=>vq a b Q|.NotIn,a,b,Q=>vq a b λk=>Q (!k)|.Is,a,b,Q=>SY a b Q|.IsNot,a,b,Q=>SY a b λk=>Q (!k)
def zb(op:CmpOp)(x:D)(y:T)(Q:Bool->Prop):Prop:=match y with
 | .dct b z _=>aD b x/\((op=.In/\Q (bA z x).isSome)∨(op=.NotIn/\Q (!(bA z x).isSome)))|.d y=>rQ op x y Q|.lst h=>rQ op x (.list (ersT h)) Q|.tup h=>rQ op x (.tuple (ersT h)) Q
def FH:D->(Bool->Prop)->Prop
 | .bool b,Q=>Q b|.int i,Q=>Q (i != 0)|.none,Q=>Q false|.str z,Q=>z.length<=sizeLine/\Q ((z.length:Int) != 0)|.list ds,Q=>Q (!ds.isEmpty)|.tuple ds,Q=>Q (!ds.isEmpty)|_,_=>False
def sj:D->(Bool->Prop)->Prop
 | .bool b,Q=>Q b|_,_=>False
def CS(x:Vw)(k:D)(Q:T->Prop):Prop:=∃b y h n t,x=.dc b y h/\aD b k/\bA y k=some n/\h[n]?=some t/\Q t
def sN(x y:Vw)(Q:T->Prop):Prop:=(∃z i c,x=.sc (.str z)/\y=.sc (.int i)/\z.length<=sizeLine/\AD z.cps.toList i=some c/\Q (.d (.str ⟨#[c]⟩))) ∨
 (∃h i t,x=.ls h/\y=.sc (.int i)/\AD h i=some t/\Q t)∨(∃h i t,x=.tp h/\y=.sc (.int i)/\AD h i=some t/\Q t)
theorem ai(z:Str)(i:Int):sN (.sc (.str z)) (.sc (.int i)) Q=(z.length<=sizeLine/\∃c,AD z.cps.toList i=some c/\Q (.d (.str ⟨#[c]⟩))):=by simp[sN]
theorem L5(ts:LT)(i:Int):sN (.ls ts) (.sc (.int i)) Q=∃t,AD ts i=some t/\Q t:=by simp[sN]
theorem si(ts:LT)(i:Int):sN (.tp ts) (.sc (.int i)) Q=∃t,AD ts i=some t/\Q t:=by simp[sN]
noncomputable def DE{α:Type}(xs:List α)(h x:Option Int):List α:=(xs.drop (HT.sIx xs.length 0 h)).take (HT.sIx xs.length xs.length x - HT.sIx xs.length 0 h)
def fN(x:Vw)(u v:Option Int)(Q:T->Bool->Prop):Prop:=(∃z,x=.sc (.str z)/\z.length<=sizeLine/\Q (.d (.str (wl z u v))) false)∨(∃y h,x=.ls y/\XG y=some h/\Q (.lst ((DE h u v).map T.d)) true) ∨
 (∃y h,x=.tp y/\XG y=some h/\¬ (HT.sIx h.length 0 u=0/\HT.sIx h.length h.length v=h.length)/\Q (.d (.tuple (DE h u v))) false)
end
section
variable{Q:T->Bool->Prop}{h x:Option Int}
theorem gg(z:Str):fN (.sc (.str z)) h x Q=(z.length<=sizeLine/\Q (.d (.str (wl z h x))) false):=by simp[fN]
theorem fg(ts:LT):fN (.ls ts) h x Q=∃ds,XG ts=some ds/\Q (.lst ((DE ds h x).map T.d)) true:=by simp[fN]
end
def aF:D->(Option Int->Prop)->Prop
 | .int i,Q=>Q (some i)|_,_=>False
noncomputable def eD(l:LS):D:=.list (l.map Jx)
noncomputable def Ky.d:Ky->D
 | .i n=>.int n|.s x=>.str x|.l h=>.tuple (h.map Jx)
noncomputable def rN(r:List Ky):D:=.tuple (r.map Ky.d)
def XX(f:Bi)(vs:List Vw)(Q:T->Bool->Prop):Prop:=match f with
 | .len=>(∃z,vs=[.sc (.str z)]/\z.length<=sizeLine/\Q (.d (.int z.length)) false)∨(∃h,vs=[.ls h]/\Q (.d (.int h.length)) false)∨(∃h,vs=[.tp h]/\Q (.d (.int h.length)) false)|.any=>∃h,∃bs:List Bool,vs=[.ls h]/\XG h=some (bs.map PyData.bool)/\Q (.d (.bool (bs.any id))) false|.sorted=>(∃h,∃k:LS,vs=[.ls h]/\XG h=some (k.map Jx)/\k.length<64/\∀x:LS,x.Perm k->sortedS x=true->Q (.lst ((x.map Jx).map T.d)) true) ∨
  (∃h,∃ls:List (LS),vs=[.ls h]/\XG h=some (ls.map eD)/\ls.length<64/\∀v:List (LS),v.Perm ls->Q (.lst ((v.map eD).map T.d)) true) ∨
  (∃h,∃a:LJ,vs=[.ls h]/\XG h=some (a.map Jy)/\a.length<64/\∀u:LJ,u.Perm a->u.Pairwise (·<=·)->Q (.lst ((u.map Jy).map T.d)) true) ∨
  (∃h,∃w:List (List Ky),vs=[.ls h]/\XG h=some (w.map rN)/\(w.length<64/\Cj w)/\∀y:List (List Ky),y.Perm w->y.Pairwise ZZ->Q (.lst ((y.map rN).map T.d)) true)
 | .tuple=>∃h e,vs=[.ls h]/\XG h=some e/\Q (.d (.tuple e)) false|.int=>∃b:Bool,vs=[.sc (.bool b)]/\Q (.d (.int (if b then 1 else 0))) false
section
variable{Q:T->Bool->Prop}
theorem ze(ts:LT):XX .len [.ls ts] Q=Q (.d (.int ts.length)) false:=by simp[XX]
theorem Ao(ts:LT):XX .any [.ls ts] Q=∃bs:List Bool,XG ts=some (bs.map PyData.bool)/\Q (.d (.bool (bs.any id))) false:=by simp[XX]
theorem ye(ts:LT):XX .tuple [.ls ts] Q=∃ds,XG ts=some ds/\Q (.d (.tuple ds)) false:=by simp[XX]
theorem To(b:Bool):XX .int [.sc (.bool b)] Q=Q (.d (.int (if b then 1 else 0))) false:=by simp[XX]
end
section
variable{N:T->T->Prop}
def Cr(m:Mt)(x:Vw)(vs:List Vw)(Q:T->Bool->Prop):Prop:=match m with
 |_=>False
noncomputable def Vw.isS:Vw->Bool
 | .sc (.str _)=>true|_=>false
noncomputable def isMut:Mt->Bool
 | .append=>true|.pop=>true|.setd=>true|.extend=>true
noncomputable def P9(m:Mt)(x:Vw):Bool:=x.isS&&!isMut m
def rK(m:Mt)(s:T)(us:LT)(N:T->T->Prop):Prop:=match m with
 | .append=>∃h t,s=.lst h/\us=[t]/\h.length<sizeLine/\N (.d .none) (.lst (h++[t]))|.pop=>∃h i k t,s=.lst h/\us=[.d (.int i)]/\DT h.length i=some k/\h[k]?=some t/\N t (.lst (h.eraseIdx k))|.extend=>∃h x,s=.lst h/\us=[.lst x]/\h.length+x.length<=sizeLine/\N (.d .none) (.lst (h++x))|_=>False
theorem L4(ts:LT)(t:T):rK .append (.lst ts) [t] N=(ts.length<sizeLine/\N (.d .none) (.lst (ts++[t]))):=by simp[rK]
theorem D4(ts vs:LT):rK .extend (.lst ts) [.lst vs] N=(ts.length+vs.length<=sizeLine/\N (.d .none) (.lst (ts++vs))):=by simp[rK]
theorem G4(ts:LT)(i:Int):rK .pop (.lst ts) [.d (.int i)] N=∃k t,DT ts.length i=some k/\ts[k]?=some t/\N t (.lst (ts.eraseIdx k)):=by simp[rK]
noncomputable def IU:Mt->Bool
 | .append=>true|.pop=>true|.setd=>false|.extend=>true
noncomputable def cI(m:Mt):T->Bool
 | .lst _=>IU m|_=>false
noncomputable def Vw.seq:Vw->Option (LT)
 | .ls h=>some h|.tp h=>some h|_=>none
def VB(u:ItK)(vs:List Vw)(R:LT->Prop):Prop:=match u with
 | .val=>(∃h,vs=[.ls h]/\R h)∨(∃h,vs=[.tp h]/\R h)∨(∃y h,vs=[.dc true y h]/\R (y.map T.d))|.rng1=>∃j,vs=[.sc (.int j)]/\(-(2 ^ 62)<=j/\j<2 ^ 62)/\R ((Qj j.toNat).map λ(i:Nat)=>.d (.int (i:Int)))|.enum=>∃x h z,vs=[x]/\x.seq=some h/\XG h=some z/\R (z.zipIdx.map λp=>.d (.tuple [.int (p.2:Int),p.1]))|.itm=>(∃y h z,vs=[.dc true y h]/\XG h=some z/\R ((y.zip z).map λp=>.d (.tuple [p.1,p.2])))∨(vs=[.sc (.dict [])]/\R [])
end
section
variable{R:LT->Prop}
theorem nI(ts:LT):VB .val [.ls ts] R=R ts:=by simp[VB]
theorem X5(ts:LT):VB .val [.tp ts] R=R ts:=by simp[VB]
theorem V5(j:Int):VB .rng1 [.sc (.int j)] R=((-(2 ^ 62)<=j/\j<2 ^ 62)/\R ((Qj j.toNat).map λ(i:Nat)=>.d (.int (i:Int)))):=by simp[VB]
theorem sS(x:Vw):VB .enum [x] R=∃ts ds,x.seq=some ts/\XG ts=some ds/\R (ds.zipIdx.map λp=>.d (.tuple [.int (p.2:Int),p.1])):=by apply propext;constructor;rintro⟨_,ts,ds,⟨⟩,h⟩;exact⟨ts,ds,h⟩;rintro⟨ts,ds,h⟩;exact⟨_,ts,ds,rfl,h⟩
theorem rS(ks:List D)(ts:LT):VB .itm [.dc true ks ts] R=∃ds,XG ts=some ds/\R ((ks.zip ds).map λp=>.d (.tuple [p.1,p.2])):=by apply propext;constructor;rintro(⟨_,_,ds,⟨⟩,h⟩| ⟨⟨⟩,_⟩);exact⟨ds,h⟩;rintro⟨ds,h⟩;exact .inl ⟨_,_,ds,rfl,h⟩
theorem pS(ks:List D)(ts:LT):VB .val [.dc true ks ts] R=R (ks.map T.d):=by simp[VB]
theorem K5:VB .itm [.sc (.dict [])] R=R []:=by apply propext;constructor;rintro(⟨_,_,x,⟨⟩,h⟩| ⟨_,h⟩);exact h;exact λh=>.inr ⟨rfl,h⟩
end
noncomputable def OC:LN->LT->kA->Option kA
 |[],[],ρ=>some ρ|i::is,t::ts,ρ=>OC is ts (ρ.set i (some (.ky t)))|_,_,_=>none
def rO:Tg->T->kA->(kA->Prop)->Prop
 | .nm i,t,ρ,Q=>Q (ρ.set i (some (.ky t)))|.tp is,t,ρ,Q=>match t.vw with
  | .tp x=>∃h,OC is x ρ=some h/\Q h|_=>False
def Tg.ix:Tg->LN
 | .nm i=>[i]|.tp h=>h
noncomputable def G1:PX->Option Nat
 | .xz i=>some i|_=>none
noncomputable def VF:Option Sl->Option Sl
 |some (.own t)=>some (.ky t)|s=>s
def lockA(ρ:kA):kA:=ρ.map VF
noncomputable def lock:LN->kA->kA
 |[],ρ=>ρ|i::is,ρ=>lock is (ρ.modify i VF)
noncomputable def fV:Option Sl->Option Sl
 |some (.own t)=>bD t.er|s=>s
noncomputable def frzAt:LN->kA->kA
 |[],ρ=>ρ|i::is,ρ=>frzAt is (ρ.modify i fV)
noncomputable def lM:Option Sl->Option Sl
 |some (.ky t)=>if t.isD=true then some (.ky t) else none|s=>s
noncomputable def kill:LN->kA->kA
 |[],ρ=>ρ|i::is,ρ=>kill is (ρ.modify i lM)
noncomputable def clear:LN->kA->kA
 |[],ρ=>ρ|i::is,ρ=>clear is (ρ.set i none)
noncomputable def BA:LN->kA->Option (LT)
 |[],_=>some []|i::is,ρ=>match ρ[i]? with
  |some (some (.own t))=>(BA is ρ).map (t::·)|_=>none
noncomputable def EB:LN->LT->kA->Option kA
 |[],[],ρ=>some ρ|i::is,t::ts,ρ=>EB is ts (ρ.set i (some (.own t)))|_,_,_=>none
noncomputable def ZC:List Bool->kA->kA
 |b::m,v::ρ=>(if b then none else v)::ZC m ρ|_,ρ=>ρ
noncomputable def aN(k:Nat)(h:List Bool)(ρ:kA):kA:=QAU k none++ZC h ρ
def sq{α:Type}(x:T)(ρ:kA)(b:kA->(α->kA->Prop)->Prop)(K:α->kA->Prop):Prop :=
 if x.isD=true then b ρ K else b (lockA ρ) λy _=>K y ρ
def cu(f:kA->TK->Prop):kA->(T×Bool->kA->Prop)->Prop:=λy K=>f y λx n h=>K (x,n) h
noncomputable def cF:List (T×Bool)->LT
 |[]=>[]|p::r=>p.1::cF r
noncomputable def tN:List (T×Bool)->LT
 |[]=>[]|p::r=>pA p.1 p.2::tN r
noncomputable def IB:List (T×Bool)->List Vw
 |[]=>[]|p::r=>(pA p.1 p.2).vw::IB r
noncomputable def fE:List (T×Bool)->Bool
 |[]=>true|p::r=>tH p.1 p.2&&fE r
noncomputable def XQ:List (T×Bool)->Bool
 |[]=>true|p::r=>tH p.1 p.2&&XQ r
noncomputable def jE(t:T):Option T:=match t.vw with
 | .ls h=>(XG h).map λx=>.lst (x.map T.d)|_=>if t.isD=true then some t else none
noncomputable def XA:List Md->List (T×Bool)->LT->Option (LT)
 |_,[],[]=>some []|_,[],_::_=>none|md,(x,n)::xs,os=>match md.headD .xx with
  | .xx=>match pA x n with
   | .d d=>(XA md.tail xs os).map (.d d::·)|_=>none
  | .xy=>match jE (pA x n) with
   |some t=>(XA md.tail xs os).map (t::·)|none=>none
  | .ky=>(XA md.tail xs os).map (pA x n::·)|.chg=>match os with
   |o::os=>(XA md.tail xs os).map (o::·)|[]=>none
noncomputable def KB:List Md->LT->LT
 |_,[]=>[]|md,t::ts=>match md.headD .xx with
  | .chg=>t::KB md.tail ts|_=>KB md.tail ts
noncomputable def uA:List Md->PX->LN
 | .chg::md,.ny (.xz j) as=>j::uA md as|_::md,.ny _ as=>uA md as|_,_=>[]
noncomputable def Md.isMut:Md->Bool
 | .chg=>true|_=>false
structure D3 where
 e:kA->TK->Prop
 t:kA->(Bool->kA->Prop)->Prop
 a:List Md->kA->(List (T×Bool)->kA->Prop)->Prop
noncomputable def gF:D3:=⟨λ_ _=>False,λ_ _=>False,λ_ _ _=>False⟩
def cD(body:T->(Option T->Prop)->Prop):LT->LT->(LT->Prop)->Prop
 |[],acc,Q=>acc.length<=sizeLine/\Q acc|x::xs,acc,Q=>body x fun
  |some y=>acc.length<sizeLine/\cD body xs (acc++[y]) Q|none=>cD body xs acc Q
def PF(v:Tg)(u:kA)(c:kA->(Bool->kA->Prop)->Prop)(e:kA->TK->Prop)(x:T)(R:Option T->Prop):Prop :=
 rO v x u λz=>c z λb h=>if b=true then e h λy n _=>tH y n=true/\R (some y) else R none
def Ep:Option (Option Sl)->(T->Prop)->Prop
 |some (some (.own t)),Q=>Q t|some (some (.ky t)),Q=>Q t|some none,_=>False|none,_=>False
def PC:Option (Option Sl)->(T->Prop)->Prop
 |some (some (.own t)),Q=>Q t|some (some (.ky _)),_=>False|some none,_=>False|none,_=>False
def gc:Option Nat->(Nat->Prop)->Prop
 |none,_=>False|some j,Q=>Q j
def B5:PX->Bool
 | .xz _=>true|_=>false
noncomputable def pe(Ψ:PEv):PX->XE->D3
 | .xz i,_=>let e:kA->TK->Prop:=λv Q=>Ep v[i]? λt=>Q t false v
  ⟨e,λv Q=>e v λt _ h=>FH t.er λb=>Q b h,gF.a⟩
 | .int i,_=>⟨λv Q=>Q (.d (.int i)) false v,λv Q=>Q (i != 0) v,gF.a⟩|.str x,_=>⟨λv Q=>Q (.d (.str x)) false v,gF.t,gF.a⟩|.bl b,_=>⟨λv Q=>Q (.d (.bool b)) false v,λv Q=>Q b v,gF.a⟩|.non,_=>⟨λv Q=>Q (.d .none) false v,λv Q=>Q false v,gF.a⟩|.glo x,_=>let e:kA->TK->Prop:=λv Q=>match Ψ.va x with
   |some d=>Q (.d d) false v|none=>False
  ⟨e,λv Q=>e v λt _ h=>FH t.er λb=>Q b h,gF.a⟩
 | .bin op a b,E=>let e:kA->TK->Prop:=λv Q=>(pe Ψ a E).e v λx n h=>sq (pA x n) h (cu (pe Ψ b E).e) λy w=>binT op (pA x n).vw (pA y.1 y.2).vw λz k=>Q z k w
  ⟨e,λv Q=>e v λt _ h=>FH t.er λb=>Q b h,gF.a⟩
 | .cmp op a b,E=>let t:kA->(Bool->kA->Prop)->Prop:=λv Q=>(pe Ψ a E).e v λx n h=>sq (pA x n) h (cu (pe Ψ b E).e) λy w=>zb op x.er (pA y.1 y.2) λk=>Q k w
  ⟨λv Q=>t v λk h=>Q (.d (.bool k)) false h,t,gF.a⟩
 | .and a b,E=>⟨λv Q=>(pe Ψ a E).e v λx _ h=>sj x.er λc=>if c=true then(pe Ψ b E).e h Q else Q (.d (.bool false)) false h,
   λv Q=>(pe Ψ a E).t v λc h=>if c=true then(pe Ψ b E).t h Q else Q false h,gF.a⟩
 | .or a b,E=>⟨λv Q=>(pe Ψ a E).e v λx _ h=>sj x.er λc=>if c=true then Q (.d (.bool true)) false h else(pe Ψ b E).e h Q,
   λv Q=>(pe Ψ a E).t v λc h=>if c=true then Q true h else(pe Ψ b E).t h Q,gF.a⟩
 | .not a,E=>⟨λv Q=>(pe Ψ a E).e v λx _ h=>FH x.er λc=>Q (.d (.bool (!c))) false h,λv Q=>(pe Ψ a E).t v λc h=>Q (!c) h,gF.a⟩|.call f as,E=>let e:kA->TK->Prop:=λv Q=>∃Z,BA (uA (Ψ.sp f).md as) v=some Z/\(uA (Ψ.sp f).md as).Nodup/\(pe Ψ as E).a (Ψ.sp f).md (clear (uA (Ψ.sp f).md as) v) λg h=>∃Y,XA (Ψ.sp f).md g Z=some Y/\(Ψ.sp f).run Y (λr s=>∃w,EB (uA (Ψ.sp f).md as) s h=some w/\Q r true w) E
  ⟨e,λv Q=>e v λt _ h=>FH t.er λb=>Q b h,gF.a⟩
 | .bi f as,E=>let e:kA->TK->Prop:=λv Q=>(pe Ψ as E).a [] v λg h=>XX f (IB g) λz k=>Q z k h
  ⟨e,λv Q=>e v λt _ h=>FH t.er λb=>Q b h,gF.a⟩
 | .mt m o as,E=>let e:kA->TK->Prop:=λv Q=>if isMut m=true then gc (G1 o) λj=>PC v[j]? λt=>cI m t=true/\(pe Ψ as E).a [] (v.set j (some (.ky t))) λg w=>fE g=true/\w[j]?=some (some (.ky t))/\rK m t (cF g) λr K=>Q r true (w.set j (some (.own K))) else(pe Ψ o E).e v λx n h=>P9 m (pA x n).vw=true/\sq (pA x n) h ((pe Ψ as E).a []) λg w=>Cr m (pA x n).vw (IB g) λz k=>Q z k w
  ⟨e,λv Q=>e v λt _ h=>FH t.er λb=>Q b h,gF.a⟩
 | .idx a b,E=>let e:kA->TK->Prop:=λv Q=>(pe Ψ a E).e v λx n h=>sq (pA x n) h (cu (pe Ψ b E).e) λy w=>(sN (pA x n).vw (pA y.1 y.2).vw λz=>Q z false w)∨(CS (pA x n).vw y.1.er λz=>Q z false w)
  ⟨e,λv Q=>e v λt _ h=>FH t.er λb=>Q b h,gF.a⟩
 | .slc a lo hi,E=>⟨λv Q=>(pe Ψ a E).e v λx n h =>
   sq (α:=Option Int) (pA x n) h (if isNop lo=true then λv (R:Option Int->kA->Prop)=>R none v else λv R=>(pe Ψ lo E).e v λl _ w=>aF l.er λo=>R o w) λl w =>
   sq (α:=Option Int) (pA x n) w (if isNop hi=true then λv (R:Option Int->kA->Prop)=>R none v else λv R=>(pe Ψ hi E).e v λu _ p=>aF u.er λo=>R o p) λu p=>fN (pA x n).vw l u λz k=>Q z k p,gF.t,gF.a⟩
 | .nop,_=>gF|.lst as,E=>⟨λv Q=>(pe Ψ as E).a [] v λg h=>fE g=true/\g.length<=sizeLine/\Q (.lst (cF g)) true h,gF.t,gF.a⟩|.tup as,E=>⟨λv Q=>(pe Ψ as E).a [] v λg h=>fE g=true/\g.length<=sizeLine/\Q (uE (cF g)) true h,gF.t,gF.a⟩|.comp mask tgs tg ik its cond elt,E=>⟨λv Q=>(pe Ψ its E).a [] v λg h=>VB ik (IB g) λq =>
   cD (PF tg (aN tgs.length mask (lockA h)) (if isNop cond=true then λv R=>R true v else(pe Ψ cond (λ_=>False)).t) (pe Ψ elt (λ_=>False)).e) q [] λW=>Q (.lst W) true h,gF.t,gF.a⟩
 | .dnew b,_=>⟨λv Q=>Q (.dct b [] []) true v,gF.t,gF.a⟩|.dsp a b,E=>⟨λv Q=>(pe Ψ a E).e v λy m h=>tH y m=true/\(pe Ψ b E).e h λx n w=>tH x n=true/\aD true y.er/\Q (.dct true [y.er] [x]) true w,gF.t,gF.a⟩|.nz,_=>⟨gF.e,gF.t,λ_ v Q=>Q [] v⟩|.ny a as,E=>⟨gF.e,gF.t,λX v Q=>if(X.headD .xx).isMut=true then B5 a=true/\(pe Ψ as E).a X.tail v λg h=>Q ((.d .none,true)::g) h
   else(pe Ψ a E).e v λx n h=>sq (α:=List (T×Bool)) (if n=true then .d .none else x) h ((pe Ψ as E).a X.tail) λg w=>Q ((x,n)::g) w⟩
structure PEnds where
 nx:kA->Prop
 rt:T->kA->Prop
 bk:kA->Prop:=λ_=>False
 ct:kA->Prop:=λ_=>False
noncomputable def KG:PX->LN
 | .xz i=>[i]|.idx a _=>KG a|.and a b | .or a b=>KG a++KG b
 | .ny a h=>KG a++KG h|_=>[]
noncomputable def TL:Option (Option Sl)->Bool
 |some (some (.own _))=>true|some (some (.ky _))=>false|some none=>false|none=>false
noncomputable def bC(ρ:kA):LN->LN
 |[]=>[]|i::is=>if TL ρ[i]?=true then i::bC ρ is else bC ρ is
noncomputable def aC:LN->kA->kA->kA
 |[],_,ρ=>ρ|i::L,ρ0,ρ=>aC L ρ0 (ρ.set i (ρ0[i]?.getD none))
def IT(J L:LN)(h:kA)(N:kA->Prop)(ρ:kA):Prop:=(∀i∈L,i∉J/\ρ[i]?=h[i]?.map VF)/\N (aC L h ρ)
def sH(body:PEnds->kA->Prop)(z:Tg)(Z:PEnds):LT->kA->Prop
 |[],ρ=>Z.nx ρ|x::xs,ρ=>rO z x ρ λy=>body { Z with nx:=λh=>sH body z Z xs h,ct:=λh=>sH body z Z xs h,bk:=Z.nx } y
def nr(ρ:kA)(i:Nat)(R:T->kA->Prop):Option (Option Sl)->Prop
 |some (some (.own t))=>R t (ρ.set i none)|some (some (.ky t))=>t.isD=true/\R t ρ|some none=>False|none=>False
def mJ(Ψ:PEv)(E:XE)(y:T->kA->Prop):PX->kA->Prop
 | .xz i,ρ=>nr ρ i y ρ[i]?|e,ρ=>(pe Ψ e E).e ρ λx n h=>tH x n=true/\y x h
def Ml:T->D->D->(T->Prop)->Prop
 | .lst ts,.int i,x,Q=>∃n,DT ts.length i=some n/\Q (.lst (ts.set n (.d x)))|.dct b ks ts,k,x,Q=>aD b k/\ks.length<sizeLine/\Q (oJ b ks ts k (.d x))|_,_,_,_=>False
noncomputable def yr:PX->Option (Nat×Option PX)
 | .xz j=>some (j,none)|.idx (.xz j) k=>some (j,some k)|_=>none
def rg(k:D)(t:T)(Q:T->Prop):Prop:=∃h x,t=.dct true h x/\aD true k/\h.length<sizeLine/\((∃n,bA h k=some n/\Q t)∨(bA h k=none/\Q (.dct true (h++[k]) (x++[.dct true [] []]))))
noncomputable def Ea:T->Bool
 | .dct true _ _=>true|_=>false
def Hl(z:D)(t:T)(Q:T->(T->T)->Prop):Prop:=∃b x h n s,t=.dct b x h/\aD b z/\bA x z=some n/\h[n]?=some s/\Q s λy=>.dct b x (h.set n y)
def bB(Ψ:PEv)(E:XE):PT->PEnds->kA->Prop
 | .nil,Z,u=>Z.nx u|.seq s r,Z,u=>bB Ψ E s { Z with nx:=λw=>bB Ψ E r Z w } u|.set i e,Z,u=>(pe Ψ e E).e u λx n h=>tH x n=true/\Z.nx (h.set i (bD x.er))|.expr e,Z,u=>(pe Ψ e E).e u λ_ _ h=>Z.nx h|.ret e,Z,u=>mJ Ψ E Z.rt e u|.ife c a b,Z,u=>(pe Ψ c E).t u λk h=>if k=true then bB Ψ E a Z h else bB Ψ E b Z h|.for_ tg ik its body,Z,u=>(pe Ψ its E).a [] u λX h=>VB ik (IB X) λf =>
   if XQ X=true then sH (bB Ψ E body) tg { Z with nx:=λv=>Z.nx (kill tg.ix v) } f h
   else sH (bB Ψ E body) tg { Z with nx:=λv=>IT tg.ix (bC h (KG its)) h Z.nx (kill tg.ix v) } f (lock (bC h (KG its)) h)
 | .own i e,Z,u=>(pe Ψ e E).e u λx n h=>tH x n=true/\Z.nx (h.set i (some (.own x)))|.six o i e,Z,u=>match yr o with
  |none=>False|some (j,none)=>PC u[j]? λt=>(pe Ψ e E).e (u.set j (some (.ky t))) λx n h=>tH x n=true/\(pe Ψ i E).e h λy m v=>tH y m=true/\v[j]?=some (some (.ky t))/\Ml t y.er x.er λq=>Z.nx (v.set j (some (.own q)))|some (j,some k)=>PC u[j]? λt=>(pe Ψ e E).e (u.set j (some (.ky t))) λx n h=>tH x n=true/\(pe Ψ k E).e h λz l v=>tH z l=true/\Hl z.er t λs put=>(pe Ψ i E).e v λy m g=>tH y m=true/\g[j]?=some (some (.ky t))/\Ml s y.er x.er λY=>Z.nx (g.set j (some (.own (put Y))))
 | .sdf j k,Z,u=>PC u[j]? λt=>Ea t=true/\(pe Ψ k E).e (u.set j (some (.ky t))) λy m h=>tH y m=true/\h[j]?=some (some (.ky t))/\rg y.er t λq=>Z.nx (h.set j (some (.own q)))|.whl c body,Z,u=>∃W:Nat->kA->Prop,(∃m,W m u)/\∀m u,W m u->(pe Ψ c E).t u λb h=>if b=true then
   bB Ψ E body { Z with nx:=λw=>∃p,p < m/\W p w,ct:=λw=>∃p,p < m/\W p w,bk:=Z.nx } h else Z.nx h
 | .frz is s,Z,u=>bB Ψ E s Z (frzAt is u)
abbrev pF(Ψ:PEv):PT->PEnds->kA->Prop:=bB Ψ λ_=>False
theorem _root_.L2.Same.rd{H x:Hp}(e:Same H x){a:Addr}{u:HO}(h:Rd H a u):Rd x a u:=by
 rcases h with h|⟨o,h⟩
 exact .inl (e _ _ h);exact .inr ⟨o,e _ _ h⟩
theorem _root_.L2.Same.tupl{K:QA}{H x:Hp}{a:Addr}{xs:LV}(e:Same H x)(h:rD K H a xs):rD K x a xs:=by rcases h with h|h;exact .inl (e.rd h);exact .inr h
mutual
theorem yX{K:QA}{H x:Hp}(e:Same H x):∀{k:NK}{v:V},Gj K H k v->Gj K x k v
 | .s _,_,h=>h|.t _,_,⟨a,xs,h,q,p⟩=>⟨a,xs,h,e.tupl q,kys_mono e p⟩
theorem kys_mono{K:QA}{H y:Hp}(e:Same H y):∀{ks:List NK}{vs:LV},KyVs K H ks vs->KyVs K y ks vs
 |[],_,h=>h|_::_,_,⟨x,r,h,p,q⟩=>⟨x,r,h,yX e p,kys_mono e q⟩
end
section
variable{K:QA}{H x:Hp}{vs:LV}{ds:List D}
theorem _root_.L2.Same.key(e:Same H x){b:Addr}{k:NK}(h:BN K H b k):BN K x b k:=⟨yX e h.1,h.2⟩
theorem NJ.mono(e:Same H x){b:Bool}{o:HO}{ks:List D}(h:NJ K H b o ks vs):NJ K x b o ks vs:=by
 cases b with|true=>obtain⟨f,y,a,k,w,v,u⟩:=h;exact⟨f,y,a,k,w,λp z=>e.key (v p z),u⟩|false=>exact h
theorem Rep.mono2(e:Same H x):(∀{v:V}{d:D},Rep K H v d->Rep K x v d)/\∀{vs:LV}{ds:List D},Reps K H vs ds->Reps K x vs ds :=
 Rep.both (P:=Rep K x) (R:=Reps K x) .non .bl .int .str (λh _ r=>.lst (e.seq h) r) (λh _ r=>.tup (e.tupl h) r) (λh q _ r=>.dct (e _ _ h) (q.mono e) r) .nil λ_ _ h r=>.cons h r
theorem Rep.mono(e:Same H x){v:V}{d:D}(h:Rep K H v d):Rep K x v d:=(Rep.mono2 e).1 h
theorem Reps.mono(e:Same H x)(h:Reps K H vs ds):Reps K x vs ds:=(Rep.mono2 e).2 h
theorem Reps.append{ws:LV}{es:List D}(h:Reps K H vs ds)(r:Reps K H ws es):Reps K H (vs++ws) (ds++es):=Reps.ind (R:=λvs ds=>Reps K H (vs++ws) (ds++es)) r (λh t=>.cons h t) h
theorem Reps.get{K:QA}{H:Hp}:∀{vs:LV}{ds:List D}{i:Nat}{d:D},Reps K H vs ds->ds[i]?=some d->∃v,vs[i]?=some v/\Rep K H v d
 |_,_,i,_,.nil,h=>by simp at h|_,_,0,_,.cons h _,e=>by simp at e;subst e;exact⟨_,rfl,h⟩|_,_,i+1,d,.cons _ t,e=>by obtain⟨v,z,y⟩:=Reps.get (i:=i) t (by simpa using e);exact⟨v,by simpa using z,y⟩
theorem Reps.drop{K:QA}{H:Hp}:∀{vs:LV}{ds:List D}(n:Nat),Reps K H vs ds->Reps K H (vs.drop n) (ds.drop n)
 |_,_,0,r=>r|_,_,_+1,.nil=>.nil|_,_,n+1,.cons _ t=>Reps.drop n t
theorem Reps.take{K:QA}{H:Hp}:∀{vs:LV}{ds:List D}(n:Nat),Reps K H vs ds->Reps K H (vs.take n) (ds.take n)
 |_,_,0,_=>.nil|_,_,_+1,.nil=>.nil|_,_,n+1,.cons h t=>.cons h (Reps.take n t)
theorem Reps.bools{K:QA}{H:Hp}:∀{vs:LV}{bs:List Bool},Reps K H vs (bs.map PyData.bool)->vs=bs.map V.bl
 |_,[],.nil=>rfl|_,b::bs,.cons h t=>by cases h;rw[QV,Reps.bools t]
theorem CB{p:Addr}{o:HO}(h:H p=none):Same H (UA H p o):=λb u q=>by rw[vA (aA q h)];exact q
end
mutual
inductive Tr(K:QA)(F H:Hp):Bool->V->T->(Addr->Prop)->Prop where
 |d {st:Bool}{v:V}{x:D}{S:lB}:Rep K F v x->(∀b,¬ S b)->Tr K F H st v (.d x) S
 |lst {st:Bool}{a:Addr}{vs:LV}{ts:LT}{S S':lB}:H a=some (.lst vs)->F a=none->Trs K F H st vs ts S'->¬ S' a->(∀b,S b↔b=a∨S' b)->Tr K F H st (.ref a) (.lst ts) S
 |tup {st:Bool}{a:Addr}{vs:LV}{ts:LT}{S S':lB}:H a=some (.tup vs)->F a=none->Trs K F H st vs ts S'->¬ S' a->(∀b,S b↔b=a∨S' b)->Tr K F H st (.ref a) (.tup ts) S
 |lstF {a:Addr}{vs:LV}{ds:List D}{S:lB}:HC K F a vs->Reps K F vs ds->(∀b,¬ S b)->Tr K F H false (.ref a) (.lst (ds.map T.d)) S
 |dct {st b:Bool}{a:Addr}{o:HO}{ks:List D}{vs:LV}{ts:LT}{S S':lB}:H a=some o->NJ K F b o ks vs->F a=none->Trs K F H st vs ts S'->¬ S' a->(∀b,S b↔b=a∨S' b)->Tr K F H st (.ref a) (.dct b ks ts) S
inductive Trs(K:QA)(F H:Hp):Bool->LV->LT->(Addr->Prop)->Prop where
 |nil {st:Bool}{S:lB}:(∀b,¬ S b)->Trs K F H st [] [] S
 |cons {st:Bool}{v:V}{t:T}{vs:LV}{ts:LT}{S S1 S2:lB}:Tr K F H st v t S1->Trs K F H st vs ts S2->(∀b,S1 b->¬ S2 b)->(∀b,S b↔S1 b∨S2 b)->Trs K F H st (v::vs) (t::ts) S
end
section
variable{K:QA}{F H w c:Hp}
section
variable{R:Bool->LV->LT->(Addr->Prop)->Prop}{st b:Bool}{v:V}{t:T}{S:lB}{vs:LV}{ts:LT}{ds ks:List D}{i:Int}{kvs:List (D×D)}
theorem Tr.both{P:Bool->V->T->(Addr->Prop)->Prop}
    (d:∀{st:Bool}{v:V}{x:D}{S:lB},Rep K F v x->(∀b,¬ S b)->P st v (.d x) S)
    (lst:∀{st:Bool}{a:Addr}{vs:LV}{ts:LT}{S S':lB},H a=some (.lst vs)->F a=none->Trs K F H st vs ts S'->¬ S' a->(∀b,S b↔b=a∨S' b)->R st vs ts S'->P st (.ref a) (.lst ts) S)
    (tup:∀{st:Bool}{a:Addr}{vs:LV}{ts:LT}{S S':lB},H a=some (.tup vs)->F a=none->Trs K F H st vs ts S'->¬ S' a->(∀b,S b↔b=a∨S' b)->R st vs ts S'->P st (.ref a) (.tup ts) S)
    (y:∀{a:Addr}{vs:LV}{ds:List D}{S:lB},HC K F a vs->Reps K F vs ds->(∀b,¬ S b)->P false (.ref a) (.lst (ds.map T.d)) S)
    (dct:∀{st b:Bool}{a:Addr}{o:HO}{ks:List D}{vs:LV}{ts:LT}{S S':lB},H a=some o->NJ K F b o ks vs->F a=none->Trs K F H st vs ts S'->¬ S' a->(∀b,S b↔b=a∨S' b)->R st vs ts S'->P st (.ref a) (.dct b ks ts) S)
    (u:∀{st:Bool}{S:lB},(∀b,¬ S b)->R st [] [] S)
    (z:∀{st:Bool}{v:V}{t:T}{vs:LV}{ts:LT}{S S1 k:lB},Tr K F H st v t S1->Trs K F H st vs ts k->(∀b,S1 b->¬ k b)->(∀b,S b↔S1 b∨k b)->P st v t S1->R st vs ts k->R st (v::vs) (t::ts) S) :
    (∀{st:Bool}{v:V}{t:T}{S:lB},Tr K F H st v t S->P st v t S)/\∀{st:Bool}{vs:LV}{ts:LT}{S:lB},Trs K F H st vs ts S->R st vs ts S :=
  ⟨λh=>Tr.rec (motive_1:=λst v t S _=>P st v t S) (motive_2:=λst vs ts S _=>R st vs ts S) @d @lst @tup @y @dct @u @z h,
   λh=>Trs.rec (motive_1:=λst v t S _=>P st v t S) (motive_2:=λst vs ts S _=>R st vs ts S) @d @lst @tup @y @dct @u @z h⟩
theorem Tr.mono2(e:Same F w):(∀{st:Bool}{v:V}{t:T}{S:lB},Tr K F H st v t S->(∀b,S b->c b=H b/\w b=none)->Tr K w c st v t S)/\∀{st:Bool}{vs:LV}{ts:LT}{S:lB},Trs K F H st vs ts S->(∀b,S b->c b=H b/\w b=none)->Trs K w c st vs ts S :=
 Tr.both (P:=λst v t S=>(∀b,S b->c b=H b/\w b=none)->Tr K w c st v t S) (R:=λst v t S=>(∀b,S b->c b=H b/\w b=none)->Trs K w c st v t S)
  (λr n _=>.d (r.mono e) n)
  (λ{_ a _ _ _ _} h _ _ n q x k=>.lst ((k a ((q a).mpr (.inl rfl))).1.trans h) (k a ((q a).mpr (.inl rfl))).2 (x λb hb=>k b ((q b).mpr (.inr hb))) n q)
  (λ{_ a _ _ _ _} h _ _ n q x k=>.tup ((k a ((q a).mpr (.inl rfl))).1.trans h) (k a ((q a).mpr (.inl rfl))).2 (x λb hb=>k b ((q b).mpr (.inr hb))) n q)
  (λh r n _=>.lstF (e.seq h) (r.mono e) n)
  (λ{_ _ a _ _ _ _ _ _} h dk _ _ n q x k=>.dct ((k a ((q a).mpr (.inl rfl))).1.trans h) (dk.mono e) (k a ((q a).mpr (.inl rfl))).2 (x λb hb=>k b ((q b).mpr (.inr hb))) n q)
  (λn _=>.nil n)
  (λ_ _ n q z y k=>.cons (z λb hb=>k b ((q b).mpr (.inl hb))) (y λb hb=>k b ((q b).mpr (.inr hb))) n q)
theorem Tr.mono(e:Same F w)(h:Tr K F H st v t S)(k:∀b,S b->c b=H b/\w b=none):Tr K w c st v t S:=(Tr.mono2 e).1 h k
theorem Trs.mono(e:Same F w)(h:Trs K F H st vs ts S)(k:∀b,S b->c b=H b/\w b=none):Trs K w c st vs ts S:=(Tr.mono2 e).2 h k
theorem Tr.weak2:(∀{st:Bool}{v:V}{t:T}{S:lB},Tr K F H st v t S->Tr K F H false v t S)/\∀{st:Bool}{vs:LV}{ts:LT}{S:lB},Trs K F H st vs ts S->Trs K F H false vs ts S :=
 Tr.both (P:=λ_ v t S=>Tr K F H false v t S) (R:=λ_ v t S=>Trs K F H false v t S) .d (λh f _ n q x=>.lst h f x n q) (λh f _ n q x=>.tup h f x n q) .lstF (λh dk f _ n q x=>.dct h dk f x n q) .nil λ_ _ n q z y=>.cons z y n q
theorem Tr.weak(h:Tr K F H st v t S):Tr K F H false v t S:=Tr.weak2.1 h
theorem Trs.weak(h:Trs K F H st vs ts S):Trs K F H false vs ts S:=Tr.weak2.2 h
theorem L6{C:lB}{a:Addr}{S':lB}(q:∀b,S b↔b=a∨S' b)(h:C a)(k:∀b,S' b->C b)(b:Addr)(hb:S b):C b:=((q b).mp hb).elim (λe=>e▸h) (k b)
theorem Tr.dom2:(∀{st:Bool}{v:V}{t:T}{S:lB},Tr K F H st v t S->∀b,S b->H b≠none/\F b=none)/\∀{st:Bool}{vs:LV}{ts:LT}{S:lB},Trs K F H st vs ts S->∀b,S b->H b≠none/\F b=none :=
 have y:∀{a:Addr}{o:HO},H a=some o->H a≠none:=λh z=>by rw[h]at z;cases z
 Tr.both (P:=λ_ _ _ S=>∀b,S b->H b≠none/\F b=none) (R:=λ_ _ _ S=>∀b,S b->H b≠none/\F b=none)
  (λ_ n b hb=>absurd hb (n b)) (λh f _ _ q x=>L6 q ⟨y h,f⟩ x) (λh f _ _ q x=>L6 q ⟨y h,f⟩ x) (λ_ _ n b hb=>absurd hb (n b)) (λh _ f _ _ q x=>L6 q ⟨y h,f⟩ x)
  (λn b hb=>absurd hb (n b)) λ_ _ _ q k u b hb=>((q b).mp hb).elim (k b) (u b)
theorem Tr.dom(h:Tr K F H st v t S):∀b,S b->H b≠none/\F b=none:=Tr.dom2.1 h
theorem Trs.dom(h:Trs K F H st vs ts S):∀b,S b->H b≠none/\F b=none:=Tr.dom2.2 h
theorem Tr.kept2(e:Same F w):(∀{st:Bool}{v:V}{t:T}{S:lB},Tr K F H st v t S->(∀b u,S b->H b=some u->w b=some u)->Rep K w v t.er)/\∀{st:Bool}{vs:LV}{ts:LT}{S:lB},Trs K F H st vs ts S->(∀b u,S b->H b=some u->w b=some u)->Reps K w vs (ersT ts) :=
 Tr.both (P:=λ_ v t S=>(∀b u,S b->H b=some u->w b=some u)->Rep K w v t.er) (R:=λ_ v t S=>(∀b u,S b->H b=some u->w b=some u)->Reps K w v (ersT t))
  (λr _ _=>r.mono e)
  (λ{_ a _ _ _ _} h _ _ _ q x k=>by unfold T.er;exact .lst (HC.of (k a _ ((q a).mpr (.inl rfl)) h)) (x λb u hb=>k b u ((q b).mpr (.inr hb))))
  (λ{_ a _ _ _ _} h _ _ _ q x k=>by unfold T.er;exact .tup (rD.of (k a _ ((q a).mpr (.inl rfl)) h)) (x λb u hb=>k b u ((q b).mpr (.inr hb))))
  (λh r _ _=>by unfold T.er;rw[RA];exact .lst (e.seq h) (r.mono e))
  (λ{_ _ a _ _ _ _ _ _} h dk _ _ _ q x k=>by unfold T.er;exact .dct (k a _ ((q a).mpr (.inl rfl)) h) (dk.mono e) (x λb u hb=>k b u ((q b).mpr (.inr hb))))
  (λ_ _=>.nil)
  (λ_ _ _ q z y k=>.cons (z λb u hb=>k b u ((q b).mpr (.inl hb))) (y λb u hb=>k b u ((q b).mpr (.inr hb))))
theorem Tr.kept(e:Same F w)(h:Tr K F H st v t S)(k:∀b u,S b->H b=some u->w b=some u):Rep K w v t.er:=(Tr.kept2 e).1 h k
theorem Tr.rep(f:Same F H)(h:Tr K F H st v t S):Rep K H v t.er:=h.kept f λ_ _ _ e=>e
theorem Trs.ind(z:∀{st:Bool}{S:lB},(∀b,¬ S b)->R st [] [] S)
  (x:∀{st:Bool}{v:V}{t:T}{vs:LV}{ts:LT}{S S1 y:lB},Tr K F H st v t S1->Trs K F H st vs ts y->(∀b,S1 b->¬ y b)->(∀b,S b↔S1 b∨y b)->R st vs ts y->R st (v::vs) (t::ts) S) (h:Trs K F H st vs ts S):R st vs ts S :=
 (Tr.both (P:=λ_ _ _ _=>True) (λ_ _=>trivial) (λ_ _ _ _ _ _=>trivial) (λ_ _ _ _ _ _=>trivial) (λ_ _ _=>trivial) (λ_ _ _ _ _ _ _=>trivial) z λh t n q _ r=>x h t n q r).2 h
theorem Trs.length(h:Trs K F H st vs ts S):vs.length=ts.length:=Trs.ind (R:=λ_ vs ts _=>vs.length=ts.length) (λ_=>rfl) (λ_ _ _ _ e=>congrArg Nat.succ e) h
theorem Trs.of_reps(h:Reps K F vs ds):Trs K F H st vs (ds.map T.d) (λ_=>False) :=
 Reps.ind (R:=λvs ds=>Trs K F H st vs (ds.map T.d) λ_=>False) (.nil λ_ z=>z) (λh t=>.cons (.d h λ_ z=>z) t (λ_ z=>z.elim) λb=>by simp) h
theorem Trs.un(h:Trs K F H st vs ts S)(e:XG ts=some ds):Reps K F vs ds/\∀b,¬ S b:=by
 have u:=dL e;clear e;revert ds;refine Trs.ind (R:=λ_ vs ts S=>∀{ds:List D},ts=ds.map T.d->Reps K F vs ds/\∀b,¬ S b) (λn ds e=>?_) (λh _ _ q x ds e=>?_) h;cases ds with|nil=>exact⟨.nil,n⟩|cons d r=>cases e
 cases ds with
 |nil=>cases e|cons d r =>
  injection e with e1 e2;obtain⟨z,y⟩:=x e2;subst e1;cases h with|d rep m=>exact⟨.cons rep z,λb hb=>((q b).mp hb).elim (m b) (y b)⟩
theorem Trs.get{i:Nat}(h:Trs K F H st vs ts S)(e:ts[i]?=some t):∃v S1,vs[i]?=some v/\Tr K F H st v t S1/\∀b,S1 b->S b:=by
 revert i;refine Trs.ind (R:=λst vs ts S=>∀{i:Nat},ts[i]?=some t->∃v S1,vs[i]?=some v/\Tr K F H st v t S1/\∀b,S1 b->S b) (λn i e=>by cases e) (λh _ n q x i e=>?_) h;cases i with|zero=>cases e;exact⟨_,_,rfl,h,λb hb=>(q b).mpr (.inl hb)⟩|succ i=>obtain⟨v,S1,u,z,y⟩:=x (i:=i) e;exact⟨v,S1,u,z,λb hb=>(q b).mpr (.inr (y b hb))⟩
theorem Trs.at(r:Trs K F H st vs ts S)(h:AD ts i=some t):∃v S1,AD vs i=some v/\Tr K F H st v t S1/\∀b,S1 b->S b:=by
 unfold AD at h ⊢;rw[r.length];cases e:DT ts.length i with|none=>rw[e]at h;cases h|some j=>rw[e]at h;exact r.get h
theorem Trs.append{ws:LV}{us:LT}{S1 x:lB}(h:Trs K F H st vs ts S1)(r:Trs K F H st ws us x)(k:∀b,S1 b->¬ x b):Trs K F H st (vs++ws) (ts++us) (λb=>S1 b∨x b) :=
 Trs.ind (R:=λst vs ts S1=>Trs K F H st ws us x->(∀b,S1 b->¬ x b)->Trs K F H st (vs++ws) (ts++us) λb=>S1 b∨x b)
  (λ{_ S} n r _=>by have e:(λb=>S b∨x b)=x:=funext λb=>propext ⟨λz=>z.resolve_left (n b),.inr⟩;rw[e];exact r)
  (λh _ n q y r k=>.cons h (y r λb hb=>k b ((q b).mpr (.inr hb))) (λb hb z=>z.elim (n b hb) (k b ((q b).mpr (.inl hb)))) λb=>by rw[q b,or_assoc]) h r k
theorem Trs.one(h:Tr K F H st v t S):Trs K F H st [v] [t] S:=.cons h (.nil (S:=λ_=>False) λ_ z=>z) (λ_ _ z=>z) λb=>by simp
theorem xH(e:(T.d (.dict kvs)).vw=.ls ts):False:=by
 have e:jC kvs=.ls ts:=e;unfold jC at e;cases h:xD kvs with|none=>rw[h]at e;cases e|some b=>rw[h]at e;cases e
theorem kL(e:(T.d (.dict kvs)).vw=.tp ts):False:=by
 have e:jC kvs=.tp ts:=e;unfold jC at e;cases h:xD kvs with|none=>rw[h]at e;cases e|some b=>rw[h]at e;cases e
theorem Tr.ls(f:Same F H)(h:Tr K F H st v t S)(e:t.vw=.ls ts):∃a vs S',v=.ref a/\HC K H a vs/\Trs K F H false vs ts S'/\∀b,S' b->S b:=by
 cases h with
 |d r n =>
  cases r with|lst q r=>injection e with e;subst e;exact⟨_,_,_,rfl,f.seq q,Trs.of_reps r,λb hb=>hb.elim⟩|dct _ _ _=>exact(xH e).elim|_=>cases e
 |lst h _ r n q=>injection e with e;subst e;exact⟨_,_,_,rfl,HC.of h,r.weak,λb hb=>(q b).mpr (.inr hb)⟩|tup=>cases e|dct=>cases e|lstF h r n=>injection e with e;subst e;exact⟨_,_,_,rfl,f.seq h,Trs.of_reps r,λb hb=>hb.elim⟩
theorem Tr.tp(f:Same F H)(h:Tr K F H st v t S)(e:t.vw=.tp ts):∃a vs S',v=.ref a/\rD K H a vs/\Trs K F H false vs ts S'/\∀b,S' b->S b:=by
 cases h with
 |d r n =>
  cases r with|tup q r=>injection e with e;subst e;exact⟨_,_,_,rfl,f.tupl q,Trs.of_reps r,λb hb=>hb.elim⟩|dct _ _ _=>exact(kL e).elim|_=>cases e
 |tup h _ r n q=>injection e with e;subst e;exact⟨_,_,_,rfl,rD.of h,r.weak,λb hb=>(q b).mpr (.inr hb)⟩|lst=>cases e|lstF=>cases e|dct=>cases e
theorem zX{u:Bool}{o:HO}(h:NJ K H u o ks vs)(e:xD (ks.zip ds)=some b):u=b:=by
 cases ks with
 |nil=>cases e|cons k ks =>
  cases ds with
  |nil=>cases e|cons d ds =>
   cases u with
   |true =>
    obtain⟨m,kvs,_,y,_,g,_⟩:=h;cases kvs with
    |nil=>cases y|cons p r =>
     have a:=(g p QF).1;obtain⟨f,n,j⟩:=p;cases f with|s x=>cases a|t l=>rw[QV]at y;injection y with y _;subst y;injection e
   |false =>
    rcases h with⟨kvs,_,_,y,_⟩| ⟨_,_,y,_⟩
    rotate_left
    cases y;cases kvs with
    |nil=>cases y|cons p r =>
     rw[QV]at y;injection y with y _;subst y;obtain⟨k,v⟩:=p;cases k with|inl i=>cases e|inr z=>injection e
theorem Tr.dc(f:Same F H)(h:Tr K F H st v t S)(e:t.vw=.dc b ks ts):∃a o vs S',v=.ref a/\H a=some o/\NJ K F b o ks vs/\Trs K F H false vs ts S'/\(∀b,S' b->S b)/\∀w c,Same F w->Same w c->(∀b,S b->c b=H b)->c a=some o:=by
 cases h with
 |d r n =>
  cases r with
  |@dct X a o y l ds h q r =>
   have hl:y.length=ds.length:=by rw[q.len,Reps.length r]
   have g:(y.zip ds).map (λx=>x.1)=y:=Wq (wv hl);have u:(y.zip ds).map (λx=>x.2)=ds:=WC (wv hl.symm);have e:jC (y.zip ds)=.dc b ks ts:=e;unfold jC at e;cases z:xD (y.zip ds) with
   |none=>rw[z]at e;cases e|some p =>
    rw[z]at e;injection e with z1 z2 z3;subst z1;rw[g]at z2;subst z2;have m:ts=ds.map T.d:=by have j:=congrArg (List.map T.d) u;rw[QS]at j;rw[<- z3,<- j];rfl
    subst m;cases zX q z;exact⟨_,_,_,_,rfl,f _ _ h,q,Trs.of_reps r,λb hb=>hb.elim,λw c g u _=>u _ _ (g _ _ h)⟩
  |_=>cases e
 |dct h q _ r n s=>injection e with z1 z2 z3;subst z1 z2 z3;exact⟨_,_,_,_,rfl,h,q,r.weak,λb hb=>(s b).mpr (.inr hb),λw c _ _ k=>(k _ ((s _).mpr (.inl rfl))).trans h⟩|lst=>cases e|tup=>cases e|lstF=>cases e
theorem Tr.sc{x:D}(h:Tr K F H st v t S)(e:t.vw=.sc x):t=.d x/\Rep K F v x:=by
 cases h with
 |@d _ _ y _ r n =>
  cases y with
  |list ds=>cases e|tuple ds=>cases e|dict ds =>
   have e:jC ds=.sc x:=e;unfold jC at e;cases z:xD ds with|none=>rw[z]at e;injection e with e;subst e;exact⟨rfl,r⟩|some b=>rw[z]at e;cases e
  |_=>injection e with e;subst e;exact⟨rfl,r⟩
 |tup=>cases e|lst=>cases e|lstF=>cases e|dct=>cases e
theorem Tr.int(h:Tr K F H st v t S)(e:t.vw=.sc (.int i)):v=.int i:=by obtain⟨_,r⟩:=h.sc e;cases r;rfl
theorem Tr.str{i:Str}(h:Tr K F H st v t S)(e:t.vw=.sc (.str i)):v=.str i:=by obtain⟨_,r⟩:=h.sc e;cases r;rfl
theorem Tr.bool{i:Bool}(h:Tr K F H st v t S)(e:t.vw=.sc (.bool i)):v=.bl i:=by obtain⟨_,r⟩:=h.sc e;cases r;rfl
end
end
def Sl.t:Sl->T
 | .own t=>t|.ky t=>t
noncomputable def Sl.st:Sl->Bool
 | .own _=>true|.ky _=>false
noncomputable abbrev Ft:=Nat->Addr->Prop
structure Rl(K:QA)(F H:Hp)(S:Ft)(ρ:kA)(σ:St):Prop where
 fh:Same F H
 len:ρ.length=σ.length
 sl:∀(i:Nat) s,ρ[i]?=some (some s)->∃v,σ[i]?=some (some v)/\Tr K F H s.st v s.t (S i)
 dj:∀(i j:Nat) t s,i≠j->ρ[i]?=some (some (.own t))->ρ[j]?=some (some s)->∀b,S i b->¬ S j b
def U(ρ:kA)(S:Ft)(b:Addr):Prop:=∃(i:Nat) (t:T),ρ[i]?=some (some (.own t))/\S i b
structure Stp(F H:Hp)(S:Ft)(ρ:kA)(F' H':Hp)(S':Ft)(ρ':kA):Prop where
 ff:Same F F'
 hh:∀b u,H b=some u->¬ U ρ S b->H' b=some u
 dm:∀b,H' b=none->H b=none
 fn:∀b,F b=none->F' b≠none->U ρ S b∨H b=none
 uu:∀b,U ρ' S' b->U ρ S b∨H b=none
 bo:∀(j:Nat) t,ρ'[j]?=some (some (.ky t))->t.isD=false->ρ[j]?=some (some (.ky t))/\S' j=S j
structure Ste(F H:Hp)(S:Ft)(ρ:kA)(F' H':Hp)(S':Ft)(ρ':kA):Prop extends Stp F H S ρ F' H' S' ρ' where
 ow:∀(j:Nat) t,ρ'[j]?=some (some (.own t))->∃t0,ρ[j]?=some (some (.own t0))
section
variable{K:QA}{F H X m B E:Hp}{S S1 C:Ft}{ρ l A:kA}{σ:St}
section
variable{v:V}{t:T}{Z W:lB}{i:Nat}{s:Sl}{b p:Addr}{vs:LN}{g:Hp}{c:Ft}{y:kA}{n:Bool}
theorem Stp.refl:Stp F H S ρ F H S ρ:=⟨.refl _,λ_ _ h _=>h,λ_ h=>h,λb h z=>absurd h z,λ_ h=>.inl h,λ_ _ h _=>⟨h,rfl⟩⟩
theorem Ste.refl:Ste F H S ρ F H S ρ:=⟨Stp.refl,λ_ t h=>⟨t,h⟩⟩
theorem Stp.trans(a:Stp F H S ρ X m S1 l)(b:Stp X m S1 l B E C A):Stp F H S ρ B E C A where
 ff:=a.ff.trans b.ff
 hh:=λx u h n=>b.hh x u (a.hh x u h n) λz=>by rcases a.uu x z with q|q;exact n q;rw[q]at h;cases h
 dm:=λx h=>a.dm x (b.dm x h)
 fn:=λx h z=>by
  by_cases q:X x=none;rcases b.fn x q z with w|w
  ·exact a.uu x w
  exact .inr (a.dm x w);exact a.fn x h q
 uu:=λx h=>by rcases b.uu x h with w|w;exact a.uu x w;exact .inr (a.dm x w)
 bo:=λj t h n=>by obtain⟨o,f⟩:=b.bo j t h n;obtain⟨e,k⟩:=a.bo j t o n;exact⟨e,f.trans k⟩
theorem Ste.trans(a:Ste F H S ρ X m S1 l)(b:Ste X m S1 l B E C A):Ste F H S ρ B E C A:=⟨a.toStp.trans b.toStp,λj t h=>by obtain⟨x,z⟩:=b.ow j t h;exact a.ow j x z⟩
theorem Stp.keep(s:Stp F H S ρ X m S1 l){st:Bool}(h:Tr K F H st v t Z)(n:∀b,Z b->¬ U ρ S b):Tr K X m st v t Z :=
 h.mono s.ff λb hb=>by
  obtain⟨x,w⟩:=h.dom b hb;refine⟨?_,?_⟩;cases e:H b with|none=>exact absurd e x|some u=>exact s.hh b u e (n b hb)
  by_cases q:X b=none
  ·exact q
  rcases s.fn b w q with z|z
  ·exact absurd z (n b hb)
  exact absurd z x
theorem Rl.dom(I:Rl K F H S ρ σ)(h:ρ[i]?=some (some s))(hb:S i b):H b≠none/\F b=none:=by obtain⟨v,_,r⟩:=I.sl i s h;exact r.dom b hb
theorem Rl.isD(I:Rl K F H S ρ σ)(h:ρ[i]?=some (some s))(x:s.t.isD=true):¬ S i b:=by
 obtain⟨v,_,r⟩:=I.sl i s h;generalize s.t=t at r x;generalize s.st=st at r;cases r with|d r n=>exact n b|_=>cases x
structure Held(F H:Hp)(S:Ft)(ρ:kA)(Z:lB):Prop where
 dom:∀b,Z b->H b≠none/\F b=none
 nw:∀(i:Nat) s,ρ[i]?=some (some s)->∀b,Z b->¬ S i b
theorem Held.nu(h:Held F H S ρ Z):∀b,Z b->¬ U ρ S b:=λb hb ⟨i,t,z,x⟩=>h.nw i _ z b hb x
theorem Held.step(h:Held F H S ρ Z)(s:Stp F H S ρ X m S1 l)(j:Rl K X m S1 l σ):Held X m S1 l Z where
 dom:=λb hb=>by
  obtain⟨u,k⟩:=h.dom b hb;refine⟨λz=>u (s.dm b z),?_⟩;by_cases q:X b=none;exact q;rcases s.fn b k q with z|z
  ·exact absurd z (h.nu b hb)
  exact absurd z u
 nw:=λi w e b hb z=>by
  cases w with
  |own t=>rcases s.uu b ⟨i,t,e,z⟩ with q|q;exact h.nu b hb q;exact(h.dom b hb).1 q
  |ky t =>
   cases x:t.isD with|true=>exact j.isD e x z|false=>obtain⟨f,a⟩:=s.bo i t e x;rw[a]at z;exact h.nw i _ f b hb z
theorem Held.none:Held F H S ρ λ_=>False:=⟨λ_ z=>z.elim,λ_ _ _ _ z=>z.elim⟩
theorem Held.or{Y:lB}(a:Held F H S ρ Z)(b:Held F H S ρ Y):Held F H S ρ λx=>Z x∨Y x:=⟨λx h=>h.elim (a.dom x) (b.dom x),λi s e x h=>h.elim (a.nw i s e x) (b.nw i s e x)⟩
noncomputable def tI(F H:Hp)(W:lB):Hp:=open Classical in λb=>if W b then H b else F b
theorem sI(h:W b):tI F H W b=H b:=if_pos h
theorem cC(h:¬ W b):tI F H W b=F b:=if_neg h
theorem iG(h:∀b,W b->F b=none):Same F (tI F H W):=λb u e=>by rw[cC λz=>by rw[h b z]at e;cases e];exact e
theorem Pa(f:Same F H):Same (tI F H W) H:=λb u e=>by by_cases hb:W b;rw[sI hb]at e;exact e;rw[cC hb]at e;exact f b u e
theorem Rl.frz(I:Rl K F H S ρ σ)(h:Held F H S ρ W):Rl K (tI F H W) H S ρ σ where
 fh:=Pa I.fh
 len:=I.len
 sl:=λi s e=>by obtain⟨v,u,x⟩:=I.sl i s e;refine⟨v,u,x.mono (iG λb hb=>(h.dom b hb).2) λb hb=>⟨rfl,?_⟩⟩;rw[cC λz=>h.nw i s e b z hb];exact(x.dom b hb).2
 dj:=I.dj
theorem Stp.frz(s:Stp F H S ρ X m S1 l)(x:∀b,W b->X b=none)(fr:∀b,W b->H b=none∨U ρ S b):Stp F H S ρ (tI X m W) m S1 l :=
 ⟨s.ff.trans (iG x),s.hh,s.dm,λb h z=>by by_cases q:W b;exact(fr b q).symm;rw[cC q]at z;exact s.fn b h z,s.uu,s.bo⟩
theorem Ste.frz(s:Ste F H S ρ X m S1 l)(h:∀b,W b->X b=none)(fr:∀b,W b->H b=none∨U ρ S b):Ste F H S ρ (tI X m W) m S1 l:=⟨s.toStp.frz h fr,s.ow⟩
theorem Stp.new(s:Stp F H S ρ X m S1 l){p:Addr}(h:m p=none)(o:HO):Stp F H S ρ X (UA m p o) S1 l :=
 ⟨s.ff,λb u e n=>CB h b u (s.hh b u e n),λb e=>by by_cases hb:b=p;rw[hb,iA]at e;cases e;rw[vA hb]at e;exact s.dm b e,s.fn,s.uu,s.bo⟩
theorem Ste.new(s:Ste F H S ρ X m S1 l){p:Addr}(h:m p=none)(o:HO):Ste F H S ρ X (UA m p o) S1 l:=⟨s.toStp.new h o,s.ow⟩
theorem Rl.same(I:Rl K F H S ρ σ)(h:Same H m):Rl K F m S ρ σ where
 fh:=I.fh.trans h
 len:=I.len
 sl:=λi s e=>by
  obtain⟨v,z,x⟩:=I.sl i s e;refine⟨v,z,x.mono (.refl _) λb hb=>⟨?_,(x.dom b hb).2⟩⟩;cases e:H b with|none=>exact absurd e (x.dom b hb).1|some u=>exact h b u e
 dj:=I.dj
theorem Rl.new(I:Rl K F H S ρ σ){p:Addr}(h:H p=none)(o:HO):Rl K F (UA H p o) S ρ σ:=I.same (CB h)
theorem Stp.newT(s:Stp F H S ρ X m S1 l)(h:m p=none)(u:X p=none)(o:HO):Stp F H S ρ (UA X p o) (UA m p o) S1 l :=
 let x:=s.new h o
 ⟨s.ff.trans (CB u),x.hh,x.dm,λb e z=>by by_cases hb:b=p;rw[hb];exact .inr (s.dm p h);rw[vA hb]at z;exact s.fn b e z,s.uu,s.bo⟩
theorem Ste.newT(s:Ste F H S ρ X m S1 l)(h:m p=none)(x:X p=none)(o:HO):Ste F H S ρ (UA X p o) (UA m p o) S1 l:=⟨s.toStp.newT h x o,s.ow⟩
theorem Rl.newT(I:Rl K F H S ρ σ)(h:H p=none)(o:HO):Rl K (UA F p o) (UA H p o) S ρ σ where
 fh:=λb u e=>by by_cases hb:b=p;rw[hb,iA]at e ⊢;exact e;rw[vA hb]at e ⊢;exact I.fh b u e
 len:=I.len
 sl:=λi s e=>by obtain⟨v,k,x⟩:=I.sl i s e;refine⟨v,k,x.mono (CB (I.fh.free h)) λb hb=>?_⟩;have w:b≠p:=λz=>(x.dom b hb).1 (by rw[z];exact h);rw[vA w,vA w];exact⟨rfl,(x.dom b hb).2⟩
 dj:=I.dj
theorem LY(ρ:kA)(i:Nat):(lockA ρ)[i]?=ρ[i]?.map VF:=by unfold lockA;rw[QX]
theorem mB{ρ:kA}(h:(lockA ρ)[i]?=some (some s)):∃x,ρ[i]?=some (some x)/\s=.ky x.t:=by
 rw[LY]at h;cases e:ρ[i]? with
 |none=>rw[e]at h;cases h|some o =>
  rw[e]at h;cases o with
  |none=>cases h|some x =>
   cases x with|own t=>injection h with h;injection h with h;subst h;exact⟨_,rfl,rfl⟩|ky t=>injection h with h;injection h with h;subst h;exact⟨_,rfl,rfl⟩
theorem RC(b:Addr):¬ U (lockA ρ) S b:=λ⟨i,t,h,_⟩=>by obtain⟨x,_,e⟩:=mB h;cases e
theorem Rl.lockA(I:Rl K F H S ρ σ):Rl K F H S (lockA ρ) σ where
 fh:=I.fh
 len:=by unfold L3.lockA;rw[QD];exact I.len
 sl:=λi s e=>by obtain⟨x,h,rfl⟩:=mB e;obtain⟨v,u,z⟩:=I.sl i x h;exact⟨v,u,z.weak⟩
 dj:=λi j t s _ h=>by obtain⟨x,_,e⟩:=mB h;cases e
theorem Stp.unlockA(s:Stp F H S (L3.lockA ρ) X m S1 l):Stp F H S ρ X m S ρ :=
 ⟨s.ff,λb u e _=>s.hh b u e (RC b),s.dm,λb h z=>(s.fn b h z).elim (λq=>absurd q (RC b)) .inr,λ_ h=>.inl h,λ_ _ h _=>⟨h,rfl⟩⟩
theorem Rl.unlockA(I:Rl K F H S ρ σ)(s:Stp F H S (L3.lockA ρ) X m S1 l)(f:Same X m):Rl K X m S ρ σ where
 fh:=f
 len:=I.len
 sl:=λi sl e=>by obtain⟨v,x,h⟩:=I.sl i sl e;exact⟨v,x,s.keep h λb _=>RC b⟩
 dj:=I.dj
structure VR(K:QA)(vs:LN)(g:Hp)(c:Ft)(y:kA)(F H:Hp)(S:Ft)(ρ:kA)(v:V)(t:T)(n:Bool)(Z:lB):Prop where
 tr:Tr K F H n v t Z
 fr:n=true->∀b,Z b->g b=none∨U y c b
 tm:n=false->∀b,Z b->∃(i:Nat) (s:Sl),i∈vs/\ρ[i]?=some (some s)/\S i b
 nw:n=true->∀(i:Nat) s,ρ[i]?=some (some s)->∀b,Z b->¬ S i b
theorem VR.d{vs:LN}{g:Hp}{c:Ft}{y:kA}{v:V}{x:D}(n:Bool)(r:Rep K F v x):VR K vs g c y F H S ρ v (.d x) n (λ_=>False) :=
 ⟨.d r λ_ z=>z,λ_ _ z=>z.elim,λ_ _ z=>z.elim,λ_ _ _ _ _ z=>z.elim⟩
theorem VR.held(h:VR K vs g c y F H S ρ v t true Z):Held F H S ρ Z:=⟨λb hb=>h.tr.dom b hb,h.nw rfl⟩
theorem VR.vars{ws:LN}(h:VR K vs g c y F H S ρ v t n Z)(k:∀i∈vs,i∈ws):VR K ws g c y F H S ρ v t n Z :=
 ⟨h.tr,h.fr,λe b hb=>let⟨i,s,z,x⟩:=h.tm e b hb;⟨i,s,k i z,x⟩,h.nw⟩
theorem VR.from(s:Stp F H S ρ X m S1 l)(h:VR K vs m S1 l B E C A v t n Z):VR K vs H S ρ B E C A v t n Z :=
 ⟨h.tr,λe b hb=>by rcases h.fr e b hb with q|q;exact .inl (s.dm b q);exact(s.uu b q).symm,h.tm,h.nw⟩
theorem VR.frz(s:Ste F H S ρ X m S1 l)(I:Rl K X m S1 l σ)(h:VR K vs H S ρ X m S1 l v t n Z) :
  ∃B o,Ste F H S ρ B m S1 l/\Rl K B m S1 l σ/\Tr K B m false v (pA t n) o/\(tH t n=true->Rep K B v t.er)/\(∀b,o b->∃(i:Nat) (s:Sl),i∈vs/\l[i]?=some (some s)/\S1 i b) /\
   ∀st a t' k,Tr K X m st a t' k->(∀b,k b->∃(i:Nat) (s:Sl),l[i]?=some (some s)/\S1 i b)->Tr K B m st a t' k:=by
 cases n with
 |true =>
  have w:=h.held;have j:=iG (H:=m) λb hb=>(w.dom b hb).2;have f:=h.tr.kept j λb u hb e=>by rw[sI hb];exact e
  refine⟨tI X m Z,λ_=>False,s.frz (λb hb=>(w.dom b hb).2) (h.fr rfl),I.frz w,.d f λ_ z=>z,λ_=>f,λb z=>z.elim,λst a t' k r G=>r.mono j λb hb=>⟨rfl,?_⟩⟩;obtain⟨i,Y,L,J⟩:=G b hb;rw[cC λz=>w.nw i Y L b z J];exact(r.dom b hb).2
 |false =>
  refine⟨X,Z,s,I,h.tr,?_,h.tm rfl,λ_ _ _ _ r _=>r⟩;intro e;have q:=h.tr;cases t with
  |d x=>cases q with|d r n=>exact r
  |_=>cases e
end
end
noncomputable abbrev kB(K:QA)(vs:LN)(F H:Hp)(S:Ft)(ρ:kA)(σ:St)(Q:TK)(R:VK):Prop :=
 ∀v z x y h t n Z,Ste F H S ρ z x y h->Rl K z x y h σ->VR K vs H S ρ z x y h v t n Z->Q t n h->R v x
noncomputable abbrev jJ(K:QA)(F H:Hp)(S:Ft)(ρ:kA)(σ:St)(Q:Bool->kA->Prop)(R:Bool->Hp->Prop):Prop :=
 ∀b z x y h,Ste F H S ρ z x y h->Rl K z x y h σ->Q b h->R b x
section
variable{K:QA}{ws:LN}{F H B A:Hp}{S S1:Ft}{ρ Y:kA}{σ:St}{v w:V}{a b:T}{J G:lB}{Q:TK}{R:VK}{E C:Bool}
section
variable{X o:Hp}{m:Ft}{u:kA}{p:Addr}{vs:LV}{ds:List D}
theorem kB.from(k:kB K ws F H S ρ σ Q R)(s:Ste F H S ρ X o m u):kB K ws X o m u σ Q R:=λv f e y h t n Z x z r q=>k v f e y h t n Z (s.trans x) z (r.from s.toStp) q
theorem jJ.from{Q:Bool->kA->Prop}{R:Bool->Hp->Prop}(k:jJ K F H S ρ σ Q R)(s:Ste F H S ρ X o m u):jJ K X o m u σ Q R:=λb f e y h x z q=>k b f e y h (s.trans x) z q
theorem kB.vars{us:LN}(k:kB K ws F H S ρ σ Q R)(h:∀i∈us,i∈ws):kB K us F H S ρ σ Q R:=λv e z y x t n Z s I r q=>k v e z y x t n Z s I (r.vars h) q
theorem kB.d(k:kB K ws F H S ρ σ Q R)(s:Ste F H S ρ B A S1 Y)(I:Rl K B A S1 Y σ){x:D}{n:Bool}(r:Rep K B v x)(q:Q (.d x) n Y):R v A:=k v B A S1 Y _ n _ s I (VR.d n r) q
theorem kB.list(k:kB K ws F H S ρ σ Q R)(s:Ste F H S ρ B A S1 Y)(I:Rl K B A S1 Y σ)(x:A p=none){ts:LT}{W:lB}(r:Trs K B A true vs ts W)
  (fr:∀b,W b->H b=none∨U ρ S b) (y:Held B A S1 Y W) (q:Q (.lst ts) true Y):R (.ref p) (UA A p (.lst vs)):=by
 have g:∀b,A b≠none->b≠p:=λb h z=>h (by rw[z];exact x);refine k _ B _ S1 Y _ true (λb=>b=p∨W b) (s.new x _) (I.new x _) ⟨.lst iA (I.fh.free x) (r.mono (.refl _) λb hb=>⟨?_,(y.dom b hb).2⟩) (λz=>(y.dom p z).1 x) (λb=>WR),λ_ b hb=>?_,λz=>(by cases z),λ_ i f e b hb z=>?_⟩ q;rw[vA (g b (y.dom b hb).1)];rcases hb with rfl|hb
 ·exact .inl (s.dm _ x)
 exact fr b hb;rcases hb with rfl|hb
 ·exact(I.dom e z).1 x
 exact y.nw i f e b hb z
theorem kB.listD(k:kB K ws F H S ρ σ Q R)(s:Ste F H S ρ B A S1 Y)(I:Rl K B A S1 Y σ)(h:A p=none)(r:Reps K B vs ds)(q:Q (.lst (ds.map T.d)) true Y):R (.ref p) (UA A p (.lst vs)) :=
 k.list s I h (Trs.of_reps r) (λb z=>z.elim) .none q
theorem kB.tupD(k:kB K ws F H S ρ σ Q R)(s:Ste F H S ρ B A S1 Y)(I:Rl K B A S1 Y σ)(h:A p=none){n:Bool}(r:Reps K B vs ds)(q:Q (.d (.tuple ds)) n Y):R (.ref p) (UA A p (.tup vs)) :=
 kB.d k (s.newT h (I.fh.free h) _) (I.newT h _) (.tup (rD.of iA) (r.mono (CB (I.fh.free h)))) q
theorem kB.tup(k:kB K ws F H S ρ σ Q R)(s:Ste F H S ρ B A S1 Y)(I:Rl K B A S1 Y σ){p:Addr}(x:A p=none){vs:LV}{ts:LT}{W:lB}(r:Trs K B A true vs ts W)
  (fr:∀b,W b->H b=none∨U ρ S b) (y:Held B A S1 Y W) (q:Q (uE ts) true Y):R (.ref p) (UA A p (.tup vs)):=by
 unfold uE at q;cases e:XG ts with
 |some ds=>rw[e]at q;exact k.tupD s I x (r.un e).1 q|none =>
  rw[e]at q;have g:∀b,A b≠none->b≠p:=λb h z=>h (by rw[z];exact x);refine k _ B _ S1 Y _ true (λb=>b=p∨W b) (s.new x _) (I.new x _) ⟨.tup iA (I.fh.free x) (r.mono (.refl _) λb hb=>⟨?_,(y.dom b hb).2⟩) (λz=>(y.dom p z).1 x) (λb=>WR),λ_ b hb=>?_,λz=>(by cases z),λ_ i f e b hb z=>?_⟩ q;rw[vA (g b (y.dom b hb).1)];rcases hb with rfl|hb
  ·exact .inl (s.dm _ x)
  exact fr b hb;rcases hb with rfl|hb
  ·exact(I.dom e z).1 x
  exact y.nw i f e b hb z
theorem bj{op:Operator}(s:Ste F H S ρ B A S1 Y)(I:Rl K B A S1 Y σ)(Z:Tr K B A E v a J)(r:Tr K B A C w b G)(h:binT op a.vw b.vw λz n=>Q z n Y)(k:kB K ws F H S ρ σ Q R):Ub K op v w A R:=by
 have g:∀{i j:Int},a.vw=.sc (.int i)->b.vw=.sc (.int j)->v=.int i/\w=.int j:=λf e=>⟨Z.int f,r.int e⟩
 cases op with
 |Add =>
  rcases h with⟨i,j,f,e,h⟩| ⟨x,y,f,e,h⟩| ⟨O,M,ds,es,f,e,e1,e2,hl,q⟩
  obtain⟨rfl,rfl⟩:=g f e;exact k.d s I (.int _) h;obtain rfl:=Z.str f;obtain rfl:=r.str e;exact⟨h.1,k.d s I (.str _) h.2⟩;obtain⟨p,P,_,rfl,hp,rp,_⟩:=Z.ls I.fh f;obtain⟨p2,N,_,rfl,hq,rq,_⟩:=r.ls I.fh e;have L:=(rp.un e1).1;have W:=(rq.un e2).1;exact⟨P,N,hp,hq,by rw[L.length,W.length];exact hl,λl hl=>k.listD s I hl (L.append W) q⟩
 |Sub=>obtain⟨i,j,f,e,h⟩:=h;obtain⟨rfl,rfl⟩:=g f e;exact k.d s I (.int _) h|Mult =>
  rcases h with⟨i,j,f,e,h⟩| ⟨x,y,f,e,h⟩
  obtain⟨rfl,rfl⟩:=g f e;exact⟨h.1,k.d s I (.int _) h.2⟩;obtain rfl:=Z.str f;obtain rfl:=r.int e;exact⟨h.1,k.d s I (.str _) h.2⟩
 |FloorDiv=>obtain⟨i,j,f,e,h⟩:=h;obtain⟨rfl,rfl⟩:=g f e;exact⟨h.1,k.d s I (.int _) h.2⟩|Mod=>obtain⟨i,j,f,e,h⟩:=h;obtain⟨rfl,rfl⟩:=g f e;exact⟨h.1,k.d s I (.int _) h.2⟩|_=>exact h.elim
theorem Dd{x y:D}{r:Bool->Prop}(neg:Bool)(e:Rep K A v x)(z:Rep K A w y)(h:bq x y λk=>r (if neg then !k else k))(k:∀c,r c->R (.bl c) A):rEq K neg v w A R:=by
 have n:sE x/\sE y/\r (if neg then !PyData.eqv x y else Qx x y)->(∃l f,Rep K A v l/\Rep K A w f/\sE l/\sE f/\R (.bl (if neg then !PyData.eqv l f else Qx l f)) A):=λ⟨Z,s,q⟩ =>
  ⟨x,y,e,z,Z,s,k _ q⟩
 unfold bq at h;split at h;cases e;cases z;exact k _ h;cases e;cases z;exact k _ h;cases e;cases z;exact k _ h;have g:=n h;rename_i n1 n2 n3;cases e with
 |int i =>
  cases z with|int j=>exact absurd rfl (n1 i j rfl)|_=>exact g
 |str i =>
  cases z with|str j=>exact absurd rfl (n2 i j rfl)|_=>exact g
 |bl i =>
  cases z with|bl j=>exact absurd rfl (n3 i j rfl)|_=>exact g
 |_=>exact g
theorem y6{F:Hp}{v w:V}{a b:D}(x:Rep K F v a)(h:Rep K F w b)(z:FB a=true)(y:FB b=true):Ta v w=Qx a b:=by cases x<;>cases h<;>first|exact absurd (show false=true from z) QG|exact absurd (show false=true from y) QG | (simp only[Qx];rfl) | (simp only[Qx])
theorem nV{F:Hp}{v:V}{a:D}(h:Rep K F v a)(x:FB a=true):LF v=true:=by cases h<;>first|rfl|exact absurd (show false=true from x) QG
theorem XS{F:Hp}(h:Reps K F vs ds)(f:ds.all FB=true):vs.all LF=true :=
 Reps.ind (R:=λvs ds=>ds.all FB=true->vs.all LF=true) (λ_=>rfl) (λh x f=>by rw[ql,Qd]at f ⊢;exact⟨nV h f.1,x f.2⟩) h f
theorem iM{F:Hp}{v:V}{a:D}(x:Rep K F v a)(z:FB a=true):∀{vs:LV}{ds:List D},Reps K F vs ds->ds.all FB=true->inV v vs=ds.any λy=>Qx y a
 |_,_,.nil,_=>rfl|_,_,.cons h t,f=>by rw[ql,Qd]at f;have e:=iM x z t f.2;unfold inV at e ⊢;rw[wy,wy,y6 h x f.1 z,e]
end
mutual
theorem aW{F:Hp}:∀{k:NK}{v:V},Rep K F v (tD k)->Gj K F k v
 | .s x,v,h=>by have h:Rep K F v (.str x):=h;cases h;rfl|.t ks,v,h=>by
  have h:Rep K F v (.tuple (tDs ks)):=h;cases h with|tup z y=>exact⟨_,_,rfl,z,reps_key y⟩
theorem reps_key{F:Hp}:∀{ks:List NK}{vs:LV},Reps K F vs (tDs ks)->KyVs K F ks vs
 |[],vs,h=>by have h:Reps K F vs []:=h;cases h;rfl|k::ks,vs,h=>by
  have h:Reps K F vs (tD k::tDs ks):=h;cases h with|cons h t=>exact⟨_,_,rfl,aW h,reps_key t⟩
end
section
variable{k x y:D}{o:HO}{ks ds:List D}{vs xs:LV}{u:Bool->Prop}{op:CmpOp}{j:Bool->Hp->Prop}{Y:lB}{ts:LT}
theorem yQ{F:Hp}{v:V}(hk:aD true k)(r:Rep K F v k):∃q p,k=tD q/\v=.ref p/\BN K F p q:=by obtain⟨q,rfl,h⟩:=hk;have r:=aW r;obtain⟨p,_,rfl,_⟩:=id r;exact⟨_,p,rfl,rfl,r,h⟩
theorem fG(q:NK):∀(kvs:List KE),VG kvs q=(bA (kvs.map λp=>tD p.1) (tD q)).bind λn=>(kvs.map (·.2.2))[n]?
 |[]=>rfl|p::r=>by rw[QV,QV];unfold bA;by_cases e:p.1=q;rw[zR e,if_pos (by rw[e])];rfl;rw[kR e,if_neg λz=>e (uU z),fG q r];cases bA (r.map λp=>tD p.1) (tD q)<;>rfl
theorem uJ(q:Key):∀(kvs:List (Key×V)),uL kvs q=(bA (kvs.map λp=>kD p.1) (kD q)).bind λn=>(kvs.map (·.2))[n]?
 |[]=>rfl|p::r=>by rw[QV,QV];unfold bA;by_cases e:p.1=q;rw[vL e,if_pos (by rw[e])];rfl;rw[xL e,if_neg λz=>e (Y5 z),uJ q r];cases bA (r.map λp=>kD p.1) (kD q)<;>rfl
theorem NJ.get{a:Addr}{b:Bool}(v:H1 a=some o)(q:NJ K H1 b o ks vs)(f:Rep K H1 w k)(hk:aD b k):FQ K H1 a w ((bA ks k).bind λn=>vs[n]?):=by
 cases b with
 |true=>obtain⟨e,h,rfl,rfl,rfl,i,_⟩:=q;obtain⟨q,p,rfl,rfl,g⟩:=yQ hk f;exact⟨e,h,q,v,i,g,(fG q h).symm⟩|false =>
  obtain⟨z,rfl⟩:=hk;cases f;rcases q with⟨h,_,rfl,rfl,rfl,_⟩| ⟨e,rfl,rfl,rfl⟩
  exact .inl ⟨h,v,(uJ (.inr z) h).symm⟩;exact .inr ⟨e,v,rfl⟩
theorem US{b:Bool}(q:NJ K H1 b o ks vs):((bA ks k).bind λn=>vs[n]?).isSome=(bA ks k).isSome:=by
 cases e:bA ks k with
 |none=>rfl|some n =>
  have z:=(Qf.mp (VC e)).1;have h:n<vs.length:=by rw[<- q.len];exact z
  simp[h]
theorem vV{b neg:Bool}{a:Addr}(w:H1 a=some o)(q:NJ K H1 b o ks vs)(z:Rep K H1 v x)(hk:aD b x)(h:R (.bl (if neg then !(bA ks x).isSome else(bA ks x).isSome)) H1):ZR K neg v (.ref a) H1 R :=
 .inr (.inr ⟨_,q.get w z hk,by rw[US q];exact h⟩)
theorem td(neg:Bool)(z:Rep K H1 v x)(f:Rep K H1 w y)(h:vq x y λk=>u (if neg then !k else k))(k:∀c,u c->R (.bl c) H1):ZR K neg v w H1 R:=by
 unfold vq at h;split at h;cases z;cases f;exact k _ h;rename_i ds;have e:=f;cases f with
 |lst n g =>
  rcases h.1 with⟨i,fs⟩| ⟨m,l⟩
  refine .inl ⟨_,_,rfl,.inl n,nV z i,XS g fs,?_⟩;rw[iM z i g fs];exact k _ h.2;exact .inr (.inl ⟨_,ds,z,.inl e,m,l,k _ h.2⟩)
 rename_i ds;have e:=f;cases f with
 |tup n g =>
  rcases h.1 with⟨i,fs⟩| ⟨m,l⟩
  refine .inl ⟨_,_,rfl,.inr n,nV z i,XS g fs,?_⟩;rw[iM z i g fs];exact k _ h.2;exact .inr (.inl ⟨_,ds,z,.inr e,m,l,k _ h.2⟩)
 obtain⟨b,p,hk,q⟩:=h;cases f with
 |@dct s a o ks vs ds h dk r =>
  have hl:ks.length=ds.length:=by rw[dk.len,Reps.length r]
  rw[Wq (wv hl)]at q;cases zX dk p;exact vV h dk z hk (k _ q)
 exact h.elim
theorem mP{g:Int->Int->Bool}(a:Rep K H1 v x)(z:Rep K H1 w y)(h:oY g x y u)(k:∀c,u c->R (.bl c) H1):cY g v w H1 R:=by unfold oY at h;split at h;cases a;cases z;exact k _ h;exact h.elim
theorem Rep.non_iff(h:Rep K H1 v x):decide (v=.non)=C5 x:=by cases h<;>rfl
theorem JV(a:Rep K H1 v x)(z:Rep K H1 w y)(h:rQ op x y u)(k:∀c,u c->R (.bl c) H1):V6 K op v w H1 R:=by
 cases op with|Eq=>exact Dd false a z h k|NotEq=>exact Dd true a z h k|Lt=>exact mP a z h k|LtE=>exact mP a z h k|Gt=>exact mP a z h k|GtE=>exact mP a z h k|In=>exact td false a z h k|NotIn=>exact td true a z h k|Is=>have b:SY x y u:=h;unfold SY at b;split at b;cases z;have e:=a.non_iff;show R (.bl (decide (v=.non))) H1;rw[e];exact k _ b;cases z;cases a;exact⟨_,rfl,k _ b⟩;exact b.elim|IsNot=>have b:SY x y λk=>u (!k):=h;unfold SY at b;split at b;cases z;have e:=a.non_iff;show R (.bl (!decide (v=.non))) H1;rw[e];exact k _ b;cases z;cases a;exact⟨_,rfl,k _ b⟩;exact b.elim
theorem yb(f:Same F1 H1)(z:Rep K H1 v x)(a:Tr K F1 H1 sb w b Zb)(h:zb op x b u)(k:∀c,u c->R (.bl c) H1):V6 K op v w H1 R:=by
 cases b with
 |d y=>exact JV z (a.rep f) h k|lst ts=>exact JV z (a.rep f) h k|tup ts=>exact JV z (a.rep f) h k|dct b ks ts =>
  obtain⟨hk,h⟩:=h;cases a with
  |dct e dk _ _ _ _ =>
   rcases h with⟨rfl,q⟩| ⟨rfl,q⟩
   exact vV (neg:=false) e (dk.mono f) z hk (k _ q);exact vV (neg:=true) e (dk.mono f) z hk (k _ q)
theorem oI(r:Reps K F xs ds):(!ds.isEmpty)=!xs.isEmpty:=by cases r<;>rfl
theorem kW(z:Rep K H1 v x)(h:FH x u)(k:∀c,u c->j c H1):UG K v H1 j:=by
 unfold FH at h;split at h;cases z;exact k _ h;cases z;exact k _ h;cases z;exact k _ h;cases z;exact⟨h.1,k _ h.2⟩;cases z with|lst a w=>rw[oI w]at h;exact⟨_,.inl ⟨_,a,rfl⟩,k _ h⟩
 cases z with|tup a w=>rw[oI w]at h;exact⟨_,.inr (.inl ⟨_,a,rfl⟩),k _ h⟩
 exact h.elim
theorem M6(z:Rep K H1 v x)(h:sj x u)(k:∀c,u c->j c H1):N6 v H1 j:=by unfold sj at h;split at h;cases z;exact k _ h;exact h.elim
theorem fi(s:Ste F H S ρ F1 H1 S1 ρ1)(I:Rl K F1 H1 S1 ρ1 σ)(W:Tr K F1 H1 sa v a Za)(C:∀b,Za b->∃(i:Nat) (s:Sl),i∈ws/\ρ1[i]?=some (some s)/\S1 i b)(X:Tr K F1 H1 sb w b Zb)(h:sN a.vw b.vw λz=>Q z false ρ1)(k:kB K ws F H S ρ σ Q R):dY K v w H1 R:=by
 rcases h with⟨z,i,c,m,l,g,f,q⟩| ⟨ts,i,d,m,l,g,q⟩| ⟨ts,i,d,m,l,g,q⟩
 obtain rfl:=W.str m;obtain rfl:=X.int l;exact⟨g,c,f,k.d s I (.str _) q⟩;obtain⟨p,xs,E,rfl,B,n,A⟩:=W.ls I.fh m;obtain rfl:=X.int l;obtain⟨x,Z,f,r,e⟩:=n.at g;exact⟨xs,x,.inl B,f,k _ F1 H1 S1 ρ1 _ false Z s I ⟨r,λz=>(by cases z),λ_ b hb=>C b (A b (e b hb)),λz=>(by cases z)⟩ q⟩;obtain⟨p,xs,E,rfl,B,n,A⟩:=W.tp I.fh m;obtain rfl:=X.int l;obtain⟨x,Z,f,r,e⟩:=n.at g;exact⟨xs,x,.inr B,f,k _ F1 H1 S1 ρ1 _ false Z s I ⟨r,λz=>(by cases z),λ_ b hb=>C b (A b (e b hb)),λz=>(by cases z)⟩ q⟩
theorem Oi(s:Ste F H S ρ F1 H1 S1 ρ1)(I:Rl K F1 H1 S1 ρ1 σ)(X:Tr K F1 H1 sa v a Za)(f:∀b,Za b->∃(i:Nat) (s:Sl),i∈ws/\ρ1[i]?=some (some s)/\S1 i b)(m:Rep K H1 w y)(h:CS a.vw y λz=>Q z false ρ1)(k:kB K ws F H S ρ σ Q R):dY K v w H1 R:=by
 obtain⟨b,ks,ts,n,d,G,hk,C,A,q⟩:=h;obtain⟨p,o,vs,J,rfl,B,dk,l,W,_⟩:=X.dc I.fh G;obtain⟨x,Z,E,r,e⟩:=l.get A;have g:=(dk.mono I.fh).get B m hk;rw[C]at g;have g:FQ K H1 p w (vs[n]?):=g;rw[E]at g;have fin:=k _ F1 H1 S1 ρ1 _ false Z s I ⟨r,λz=>(by cases z),λ_ b hb=>f b (W b (e b hb)),λz=>(by cases z)⟩ q;cases w with|str z=>exact⟨x,g,fin⟩|ref c=>exact⟨x,g,fin⟩|_=>exact g.elim
theorem Reps.cut(r:Reps K F xs ds)(h z:Option Int):Reps K F (HS xs h z) (DE ds h z):=by unfold HS DE;rw[r.length];exact(r.drop _).take _
theorem dg{i m:Option Int}(s:Ste F H S ρ F1 H1 S1 ρ1)(I:Rl K F1 H1 S1 ρ1 σ)(f:Tr K F1 H1 sa v a Za)(h:fN a.vw i m λz n=>Q z n ρ1)(k:kB K ws F H S ρ σ Q R):Jr K v i m H1 R:=by
 rcases h with⟨z,w,h⟩| ⟨ts,ds,w,e,q⟩| ⟨ts,ds,w,e,n,q⟩
 obtain rfl:=f.str w;exact⟨h.1,k.d s I (.str _) h.2⟩;obtain⟨p,xs,_,rfl,g,b,_⟩:=f.ls I.fh w;exact .inl ⟨p,xs,rfl,g,λl hl=>k.listD s I hl ((b.un e).1.cut _ _) q⟩;obtain⟨p,xs,_,rfl,g,b,_⟩:=f.tp I.fh w;refine .inr ⟨p,xs,rfl,g,by rw[(b.un e).1.length];exact n,λl hl=>k.tupD s I hl ((b.un e).1.cut _ _) q⟩
theorem E8{P:Option Int->Prop}{z:Option Int->Hp->Prop}(w:Rep K H1 v x)(h:aF x P)(k:∀o,P o->z o H1):OL v H1 z:=by unfold aF at h;split at h;cases w;exact k _ h;exact h.elim
inductive Tn(K:QA)(F H:Hp)(Y:lB):LV->LT->Prop where
 |nil:Tn K F H Y [] []
 |cons {v:V}{t:T}{vs:LV}{ts:LT}{Z:lB}:Tr K F H false v t Z->(∀b,Z b->Y b)->Tn K F H Y vs ts->Tn K F H Y (v::vs) (t::ts)
theorem zL(ts:LT):∀{xs:List (T×Bool)},tN xs=ts->IB xs=ts.map T.vw
 |[],h=>by subst h;rfl|p::r,h=>by subst h;simp only[IB,tN,QV,zL _ rfl]
theorem Tn.one{x:Vw}(h:Tn K F H Y vs ts)(e:ts.map T.vw=[x]):∃v t Z,vs=[v]/\ts=[t]/\t.vw=x/\Tr K F H false v t Z/\∀b,Z b->Y b:=by
 cases h with
 |nil=>cases e|cons r z t =>
  simp only[QV,QAC]at e;cases t with|nil=>exact⟨_,_,_,rfl,rfl,e.1,r,z⟩|cons _ _ _=>simp at e
theorem nG:∀{xs:LV}{z:LS},Reps K F xs (z.map Jx)->xs=z.map V.str
 |_,[],.nil=>rfl|_,y::z,.cons h t=>by cases h;rw[QV,nG t]
theorem HN:∀(h:LS),Reps K F (h.map V.str) (h.map Jx)
 |[]=>.nil|y::h=>.cons (.str y) (HN h)
theorem aS:∀{xs:LV}{z:LJ},Reps K F xs (z.map Jy)->xs=z.map V.int
 |_,[],.nil=>rfl|_,y::z,.cons h t=>by cases h;rw[QV,aS t]
theorem fO:∀(h:LJ),Reps K F (h.map V.int) (h.map Jy)
 |[]=>.nil|y::h=>.cons (.int y) (fO h)
theorem uY{α:Type}{g:α->D}{w:LV}(Z:xs.Perm w):∀{l:List α},Reps K F xs (l.map g)->∃z:List α,z.Perm l/\Reps K F w (z.map g):=by
 induction Z with
 |nil=>intro l r;exact⟨l,QBB.refl _,r⟩|cons x _ q =>
  intro l r;cases l with
  |nil=>cases r|cons a l=>cases r with|cons h t=>obtain⟨z,p,v⟩:=q t;exact⟨a::z,p.cons _,.cons h v⟩
 |swap x y B =>
  intro l r;cases l with
  |nil=>cases r|cons a l=>cases l with
   |nil=>cases r with|cons h t=>cases t
   |cons b l=>cases r with
    |cons h t=>cases t with|cons W t=>exact⟨b::a::l,QBB.swap _ _ _,.cons W (.cons h t)⟩
 |trans _ _ X s=>intro l r;obtain⟨A,m,f⟩:=X r;obtain⟨n,i,e⟩:=s f;exact⟨n,i.trans m,e⟩
theorem tupl{K:QA}{H z:Hp}{a:Addr}(e:Same H z)(h:rD K H a xs):rD K z a xs:=by rcases h with(h|⟨o,h⟩)|h;exact .inl (.inl (e _ _ h));exact .inl (.inr ⟨o,e _ _ h⟩);exact .inr h
theorem uP{α:Type}{f:α->D}:∀{z:List α}{xs:LV},Reps K F xs (z.map f)->Paired (λx r=>Rep K F x (f r)) xs z
 |[],_,.nil=>.nil|_::_,_,.cons h t=>.cons h (uP t)
theorem XW{α:Type}{f:α->D}:∀{z:List α}{xs:LV},Paired (λx r=>Rep K F x (f r)) xs z->Reps K F xs (z.map f)
 |_,_,.nil=>.nil|_,_,.cons h t=>.cons h (XW t)
theorem Zg{H:Hp}{x:V}{r:List Ky}(e:Same F H)(h:Rep K F x (rN r)):zp K H x r:=by
 unfold rN at h;cases h with
 |tup sq v =>
  refine⟨_,_,rfl,tupl e sq,L2.Paired.mapP (uP v) λy k h=>?_⟩;cases k with
  |l w =>
   have h:Rep K F y (.tuple (w.map Jx)):=h;cases h with|tup sq v=>exact⟨_,rfl,tupl e (nG v▸sq)⟩
  |i n=>exact(by cases h;rfl:y=.int n)|s z=>exact(by cases h;rfl:y=.str z)
theorem gU{ls:List (LS)}(h:Reps K F xs (ls.map eD)):∀x∈xs,∃a,∃v:LS,x=.ref a/\HC K F a (v.map V.str):=by
 induction ls generalizing xs with
 |nil=>cases h;exact λ_ z=>nomatch z
 |cons l ls w =>
  cases h with
  |cons r t =>
   intro x h;rcases QL.mp h with e|h;subst e;cases r with|lst q r=>exact⟨_,l,rfl,by rw[<- nG r];exact q⟩
   exact w t x h
theorem pj{L:Bi}(s:Ste F H S ρ F1 H1 S1 ρ1)(I:Rl K F1 H1 S1 ρ1 σ)(i:Tn K F1 H1 Y vs ts)(h:XX L (ts.map T.vw) λz n=>Q z n ρ1)(k:kB K ws F H S ρ σ Q R):Eo K L vs H1 R:=by
 cases L with
 |len =>
  rcases h with⟨z,e,h⟩| ⟨m,e,h⟩| ⟨m,e,h⟩
  obtain⟨v,t,Z,rfl,rfl,e,r,_⟩:=i.one e;obtain rfl:=r.str e;exact .inl ⟨_,rfl,h.1,k.d s I (.int _) h.2⟩;obtain⟨v,t,Z,rfl,rfl,e,r,_⟩:=i.one e;obtain⟨p,xs,_,rfl,w,f,_⟩:=r.ls I.fh e;exact .inr ⟨_,xs,rfl,.inl w,by rw[f.length];exact k.d s I (.int _) h⟩;obtain⟨v,t,Z,rfl,rfl,e,r,_⟩:=i.one e;obtain⟨p,xs,_,rfl,w,f,_⟩:=r.tp I.fh e;exact .inr ⟨_,xs,rfl,.inr w,by rw[f.length];exact k.d s I (.int _) h⟩
 |any=>obtain⟨m,bs,e,hb,q⟩:=h;obtain⟨v,t,Z,rfl,rfl,e,r,_⟩:=i.one e;obtain⟨p,xs,_,rfl,w,f,_⟩:=r.ls I.fh e;obtain rfl:=(f.un hb).1.bools;exact⟨bs,w,k.d s I (.bl _) q⟩|sorted =>
  rcases h with⟨m,E,e,hb,g,q⟩| ⟨m,ls,e,hb,g,q⟩| ⟨m,ns,e,hb,g,q⟩| ⟨m,O,e,hb,⟨g,N⟩,q⟩
  obtain⟨v,t,Z,rfl,rfl,e,r,_⟩:=i.one e;obtain⟨p,xs,_,rfl,w,f,_⟩:=r.ls I.fh e;obtain rfl:=nG (f.un hb).1;exact⟨_,rfl,.inl ⟨E,w,g,λl A hl X B=>k.listD s I hl (HN A) (q A X B)⟩⟩;obtain⟨v,t,Z,rfl,rfl,e,r,_⟩:=i.one e;obtain⟨p,xs,_,rfl,w,f,_⟩:=r.ls I.fh e;have W:=(f.un hb).1;refine⟨_,rfl,.inr (.inl ⟨xs,w,by rw[Reps.length W,QD];exact g,λx hx=>?_,λl ys hl w=>?_⟩)⟩;obtain⟨a,E,e,sq⟩:=gU W x hx;exact⟨a,E,e,I.fh.seq sq⟩;obtain⟨J,X,P⟩:=uY w.symm W;exact k.listD s I hl P (q J X);obtain⟨v,t,Z,rfl,rfl,e,r,_⟩:=i.one e;obtain⟨p,xs,_,rfl,w,f,_⟩:=r.ls I.fh e;obtain rfl:=aS (f.un hb).1;exact⟨_,rfl,.inr (.inr (.inl ⟨ns,w,g,λl C hl X B=>k.listD s I hl (fO C) (q C X B)⟩))⟩;obtain⟨v,t,Z,rfl,rfl,e,r,_⟩:=i.one e;obtain⟨p,xs,_,rfl,w,f,_⟩:=r.ls I.fh e;have W:=(f.un hb).1;exact⟨_,rfl,.inr (.inr (.inr ⟨λx r=>Rep K _ x (rN r),xs,O,⟨w,uP W,λx r h=>Zg I.fh h⟩,by rw[Reps.length W,QD];exact g,N,λl M G hl pr X B=>k.listD s I hl (XW pr) (q G X B)⟩))⟩
 |tuple=>obtain⟨m,ds,e,hb,q⟩:=h;obtain⟨v,t,Z,rfl,rfl,e,r,_⟩:=i.one e;obtain⟨p,xs,_,rfl,w,f,_⟩:=r.ls I.fh e;exact⟨_,xs,rfl,w,λl hl=>k.tupD s I hl (f.un hb).1 q⟩|int=>obtain⟨b,e,q⟩:=h;obtain⟨v,t,Z,rfl,rfl,e,r,_⟩:=i.one e;obtain rfl:=r.bool e;exact⟨b,rfl,k.d s I (.int _) q⟩
theorem Fh{m:Mt}(s:Ste F H S ρ F1 H1 S1 ρ1)(I:Rl K F1 H1 S1 ρ1 σ)(w:Tr K F1 H1 sa v a Za)(b:Tn K F1 H1 Y vs ts)(h:Cr m a.vw (ts.map T.vw) λz n=>Q z n ρ1)(k:kB K ws F H S ρ σ Q R):R9 K m v vs H1 R:=by
 cases m with|_=>exact h.elim
theorem Sn{x:Vw}(h:x.isS=true):∃z,x=.sc (.str z):=by
 cases x with
 |sc d=>cases d with|str z=>exact⟨z,rfl⟩|_=>exact(QG h).elim
 |_=>exact(QG h).elim
theorem on{m:Mt}(w:Tr K F1 H1 sa v a Za)(h:P9 m a.vw=true):JZ K m.ty v H1:=by
 have h:=yA h;obtain⟨z,b⟩:=Sn h.1;obtain rfl:=w.str b;cases m with|_=>exact(QG h.2).elim
end
end
inductive AV(K:QA)(F H:Hp):List Md->LV->List (T×Bool)->(Addr->Prop)->(Addr->Prop)->Prop where
 |nil {md:List Md}{W Y:lB}:(∀b,¬ W b)->AV K F H md [] [] W Y
 |chg {md:List Md}{v:V}{vs:LV}{x:T}{xs:List (T×Bool)}{W Y:lB}:(md.headD .xx).isMut=true->AV K F H md.tail vs xs W Y->AV K F H md (v::vs) ((x,true)::xs) W Y
 |new {md:List Md}{v:V}{vs:LV}{x:T}{xs:List (T×Bool)}{Z W W' Y:lB}:(md.headD .xx).isMut=false->Tr K F H true v x Z->AV K F H md.tail vs xs W' Y->(∀b,Z b->¬ W' b)->(∀b,W b↔Z b∨W' b) ->
   AV K F H md (v::vs) ((x,true)::xs) W Y
 |tmp {md:List Md}{v:V}{vs:LV}{x:T}{xs:List (T×Bool)}{Z W Y:lB}:(md.headD .xx).isMut=false->Tr K F H false v x Z->(∀b,Z b->Y b)->AV K F H md.tail vs xs W Y ->
   AV K F H md (v::vs) ((x,false)::xs) W Y
section
variable{K:QA}{F H o l:Hp}{S S1:Ft}{ρ g:kA}{σ:St}
section
variable{Y W:lB}{md:List Md}{vs:LV}{xs:List (T×Bool)}{ws:LN}{c:Hp}{w:Ft}{y:kA}
theorem AV.sub{u:lB}(h:AV K F H md vs xs W Y)(k:∀b,Y b->u b):AV K F H md vs xs W u:=by
 induction h with|nil h=>exact .nil h|chg h t x=>exact .chg h (x k)|new h r t n q x=>exact .new h r (x k) n q|tmp h r z t x=>exact .tmp h r (λb hb=>k b (z b hb)) (x k)
theorem AV.dom(h:AV K F H md vs xs W Y):∀b,W b->H b≠none/\F b=none:=by
 induction h with|nil h=>exact λb hb=>absurd hb (h b)|chg h t x=>exact x|new h r t n q x=>exact λb hb=>((q b).mp hb).elim (r.dom b) (x b)|tmp h r z t x=>exact x
theorem AV.length(h:AV K F H md vs xs W Y):vs.length=xs.length:=by
 induction h with|nil h=>rfl|chg h t x=>simp[x]|new h r t n q x=>simp[x]|tmp h r z t x=>simp[x]
theorem AV.trs(h:AV K F H md vs xs W Y):(∀(i:Nat),(md.getD i .xx).isMut=false)->fE xs=true->Trs K F H true vs (cF xs) W:=by
 induction h with
 |nil h=>exact λ_ _=>.nil h|@chg md _ _ _ _ _ _ h t u =>
  intro m;have:=m 0;cases md with|nil=>cases h|cons a r=>exact absurd h (by simpa using this)
 |@new md v vs x xs Z W k Y h r t n q u =>
  intro m e;simp only[fE,Qd]at e;exact .cons r (u (λi=>by cases md with|nil=>exact m i|cons a md=>exact m (i+1)) e.2) n q
 |@tmp md v vs x xs Z W Y h r z t u =>
  intro m e;simp only[fE,Qd]at e;refine .cons (S1:=λ_=>False) ?_ (u (λi=>by cases md with|nil=>exact m i|cons a md=>exact m (i+1)) e.2) (λ_ z=>z.elim) λb=>by simp
  cases x with
  |d x=>cases r with|d r n=>exact .d r λ_ z=>z
  |_=>exact absurd e.1 (by simp[tH,T.isD])
theorem Uh(i:Nat):((([]:List Md).getD i .xx).isMut)=false:=rfl
theorem AV.tn(h:AV K F H md vs xs W Y)(e:Same F o)(k:∀b,W b->o b=H b)(f:∀b,Y b->F b=none->o b=none)(i:md=[]):Tn K o H Y vs (tN xs):=by
 induction h with|nil h=>exact .nil|chg h t a=>subst i;cases h|@new md v vs x xs Z W m Y h r t n q a=>subst i;refine .cons (Z:=λ_=>False) ?_ (λb z=>z.elim) (a (λb hb=>k b ((q b).mpr (.inr hb))) f rfl);exact .d (r.kept e λb u hb j=>by rw[k b ((q b).mpr (.inl hb))];exact j) λ_ z=>z|@tmp md v vs x xs Z W Y h r z t a=>subst i;exact .cons (r.mono e λb hb=>⟨rfl,f b (z b hb) (r.dom b hb).2⟩) z (a k f rfl)
structure AR(K:QA)(ws:LN)(md:List Md)(c:Hp)(w:Ft)(y:kA)(F H:Hp)(S:Ft)(ρ:kA)(vs:LV)(xs:List (T×Bool))(W Y:lB):Prop where
 av:AV K F H md vs xs W Y
 fr:∀b,W b->c b=none∨U y w b
 tm:∀b,Y b->∃(i:Nat) (s:Sl),i∈ws/\ρ[i]?=some (some s)/\S i b
 nw:∀(i:Nat) s,ρ[i]?=some (some s)->∀b,W b->¬ S i b
theorem AR.held(h:AR K ws md c w y F H S ρ vs xs W Y):Held F H S ρ W:=⟨h.av.dom,h.nw⟩
theorem AR.from{v u:Hp}{z:Ft}{x:kA}(s:Stp F H S ρ o l S1 g)(h:AR K ws md l S1 g v u z x vs xs W Y):AR K ws md H S ρ v u z x vs xs W Y :=
 ⟨h.av,λb hb=>by rcases h.fr b hb with q|q;exact .inl (s.dm b q);exact(s.uu b q).symm,h.tm,h.nw⟩
theorem AR.vars{us:LN}(h:AR K ws md c w y F H S ρ vs xs W Y)(k:∀i∈ws,i∈us):AR K us md c w y F H S ρ vs xs W Y :=
 ⟨h.av,h.fr,λb hb=>let⟨i,s,z,x⟩:=h.tm b hb;⟨i,s,k i z,x⟩,h.nw⟩
theorem AR.frz(s:Ste F H S ρ o l S1 g)(I:Rl K o l S1 g σ)(h:AR K ws [] H S ρ o l S1 g vs xs W Y) :
  ∃v,Ste F H S ρ v l S1 g/\Rl K v l S1 g σ/\Tn K v l Y vs (tN xs) /\
   ∀st k t' u,Tr K o l st k t' u->(∀b,u b->∃(i:Nat) (s:Sl),g[i]?=some (some s)/\S1 i b)->Tr K v l st k t' u:=by
 have x:=h.held;have f:=iG (H:=l) λb hb=>(x.dom b hb).2;refine⟨tI o l W,s.frz (λb hb=>(x.dom b hb).2) h.fr,I.frz x,h.av.tn f (λb hb=>sI hb) (λb m n=>?_) rfl,λst k t' u r j=>r.mono f λb hb=>⟨rfl,?_⟩⟩;obtain⟨i,a,_,e,p⟩:=h.tm b m;rw[cC λz=>h.nw i a e b z p];exact n;obtain⟨i,a,q,e⟩:=j b hb;rw[cC λz=>x.nw i a q b z e];exact(r.dom b hb).2
noncomputable def fB:List Md->LV->LV
 |_,[]=>[]|md,v::vs=>match md.headD .xx with
  | .chg=>v::fB md.tail vs|_=>fB md.tail vs
noncomputable abbrev Bp(K:QA)(p:PX)(md:List Md)(F H:Hp)(S:Ft)(ρ:kA)(σ:St)(Q:List (T×Bool)->kA->Prop)(R:LV->Hp->Prop):Prop :=
 ∀vs u x z h xs W Y,Ste F H S ρ u x z h->Rl K u x z h σ->AR K (KG p) md H S ρ u x z h vs xs W Y->(fB md vs).map (λv=>some (some v))=(uA md p).map (λj=>σ[j]?)->Q xs h->R vs x
def jp(K:QA)(F H:Hp)(x:XD)(h:Option Addr):Prop:=∃a fs,h=some a/\H a=some (.xd fs)/\Paired (λ(p:Str×V) (q:Str×D)=>p.1=q.1/\Rep K F p.2 q.2) fs x.2
def zF(K:QA)(F H:Hp)(S:Ft)(ρ:kA)(E:XE)(a:XK):Prop:=∀x v u h k z,Stp F H S ρ u h k z->Same u h->jp K u h x v->E x->a x.1 v h
theorem zF.from{E:XE}{u:XK}(h:zF K F H S ρ E u)(s:Stp F H S ρ o l S1 g):zF K o l S1 g E u:=λx k e b a z v f r q=>h x k e b a z (s.trans v) f r q
theorem zF.never:zF K F H S ρ (λ_=>False) (λ_ _ _=>False):=λ_ _ _ _ _ _ _ _ _ z=>z
inductive ArgsR(K:QA)(F H:Hp)(Y:lB):List Md->LV->LT->Prop where
 |nil {md:List Md}:ArgsR K F H Y md [] []
 |chg {md:List Md}{v:V}{vs:LV}{t:T}{ts:LT}:md.headD .xx=.chg->ArgsR K F H Y md.tail vs ts->ArgsR K F H Y md (v::vs) (t::ts)
 |rd {md:List Md}{v:V}{vs:LV}{t:T}{ts:LT}{Z:lB}:md.headD .xx≠.chg->Tr K F H false v t Z->(∀b,Z b->Y b)->ArgsR K F H Y md.tail vs ts->ArgsR K F H Y md (v::vs) (t::ts)
structure Frm(M:lB)(F H F' H':Hp):Prop where
 ff:Same F F'
 fh:Same F' H'
 hh:∀b u,H b=some u->¬ M b->H' b=some u
 dm:∀b,H' b=none->H b=none
 fn:∀b,F b=none->F' b≠none->M b∨H b=none
noncomputable def lift(K:QA)(P:PSp):Sp:=λvs H Q E=>∃(F:Hp) (u:LT) (M Y:lB),Same F H/\ArgsR K F H Y P.md vs u/\Trs K F H true (fB P.md vs) (KB P.md u) M/\(∀b,Y b->¬ M b) /\
 P.run u (λr e=>∀v z h Z k,Frm M F H z h->Tr K z h true v r Z->Trs K z h true (fB P.md vs) e k->(∀b,Z b->¬ k b)->(∀b,Z b∨k b->M b∨H b=none)->Q v h)
  (λx=>∀a z h,Frm M F H z h->jp K z h x a->E x.1 a h)
structure GOk(K:QA)(Γ:Ev)(Ψ:PEv):Prop where
 sp:∀f vs H Q E,lift K (Ψ.sp f) vs H Q E->Γ.sp f vs H Q E
 va:∀x d,Ψ.va x=some d->∀F,Rep K F (Γ.va x) d
structure PSnd(K:QA)(Γ:Ev)(Ψ:PEv)(p:PX):Prop where
 e:∀{E:XE}{EK:XK}{F H:Hp}{S:Ft}{ρ:kA}{σ:St}{Q:TK}{R:VK},Rl K F H S ρ σ->zF K F H S ρ E EK->(pe Ψ p E).e ρ Q->kB K (KG p) F H S ρ σ Q R->(wp K Γ p EK).e σ H R
 t:∀{E:XE}{EK:XK}{F H:Hp}{S:Ft}{ρ:kA}{σ:St}{Q:Bool->kA->Prop}{R:Bool->Hp->Prop},Rl K F H S ρ σ->zF K F H S ρ E EK->(pe Ψ p E).t ρ Q->jJ K F H S ρ σ Q R->(wp K Γ p EK).t σ H R
 a:∀{E:XE}{EK:XK}{F H:Hp}{S:Ft}{ρ:kA}{σ:St}{md:List Md}{Q:List (T×Bool)->kA->Prop}{R:LV->Hp->Prop},Rl K F H S ρ σ->zF K F H S ρ E EK->(∀j∈uA md p,∃v,σ[j]?=some (some v))->(pe Ψ p E).a md ρ Q->Bp K p md F H S ρ σ Q R->(wp K Γ p EK).a σ H R
end
end
section
variable{K:QA}{Γ:Ev}{Ψ:PEv}{E:XE}{c:XK}{F H A U:Hp}{S S1:Ft}{ρ o:kA}{σ:St}
section
variable{b a u:PX}{RR:LV->Hp->Prop}{P:List (T×Bool)->kA->Prop}{Y Z:lB}{t:T}{st:Bool}{ts:LT}{v:V}
theorem Ol(N:PSnd K Γ Ψ b)(I:Rl K F H S ρ σ)(X:zF K F H S ρ E c){x:T}{P:T×Bool->kA->Prop}{RR:VK}(h:sq x ρ (cu (pe Ψ b E).e) P)
  (M:∀w p g S' k y m Z,Ste F H S ρ p g S' k->Rl K p g S' k σ->(∀st v l,Tr K F H st v x l->Tr K p g st v x l)->(x.isD=false->k=ρ/\S'=S)->VR K (KG b) H S ρ p g S' k w y m Z->P (y,m) k->RR w g) :
  (wp K Γ b c).e σ H RR:=by
 unfold sq at h;cases W:x.isD with
 |true =>
  rw[W,if_pos rfl]at h;refine N.e I X h λw p g S' k y m Z s C r q=>M w p g S' k y m Z s C (λst v l B=>?_) (λz=>(by rw[W]at z;cases z)) r q;cases x with
  |d x=>cases B with|d r n=>exact .d (r.mono s.ff) n
  |_=>cases W
 |false =>
  rw[W,if_neg (by simp)]at h;have X':zF K F H S (lockA ρ) E c:=λx dx F2 H2 S2 O Q f r q=>X x dx F2 H2 S ρ Q.unlockA f r q;refine N.e I.lockA X' h λw p g S' k y m Z s C r q=>?_;have kp:∀st v t l,Tr K F H st v t l->Tr K p g st v t l:=λst v t l B=>s.keep B λb _=>RC b;refine M w p g S ρ y m Z ⟨s.unlockA,λj t h=>⟨t,h⟩⟩ (I.unlockA s.toStp C.fh) (λst v l B=>kp st v _ l B) (λ_=>⟨rfl,rfl⟩) ⟨r.tr,λe b hb=>?_,λe b hb=>?_,λe i L hi b hb z=>?_⟩ q;exact .inl ((r.fr e b hb).elim id λz=>absurd z (RC b));obtain⟨i,L,h1,J,G⟩:=r.tm e b hb;cases L with
  |own t=>obtain⟨t0,h0⟩:=s.ow i t J;obtain⟨_,_,e0⟩:=mB h0;cases e0|ky t =>
   cases W:t.isD with|true=>exact absurd G (C.isD J W)|false=>obtain⟨g1,g2⟩:=s.bo i t J W;obtain⟨R,g3,_⟩:=mB g1;rw[g2]at G;exact⟨i,R,h1,g3,G⟩
  rcases r.fr e b hb with q|q
  ·exact(I.dom hi z).1 q
  exact absurd q (RC b)
theorem Pl{md:List Md}(O:PSnd K Γ Ψ b)(I:Rl K F H S ρ σ)(X:zF K F H S ρ E c)(Q:∀j∈uA md b,∃v,σ[j]?=some (some v)){x:T}(h:sq x ρ ((pe Ψ b E).a md) P)
  (N:∀ws l e S' k L W Y,Ste F H S ρ l e S' k->Rl K l e S' k σ->(∀st v g,Tr K F H st v x g->Tr K l e st v x g)->(x.isD=false->k=ρ/\S'=S)->AR K (KG b) md H S ρ l e S' k ws L W Y->(fB md ws).map (λv=>some (some v))=(uA md b).map (λj=>σ[j]?)->P L k->RR ws e) :
  (wp K Γ b c).a σ H RR:=by
 unfold sq at h;cases m:x.isD with
 |true =>
  rw[m,if_pos rfl]at h;refine O.a I X Q h λw l e S' k y W Y s B r C q=>N w l e S' k y W Y s B (λst v g p=>?_) (λz=>(by rw[m]at z;cases z)) r C q;cases x with
  |d x=>cases p with|d r n=>exact .d (r.mono s.ff) n
  |_=>cases m
 |false =>
  rw[m,if_neg (by simp)]at h;have X':zF K F H S (lockA ρ) E c:=λx dx F2 H2 S2 R s2 f r q=>X x dx F2 H2 S ρ s2.unlockA f r q;refine O.a I.lockA X' Q h λw l e S' k y W Y s B r C q=>?_;have kp:∀st v t g,Tr K F H st v t g->Tr K l e st v t g:=λst v t g p=>s.keep p λb _=>RC b;refine N w l e S ρ y W Y ⟨s.unlockA,λj t h=>⟨t,h⟩⟩ (I.unlockA s.toStp B.fh) (λst v g p=>kp st v _ g p) (λ_=>⟨rfl,rfl⟩) ⟨r.av,λb hb=>?_,λb hb=>?_,λi M hi b hb z=>?_⟩ C q;exact .inl ((r.fr b hb).elim id λz=>absurd z (RC b));obtain⟨i,M,h1,J,G⟩:=r.tm b hb;cases M with
  |own t=>obtain⟨t0,h0⟩:=s.ow i t J;obtain⟨_,_,e0⟩:=mB h0;cases e0|ky t =>
   cases m:t.isD with|true=>exact absurd G (B.isD J m)|false=>obtain⟨g1,g2⟩:=s.bo i t J m;obtain⟨s0,g3,_⟩:=mB g1;rw[g2]at G;exact⟨i,s0,h1,g3,G⟩
  rcases r.fr b hb with q|q
  ·exact(I.dom hi z).1 q
  exact absurd q (RC b)
theorem iF(l:PSnd K Γ Ψ a)(I:Rl K F H S ρ σ)(X:zF K F H S ρ E c){P:TK}{RR:VK}(h:(pe Ψ a E).e ρ P)
  (j:∀v w z S' y x n Z,Ste F H S ρ w z S' y->Rl K w z S' y σ->zF K w z S' y E c->Tr K w z false v (pA x n) Z->(tH x n=true->Rep K w v x.er)->(∀b,Z b->∃(i:Nat) (s:Sl),i∈KG a/\y[i]?=some (some s)/\S' i b)->P x n y->RR v z) :
  (wp K Γ a c).e σ H RR:=by
 refine l.e I X h λv w z S' y x n Z s B r q=>?_;obtain⟨C,p,k,W,g,m,f,_⟩:=r.frz s B;exact j v C z S' y x n p k W (X.from k.toStp) g m f q
theorem i0(ia:PSnd K Γ Ψ a)(ib:PSnd K Γ Ψ b)(I:Rl K F H S ρ σ)(X:zF K F H S ρ E c){P:T->Bool->T->Bool->kA->Prop}{RR:V->V->Hp->Prop}
  (h:(pe Ψ a E).e ρ λx n o=>sq (pA x n) o (cu (pe Ψ b E).e) λy k=>P x n y.1 y.2 k)
  (kk:∀v w l f S' z x n y m j Zb,Ste F H S ρ l f S' z->Rl K l f S' z σ->zF K l f S' z E c->Tr K l f false v (pA x n) j->(∀b,j b->∃(i:Nat) (s:Sl),i∈KG a/\z[i]?=some (some s)/\S' i b)->Tr K l f false w (pA y m) Zb ->
   P x n y m z->RR v w f):(wp K Γ a c).e σ H λv U=>(wp K Γ b c).e σ U λw W=>RR v w W:=by
 refine iF ia I X h λv A U S1 o x n j M I1 X1 p _ G R=>?_;refine Ol ib I1 X1 R λw F2 W C k y m Z L I2 kp hs O Q=>?_;obtain⟨F3,Z3,J,I3,N,_,_,k3⟩:=O.frz L I2;have B:∀b,j b->∃(i:Nat) (s:Sl),i∈KG a/\k[i]?=some (some s)/\C i b:=by
  cases q:(pA x n).isD with
  |true =>
   intro b hb;exfalso;generalize pA x n=t at p q;cases p with|d r n=>exact n b hb|_=>cases q
  |false=>obtain⟨e1,e2⟩:=hs q;rw[e1,e2];exact G
 have g:=M.trans J;exact kk v w F3 W C k x n y m j Z3 g I3 (X.from g.toStp) (k3 _ _ _ _ (kp _ _ _ p) λb hb=>let⟨i,s,_,h2⟩:=B b hb;⟨i,s,h2⟩) B N Q
theorem HV(e:PSnd K Γ Ψ u)(I:Rl K F H S ρ σ)(X:zF K F H S ρ E c)(h:(pe Ψ u E).a [] ρ P)
  (k:∀vs z y S' x xs Y,Ste F H S ρ z y S' x->Rl K z y S' x σ->zF K z y S' x E c->Tn K z y Y vs (tN xs)->(∀b,Y b->∃(i:Nat) (s:Sl),i∈KG u/\x[i]?=some (some s)/\S' i b)->P xs x->RR vs y):(wp K Γ u c).a σ H RR:=by
 refine e.a (md:=[]) I X (λj f=>by cases u<;>cases f) h λvs z y S' x xs W Y s l r _ q=>?_;obtain⟨m,w,g,t,_⟩:=r.frz s l;exact k vs m y S' x xs Y w g (X.from w.toStp) t r.tm q
theorem il(ia:PSnd K Γ Ψ a)(ib:PSnd K Γ Ψ u)(I:Rl K F H S ρ σ)(X:zF K F H S ρ E c){P1:T->Bool->Prop}{P:T->Bool->List (T×Bool)->kA->Prop}{R1:V->Hp->Prop}{RR:V->LV->Hp->Prop}
  (h:(pe Ψ a E).e ρ λx n o=>P1 x n/\sq (pA x n) o ((pe Ψ u E).a []) λxs z=>P x n xs z)
  (k1:∀v f w x n k,Tr K f w false v (pA x n) k->P1 x n->R1 v w)
  (kk:∀v vs f w S' y x n xs k Y,Ste F H S ρ f w S' y->Rl K f w S' y σ->zF K f w S' y E c->Tr K f w false v (pA x n) k->(∀b,k b->∃(i:Nat) (s:Sl),i∈KG a/\y[i]?=some (some s)/\S' i b)->Tn K f w Y vs (tN xs) ->
   P x n xs y->RR v vs w):(wp K Γ a c).e σ H λv U=>R1 v U/\(wp K Γ u c).a σ U λvs p=>RR v vs p:=by
 refine iF ia I X h λv A U S1 o x n k L I1 X1 l _ C ⟨Q,O⟩=>⟨k1 v A U x n k l Q,?_⟩
 refine Pl ib I1 X1 (λj hj=>by cases u<;>cases hj) O λvs F2 p B z xs W Y J I2 R hs M _ N=>?_;obtain⟨F3,G,I3,tn,k3⟩:=M.frz J I2;have q:∀b,k b->∃(i:Nat) (s:Sl),i∈KG a/\z[i]?=some (some s)/\B i b:=by
  cases m:(pA x n).isD with
  |true =>
   intro b hb;exfalso;generalize pA x n=t at l m;cases l with|d r n=>exact n b hb|_=>cases m
  |false=>obtain⟨e1,e2⟩:=hs m;rw[e1,e2];exact C
 have g:=L.trans G;exact kk v vs F3 p B z x n xs k Y g I3 (X.from g.toStp) (k3 _ _ _ _ (R _ _ _ l) λb hb=>let⟨i,s,_,h2⟩:=q b hb;⟨i,s,h2⟩) q tn N
def aZ(K:QA)(F H:Hp)(Y:lB):Item->T->Prop
 | .one v,t=>∃Z,Tr K F H false v t Z/\∀b,Z b->Y b|.tup vs,t=>∃h,t=.d (.tuple h)/\Reps K F vs h
theorem aZ.mono{it:Item}(h:aZ K F H Y it t)(e:Same F A)(k:∀b,Y b->U b=H b/\A b=none):aZ K A U Y it t:=by
 cases it with|one v=>obtain⟨Z,r,z⟩:=h;exact⟨Z,r.mono e λb hb=>k b (z b hb),z⟩|tup y=>obtain⟨ts,x,r⟩:=h;exact⟨ts,x,r.mono e⟩
theorem Z5{xs:LV}(h:Trs K F H st xs ts Z)(z:∀b,Z b->Y b):Paired (aZ K F H Y) (xs.map .one) ts :=
 Trs.ind (R:=λ_ xs ts Z=>(∀b,Z b->Y b)->Paired (aZ K F H Y) (xs.map .one) ts) (λ_ _=>.nil) (λh _ _ q x z=>.cons ⟨_,h.weak,λb hb=>z b ((q b).mpr (.inl hb))⟩ (x λb hb=>z b ((q b).mpr (.inr hb)))) h z
theorem kX{Y:lB}{α:Type}(f:α->V)(g:α->D)(h:∀x,Rep K F (f x) (g x)):∀(l:List α),Paired (aZ K F H Y) (l.map λx=>.one (f x)) (l.map λx=>T.d (g x))
 |[]=>.nil|x::r=>.cons ⟨λ_=>False,.d (h x) λ_ z=>z,λ_ z=>z.elim⟩ (kX f g h r)
theorem Tr.lsS(f:Same F H)(h:Tr K F H st v t Z)(e:t.vw=.ls ts):∃a vs S',v=.ref a/\HC K H a vs/\Trs K F H false vs ts S'/\(∀b,S' b->Z b)/\∀y x,Same F y->Same y x->(∀b,Z b->x b=H b)->HC K x a vs:=by
 cases h with
 |d r n =>
  cases r with|lst q r=>injection e with e;subst e;exact⟨_,_,_,rfl,f.seq q,Trs.of_reps r,λb hb=>hb.elim,λy x w z _=>(w.trans z).seq q⟩|dct _ _ _=>exact(xH e).elim|_=>cases e
 |lst h _ r n q=>injection e with e;subst e;exact⟨_,_,_,rfl,HC.of h,r.weak,λb hb=>(q b).mpr (.inr hb),λy x _ _ k=>HC.of ((k _ ((q _).mpr (.inl rfl))).trans h)⟩|tup=>cases e|dct=>cases e|lstF h r n=>injection e with e;subst e;exact⟨_,_,_,rfl,f.seq h,Trs.of_reps r,λb hb=>hb.elim,λy x w z _=>(w.trans z).seq h⟩
theorem Tr.tpS(f:Same F H)(h:Tr K F H st v t Z)(e:t.vw=.tp ts):∃a vs S',v=.ref a/\rD K H a vs/\Trs K F H false vs ts S'/\(∀b,S' b->Z b)/\∀y x,Same F y->Same y x->(∀b,Z b->x b=H b)->rD K x a vs:=by
 cases h with
 |d r n =>
  cases r with|tup q r=>injection e with e;subst e;exact⟨_,_,_,rfl,f.tupl q,Trs.of_reps r,λb hb=>hb.elim,λy x w z _=>(w.trans z).tupl q⟩|dct _ _ _=>exact(kL e).elim|_=>cases e
 |tup h _ r n q=>injection e with e;subst e;exact⟨_,_,_,rfl,rD.of h,r.weak,λb hb=>(q b).mpr (.inr hb),λy x _ _ k=>rD.of ((k _ ((q _).mpr (.inl rfl))).trans h)⟩|lst=>cases e|lstF=>cases e|dct=>cases e
theorem Tr.seqS(f:Same F H)(h:Tr K F H st v t Z)(e:t.vw.seq=some ts):∃a vs sz,v=.ref (Src.adr sz)/\XZ K H sz vs/\(∃S',Trs K F H false vs ts S')/\a=Src.adr sz/\∀g k,Same F g->Same g k->(∀b,Z b->k b=H b)->XZ K k sz vs:=by
 generalize ev:t.vw=w at e;cases w with|ls i=>cases e;obtain⟨a,vs,S',rfl,z,x,_,y⟩:=h.lsS f ev;exact⟨a,vs,.l a,rfl,z,⟨S',x⟩,rfl,y⟩|tp i=>cases e;obtain⟨a,vs,S',rfl,z,x,_,y⟩:=h.tpS f ev;exact⟨a,vs,.t a,rfl,z,⟨S',x⟩,rfl,y⟩|_=>cases e
end
mutual
theorem AU{F:Hp}:∀{k:NK}{v:V},Gj K F k v->Rep K F v (tD k)
 | .s x,v,h=>by cases(show v=.str x from h);exact .str x|.t ks,v,⟨a,xs,e,q,p⟩=>by subst e;exact .tup q (ky_reps p)
theorem ky_reps{F:Hp}:∀{ks:List NK}{vs:LV},KyVs K F ks vs->Reps K F vs (tDs ks)
 |[],vs,h=>by cases(show vs=[] from h);exact .nil|k::ks,vs,⟨x,r,e,p,q⟩=>by subst e;exact .cons (AU p) (ky_reps q)
end
theorem xX{Y:lB}:∀{kvs:List KE}{ds:List D},bG K F kvs->Reps K F (kvs.map (·.2.2)) ds->Paired (aZ K F H Y) (kvs.map λp=>.tup [.ref p.2.1,p.2.2]) (((kvs.map λp=>tD p.1).zip ds).map λp=>T.d (.tuple [p.1,p.2]))
 |[],_,_,.nil=>.nil|p::r,_,hk,.cons h t=>by simp only[QV,QAP];exact .cons ⟨[_,_],rfl,.cons (AU (hk p QF).1) (.cons h .nil)⟩ (xX (λp x=>hk p (QE _ x)) t)
theorem vX{Y:lB}:∀{kvs:List KE},bG K F kvs->Paired (aZ K F H Y) (kvs.map λp=>.one (.ref p.2.1)) ((kvs.map λp=>tD p.1).map T.d)
 |[],_=>.nil|p::r,hk=>.cons ⟨λ_=>False,.d (AU (hk p QF).1) λ_ z=>z,λ_ z=>z.elim⟩ (vX λp h=>hk p (QE _ h))
theorem oS{Y:lB}:∀{xs:LV}{ds:List D}(_:Reps K F xs ds) (g:Nat->Int) (n:Nat),Paired (aZ K F H Y) ((xs.zipIdx n).map λp=>.tup [.int (g p.2),p.1]) ((ds.zipIdx n).map λp=>T.d (.tuple [.int (g p.2),p.1]))
 |_,_,.nil,g,n=>by simp only[List.zipIdx_nil,WH];exact .nil|_,_,.cons h t,g,n=>by simp only[List.zipIdx_cons,QV];exact .cons ⟨[_,_],rfl,.cons (.int _) (.cons h .nil)⟩ (oS t g (n+1))
theorem JJ{L:ItK}{Y:lB}{vs:LV}{ts:LT}{R:LT->Prop}{RR:List Item->(Hp->Prop)->Hp->Prop}(f:Same F H)(W:Tn K F H Y vs ts)(h:VB L (ts.map T.vw) R)
  (k:∀xs Q st,Paired (aZ K F H Y) xs Q->(∀l g,Same F l->Same l g->(∀b,Y b->g b=H b)->st g)->R Q->RR xs st H):mC K L vs H RR:=by
 cases L with
 |val =>
  rcases h with⟨G,e,h⟩| ⟨G,e,h⟩| ⟨B,G,e,h⟩
  obtain⟨v,t,Z,rfl,rfl,e,r,z⟩:=W.one e;obtain⟨p,xs,S',rfl,M,m,I,X⟩:=r.lsS f e;exact .inl ⟨xs,M,k _ _ _ (Z5 m λb hb=>z b (I b hb)) (λl g y w q=>X l g y w λb hb=>q b (z b hb)) h⟩;obtain⟨v,t,Z,rfl,rfl,e,r,z⟩:=W.one e;obtain⟨p,xs,S',rfl,M,m,I,X⟩:=r.tpS f e;exact .inr (.inl ⟨xs,M,k _ _ _ (Z5 m λb hb=>z b (I b hb)) (λl g y w q=>X l g y w λb hb=>q b (z b hb)) h⟩);obtain⟨v,t,Z,rfl,rfl,y,A,C⟩:=W.one e;obtain⟨a,o,xs,_,rfl,N,dk,m,_,X⟩:=A.dc f y;obtain⟨s,u,rfl,rfl,rfl,O,_⟩:=dk;exact .inr (.inr ⟨s,u,N,k _ _ _ (vX O) (λl g y w q=>X l g y w λb hb=>q b (C b hb)) h⟩)
 |rng1=>obtain⟨j,e,h⟩:=h;obtain⟨v,t,Z,rfl,rfl,e,r,_⟩:=W.one e;obtain rfl:=r.int e;exact⟨h.1,k _ _ _ (kX (λ(i:Nat)=>.int (i:Int)) (λ(i:Nat)=>.int (i:Int)) (λc=>.int _) _) (λ_ _ _ _ _=>trivial) h.2⟩|enum=>obtain⟨x,G,E,e,g1,P,q⟩:=h;obtain⟨v,t,Z,rfl,rfl,y,A,C⟩:=W.one e;obtain⟨a,xs,sz,rfl,S,⟨_,m⟩,_,X⟩:=A.seqS f (by rw[y];exact g1);exact⟨sz,xs,rfl,S,k _ _ _ (oS (m.un P).1 (λi=>(i:Int)) 0) (λl g y w q=>X l g y w λb hb=>q b (C b hb)) q⟩|itm =>
  rcases h with⟨B,G,E,e,P,q⟩| ⟨e,q⟩
  rotate_left
  obtain⟨v,t,Z,rfl,rfl,y,A,C⟩:=W.one e;obtain⟨_,m⟩:=A.sc y;generalize ed:PyData.dict []=d at m;cases m with
  |@dct b a o B vs E h J r =>
   have ez:B.zip E=[]:=by injection ed with ed;exact ed.symm
   have hl:B.length=E.length:=by rw[J.len,Reps.length r]
   have ek:B=[]:=by
    cases B with
    |nil=>rfl|cons k B =>
     cases E with|nil=>cases hl|cons d E=>cases ez
   subst ek;have eo:∃s,o=.dT s []:=by
    cases b with
    |true =>
     obtain⟨s,u,y,w,_⟩:=J;cases u with|nil=>exact⟨s,y⟩|cons p r=>cases w
    |false =>
     rcases J with⟨u,n,_,w,_⟩| ⟨s,y,_⟩
     cases u with|nil=>exact absurd rfl n|cons p r=>cases w
     exact⟨s,y⟩
   obtain⟨s,rfl⟩:=eo;exact⟨s,[],f _ _ h,k _ _ _ .nil (λl g y w _=>w _ _ (y _ _ h)) q⟩
  |_=>cases ed
  obtain⟨v,t,Z,rfl,rfl,y,A,C⟩:=W.one e;obtain⟨a,o,xs,_,rfl,N,dk,m,_,X⟩:=A.dc f y;obtain⟨s,u,rfl,rfl,rfl,O,_⟩:=dk;exact⟨s,u,N,k _ _ _ (xX O (m.un P).1) (λl g y w q=>X l g y w λb hb=>q b (C b hb)) q⟩
end
section
variable{i j:Nat}{Z:lB}
noncomputable def uH(S:Ft)(i:Nat)(Z:lB):Ft:=λj=>if j=i then Z else S j
theorem MA{S:Ft}:uH S i Z i=Z:=if_pos rfl
theorem YA{S:Ft}(h:j≠i):uH S i Z j=S j:=if_neg h
theorem dA{α:Type}{l:List α}{x y:α}(h:(l.set i x)[j]?=some y):(i=j/\y=x/\i<l.length)∨(i≠j/\l[j]?=some y):=by rw[wA]at h;by_cases e:i=j;subst e;rw[if_pos rfl]at h;by_cases hl:i<l.length;rw[if_pos hl]at h;cases h;exact .inl ⟨rfl,rfl,hl⟩;rw[if_neg hl]at h;cases h;rw[if_neg e]at h;exact .inr ⟨e,h⟩
theorem mW{α:Type}{l:List α}{x:α}(h:i<l.length):(l.set i x)[i]?=some x:=by rw[wA,if_pos rfl,if_pos h]
theorem DD{α:Type}{l:List α}{x:α}(h:i≠j):(l.set i x)[j]?=l[j]?:=by rw[wA,if_neg h]
end
section
variable{K:QA}{Γ:Ev}{Ψ:PEv}{E:XE}{L:XK}{F H D G:Hp}{S S1:Ft}{ρ C:kA}{σ:St}
section
variable{Z Y:lB}{A X:Hp}{S':Ft}{g:kA}{o:St}{st:Bool}{B:Tg}{k:Nat}{l:List Bool}
theorem Rl.setB(I:Rl K F H S ρ σ)(i:Nat){v:V}{t:T}(r:Tr K F H false v t Z)(m:∀(j:Nat) u,j≠i->ρ[j]?=some (some (.own u))->∀b,Z b->¬ S j b):Rl K F H (uH S i Z) (ρ.set i (some (.ky t))) (σ.set i (some v)) where
 fh:=I.fh
 len:=by simpa using I.len
 sl:=λj s h=>by
  rcases dA h with⟨rfl,e,hl⟩| ⟨w,h⟩
  cases e;exact⟨v,mW (by rw[<- I.len];exact hl),by rw[MA];exact r⟩;rw[DD w,YA (qD w)];exact I.sl j s h
 dj:=λj k z s n x y b hb hk=>by
  rcases dA x with⟨_,e,_⟩| ⟨f,x⟩
  cases e;rw[YA (qD f)]at hb;rcases dA y with⟨e,_,_⟩| ⟨a,y⟩
  subst e;rw[MA]at hk;exact m j z n x b hk hb;rw[YA (qD a)]at hk;exact I.dj j k z s n x y b hb hk
structure Bd(J:LN)(F H:Hp)(S:Ft)(ρ:kA)(σ:St)(A X:Hp)(S':Ft)(g:kA)(o:St):Prop where
 ff:Same F A
 hh:Same H X
 fn:∀b,F b=none->A b≠none->H b=none
 out:∀j,j∉J->g[j]?=ρ[j]?/\S' j=S j/\o[j]?=σ[j]?
 inn:∀j t,j∈J->g[j]?≠some (some (.own t))
theorem Bd.U{J:LN}(h:Bd J F H S ρ σ A X S' g o){b:Addr}(u:U g S' b):L3.U ρ S b:=by obtain⟨i,t,x,z⟩:=u;by_cases y:i∈J;exact absurd x (h.inn i t y);obtain⟨w,v,_⟩:=h.out i y;rw[w]at x;rw[v]at z;exact⟨i,t,x,z⟩
theorem Bd.dm{J:LN}(h:Bd J F H S ρ σ A X S' g o)(b:Addr)(e:X b=none):H b=none:=h.hh.free e
theorem pW{Y:lB}(s:∀b,Y b->¬ U ρ S b):∀(w:LN) {vs:LV}{ts:LT}{S1:Ft}{C g:kA}{x:St}{J:LN},(∀i∈w,i∈J)->Rl K F H S1 C x->(∀b,U C S1 b->U ρ S b)->Tn K F H Y vs ts->OC w ts C=some g ->
  ∃o S',yB w vs x=some o/\Rl K F H S' g o/\(∀j,j∉J->g[j]?=C[j]?/\S' j=S1 j/\o[j]?=x[j]?)/\(∀j t,g[j]?=some (some (.own t))->j∉w/\C[j]?=some (some (.own t)))
 |[],_,_,S1,C,g,x,J,hJ,I,hu,.nil,h=>by simp only[OC,Qq]at h;subst h;exact⟨x,S1,rfl,I,λ_ _=>⟨rfl,rfl,rfl⟩,λj t h=>⟨(by simp),h⟩⟩|[],_,_,_,_,_,_,_,_,_,_,.cons _ _ _,h=>by simp[OC]at h|_::_,_,_,_,_,_,_,_,_,_,_,.nil,h=>by simp[OC]at h|i::w,_,_,S1,C,g,x,J,hJ,I,hu,.cons (v:=v) (t:=t) (Z:=Z) r z tl,h=>by
  simp only[OC]at h;have nu:∀b,Z b->¬ U C S1 b:=λb hb u=>s b (z b hb) (hu b u);have I2:=I.setB i r λj u _ y b hb N=>nu b hb ⟨j,u,y,N⟩;have p:∀b,U (C.set i (some (.ky t))) (uH S1 i Z) b->U ρ S b:=λb ⟨j,u,q,W⟩=>by
   rcases dA q with⟨_,e,_⟩| ⟨n,q⟩
   cases e;rw[YA (qD n)]at W;exact hu b ⟨j,u,q,W⟩
  obtain⟨o,S',R,Q,P,O⟩:=pW s w (λj y=>hJ j (QE _ y)) I2 p tl h;refine⟨o,S',R,Q,λj y=>?_,λj u y=>?_⟩;obtain⟨f,a,M⟩:=P j y;have n:i≠j:=λe=>y (e▸hJ i QF);rw[DD n]at f M;rw[YA (qD n)]at a;exact⟨f,a,M⟩;obtain⟨f,a⟩:=O j u y;rcases dA a with⟨_,e,_⟩| ⟨n,a⟩
  cases e;exact⟨λm=>(QL.mp m).elim (λe=>n e.symm) f,a⟩
theorem Tn.of_trs{vs:LV}{ts:LT}(h:Trs K F H st vs ts Z)(z:∀b,Z b->Y b):Tn K F H Y vs ts :=
 Trs.ind (R:=λ_ vs ts Z=>(∀b,Z b->Y b)->Tn K F H Y vs ts) (λ_ _=>.nil) (λh _ _ q x z=>.cons h.weak (λb hb=>z b ((q b).mpr (.inl hb))) (x λb hb=>z b ((q b).mpr (.inr hb)))) h z
theorem lT{it:Item}{t:T}{QP:kA->Prop}{RP:St->Hp->Prop}(I:Rl K F H S ρ σ)(hy:∀b,Y b->¬ U ρ S b)(r:aZ K F H Y it t)(h:rO B t ρ QP)
  (k:∀m f w x O,Bd B.ix F H S ρ σ w x O m f->Rl K w x O m f->QP m->RP f x):bindI K B it σ H RP:=by
 have nm:∀(i:Nat) {v:V}{t:T}{Z:lB}{w x:Hp}{O:Ft},Same F w->Same H x->(∀b,F b=none->w b≠none->H b=none)->Rl K w x O ρ σ->O=S->Tr K w x false v t Z->(∀b,Z b->¬ U ρ S b)->QP (ρ.set i (some (.ky t)))->B=.nm i->RP (σ.set i (some v)) x:=by
  intro i v t Z w x O R e2 e3 I2 hS r hz q ht;subst hS ht;refine k _ _ w x (uH O i Z) ⟨R,e2,e3,λj N=>?_,λj u N hu=>?_⟩ (I2.setB i r λj u _ N b hb hs=>hz b hb ⟨j,u,N,hs⟩) q;have n:i≠j:=λe=>N (by subst e;exact QJ.mpr rfl);exact⟨DD n,YA (qD n),DD n⟩;have e:j=i:=QJ.mp N;subst e;rcases dA hu with⟨_,e,_⟩| ⟨n,_⟩
  cases e;exact n rfl
 have tp:∀(y:LN) {W:LV}{P:LT}{x:Hp}{g:kA},Same H x->B=.tp y->Tn K F x Y W P->OC y P ρ=some g->QP g->∃o,yB y W σ=some o/\RP o x:=by intro y W P x g e2 ht r e q;subst ht;obtain⟨o,S',g1,g2,g3,g4⟩:=pW hy y (J:=y) (λi hi=>hi) (I.same e2) (λb u=>u) r e;exact⟨o,g1,k _ _ F x S' ⟨.refl _,e2,λb h z=>absurd h z,g3,λj u N hu=>(g4 j u hu).1 N⟩ g2 q⟩
 cases it with
 |one v =>
  obtain⟨Z,r,z⟩:=r;cases B with|nm i=>exact nm i (.refl _) (.refl _) (λb h z=>absurd h z) I rfl r (λb hb=>hy b (z b hb)) h rfl|tp y=>have Q:(match t.vw with | .tp P=>∃g,OC y P ρ=some g/\QP g|_=>False):=h;split at Q;rename_i P e;obtain⟨g,R,q⟩:=Q;obtain⟨a,W,S',rfl,M,rp,z2⟩:=r.tp I.fh e;obtain⟨o,g1,g2⟩:=tp y (.refl _) rfl (Tn.of_trs rp λb hb=>z b (z2 b hb)) R q;exact⟨W,o,M,g1,g2⟩;exact Q.elim
 |tup W =>
  obtain⟨ds,rfl,rd⟩:=r;cases B with|nm i=>intro p M;refine nm i (CB (I.fh.free M)) (CB M) (λb h1 Q=>?_) (I.newT M (.tup W)) rfl (.d (S:=λ_=>False) (.tup (rD.of iA) (rd.mono (CB (I.fh.free M)))) λ_ z=>z) (λb z=>z.elim) h rfl;by_cases hb:b=p;rw[hb];exact M;rw[vA hb]at Q;exact absurd h1 Q|tp y=>intro X s;obtain⟨g,R,q⟩:=h;exact tp y s rfl (Tn.of_trs (Trs.of_reps (st:=false) rd) λb hb=>hb.elim) R q
noncomputable def Aa(k:Nat)(S:Ft):Ft:=λi=>if i<k then λ_=>False else S (i - k)
theorem bO:∀(m:List Bool) (ρ:kA) (i:Nat) s,(ZC m ρ)[i]?=some (some s)->ρ[i]?=some (some s)/\m.getD i false=false
 |[],ρ,i,s,h=>by
  have e:ZC [] ρ=ρ:=by cases ρ<;>rfl
  rw[e]at h;exact⟨h,rfl⟩
 |b::m,[],i,s,h=>by simp[ZC]at h|b::m,v::ρ,0,s,h=>by
  cases b with|true=>simp[ZC]at h|false=>simp[ZC]at h;simp[h]
 |b::m,v::ρ,i+1,s,h=>by simp only[ZC,wa]at h;obtain⟨y,x⟩:=bO m ρ i s h;exact⟨by simpa using y,by simpa using x⟩
theorem xO:∀(m:List Bool) (σ:St) (i:Nat) v,σ[i]?=some (some v)->m.getD i false=false->(YC m σ)[i]?=some (some v)
 |[],σ,i,v,h,_=>by
  have e:YC [] σ=σ:=by cases σ<;>rfl
  rw[e];exact h
 |b::m,[],i,v,h,_=>by simp at h|b::m,w::σ,0,v,h,hb=>by
  have:b=false:=by simpa using hb
  subst this;simpa[YC]using h
 |b::m,w::σ,i+1,v,h,hb=>by simp only[YC,wa];exact xO m σ i v (by simpa using h) (by simpa using hb)
theorem uO:∀(m:List Bool) (ρ:kA),(ZC m ρ).length=ρ.length
 |[],ρ=>by cases ρ<;>rfl|_::_,[]=>rfl|b::m,v::ρ=>by simp[ZC,uO m ρ]
theorem OF{ρ:kA}{i:Nat}{s:Sl}(h:(aN k l ρ)[i]?=some (some s)):k<=i/\ρ[i - k]?=some (some s)/\l.getD (i - k) false=false:=by unfold aN at h;rcases QA6 i k with z|z;rw[qR (by simpa using z),wc]at h;split at h<;>cases h;rw[qJ (by simpa using z)]at h;simp only[qq]at h;obtain⟨y,x⟩:=bO l ρ _ s h;exact⟨z,y,x⟩
theorem Rl.ent(I:Rl K F H S ρ σ)(k:Nat)(l:List Bool):Rl K F H (Aa k S) (aN k l ρ) (JI k l σ) where
 fh:=I.fh
 len:=by simp[aN,JI,uO,eJ,I.len]
 sl:=λi s h=>by obtain⟨u,z,y⟩:=OF h;obtain⟨v,a,w⟩:=I.sl _ s z;refine⟨v,?_,?_⟩;unfold JI;rw[qJ (by simpa using u)];simp only[qq];exact xO l σ _ v a y;unfold Aa;rw[if_neg (by omega)];exact w
 dj:=λi j t s n z y b hb x=>by obtain⟨p,f,_⟩:=OF z;obtain⟨m,e,_⟩:=OF y;unfold Aa at hb x;rw[if_neg (by omega)]at hb x;exact I.dj (i - k) (j - k) t s (by omega) f e b hb x
theorem sX(b:Addr):¬ U (aN k l (lockA ρ)) S' b:=λ⟨i,t,h,_⟩=>by obtain⟨_,x,_⟩:=OF h;obtain⟨_,_,e⟩:=mB x;cases e
theorem Paired.get_of{α v:Type}{R:α->v->Prop}{xs:List α}{u:List v}(h:Paired R xs u):∀{i:Nat}{x:α},xs[i]?=some x->∃y,u.drop i=y::u.drop (i+1)/\R x y:=by
 induction h with
 |nil=>intro i x e;simp at e|@cons x y xs u h t a =>
  intro i z e;cases i with|zero=>simp at e;subst e;exact⟨y,by simp,h⟩|succ i=>obtain⟨w,f,b⟩:=a (i:=i) (by simpa using e);exact⟨w,by simpa using f,b⟩
structure Pur(F H A X:Hp):Prop where
 ff:Same F A
 hh:Same H X
 fn:∀b,F b=none->A b≠none->H b=none
theorem Pur.trans{u y:Hp}(a:Pur F H D G)(b:Pur D G u y):Pur F H u y:=⟨a.ff.trans b.ff,a.hh.trans b.hh,λx h z=>by by_cases q:D x=none;exact a.hh.free (b.fn x q z);exact a.fn x h q⟩
theorem Pur.ste(p:Pur F H D G):Ste F H S ρ D G S ρ:=⟨⟨p.ff,λb u h _=>p.hh b u h,λb h=>p.hh.free h,λb h z=>.inr (p.fn b h z),λb h=>.inl h,λ_ _ h _=>⟨h,rfl⟩⟩,λ_ t h=>⟨t,h⟩⟩
theorem Pur.rl(p:Pur F H D G)(f:Same D G)(I:Rl K F H S ρ σ):Rl K D G S ρ σ:=⟨f,I.len,λi s e=>by
 obtain⟨v,y,h⟩:=I.sl i s e;exact⟨v,y,h.mono p.ff λb hb=>by
  obtain⟨x,z⟩:=h.dom b hb;refine⟨?_,?_⟩;cases e:H b with|none=>exact absurd e x|some u=>exact p.hh b u e
  by_cases q:D b=none
  ·exact q
  exact absurd (p.fn b z q) x⟩,I.dj⟩
theorem Stp.pur(s:Stp F H S ρ D G S' g)(n:∀b,¬ U ρ S b):Pur F H D G:=⟨s.ff,λb u h=>s.hh b u h (n b),λb h z=>(s.fn b h z).elim (λq=>absurd q (n b)) id⟩
theorem Pur.trs(p:Pur F H D G){v:LV}{t:LT}(h:Trs K F H st v t Z):Trs K D G st v t Z:=h.mono p.ff λb hb=>by
  obtain⟨x,y⟩:=h.dom b hb;refine⟨?_,?_⟩;cases e:H b with|none=>exact absurd e x|some u=>exact p.hh b u e
  by_cases q:D b=none
  ·exact q
  exact absurd (p.fn b y q) x
theorem J6{ws:LN}{N:Nat}{c:kA->(Bool->kA->Prop)->Prop}{e:kA->TK->Prop}{tc:TT}{te:TE}{us:LN}
  (ic:∀{F H:Hp}{S:Ft}{ρ:kA}{σ:St}{Q:Bool->kA->Prop}{R:Bool->Hp->Prop},Rl K F H S ρ σ->c ρ Q->jJ K F H S ρ σ Q R->tc σ H R)
  (ie:∀{F H:Hp}{S:Ft}{ρ:kA}{σ:St}{Q:TK}{R:VK},Rl K F H S ρ σ->e ρ Q->kB K us F H S ρ σ Q R->te σ H R)
  {F0 H0:Hp}{S0:Ft}{P:kA}(s:Ste F0 H0 S0 P F H S ρ) (I:Rl K F H S ρ σ) {xs:List Item}{M:LT}{st:Hp->Prop}(pr:Paired (aZ K F H Y) xs M) (hyd:∀b,Y b->H b≠none/\F b=none) (hst:∀A X,Same F A->Same A X->(∀b,Y b->X b=H b)->st X) {Q:TK}{R:VK}
  (h:cD (PF B (aN N l (lockA ρ)) c e) M [] λM=>Q (.lst M) true ρ) (k:kB K ws F0 H0 S0 P σ Q R) :
  OX K xs st B tc te (JI N l σ) H R:=by
 refine Y6 ?_;have len:=Q6 pr;have yk:∀{A X:Hp},Pur F H A X->∀b,Y b->X b=H b/\A b=none:=λ{A X} p b hb=>by
  obtain⟨d1,d2⟩:=hyd b hb;refine⟨?_,?_⟩;cases e:H b with|none=>exact absurd e d1|some u=>exact p.hh b u e
  by_cases q:A b=none
  ·exact q
  exact absurd (p.fn b d2 q) d1
 refine⟨λi m X=>∃A w W,Pur F H A X/\Same A X/\Trs K A X true m w W/\(∀b,W b->H b=none)/\cD (PF B (aN N l (lockA ρ)) c e) (M.drop i) w λM=>Q (.lst M) true ρ,
  ⟨F,[],λ_=>False,⟨.refl _,.refl _,λb h z=>absurd h z⟩,I.fh,.nil λ_ z=>z,λ_ z=>z.elim,by simpa using h⟩,?_,?_,?_⟩
 rintro i m X _ ⟨A,w,W,p,f,_,_,_⟩;exact hst A X p.ff f λb hb=>(yk p b hb).1;rintro i x m G hx ⟨D,w,W,p1,f1,J,hw,hc⟩;obtain⟨y,hd,ry⟩:=Paired.get_of pr hx;rw[hd]at hc;unfold cD at hc;unfold PF at hc;have I1:Rl K D G (Aa N S) (aN N l (lockA ρ)) (JI N l σ):=((p1.rl f1 I).lockA).ent N l;refine lT I1 (λb _=>sX b) (ry.mono p1.ff (yk p1)) hc λρ2 σ2 F2 H2 S2 O I2 hc=>?_;have p2:Pur D G F2 H2:=⟨O.ff,O.hh,O.fn⟩
 have nu2:∀b,¬ U ρ2 S2 b:=λb u=>sX b (O.U u);refine ic I2 hc λb F3 H3 S3 ρ3 s3 I3 q=>?_;have p3:Pur F2 H2 F3 H3:=s3.toStp.pur nu2;have nu3:∀b,¬ U ρ3 S3 b:=λb ⟨j,t,h1,_⟩=>by obtain⟨t0,h0⟩:=s3.ow j t h1;by_cases hj:j∈B.ix;exact O.inn j t0 hj h0;rw[(O.out j hj).1]at h0;obtain⟨_,h1,_⟩:=OF h0;obtain⟨_,_,e⟩:=mB h1;cases e
 have a:=p1.trans (p2.trans p3);cases b with
 |false=>exact⟨F3,w,W,a,I3.fh,p3.trs (p2.trs J),hw,q⟩|true =>
  refine ie I3 q λv F4 H4 S4 ρ4 z n Z s4 I4 r4 ⟨hk,hl,hc⟩=>?_;have p4:Pur F3 H3 F4 H4:=s4.toStp.pur nu3;have ra4:=p4.trs (p3.trs (p2.trs J));have rz:∃Z',Tr K F4 H4 true v z Z'/\∀b,Z' b->H3 b=none:=by
   cases n with
   |true=>exact⟨Z,r4.tr,λb hb=>(r4.fr rfl b hb).elim id λu=>absurd u (nu3 b)⟩|false =>
    cases z with
    |d x =>
     have tr:=r4.tr;cases tr with|d r n=>exact⟨λ_=>False,.d r λ_ z=>z,λ_ z=>z.elim⟩
    |_=>exact absurd hk (by simp[tH,T.isD])
  obtain⟨Z',rz,fz⟩:=rz;refine⟨by rw[J.length];exact hl,F4,_,λb=>W b∨Z' b,a.trans p4,I4.fh,ra4.append (Trs.one rz) λb hb hz=>?_,λb hb=>?_,hc⟩;have q1:=(J.dom b hb).1;exact q1 ((p2.trans p3).hh.free (fz b hz));rcases hb with hb|hb
  ·exact hw b hb
  exact a.hh.free (fz b hb)
 rintro m X ⟨A,w,W,p,f,J,hw,hc⟩;rw[len,List.drop_length]at hc;unfold cD at hc;have I':=p.rl f I;refine⟨by rw[J.length];exact hc.1,λq hq=>?_⟩;refine kB.list (k.from s) (p.ste) I' hq J (λb hb=>.inl (hw b hb)) ⟨J.dom,λi sl hi b hb z=>?_⟩ hc.2;exact(I.dom hi z).1 (hw b hb)
end
end
section
variable{K:QA}{Γ:Ev}{Ψ:PEv}{E:XE}{p:XK}{F H l c:Hp}{S S1:Ft}{ρ y:kA}{σ:St}
theorem Tr.xy{v:V}{u t:T}{Z:lB}(h:Tr K F H false v u Z)(e:jE u=some t):Tr K F H false v t Z:=by
 unfold jE at e;split at e;rename_i ts ev;cases x:XG ts with
 |none=>rw[x]at e;cases e|some f =>
  rw[x]at e;injection e with e;subst e;cases h with
  |d r n =>
   cases r with|lst q r=>injection ev with ev;subst ev;rw[VA]at x;injection x with x;subst x;exact .lstF q r n|dct _ _ _=>exact(xH ev).elim|_=>cases ev
  |lst k w z b a=>injection ev with ev;subst ev;show Tr K F H false _ (.lst (f.map T.d)) Z;rw[<- dL x];exact .lst k w z b a|tup=>cases ev|dct=>cases ev|lstF k w z=>injection ev with ev;subst ev;rw[VA]at x;injection x with x;subst x;exact .lstF k w z
 split at e
 ·injection e with e;subst e;exact h
 cases e
theorem AV.pass{Y:lB}{md:List Md}{vs:LV}{xs:List (T×Bool)}{W:lB}(h:AV K F H md vs xs W Y)(e:Same F l)(k:∀b,W b->l b=H b)(G:∀b,Y b->F b=none->l b=none) :
  ∀{g ts:LT},XA md xs g=some ts->ArgsR K l H Y md vs ts/\KB md ts=g:=by
 induction h with
 |nil h =>
  intro g ts w;cases g with|nil=>simp only[XA,Qq]at w;subst w;exact⟨.nil,rfl⟩|cons _ _=>simp[XA]at w
 |@chg md v vs x xs W Y h t C =>
  intro g ts w;have f:md.headD .xx=.chg:=by generalize md.headD .xx=m at h;cases m<;>first|rfl|cases h
  unfold XA at w;rw[f]at w;cases g with
  |nil=>cases w|cons o g =>
   cases a:XA md.tail xs g with|none=>simp only[a,wY]at w;cases w|some B=>simp only[a,Qy,Qq]at w;subst w;obtain⟨s,j⟩:=C k G a;refine⟨.chg f s,?_⟩;unfold KB;rw[f];simp only[j]
 |@new md v vs x xs Z W J Y h r t n q C =>
  intro g ts w;have X:Tr K l H false v (.d x.er) (λ_=>False):=.d (r.kept e λb u hb I=>by rw[k b ((q b).mpr (.inl hb))];exact I) λ_ z=>z;have i:=@C (λb hb=>k b ((q b).mpr (.inr hb))) G;unfold XA at w;cases f:md.headD .xx with
  |chg=>rw[f]at h;cases h|xx =>
   simp only[f,pA]at w;cases a:XA md.tail xs g with|none=>simp only[a,wY]at w;cases w|some B=>simp only[a,Qy,Qq]at w;subst w;obtain⟨s,j⟩:=i a;exact⟨.rd (by rw[f];simp) X (λ_ z=>z.elim) s,by unfold KB;rw[f];exact j⟩
  |xy =>
   simp only[f,pA]at w;cases A:jE (.d x.er) with
   |none=>simp only[A]at w;cases w|some u =>
    simp only[A]at w;cases a:XA md.tail xs g with|none=>simp only[a,wY]at w;cases w|some B=>simp only[a,Qy,Qq]at w;subst w;obtain⟨s,j⟩:=i a;exact⟨.rd (by rw[f];simp) (X.xy A) (λ_ z=>z.elim) s,by unfold KB;rw[f];exact j⟩
  |ky =>
   simp only[f,pA]at w;cases a:XA md.tail xs g with|none=>simp only[a,wY]at w;cases w|some B=>simp only[a,Qy,Qq]at w;subst w;obtain⟨s,j⟩:=i a;exact⟨.rd (by rw[f];simp) X (λ_ z=>z.elim) s,by unfold KB;rw[f];exact j⟩
 |@tmp md v vs x xs Z W Y h r z t C =>
  intro g ts w;have X:Tr K l H false v x Z:=r.mono e λb hb=>⟨rfl,G b (z b hb) (r.dom b hb).2⟩
  have i:=@C k G;unfold XA at w;cases f:md.headD .xx with
  |chg=>rw[f]at h;cases h|xx =>
   simp only[f,pA]at w;cases x with
   |d x =>
    cases a:XA md.tail xs g with|none=>simp only[a,wY]at w;cases w|some B=>simp only[a,Qy,Qq]at w;subst w;obtain⟨s,j⟩:=i a;exact⟨.rd (by rw[f];simp) X z s,by unfold KB;rw[f];exact j⟩
   |_=>cases w
  |xy =>
   simp only[f,pA]at w;cases A:jE x with
   |none=>simp only[A]at w;cases w|some u =>
    simp only[A]at w;cases a:XA md.tail xs g with|none=>simp only[a,wY]at w;cases w|some B=>simp only[a,Qy,Qq]at w;subst w;obtain⟨s,j⟩:=i a;exact⟨.rd (by rw[f];simp) (X.xy A) z s,by unfold KB;rw[f];exact j⟩
  |ky =>
   simp only[f,pA]at w;cases a:XA md.tail xs g with|none=>simp only[a,wY]at w;cases w|some B=>simp only[a,Qy,Qq]at w;subst w;obtain⟨s,j⟩:=i a;exact⟨.rd (by rw[f];simp) X z s,by unfold KB;rw[f];exact j⟩
theorem jD:∀(J:LN) (ρ:kA) (i:Nat) s,(clear J ρ)[i]?=some (some s)->i∉J/\ρ[i]?=some (some s)
 |[],ρ,i,s,h=>⟨(by simp),h⟩|j::J,ρ,i,s,h=>by
  unfold clear at h;obtain⟨u,z⟩:=jD J _ i s h;rcases dA z with⟨_,e,_⟩| ⟨n,x⟩
  cases e;exact⟨λm=>(QL.mp m).elim (λe=>n e.symm) u,x⟩
theorem mO:∀(J:LN) (ρ:kA),(clear J ρ).length=ρ.length
 |[],_=>rfl|j::J,ρ=>by unfold clear;rw[mO J];simp
theorem Rl.drop(I:Rl K F H S ρ σ)(hl:y.length=ρ.length)(h:∀(i:Nat) s,y[i]?=some (some s)->ρ[i]?=some (some s)):Rl K F H S y σ :=
 ⟨I.fh,hl.trans I.len,λi s e=>I.sl i s (h i s e),λi j t s n z x=>I.dj i j t s n (h i _ z) (h j _ x)⟩
theorem YD:∀{J:LN}{ρ:kA}{x:LT},BA J ρ=some x->x.length=J.length/\∀(i:Nat) j,J[i]?=some j->∃t,x[i]?=some t/\ρ[j]?=some (some (.own t))
 |[],ρ,x,h=>by simp only[BA,Qq]at h;subst h;exact⟨rfl,λi j e=>by simp at e⟩|j::J,ρ,x,h=>by
  unfold BA at h;split at h;rename_i t e;cases z:BA J ρ with
  |none=>rw[z]at h;cases h|some f =>
   rw[z]at h;injection h with h;subst h;obtain⟨w,v⟩:=YD z;refine⟨by simp[w],λi k hk=>?_⟩;cases i with|zero=>simp at hk;subst hk;exact⟨t,rfl,e⟩|succ i=>obtain⟨u,b,a⟩:=v i k (by simpa using hk);exact⟨u,by simpa using b,a⟩
  cases h
theorem Rl.trs(I:Rl K F H S ρ σ):∀{J:LN}{w:LT}{vs:LV},J.Nodup->BA J ρ=some w->vs.map (λv=>some (some v))=J.map (λj=>σ[j]?)->Trs K F H true vs w (λb=>∃j∈J,S j b)
 |[],w,vs,_,h,hv=>by
  simp only[BA,Qq]at h;subst h;cases vs with|nil=>exact .nil λb ⟨j,m,_⟩=>by simp at m|cons _ _=>simp at hv
 |j::J,w,vs,nd,h,hv=>by
  unfold BA at h;split at h;rename_i t e;cases a:BA J ρ with
  |none=>rw[a]at h;cases h|some r =>
   rw[a]at h;injection h with h;subst h;cases vs with
   |nil=>simp at hv|cons v vs =>
    simp only[QV,QAC]at hv;obtain⟨f,q,o⟩:=I.sl j _ e;rw[q]at hv;have:v=f:=by simpa using hv.1
    subst this;have x:=Qi.mp nd;refine .cons o (Rl.trs I x.2 a hv.2) (λb hb ⟨k,hk,z⟩=>?_) λb=>?_;obtain⟨i,n⟩:=Wl.mp hk;obtain⟨u,_,g⟩:=(YD a).2 i k n;exact I.dj j k t _ (λz=>x.1 (z▸hk)) e g b hb z;constructor
    ·rintro⟨k,hk,z⟩
     rcases QL.mp hk with e|e;subst e;exact .inl z;exact .inr ⟨k,e,z⟩
    rintro(z|⟨k,hk,z⟩)
    ·exact⟨j,QF,z⟩
    exact⟨k,QE _ hk,z⟩
  cases h
theorem Rl.setO(I:Rl K F H S ρ σ)(i:Nat){v:V}{t:T}{Z:lB}(hv:σ[i]?=some (some v))(r:Tr K F H true v t Z)(w:∀(j:Nat) s,j≠i->ρ[j]?=some (some s)->∀b,Z b->¬ S j b):Rl K F H (uH S i Z) (ρ.set i (some (.own t))) σ where
 fh:=I.fh
 len:=by simpa using I.len
 sl:=λj s h=>by
  rcases dA h with⟨rfl,e,hl⟩| ⟨g,h⟩
  cases e;exact⟨v,hv,by rw[MA];exact r⟩;rw[YA (qD g)];exact I.sl j s h
 dj:=λj k a s n u x b hb hk=>by
  rcases dA u with⟨e,_,_⟩| ⟨f,u⟩
  subst e;rw[MA]at hb;rcases dA x with⟨e,_,_⟩| ⟨z,x⟩
  exact n e;rw[YA (qD z)]at hk;exact w k s (qD z) x b hb hk;rw[YA (qD f)]at hb;rcases dA x with⟨e,_,_⟩| ⟨z,x⟩
  subst e;rw[MA]at hk;exact w j _ n u b hk hb;rw[YA (qD z)]at hk;exact I.dj j k a s n u x b hb hk
theorem UL:∀{J:LN}{w:LT}{vs:LV}{M:lB}{S1:Ft}{y x:kA},J.Nodup->Rl K F H S1 y σ->Trs K F H true vs w M->vs.map (λv=>some (some v))=J.map (λj=>σ[j]?)->Held F H S1 y M->EB J w y=some x ->
  ∃f,Rl K F H f x σ/\(∀i,i∉J->x[i]?=y[i]?/\f i=S1 i)/\∀i∈J,∀s,x[i]?=some (some s)->(∃t,s=.own t)/\∀b,f i b->M b
 |[],w,vs,M,S1,y,x,nd,I,r,hv,hm,h=>by
  cases w with|nil=>simp only[EB,Qq]at h;subst h;exact⟨S1,I,λ_ _=>⟨rfl,rfl⟩,λi u=>by simp at u⟩|cons _ _=>simp[EB]at h
 |j::J,w,vs,M,S1,y,x,nd,I,r,hv,hm,h=>by
  cases r with
  |nil _=>simp[EB]at h|@cons _ v t vs ts _ Z Q G C n q =>
   simp only[EB]at h;simp only[QV,QAC]at hv;have a:=Qi.mp nd;have R:=I.setO j hv.1.symm G λk s _ hk b hb=>hm.nw k s hk b ((q b).mpr (.inl hb));have W:Held F H (uH S1 j Z) (y.set j (some (.own t))) Q:=⟨λb hb=>hm.dom b ((q b).mpr (.inr hb)),λi s u b hb z=>by
    rcases dA u with⟨rfl,_,_⟩| ⟨X,u⟩
    rw[MA]at z;exact n b z hb;rw[YA (qD X)]at z;exact hm.nw i s u b ((q b).mpr (.inr hb)) z⟩
   obtain⟨f,P,B,O⟩:=UL a.2 R C hv.2 W h;refine⟨f,P,λi u=>?_,λi u s Y=>?_⟩;have A:j≠i:=λe=>u (e▸QF);obtain⟨o,g⟩:=B i λm=>u (QE _ m);rw[DD A]at o;rw[YA (qD A)]at g;exact⟨o,g⟩;rcases QL.mp u with e|e
   ·subst e
    obtain⟨o,g⟩:=B i a.1;rw[o]at Y;rcases dA Y with⟨_,e,_⟩| ⟨X,_⟩
    injection e with e;refine⟨⟨t,e⟩,λb hb=>?_⟩;rw[g,MA]at hb;exact(q b).mpr (.inl hb);exact absurd rfl X
   obtain⟨N,L⟩:=O i e s Y;exact⟨N,λb hb=>(q b).mpr (.inr (L b hb))⟩
theorem Jb{f:Str}{as:PX}(g:GOk K Γ Ψ)(ia:PSnd K Γ Ψ as)(I:Rl K F H S ρ σ)(X:zF K F H S ρ E p){Q:TK}{R:VK}{ws:LN}(h:(pe Ψ (.call f as) E).e ρ Q)(k:kB K ws F H S ρ σ Q R):(wp K Γ (.call f as) p).e σ H R:=by
 obtain⟨os,ho,nd,h⟩:=h;generalize hJ:uA (Ψ.sp f).md as=J at ho nd h;have C:∀j∈J,∃t,ρ[j]?=some (some (.own t)):=λj A=>by obtain⟨i,hi⟩:=Wl.mp A;obtain⟨t,_,e⟩:=(YD ho).2 i j hi;exact⟨t,e⟩
 have I0:Rl K F H S (clear J ρ) σ:=I.drop (mO J ρ) λi s e=>(jD J ρ i s e).2;have P:∀b,U (clear J ρ) S b->U ρ S b:=λb ⟨i,t,h1,O⟩=>⟨i,t,(jD J ρ i _ h1).2,O⟩
 have X0:zF K F H S (clear J ρ) E p:=λx dx F2 H2 S2 L m ff r q=>X x dx F2 H2 (λ_ _=>False) [] ⟨m.ff,λb u e n=>m.hh b u e λz=>n (P b z),m.dm,λb e z=>(m.fn b e z).imp (P b) id,λb ⟨i,t,e,_⟩=>by simp at e,λj t e=>by simp at e⟩ ff r q;have hm:∀j∈uA (Ψ.sp f).md as,∃v,σ[j]?=some (some v):=λj A=>by obtain⟨t,e⟩:=C j (hJ▸A);obtain⟨v,h1,_⟩:=I.sl j _ e;exact⟨v,h1⟩
 show(wp K Γ as p).a σ H λvs c=>Γ.sp f vs c R p;refine ia.a I0 X0 hm h λvs l c S1 y xs W Y s1 I1 r1 mv q1=>?_;rw[hJ]at mv;obtain⟨ts,hp,q1⟩:=q1;have hw:=r1.held;have m:=s1.frz (λb hb=>(hw.dom b hb).2) r1.fr;have I2:=I1.frz hw;have yk:∀b,Y b->l b=none->tI l c W b=none:=λb hy hf=>by obtain⟨i,sl,_,O,h3⟩:=r1.tm b hy;rw[cC λz=>r1.nw i sl O b z h3];exact hf
 obtain⟨ar,mt⟩:=r1.av.pass (iG λb hb=>(hw.dom b hb).2) (λb hb=>sI hb) yk hp;generalize tI l c W=F2 at m I2 yk ar;have M0:=I.trs nd ho mv;have hM:Held F H S (clear J ρ) (λb=>∃j∈J,S j b):=⟨λb ⟨j,A,hb⟩=>let⟨t,e⟩:=C j A;I.dom e hb,λi s e b ⟨j,A,hb⟩ z=>by obtain⟨G,B⟩:=jD J ρ i s e;obtain⟨t,et⟩:=C j A;exact I.dj j i t s (λq=>G (q▸A)) et B b hb z⟩
 have N:=hM.step m.toStp I2;have M2:Trs K F2 c true (fB (Ψ.sp f).md vs) (KB (Ψ.sp f).md ts) (λb=>∃j∈J,S j b):=by
  rw[mt];refine M0.mono m.ff λb hb=>?_;refine⟨?_,(N.dom b hb).2⟩;cases e:H b with|none=>exact absurd e (hM.dom b hb).1|some u=>exact m.hh b u e (hM.nu b hb)
 refine g.sp f vs c R p ⟨F2,ts,_,Y,I2.fh,ar,M2,λb hy hb=>?_,?_⟩;obtain⟨i,sl,_,O,h3⟩:=r1.tm b hy;exact N.nw i sl O b hb h3
 ·have up:∀b,(∃j∈J,S j b)->U ρ S b:=λb ⟨j,A,hb⟩=>let⟨t,e⟩:=C j A;⟨j,t,e,hb⟩
  have lk:∀b,(∃j∈J,S j b)∨c b=none->U ρ S b∨H b=none:=λb hb=>hb.imp (up b) (m.dm b);refine(Ψ.sp f).mono ?_ ?_ q1
  rotate_left
  rintro x qx dx F' H' o xr;refine X x dx F' H' (λ_ _=>False) [] ⟨m.ff.trans o.ff,λb u e n=>o.hh b u (m.hh b u e λz=>n (P b z)) λz=>n (up b z),λb e=>m.dm b (o.dm b e),λb e z=>?_,λb ⟨i,t,e,_⟩=>by simp at e,λj t e=>by simp at e⟩ o.fh xr qx;by_cases q:F2 b=none;exact lk b (o.fn b q z);exact(m.fn b e q).imp (P b) id;rintro r os' ⟨L,hput,q⟩ v F' H' Z M' o tr trs dz hf;have I3:Rl K F' H' S1 y σ:=⟨o.fh,I2.len,λi s e=>by
   obtain⟨w,g1,g2⟩:=I2.sl i s e;refine⟨w,g1,g2.mono o.ff λb hb=>?_⟩;obtain⟨d1,d2⟩:=g2.dom b hb;have nM:¬ ∃j∈J,S j b:=λz=>N.nw i s e b z hb;refine⟨?_,?_⟩;cases e:c b with|none=>exact absurd e d1|some u=>exact o.hh b u e nM
   by_cases z:F' b=none
   ·exact z
   exact((o.fn b d2 z).elim nM d1).elim,I2.dj⟩
  have nw3:∀b,(∃j∈J,S j b)∨c b=none->∀(i:Nat) s,y[i]?=some (some s)->¬ S1 i b:=λb hb i s e z=>by rcases hb with hb|hb;exact N.nw i s e b hb z;exact(I2.dom e z).1 hb
  have hM':Held F' H' S1 y M':=⟨trs.dom,λi s e b hb=>nw3 b (hf b (.inr hb)) i s e⟩
  obtain⟨S2,I4,g2,g3⟩:=UL nd I3 trs mv hM' hput;have M:∀i s,L[i]?=some (some s)->(i∈J/\(∃t,s=.own t)/\∀b,S2 i b->M' b)∨(i∉J/\y[i]?=some (some s)/\S2 i=S1 i):=λi s e=>by by_cases hi:i∈J;exact .inl ⟨hi,g3 i hi s e⟩;obtain⟨G,B⟩:=g2 i hi;exact .inr ⟨hi,G▸e,B⟩
  have st:Ste F H S ρ F' H' S2 L:=⟨⟨m.ff.trans o.ff,λb u e n=>o.hh b u (m.hh b u e λz=>n (P b z)) λz=>n (up b z),λb e=>m.dm b (o.dm b e),λb e z=>by
    by_cases q:F2 b=none;exact lk b (o.fn b q z);exact(m.fn b e q).imp (P b) id,
   λb ⟨i,t,h1,O⟩=>by
    rcases M i _ h1 with⟨_,_,e⟩| ⟨_,G,B⟩
    exact lk b (hf b (.inr (e b O)));rw[B]at O;exact(m.uu b ⟨i,t,G,O⟩).imp (P b) id,
   λj t e hd=>by
    rcases M j _ e with⟨_,⟨t',z⟩,_⟩| ⟨_,G,B⟩
    cases z;obtain⟨b1,b2⟩:=m.bo j t G hd;exact⟨(jD J ρ j _ b1).2,B.trans b2⟩⟩,
   λj t e=>by
    rcases M j _ e with⟨A,_,_⟩| ⟨_,G,B⟩
    exact C j A;obtain⟨t0,e0⟩:=m.ow j t G;exact⟨t0,(jD J ρ j _ e0).2⟩⟩
  refine k v F' H' S2 L r true Z st I4 ⟨tr,λ_ b hb=>?_,λz=>(by cases z),λ_ i s e b hb z=>?_⟩ q;exact(lk b (hf b (.inl hb))).symm;rcases M i s e with⟨_,_,B⟩| ⟨_,G,B⟩
  ·exact dz b hb (B b z)
  rw[B]at z;exact nw3 b (hf b (.inl hb)) i s G z
end
section
variable{K:QA}{Γ:Ev}{Ψ:PEv}{E:XE}{O:XK}{F H F1 H1:Hp}{S S1:Ft}{ρ Q:kA}{σ:St}
section
variable{j i:Nat}{t s:T}{b:Bool}{G C:Hp}{B:Ft}{Y:kA}{W P Z:lB}{vs L:LV}{ts us:LT}{a:Addr}{M o:HO}{v A J:V}{x y:D}{ks:List D}{R:Hp->Prop}{N:T->Prop}
theorem kC(z:ρ[j]?=some (some (.own t))){s:Sl}(h:(ρ.set j (some (.ky t)))[i]?=some (some s)):(i=j/\s=.ky t)∨(i≠j/\ρ[i]?=some (some s)):=by
 rcases dA h with⟨rfl,e,_⟩| ⟨n,h⟩
 injection e with e;exact .inl ⟨rfl,e⟩;exact .inr ⟨qD n,h⟩
theorem Rl.lock1(I:Rl K F H S ρ σ)(h:ρ[j]?=some (some (.own t))):Rl K F H S (ρ.set j (some (.ky t))) σ where
 fh:=I.fh
 len:=by simpa using I.len
 sl:=λi s e=>by
  rcases kC h e with⟨rfl,rfl⟩| ⟨_,e⟩
  obtain⟨v,g,f⟩:=I.sl i _ h;exact⟨v,g,f.weak⟩;exact I.sl i s e
 dj:=λi k u s n p m=>by
  rcases kC h p with⟨_,z⟩| ⟨r,w⟩
  cases z;rcases kC h m with⟨q,_⟩| ⟨_,l⟩
  ·exact I.dj i k u _ n w (q▸h)
  exact I.dj i k u s n w l
theorem Rl.lock1U(I:Rl K F H S ρ σ)(w:ρ[j]?=some (some (.own t)))(b:Addr)(hb:S j b):¬ U (ρ.set j (some (.ky t))) S b:=λ⟨i,u,h,k⟩=>by
 rcases kC w h with⟨_,z⟩| ⟨n,h⟩
 cases z;exact I.dj i j u _ n h w b k hb
theorem lock1U(k:ρ[j]?=some (some (.own t))){b:Addr}(h:U (ρ.set j (some (.ky t))) S b):U ρ S b:=by
 obtain⟨i,u,w,e⟩:=h;rcases kC k w with⟨_,z⟩| ⟨n,w⟩
 cases z;exact⟨i,u,w,e⟩
theorem zF.lock1(X:zF K F H S ρ E O)(w:ρ[j]?=some (some (.own t))):zF K F H S (ρ.set j (some (.ky t))) E O:=λx k G C B Y h f r q =>
 X x k G C (λ_ _=>False) [] ⟨h.ff,λb u e n=>h.hh b u e λz=>n (lock1U w z),h.dm,λb e z=>(h.fn b e z).imp (lock1U w) id,λb ⟨i,t,e,_⟩=>by simp at e,λj t e=>by simp at e⟩ f r q
theorem bS(I:Rl K F H S ρ σ)(h:ρ[j]?=some (some (.own t)))(s:Ste F H S (ρ.set j (some (.ky t))) G C B Y)(l:Rl K G C B Y σ){b:Addr}(hb:S j b) :
  ∀(i:Nat) w,i≠j->Y[i]?=some (some w)->¬ B i b:=λi w n e z=>by
 cases w with
 |own u=>rcases s.uu b ⟨i,u,e,z⟩ with q|q;exact I.lock1U h b hb q;exact(I.dom h hb).1 q
 |ky u =>
  cases f:u.isD with
  |true=>exact l.isD e f z|false =>
   obtain⟨k,g⟩:=s.bo i u e f;rw[g]at z;rcases kC h k with⟨q,_⟩| ⟨_,k⟩
   exact n q;exact I.dj j i t _ (qD n) h k b hb z
theorem IH{t':T}{v0:V}{m:Hp}{Z':lB}(I:Rl K F H S ρ σ)(w:ρ[j]?=some (some (.own t)))(hv:σ[j]?=some (some v0))(s:Ste F H S (ρ.set j (some (.ky t))) G C B Y)(l:Rl K G C B Y σ)
  (hH:∀b u,C b=some u->¬ S j b->m b=some u) (dm:∀b,m b=none->C b=none) (r:Tr K G m true v0 t' Z') (hz:∀b,Z' b->S j b∨W b∨C b=none) (hw:Held G C B Y W) (frW:∀b,W b->H b=none∨U (ρ.set j (some (.ky t))) S b) :
  Ste F H S ρ G m (uH B j Z') (Y.set j (some (.own t')))/\Rl K G m (uH B j Z') (Y.set j (some (.own t'))) σ/\∀b,S j b∨W b∨C b=none->∀(i:Nat) h,i≠j->Y[i]?=some (some h)->¬ B i b:=by
 have nw:∀b,S j b∨W b∨C b=none->∀(i:Nat) h,i≠j->Y[i]?=some (some h)->¬ B i b:=λb hb i h n e z=>by rcases hb with hb|hb|hb;exact bS I w s l hb i h n e z;exact hw.nw i h e b hb z;exact(l.dom e z).1 hb
 have uj:∀b,S j b->U ρ S b:=λb hb=>⟨j,t,w,hb⟩
 have lk:∀b,S j b∨W b∨C b=none->U ρ S b∨H b=none:=λb hb=>by rcases hb with hb|hb|hb;exact .inl (uj b hb);exact(frW b hb).symm.imp (lock1U w) id;exact .inr (s.dm b hb)
 have fS:∀b,S j b->G b=none:=λb hb=>by
  by_cases q:G b=none;exact q;rcases s.fn b (I.dom w hb).2 q with z|z
  ·exact absurd z (I.lock1U w b hb)
  exact absurd z (I.dom w hb).1
 have fh:Same G m:=λb u e=>hH b u (l.fh b u e) λz=>by rw[fS b z]at e;cases e
 have I3:Rl K G m B (Y.set j none) σ:=⟨fh,by simpa using l.len,λi h e=>by
   rcases dA e with⟨_,z,_⟩| ⟨n,e⟩
   cases z;obtain⟨v,p,f⟩:=l.sl i h e;refine⟨v,p,f.mono (.refl _) λb hb=>⟨?_,(f.dom b hb).2⟩⟩;cases eb:C b with|none=>exact absurd eb (f.dom b hb).1|some u=>exact hH b u eb λz=>bS I w s l z i h (qD n) e hb,
  λi k u h n g X=>by
   rcases dA g with⟨_,z,_⟩| ⟨_,g⟩
   cases z;rcases dA X with⟨_,z,_⟩| ⟨_,X⟩
   ·cases z
   exact l.dj i k u h n g X⟩
 have I4:=I3.setO j hv r λi h n e b hb=>by
  rcases dA e with⟨_,z,_⟩| ⟨_,e⟩
  cases z;exact nw b (hz b hb) i h n e
 have es:(Y.set j none).set j (some (.own t'))=Y.set j (some (.own t')):=by simp
 rw[es]at I4;refine⟨⟨⟨s.ff,λb u e n=>hH b u (s.hh b u e λz=>n (lock1U w z)) λz=>n (uj b z),λb e=>s.dm b (dm b e),λb e z=>(s.fn b e z).imp (lock1U w) id,λb ⟨i,u,p,f⟩=>?_,λi u e hd=>?_⟩,λi u e=>?_⟩,I4,nw⟩;rcases dA p with⟨rfl,_,_⟩| ⟨n,p⟩
 ·rw[MA]at f
  exact lk b (hz b f)
 rw[YA (qD n)]at f;exact(s.uu b ⟨i,u,p,f⟩).imp (lock1U w) id;rcases dA e with⟨rfl,z,_⟩| ⟨n,e⟩
 ·cases z
 obtain⟨g,X⟩:=s.bo i u e hd;rcases kC w g with⟨z,_⟩| ⟨_,g⟩
 exact absurd z.symm n;exact⟨g,by rw[YA (qD n)];exact X⟩;rcases dA e with⟨rfl,_,_⟩| ⟨n,e⟩
 ·exact⟨t,w⟩
 obtain⟨t0,e0⟩:=s.ow i u e;rcases kC w e0 with⟨_,z⟩| ⟨_,e0⟩
 cases z;exact⟨t0,e0⟩
theorem Trs.erase{st:Bool}{S:lB}{k:Nat}(h:Trs K F H st vs ts S)(e:ts[k]?=some t):∃v P1 u,vs[k]?=some v/\Tr K F H st v t P1/\Trs K F H st (vs.eraseIdx k) (ts.eraseIdx k) u/\(∀b,P1 b->¬ u b)/\∀b,P1 b∨u b->S b:=by
 revert k;refine Trs.ind (R:=λst vs ts S=>∀{k:Nat},ts[k]?=some t->∃v P1 u,vs[k]?=some v/\Tr K F H st v t P1/\Trs K F H st (vs.eraseIdx k) (ts.eraseIdx k) u/\(∀b,P1 b->¬ u b)/\∀b,P1 b∨u b->S b) (λn k e=>by cases e) (λ{_ _ _ _ _ _ r _} h t n q f k e=>?_) h;cases k with|zero=>cases e;exact⟨_,_,_,rfl,h,t,n,λb hb=>(q b).mpr hb⟩|succ k=>obtain⟨v,P1,u,p,m,l,g,w⟩:=f (k:=k) e;refine⟨v,P1,λb=>r b∨u b,p,m,.cons h l (λb hb z=>n b hb (w b (.inr z))) λb=>WR,λb hb z=>z.elim (λz=>n b z (w b (.inl hb))) (g b hb),λb hb=>(q b).mpr ?_⟩;rcases hb with hb|hb|hb;exact .inr (w b (.inl hb));exact .inl hb;exact .inr (w b (.inr hb))
theorem bI{α:Type}:∀{l:List α}{k:α},l.Nodup->¬ k∈l->(l++[k]).Nodup
 |[],k,_,_=>by simp|a::r,k,h,hk=>by obtain⟨u,z⟩:=Qi.mp h;show(a::(r++[k])).Nodup;refine Qi.mpr ⟨λm=>?_,bI z λm=>hk (QL.mpr (Or.inr m))⟩;rcases Qh.mp m with q|q;exact u q;exact hk (QL.mpr (Or.inl (QJ.mp q).symm))
theorem LK(h:F a=none)(r:Trs K F H true L us P)(n:¬ P a):Tr K F (UA H a (.lst L)) true (.ref a) (.lst us) λb=>b=a∨P b :=
 .lst (S':=P) iA h (r.mono (.refl _) λb hb=>⟨vA λz=>n (z▸hb),(r.dom b hb).2⟩) n λb=>WR
theorem EC(w:Z a)(b:Addr)(u:HO)(e:H b=some u)(hb:¬ Z b):UA H a M b=some u:=by have h:b≠a:=λz=>hb (by rw[z];exact w);rw[vA h];exact e
theorem YB(b:Addr)(e:UA H a M b=none):H b=none:=by by_cases hb:b=a;rw[hb,iA]at e;cases e;rw[vA hb]at e;exact e
theorem M9{m:Mt}{N:T->T->Prop}{R:VK}(f:Same F H)(r:Tr K F H true v s Z)(rv:Trs K F H true vs ts W)(dj:∀b,Z b->¬ W b)(h:rK m s ts N)
  (k:∀w r s' H' S1 Zr,(∀b u,H b=some u->¬ Z b->H' b=some u)->(∀b,H' b=none->H b=none)->Tr K F H' true v s' S1->Tr K F H' true w r Zr->(∀b,Zr b->¬ S1 b)->(∀b,S1 b∨Zr b->Z b∨W b∨H b=none)->N r s'->R w H'):R9 K m v vs H R:=by
 cases m with
 |append =>
  obtain⟨us0,t0,rfl,rfl,h⟩:=h;cases r with
  |@lst _ a xs _ _ S' h1 h2 l X e =>
   have g:Z a:=(e a).mpr (.inl rfl);cases rv with
   |@cons _ w t ws us _ W1 W2 p r2 n q =>
    cases r2 with
    |nil n2 =>
     have hW:∀b,W b↔W1 b:=λb=>by rw[q b];simp[n2 b]
     refine⟨a,xs,w,rfl,rfl,h1,by rw[l.length];exact h.1,k .non (.d .none) _ _ _ (λ_=>False) (EC g) YB (LK h2 (Trs.append l (Trs.one p) λb hb hw=>dj b ((e b).mpr (.inr hb)) ((hW b).mpr hw)) λz=>z.elim X λz=>dj a g ((hW a).mpr z)) (.d .non λ_ z=>z) (λ_ z=>z.elim) (λb hb=>?_) h.2⟩;rcases hb with(hb|hb|hb)|hb;exact .inl (hb▸g);exact .inl ((e b).mpr (.inr hb));exact .inr (.inl ((hW b).mpr hb));exact hb.elim
 |extend =>
  obtain⟨us0,vs0,rfl,rfl,h⟩:=h;cases r with
  |@lst _ a xs _ _ S' h1 h2 l X e =>
   have g:Z a:=(e a).mpr (.inl rfl);cases rv with
   |@cons _ w t ws us _ W1 W2 p r2 n q =>
    cases r2 with
    |nil n2 =>
     have hW:∀b,W b↔W1 b:=λb=>by rw[q b];simp[n2 b]
     cases p with|@lst _ c zs _ _ B g1 g2 g3 g4 I=>have dw:∀b,B b->W b:=λb hb=>(hW b).mpr ((I b).mpr (.inr hb));refine⟨a,c,xs,zs,rfl,rfl,h1,g1,by rw[l.length,g3.length];exact h.1,k .non (.d .none) _ _ _ (λ_=>False) (EC g) YB (LK h2 (Trs.append l g3 λb hb hw=>dj b ((e b).mpr (.inr hb)) (dw b hw)) λz=>z.elim X λz=>dj a g (dw a z)) (.d .non λ_ z=>z) (λ_ z=>z.elim) (λb hb=>?_) h.2⟩;rcases hb with(hb|hb|hb)|hb;exact .inl (hb▸g);exact .inl ((e b).mpr (.inr hb));exact .inr (.inl (dw b hb));exact hb.elim
 |pop =>
  obtain⟨us0,i,j,t0,rfl,rfl,hi,ht,q⟩:=h;cases r with
  |@lst _ a xs _ _ S' h1 h2 l X e =>
   have g:Z a:=(e a).mpr (.inl rfl);obtain⟨w,P1,P2,g1,g2,g3,g4,I⟩:=l.erase ht;have na:¬ P1 a:=λz=>X (I a (.inl z));have nb:¬ P2 a:=λz=>X (I a (.inr z));cases rv with
   |cons p r2 n q2 =>
    cases r2;cases p with
    |d p n1 =>
     cases p;refine⟨a,i,xs,j,w,rfl,rfl,h1,by rw[l.length];exact hi,g1,k w t0 _ _ _ P1 (EC g) YB (LK h2 g3 nb) (g2.mono (.refl _) λb hb=>⟨vA λz=>na (z▸hb),(g2.dom b hb).2⟩) (λb hb z=>?_) (λb hb=>?_) q⟩;rcases z with z|z
     ·exact na (z▸hb)
     exact g4 b hb z;rcases hb with(hb|hb)|hb
     ·exact .inl (hb▸g)
     exact .inl ((e b).mpr (.inr (I b (.inr hb))));exact .inl ((e b).mpr (.inr (I b (.inl hb))))
 |_=>exact h.elim
theorem Trs.setD(w:Rep K F A x){S:lB}(n:Nat)(h:Trs K F H true vs ts S):∃P,Trs K F H true (vs.set n A) (ts.set n (.d x)) P/\∀b,P b->S b:=by
 revert n;refine Trs.ind (R:=λst vs ts S=>∀n:Nat,∃P,Trs K F H st (vs.set n A) (ts.set n (.d x)) P/\∀b,P b->S b) (λ{_ S} z n=>⟨S,.nil z,λ_ h=>h⟩) (λ{_ _ _ _ _ _ S1 B} h t m q k n=>?_) h;cases n with|zero=>exact⟨B,.cons (S1:=λ_=>False) (.d w λ_ z=>z) t (λ_ z=>z.elim) λb=>by simp,λb hb=>(q b).mpr (.inr hb)⟩|succ n=>obtain⟨P,e,u⟩:=k n;exact⟨λb=>S1 b∨P b,.cons h e (λb hb z=>m b hb (u b z)) λb=>WR,λb hb=>(q b).mpr (hb.imp id (u b))⟩
theorem Trs.part{S:lB}(h:Trs K F H true vs ts S)(e:ts[i]?=some t):∃v S1,vs[i]?=some v/\Tr K F H true v t S1/\(∀b,S1 b->S b) /\
  ∀(w:Hp) t' u,(∀b,S b->¬ S1 b->w b=H b)->Tr K F w true v t' u->(∀b,u b->S1 b)->∃P,Trs K F w true vs (ts.set i t') P/\∀b,P b->S b:=by
 revert i;refine Trs.ind (R:=λst vs ts S=>∀{i:Nat},ts[i]?=some t->∃v S1,vs[i]?=some v/\Tr K F H st v t S1/\(∀b,S1 b->S b)/\∀(w:Hp) t' u,(∀b,S b->¬ S1 b->w b=H b)->Tr K F w st v t' u->(∀b,u b->S1 b)->∃P,Trs K F w st vs (ts.set i t') P/\∀b,P b->S b) (λn i e=>by cases e) (λ{_ _ _ _ _ _ m P2} h t n q p i e=>?_) h;cases i with|zero=>cases e;exact⟨_,m,rfl,h,λb hb=>(q b).mpr (.inl hb),λw t' u k r f=>⟨λb=>u b∨P2 b,.cons r (t.mono (.refl _) λb hb=>⟨k b ((q b).mpr (.inr hb)) λz=>n b z hb,(t.dom b hb).2⟩) (λb hb z=>n b (f b hb) z) λb=>WR,λb hb=>(q b).mpr (hb.imp (f b) id)⟩⟩|succ i=>obtain⟨v,S1,h1,h2,g,I⟩:=p (i:=i) e;refine⟨v,S1,h1,h2,λb hb=>(q b).mpr (.inr (g b hb)),λw t' u k r f=>?_⟩;obtain⟨P,g1,l⟩:=I w t' u (λb hb X=>k b ((q b).mpr (.inr hb)) X) r f;exact⟨λb=>m b∨P b,.cons (h.mono (.refl _) λb hb=>⟨k b ((q b).mpr (.inl hb)) λz=>n b hb (g b z),(h.dom b hb).2⟩) g1 (λb hb z=>n b hb (l b z)) λb=>WR,λb hb=>(q b).mpr (hb.imp id (l b))⟩
noncomputable def yq(ks:List D)(k:D):List D:=match bA ks k with
 |some _=>ks|none=>ks++[k]
noncomputable def Tp{α:Type}(ks:List D)(vs:List α)(k:D)(x:α):List α:=match bA ks k with
 |some n=>vs.set n x|none=>vs++[x]
theorem bP{α h:Type}[DecidableEq α](k:α)(key:h->α)(f:h->h)(hf:∀p,key (f p)=key p):∀(l:List h) (n:Nat),(l.map key).Nodup->(l.map key)[n]?=some k->(∀(g:h->V) (x:V),(∀p,key p=k->g (f p)=x)->(l.map λp=>if key p=k then f p else p).map g=(l.map g).set n x)
 |[],n,_,e=>by simp at e|p::r,0,nd,e=>by
  intro g x w;have e:key p=k:=by simpa using e
  rw[QV]at nd;obtain⟨u,m⟩:=Qi.mp nd;have e2:(r.map λp=>if key p=k then f p else p)=r:=by rw[show r=r.map id from(QAq r).symm,QS];refine qK λq I=>?_;have:key q≠k:=λz=>u (QU.mpr ⟨q,by simpa using I,z.trans e.symm⟩);simp[this]
  rw[QV,e2,QV,QV,if_pos e,w p e];rfl
 |p::r,n+1,nd,e=>by
  intro g x w;rw[QV]at nd;obtain⟨u,m⟩:=Qi.mp nd;have e:(r.map key)[n]?=some k:=by simpa using e
  have X:¬ key p=k:=λz=>u (by rw[z];exact qQ e);rw[QV,QV,QV,if_neg X,bP k key f hf r n m e g x w];rfl
theorem put_keys{α h z:Type}[DecidableEq α](k:α)(key:h->α)(f:h->h)(g:h->z)(u:∀p,g (f p)=g p)(l:List h):(l.map λp=>if key p=k then f p else p).map g=l.map g:=by rw[QS];refine qK λp _=>?_;show g (if key p=k then f p else p)=g p;split;exact u p;rfl
theorem NJ.put{k:D}(f:Same F H)(ha:H a=some o)(dk:NJ K F b o ks vs)(ry:Rep K F J k)(hk:aD b k)(hl:ks.length<sizeLine)
  (kk:∀o',NJ K F b o' (yq ks k) (Tp ks vs k A)->R (UA H a o')):oR K (.ref a) J A H R:=by
 cases b with
 |true =>
  obtain⟨ep,u,rfl,rfl,rfl,h4,X⟩:=dk;cases yQ hk ry with
  |intro q h =>
   obtain⟨p,rfl,rfl,hq⟩:=h;refine⟨ep,u,q,ha,λp hp=>f.key (h4 p hp),f.key hq,by simpa using hl,λI=>kk _ ?_⟩;have w:=fG q u;unfold VL yq Tp;cases e:bA (u.map λp=>tD p.1) (tD q) with
   |none =>
    rw[e]at w;have w:VG u q=none:=w;rw[w];refine⟨I,u++[(q,p,A)],rfl,by simp,by simp,λx l=>?_,?_⟩;rcases Qh.mp l with l|l
    ·exact h4 x l
    rw[QJ.mp l];exact hq;rw[QO];refine bI X λm=>OA.mp e ?_;obtain⟨x,l,ex⟩:=QU.mp m;exact QU.mpr ⟨x,l,by rw[ex]⟩
   |some n =>
    rw[e]at w;have g:=VC e;have r:(u.map (·.1))[n]?=some q:=by
     rw[QX]at g ⊢;cases en:u[n]? with|none=>rw[en]at g;cases g|some x=>rw[en]at g;rw[Qy,Qq]at g ⊢;exact uU g
    have hs:(VG u q).isSome=true:=by
     rw[w];have:n<u.length:=by have:=(Qf.mp r).1;simpa using this
     simp[this]
    rw[if_pos hs];refine⟨I,_,rfl,(put_keys q (·.1) (λp=>(p.1,p.2.1,A)) (λp=>tD p.1) (λ_=>rfl) u).symm,(bP q (·.1) (λp=>(p.1,p.2.1,A)) (λ_=>rfl) u n X r (·.2.2) A λ_ _=>rfl).symm,λx l=>?_,?_⟩;obtain⟨y,hy,ey⟩:=QU.mp l;have hy:=h4 y hy;by_cases z:y.1=q;rw[if_pos z]at ey;subst ey;exact hy;rw[if_neg z]at ey;subst ey;exact hy;have:=put_keys q (·.1) (λp:KE=>(p.1,p.2.1,A)) (·.1) (λ_=>rfl) u;rw[this];exact X
 |false =>
  obtain⟨z,rfl⟩:=hk;cases ry;rcases dk with⟨u,hne,rfl,rfl,rfl,X⟩| ⟨ep,rfl,rfl,rfl⟩
  rotate_left
  exact .inr ⟨ep,ha,kk _ (.inl ⟨[(.inr z,A)],by simp,rfl,rfl,rfl,by simp⟩)⟩;refine .inl ⟨u,ha,by simpa using hl,kk _ (.inl ?_)⟩;have w:=uJ (.inr z) u;have ez:kD (.inr z)=.str z:=rfl;rw[ez]at w;unfold lU yq Tp;rw[yR];cases e:bA (u.map λp=>kD p.1) (.str z) with
  |none=>rw[e]at w;have w:uL u (.inr z)=none:=w;rw[w];refine⟨u++[(.inr z,A)],by simp,rfl,by simp[ez],by simp,?_⟩;rw[QO];refine bI X λm=>OA.mp e ?_;obtain⟨x,l,ex⟩:=QU.mp m;exact QU.mpr ⟨x,l,by rw[ex];rfl⟩|some n =>
   rw[e]at w;have g:=VC e;have r:(u.map (·.1))[n]?=some (.inr z):=by
    rw[QX]at g ⊢;cases en:u[n]? with|none=>rw[en]at g;cases g|some x=>rw[en]at g;rw[Qy,Qq]at g ⊢;exact Y5 g
   have hs:(uL u (.inr z)).isSome=true:=by
    rw[w];have:n<u.length:=by have:=(Qf.mp r).1;simpa using this
    simp[this]
   rw[if_pos hs];refine⟨_,by simpa using hne,rfl,(put_keys (.inr z) (·.1) (λp=>(p.1,A)) (λp=>kD p.1) (λ_=>rfl) u).symm,(bP (.inr z) (·.1) (λp=>(p.1,A)) (λ_=>rfl) u n X r (·.2) A λ_ _=>rfl).symm,?_⟩;have:=put_keys (.inr z) (·.1) (λp:Key×V=>(p.1,A)) (·.1) (λ_=>rfl) u;rw[this];exact X
theorem tQ(h:F a=none)(dk:NJ K F b o ks L)(r:Trs K F H true L us P)(n:¬ P a):Tr K F (UA H a o) true (.ref a) (.dct b ks us) λb=>b=a∨P b :=
 .dct (S':=P) iA dk h (r.mono (.refl _) λb hb=>⟨vA λz=>n (z▸hb),(r.dom b hb).2⟩) n λb=>WR
theorem G0(f:Same F H)(r:Tr K F H true v s Z)(ry:Rep K F J y)(rx:Rep K F A x)(h:Ml s y x N)
  (k:∀s' H' S1,(∀b u,H b=some u->¬ Z b->H' b=some u)->(∀b,H' b=none->H b=none)->Tr K F H' true v s' S1->(∀b,S1 b->Z b)->N s'->R H'):oR K v J A H R:=by
 cases s with
 |lst ts =>
  cases y with
  |int i =>
   obtain⟨n,hn,q⟩:=h;cases ry;cases r with|@lst _ a xs _ _ S' h1 h2 m I l=>have g:Z a:=(l a).mpr (.inl rfl);obtain⟨P,X,p⟩:=m.setD rx n;refine⟨xs,n,h1,by rw[m.length];exact hn,k _ _ _ (EC g) YB (LK h2 X λz=>I (p a z)) (λb hb=>?_) q⟩;rcases hb with hb|hb;exact hb▸g;exact(l b).mpr (.inr (p b hb))
  |_=>exact h.elim
 |dct b ks ts =>
  obtain⟨hk,hl,q⟩:=h;cases r with
  |@dct _ _ a o _ vs _ _ S' h1 dk h2 m I l =>
   have g:Z a:=(l a).mpr (.inl rfl);refine dk.put f h1 ry hk hl λo' w=>?_;unfold yq Tp at w;unfold oJ at q;cases e:bA ks y with
   |some n=>rw[e]at w q;obtain⟨P,X,p⟩:=m.setD rx n;refine k _ _ _ (EC g) YB (tQ h2 w X λz=>I (p a z)) (λb hb=>?_) q;rcases hb with hb|hb;exact hb▸g;exact(l b).mpr (.inr (p b hb))
   |none=>rw[e]at w q;have X:=Trs.append m (Trs.one (Tr.d (S:=λ_=>False) rx λ_ z=>z)) λ_ _ z=>z;refine k _ _ _ (EC g) YB (tQ h2 w X λz=>z.elim I id) (λb hb=>?_) q;rcases hb with hb|hb|hb;exact hb▸g;exact(l b).mpr (.inr hb);exact hb.elim
 |_=>exact h.elim
theorem NJ.vs_inj{m:Hp}{f:List D}{u:LV}(h:NJ K F b o ks vs)(h':NJ K m b o f u):vs=u:=by
 cases b with|true=>obtain⟨l,k,e,_,rfl,_⟩:=h;obtain⟨g,w,z,_,rfl,_⟩:=h';rw[e]at z;cases z;rfl|false=>rcases h with⟨k,_,e,_,rfl,_⟩| ⟨l,e,_,rfl⟩<;>rcases h' with⟨w,_,z,_,rfl,_⟩| ⟨g,z,_,rfl⟩<;>rw[e]at z<;>cases z<;>rfl
theorem v8{F0:Hp}{n:Nat}{w:V}(f:Same F H)(r:Tr K F H true (.ref a) (.dct b ks ts) Z)(l:H a=some o)(q:NJ K F0 b o ks vs)(hw:vs[n]?=some w)(ht:ts[n]?=some s)
  (ry:Rep K F J y) (rx:Rep K F A x) (h:Ml s y x N)
  (k:∀s' g S1,(∀b u,H b=some u->¬ Z b->g b=some u)->(∀b,g b=none->H b=none)->Tr K F g true (.ref a) (.dct b ks (ts.set n s')) S1->(∀b,S1 b->Z b)->N s'->R g):oR K w J A H R:=by
 cases r with
 |@dct _ _ a o' _ vs' _ _ S' h1 dk h2 h3 h4 p =>
  rw[l]at h1;cases h1;cases q.vs_inj dk;have ha:Z a:=(p a).mpr (.inl rfl);obtain⟨w',S1,g1,g2,g3,g4⟩:=h3.part ht;rw[hw]at g1;cases g1;refine G0 f g2 ry rx h λs' g X hh dm rs sub q2=>?_;have keep:∀b,¬ S1 b->H b≠none->g b=H b:=λb hb m=>by
   cases e:H b with|none=>exact absurd e m|some u=>exact hh b u e hb
  have na:¬ S1 a:=λz=>h4 (g3 a z);obtain⟨P,p1,I⟩:=g4 g s' X (λb hb m=>keep b m (h3.dom b hb).1) rs sub;refine k _ g (λb=>b=a∨P b) (λb u e hb=>hh b u e λz=>hb ((p b).mpr (.inr (g3 b z)))) dm (.dct (S':=P) ((keep a na (by rw[l];simp)).trans l) dk h2 p1 (λz=>h4 (I a z)) λb=>WR) (λb hb=>?_) q2;rcases hb with hb|hb;exact hb▸ha;exact(p b).mpr (.inr (I b hb))
theorem eg{p:Addr}(f:Same F H)(X:H p=none)(r:Tr K F H true v t Z)(ry:Rep K F J y)(h:rg y t N)
  (k:∀s' l S1,(∀b u,H b=some u->¬ Z b->l b=some u)->(∀b,l b=none->H b=none)->Tr K F l true v s' S1->(∀b,S1 b->Z b∨b=p)->N s'->R l):UK K v [J,.ref p] (UA H p (.dT 0 [])) λ_ l=>R l:=by
 obtain⟨ks,ts,rfl,hk,hl,h⟩:=h;cases r with
 |@dct _ _ a o _ vs _ _ S' h1 dk h2 h3 h4 h5 =>
  have ha:Z a:=(h5 a).mpr (.inl rfl);obtain⟨ep,w,rfl,rfl,rfl,d4,d5⟩:=dk;have ap:a≠p:=aA h1 X;have fp:F p=none:=f.free X;have sm:Same H (UA H p (.dT 0 [])):=CB X;cases yQ hk ry with
  |intro q hh =>
   obtain⟨c,rfl,rfl,hq⟩:=hh;have vf:=fG q w;refine⟨a,c,.ref p,ep,w,q,rfl,rfl,(vA ap).trans h1,λx g=>(f.trans sm).key (d4 x g),(f.trans sm).key hq,by simpa using hl,λu eu=>?_,λen I=>?_⟩;rcases h with⟨n,e,q⟩| ⟨e,q⟩
   ·have r0:Tr K F H true (.ref a) (.dct true (w.map λp=>tD p.1) ts) Z:=.dct h1 ⟨ep,w,rfl,rfl,rfl,d4,d5⟩ h2 h3 h4 h5
    refine k _ _ Z (λb u e _=>sm b u e) (λb e=>YB b e) (r0.mono (.refl _) λb hb=>⟨vA λz=>(r0.dom b hb).1 (by rw[z];exact X),(r0.dom b hb).2⟩) (λb hb=>.inl hb) q
   rw[e]at vf;rw[vf]at eu;cases eu;rcases h with⟨n,e,q⟩| ⟨e,q2⟩
   ·have hn:=VC e
    rw[e]at vf;have:n<w.length:=by have:=(Qf.mp hn).1;simpa using this
    rw[vf]at en;have en:(w.map (·.2.2))[n]?=none:=en;rw[List.getElem?_eq_none_iff,QD]at en;omega
   have ep2:VL w q c (.ref p)=w++[(q,c,.ref p)]:=by unfold VL;rw[en];rfl
   rw[ep2];have np:¬ S' p:=λz=>(h3.dom p z).1 X;have g0:Tr K F (UA H p (.dT 0 [])) true (.ref p) (.dct true [] []) λb=>b=p :=
    .dct (S':=λ_=>False) (vs:=[]) iA ⟨0,[],rfl,rfl,rfl,λ_ z=>(nomatch z),Q7⟩ fp (.nil λ_ z=>z) (λz=>z) λb=>by simp
   have g3:Trs K F (UA H p (.dT 0 [])) true (w.map (·.2.2)) ts S':=h3.mono (.refl _) λb hb=>⟨vA λz=>np (z▸hb),(h3.dom b hb).2⟩
   have g1:=Trs.append g3 (Trs.one g0) λb hb z=>np (z▸hb);have dk':NJ K F true (.dT I (w++[(q,c,.ref p)])) ((w.map λp=>tD p.1)++[tD q]) (w.map (·.2.2)++[.ref p]):=by
    refine⟨I,_,rfl,by simp,by simp,λx g=>?_,?_⟩;rcases Qh.mp g with g|g
    ·exact d4 x g
    rw[QJ.mp g];exact hq;rw[QO];refine bI d5 λm=>OA.mp e ?_;obtain⟨x,g,ex⟩:=QU.mp m;exact QU.mpr ⟨x,g,by rw[ex]⟩
   refine k _ _ _ (λb u e hb=>?_) (λb e=>YB b (YB b e)) (tQ h2 dk' g1 λz=>z.elim h4 ap) (λb hb=>?_) q2;rw[vA λz=>hb (by rw[z];exact ha)];exact sm b u e;rcases hb with hb|hb|hb
   ·exact .inl (hb▸ha)
   exact .inl ((h5 b).mpr (.inr hb));exact .inr hb
end
end
section
variable{K:QA}{Γ:Ev}{Ψ:PEv}
section
variable{p:PX}{F H:Hp}{S:Ft}{ρ:kA}{Z:lB}
noncomputable abbrev tZ(K:QA)(Γ:Ev)(Ψ:PEv)(p:PX):Prop:=∀{E:XE}{x:XK}{F H:Hp}{S:Ft}{ρ:kA}{h:St}{Q:TK}{R:VK},Rl K F H S ρ h->zF K F H S ρ E x->(pe Ψ p E).e ρ Q->kB K (KG p) F H S ρ h Q R->(wp K Γ p x).e h H R
theorem kU(f:tZ K Γ Ψ p){E:XE}{w:XK}{σ:St}{Q:Bool->kA->Prop}{R:Bool->Hp->Prop}(I:Rl K F H S ρ σ)(X:zF K F H S ρ E w)(h:(pe Ψ p E).e ρ λt _ y=>FH t.er λb=>Q b y)(k:jJ K F H S ρ σ Q R) :
  (wp K Γ p w).e σ H λx i=>UG K x i R :=
 f I X h λv l j g z t n Z s u r q=>kW (r.tr.rep u.fh) q λc a=>k c l j g z s u a
theorem PSnd.of_e(w:∀E ρ Q,(pe Ψ p E).t ρ Q=(pe Ψ p E).e ρ λt _ y=>FH t.er λb=>Q b y)(z:∀v σ H R,(wp K Γ p v).t σ H R=(wp K Γ p v).e σ H λx g=>UG K x g R)(f:∀E,(pe Ψ p E).a=gF.a)(u:tZ K Γ Ψ p):PSnd K Γ Ψ p where
 e:=u
 t:=λI X h k=>by rw[w]at h;rw[z];exact kU u I X h k
 a:=λI X _ h k=>by rw[f]at h;exact h.elim
theorem PSnd.of_0(x:∀E,(pe Ψ p E).t=gF.t)(z:∀E,(pe Ψ p E).a=gF.a)(y:tZ K Γ Ψ p):PSnd K Γ Ψ p where
 e:=y
 t:=λI X h k=>by rw[x]at h;exact h.elim
 a:=λI X _ h k=>by rw[z]at h;exact h.elim
theorem PSnd.of_t(l:∀E ρ Q,(pe Ψ p E).e ρ Q=(pe Ψ p E).t ρ λb u=>Q (.d (.bool b)) false u)(v:∀z σ H R,(wp K Γ p z).t σ H R=(wp K Γ p z).e σ H λx n=>N6 x n R)(m:∀E,(pe Ψ p E).a=gF.a)
  (f:∀{E:XE}{z:XK}{F H:Hp}{S:Ft}{ρ:kA}{σ:St}{Q:Bool->kA->Prop}{R:VK},Rl K F H S ρ σ->zF K F H S ρ E z->(pe Ψ p E).t ρ Q->jJ K F H S ρ σ Q (λb=>R (.bl b))->(wp K Γ p z).e σ H R):PSnd K Γ Ψ p where
 e:=λI X h k=>by rw[l]at h;exact f I X h λb j i g y s w q=>kB.d k s w (.bl b) q
 t:=λI X h k=>by rw[v];exact f I X h λb j i g y s w q=>k b j i g y s w q
 a:=λI X _ h k=>by rw[m]at h;exact h.elim
theorem Eb(i:Nat):tZ K Γ Ψ (.xz i):=by
 intro E a F H S ρ y Q R I X h k;have x:Ep ρ[i]? λt=>Q t false ρ:=h;show(match y[i]? with|some (some v)=>R v H|_=>False);have key:∀s,ρ[i]?=some (some s)->Q s.t false ρ->(match y[i]? with|some (some v)=>R v H|_=>False):=λs e q=>by obtain⟨v,w,u⟩:=I.sl i _ e;rw[w];exact k v F H S ρ s.t false (S i) .refl I ⟨u.weak,λz=>(by cases z),λ_ b hb=>⟨i,s,QJ.mpr rfl,e,hb⟩,λz=>(by cases z)⟩ q
 unfold Ep at x;split at x;rename_i e;exact key _ e x;rename_i e;exact key _ e x;exact x.elim;exact x.elim
theorem Dh{m:Mt}{v:V}{s:T}(h:isMut m=true)(x:cI m s=true)(r:Tr K F H true v s Z):JZ K m.ty v H:=by
 unfold cI at x;split at x;cases r with
 |lst y _ _ _ _ =>
  refine .inl ⟨?_,_,HC.of y⟩;cases m with|append=>rfl|pop=>rfl|extend=>rfl|_=>cases x
 cases x
theorem Br{m:Mt}{o g:PX}(io:PSnd K Γ Ψ o)(ia:PSnd K Γ Ψ g):tZ K Γ Ψ (.mt m o g):=by
 intro E EK F H S ρ L Q R I X h k;show(wp K Γ o EK).e L H λx J=>JZ K m.ty x J/\(wp K Γ g EK).a L J λA l=>R9 K m x A l R;cases hm:isMut m with
 |false =>
  have h:(pe Ψ o E).e ρ λx n M=>P9 m (pA x n).vw=true/\sq (pA x n) M ((pe Ψ g E).a []) λf y=>Cr m (pA x n).vw (IB f) λz k=>Q z k y:=by have C:(if isMut m=true then _ else _):=h;rw[hm,if_neg (by simp)]at C;exact C
  refine il (P1:=λx n=>P9 m (pA x n).vw=true) (R1:=λv J=>JZ K m.ty v J) (RR:=λv A l=>R9 K m v A l R) io ia I X h (λv F' H' x n Za r p=>on r p) λv A F' H' S' ρ' x n f Za Y s I' X' r _ tn q=>?_;rw[zL _ rfl]at q;exact Fh s I' r tn q k
 |true =>
  have h:gc (G1 o) λj=>PC ρ[j]? λt=>cI m t=true/\(pe Ψ g E).a [] (ρ.set j (some (.ky t))) λf y=>fE f=true/\y[j]?=some (some (.ky t))/\rK m t (cF f) λr s'=>Q r true (y.set j (some (.own s'))):=by have C:(if isMut m=true then _ else _):=h;rw[hm,if_pos rfl]at C;exact C
  cases o with
  |xz j =>
   have h:PC ρ[j]? _:=h;unfold PC at h;split at h;rename_i t u;obtain⟨ht,q1⟩:=h;obtain⟨v0,hv,B⟩:=I.sl j _ u;have IL:=I.lock1 u;have n0:=I.lock1U u;have B:Tr K F H true v0 t (S j):=B;have XL:=X.lock1 u;show(match L[j]? with|some (some v)=>_|_=>False);rw[hv];refine⟨Dh hm ht B,?_⟩;refine ia.a (md:=[]) IL XL (λj u=>by cases g<;>cases u) q1 λA F2 l S2 y f W Y N I2 G _ P=>?_;obtain⟨he,hj2,P⟩:=P;have r2:Tr K F2 l true v0 t (S j):=N.toStp.keep B n0;have hw:=G.held;have trs:=G.av.trs Uh he;have wS:∀b,S j b->¬ W b:=λb hb hb2=>by rcases G.fr b hb2 with q|q;exact(B.dom b hb).1 q;exact n0 b hb q
   refine M9 I2.fh r2 trs wS P λw r s' H3 S3 Zr hh dm O rr dz hf q=>?_;obtain⟨st,I3,nw⟩:=IH I u hv N I2 hh dm O (λb hb=>hf b (.inl hb)) hw G.fr;have zr:∀b,Zr b->S j b∨W b∨l b=none:=λb hb=>hf b (.inr hb);refine k w F2 H3 _ _ r true Zr st I3 ⟨rr,λ_ b hb=>?_,λz=>(by cases z),λ_ i sl e b hb z=>?_⟩ q;rcases zr b hb with q|q|q
   ·exact .inr ⟨j,t,u,q⟩
   exact(G.fr b q).imp id (lock1U u);exact .inl (N.dm b q);rcases dA e with⟨rfl,_,_⟩| ⟨n,e⟩
   ·rw[MA]at z
    exact dz b hb z
   rw[YA (qD n)]at z;exact nw b (zr b hb) i sl (qD n) e z
   all_goals exact h.elim
  |_=>exact h.elim
theorem kB.dct{ws:LN}{F H x y:Hp}{S S1:Ft}{ρ h:kA}{σ:St}{Q:TK}{R:VK}(k:kB K ws F H S ρ σ Q R)(s:Ste F H S ρ x y S1 h)(I:Rl K x y S1 h σ){p:Addr}(g:H p=none)(m:x p=none)(j:Held x y S1 h λb=>b=p){o:HO}{b:Bool}{ks:List D}{vs:LV}{ts:LT}{W:lB}(dk:NJ K x b o ks vs)(r:Trs K x y true vs ts W)
  (fr:∀b,W b->H b=none∨U ρ S b) (f:Held x y S1 h W) (a:¬ W p) (q:Q (.dct b ks ts) true h):R (.ref p) (UA y p o):=by
 have Y:∀b u,H b=some u->b≠p:=λb u e=>aA e g;have X:Ste F H S ρ x (UA y p o) S1 h:=⟨⟨s.ff,λb u e n=>by rw[vA (Y b u e)];exact s.hh b u e n,λb e=>s.dm b (YB b e),s.fn,s.uu,s.bo⟩,s.ow⟩
 have B:Rl K x (UA y p o) S1 h σ:=⟨λb u e=>by rw[vA λz=>by rw[z,m]at e;cases e];exact I.fh b u e,I.len,λi w e=>by obtain⟨v,A,l⟩:=I.sl i w e;exact⟨v,A,l.mono (.refl _) λb hb=>⟨vA λz=>j.nw i w e b z hb,(l.dom b hb).2⟩⟩,I.dj⟩
 refine k _ x _ S1 h _ true (λb=>b=p∨W b) X B ⟨.dct iA dk m (r.mono (.refl _) λb hb=>⟨vA λz=>a (z▸hb),(f.dom b hb).2⟩) a (λb=>WR),λ_ b hb=>?_,λz=>(by cases z),λ_ i w e b hb z=>?_⟩ q;rcases hb with hb|hb
 ·exact .inl (hb▸g)
 exact fr b hb;rcases hb with hb|hb
 ·exact j.nw i w e b hb z
 exact f.nw i w e b hb z
theorem VR.strict{u y:Hp}{S1:Ft}{h:kA}{ws:LN}{v:V}{t:T}{n:Bool}(r:VR K ws H S ρ u y S1 h v t n Z)(e:tH t n=true):∃W,Tr K u y true v t W/\Held u y S1 h W/\∀b,W b->H b=none∨U ρ S b:=by
 cases n with
 |true=>exact⟨Z,r.tr,r.held,r.fr rfl⟩|false =>
  have w:=r.tr;cases t with
  |d x=>cases w with|d q _=>exact⟨λ_=>False,.d q λ_ z=>z,.none,λ_ z=>z.elim⟩
  |_=>cases e
theorem iS{σ:St}(I:Rl K F H S ρ σ){p:Addr}(h:H p=none)(o:HO):Held F (UA H p o) S ρ λb=>b=p :=
 ⟨λb hb=>⟨by rw[hb,iA];simp,by rw[hb];exact I.fh.free h⟩,λi x e b hb z=>(I.dom e z).1 (by rw[hb];exact h)⟩
theorem IA(g:GOk K Γ Ψ):∀(p:PX),PSnd K Γ Ψ p
 | .xz i=>⟨Eb i,λI X h k=>kU (Γ:=Γ) (Ψ:=Ψ) (Eb i) I X h k,λI X _ h k=>h.elim⟩|.int i=>⟨λI X h k=>kB.d k .refl I (.int i) h,λI X h k=>k _ _ _ _ _ .refl I h,λI X _ h k=>h.elim⟩|.str x=>⟨λI X h k=>kB.d k .refl I (.str x) h,λI X h k=>h.elim,λI X _ h k=>h.elim⟩|.bl b=>⟨λI X h k=>kB.d k .refl I (.bl b) h,λI X h k=>k _ _ _ _ _ .refl I h,λI X _ h k=>h.elim⟩|.non=>⟨λI X h k=>kB.d k .refl I .non h,λI X h k=>k _ _ _ _ _ .refl I h,λI X _ h k=>h.elim⟩|.glo x=>.of_e (λ_ _ _=>rfl) (λ_ _ _ _=>rfl) (λ_=>rfl) λ{E N F H S ρ G Q R} I X h k=>by have h:(match Ψ.va x with|some d=>Q (.d d) false ρ|none=>False):=h;split at h;rename_i d e;exact kB.d k .refl I (g.va x d e F) h;exact h.elim
 | .bin op a b=>.of_e (λ_ _ _=>rfl) (λ_ _ _ _=>rfl) (λ_=>rfl) λ{E N F H S ρ G Q R} I X h k =>
  i0 (P:=λx n y m J=>binT op (pA x n).vw (pA y m).vw λz k=>Q z k J) (RR:=λx y H2=>Ub K op x y H2 R) (IA g a) (IA g b) I X h λv w F' H' S' B x n y m Za Zb s C X' ra _ rb q=>bj s C ra rb q k
 | .cmp op a b=>.of_t (λ_ _ _=>rfl) (λ_ _ _ _=>rfl) (λ_=>rfl) λ{E N F H S ρ G Q R} I X h k =>
  i0 (P:=λx n y m J=>zb op x.er (pA y m) λk=>Q k J) (RR:=λx y H2=>V6 K op x y H2 R) (IA g a) (IA g b) I X h λv w F' H' S' B x n y m Za Zb s C X' ra _ rb q =>
   yb C.fh (by have:=ra.rep C.fh;rwa [mX]at this) rb q λc qc=>k c F' H' S' B s C qc
 | .and a b=>⟨λ{E N F H S ρ G Q R} I X h k=>by
   refine(IA g a).e (Q:=λx _ A=>sj x.er λc=>if c=true then(pe Ψ b E).e A Q else Q (.d (.bool false)) false A) (R:=λx M=>N6 x M λc H2=>if c=true then(wp K Γ b N).e G H2 R else R (.bl false) H2) I X h λv F' H' S' B x n Z s C r q=>?_;refine M6 (r.tr.rep C.fh) q λc qc=>?_;cases c with|false=>exact kB.d k s C (.bl false) qc|true=>exact(IA g b).e C (X.from s.toStp) qc ((k.from s).vars λi hi=>Qb _ hi),
  λ{E N F H S ρ G Q R} I X h k=>by
   refine(IA g a).t (Q:=λc A=>if c=true then(pe Ψ b E).t A Q else Q false A) (R:=λc M=>if c=true then(wp K Γ b N).t G M R else R false M) I X h λc F' H' S' B s C qc=>?_;cases c with|false=>exact k _ F' H' S' B s C qc|true=>exact(IA g b).t C (X.from s.toStp) qc (jJ.from k s),λI X _ h k=>h.elim⟩
 | .or a b=>⟨λ{E N F H S ρ G Q R} I X h k=>by
   refine(IA g a).e (Q:=λx _ A=>sj x.er λc=>if c=true then Q (.d (.bool true)) false A else(pe Ψ b E).e A Q) (R:=λx M=>N6 x M λc H2=>if c=true then R (.bl true) H2 else(wp K Γ b N).e G H2 R) I X h λv F' H' S' B x n Z s C r q=>?_;refine M6 (r.tr.rep C.fh) q λc qc=>?_;cases c with|true=>exact kB.d k s C (.bl true) qc|false=>exact(IA g b).e C (X.from s.toStp) qc ((k.from s).vars λi hi=>Qb _ hi),
  λ{E N F H S ρ G Q R} I X h k=>by
   refine(IA g a).t (Q:=λc A=>if c=true then Q true A else(pe Ψ b E).t A Q) (R:=λc M=>if c=true then R true M else(wp K Γ b N).t G M R) I X h λc F' H' S' B s C qc=>?_;cases c with|true=>exact k _ F' H' S' B s C qc|false=>exact(IA g b).t C (X.from s.toStp) qc (jJ.from k s),λI X _ h k=>h.elim⟩
 | .not a=>⟨λ{E N F H S ρ G Q R} I X h k=>by
   refine(IA g a).e (Q:=λx _ A=>FH x.er λc=>Q (.d (.bool (!c))) false A) (R:=λx M=>UG K x M λc H2=>R (.bl (!c)) H2) I X h λv F' H' S' B x n Z s C r q=>?_;exact kW (r.tr.rep C.fh) q λc qc=>kB.d k s C (.bl _) qc,
  λ{E N F H S ρ G Q R} I X h k=>(IA g a).t (Q:=λc A=>Q (!c) A) (R:=λc M=>R (!c) M) I X h λc F' H' S' B s C qc=>k _ F' H' S' B s C qc,λI X _ h k=>h.elim⟩
 | .call f O=>.of_e (λ_ _ _=>rfl) (λ_ _ _ _=>rfl) (λ_=>rfl) λ{E N F H S ρ G Q R} I X h k=>Jb g (IA g O) I X h k|.bi f O=>.of_e (λ_ _ _=>rfl) (λ_ _ _ _=>rfl) (λ_=>rfl) λ{E N F H S ρ G Q R} I X h k =>
  HV (P:=λxs A=>XX f (IB xs) λz k=>Q z k A) (RR:=λvs M=>Eo K f vs M R) (IA g O) I X h λvs F' H' S' B xs Y s C X' tn _ q=>by rw[zL _ rfl]at q;exact pj s C tn q k
 | .mt m o O=>.of_e (λ_ _ _=>rfl) (λ_ _ _ _=>rfl) (λ_=>rfl) (Br (IA g o) (IA g O))|.idx a b=>by
  have he:tZ K Γ Ψ (.idx a b):=λ{E N F H S ρ G Q R} I X h k =>
   i0 (P:=λx n y m J=>(sN (pA x n).vw (pA y m).vw λz=>Q z false J)∨(CS (pA x n).vw y.er λz=>Q z false J)) (RR:=λx y H2=>dY K x y H2 R) (IA g a) (IA g b) I X h λv w F' H' S' B x n y m Za Zb s C X' ra za rb q=>by rcases q with q|q;exact fi s C ra za rb q k;exact Oi s C ra za (by have:=rb.rep C.fh;rwa [mX]at this) q k
  exact⟨he,λI X h k=>kU he I X h k,λI X _ h k=>h.elim⟩
 | .slc a lo hi=>.of_0 (λ_=>rfl) (λ_=>rfl) λ{E N F H S ρ G Q R} I X h k=>by
  have part:∀(p:PX),PSnd K Γ Ψ p->∀{F H:Hp}{S:Ft}{ρ:kA}{x:T}{P:Option Int->kA->Prop}{RP:Option Int->Hp->Prop},Rl K F H S ρ G->zF K F H S ρ E N ->
    sq (α:=Option Int) x ρ (if isNop p=true then λρ (R:Option Int->kA->Prop)=>R none ρ else λρ R=>(pe Ψ p E).e ρ λl _ J=>aF l.er λo=>R o J) P ->
    (∀o F' H' S' B,Ste F H S ρ F' H' S' B->Rl K F' H' S' B G->(∀st v Zx,Tr K F H st v x Zx->Tr K F' H' st v x Zx)->P o B->RP o H') ->
    (if isNop p=true then λ(R:Option Int->Hp->Prop)=>R none H else λR=>(wp K Γ p N).e G H λl H2=>OL l H2 R) RP:=by
   intro p ip F H S ρ x P RP I X h k;cases hn:isNop p with
   |true=>simp only[hn,if_true]at h ⊢;refine k none F H S ρ .refl I (λ_ _ _ r=>r) ?_;unfold sq at h;split at h<;>exact h|false =>
    simp only[hn,Qr,if_false]at h ⊢;have h2:sq x ρ (cu (pe Ψ p E).e) λy B=>aF y.1.er λo=>P o B:=by unfold sq at h ⊢;exact h
    refine Ol ip I X h2 λw F' H' S' B y m Z s C kp _ r q=>E8 (r.tr.rep C.fh) q λo qo=>k o F' H' S' B s C kp qo
  refine iF (IA g a) I X h λv F1 M S1 A x n Za s1 I1 X1 r1 _ z1 h1=>?_;refine part lo (IA g lo) I1 X1 h1 λl F2 H2 S2 J s2 I2 k2 h2=>?_;refine part hi (IA g hi) I2 (X1.from s2.toStp) h2 λu F3 H3 S3 ρ3 s3 I3 k3 h3=>?_;exact dg (s1.trans (s2.trans s3)) I3 (k3 _ _ _ (k2 _ _ _ r1)) h3 k
 | .nop=>⟨λI X h k=>h.elim,λI X h k=>h.elim,λI X _ h k=>h.elim⟩|.lst O=>.of_0 (λ_=>rfl) (λ_=>rfl) λ{E N F H S ρ G Q R} I X h k=>by refine(IA g O).a (md:=[]) (R:=λxs M=>xs.length<=sizeLine/\∀p,M p=none->R (.ref p) (UA M p (.lst xs))) I X (λj hj=>by cases O<;>cases hj) h λvs F' H' S' B xs W Y s C r _ q=>?_;exact⟨by rw[r.av.length];exact q.2.1,λp hp=>kB.list k s C hp (r.av.trs Uh q.1) r.fr r.held q.2.2⟩|.tup O=>.of_0 (λ_=>rfl) (λ_=>rfl) λ{E N F H S ρ G Q R} I X h k=>by refine(IA g O).a (md:=[]) (R:=λxs M=>xs.length<=sizeLine/\∀p,M p=none->R (.ref p) (UA M p (.tup xs))) I X (λj hj=>by cases O<;>cases hj) h λvs F' H' S' B xs W Y s C r _ q=>?_;exact⟨by rw[r.av.length];exact q.2.1,λp hp=>kB.tup k s C hp (r.av.trs Uh q.1) r.fr r.held q.2.2⟩|.comp mask tgs tg ik its cond elt=>.of_0 (λ_=>rfl) (λ_=>rfl) λ{E N F H S ρ G Q R} I X h k=>by
  refine HV (RR:=λvs M=>mC K ik vs M λxs st H2=>OX K xs st tg (if isNop cond=true then λ_ H Q=>Q true H else(wp K Γ cond (λ_ _ _=>False)).t) (wp K Γ elt (λ_ _ _=>False)).e (JI tgs.length mask G) H2 R) (IA g its) I X h λvs F1 M S1 A xs Y s1 I1 X1 tn tm q1=>?_;rw[zL _ rfl]at q1;refine JJ I1.fh tn q1 λxs ys st pr hst hc=>?_;refine J6 (us:=KG elt) ?_ ?_ s1 I1 pr (λb hb=>?_) hst hc k;intro F H S ρ G Q R I h k;cases hn:isNop cond with|true=>simp only[hn,if_true]at h ⊢;exact k true F H S ρ .refl I h|false=>simp only[hn,Qr,if_false]at h ⊢;exact(IA g cond).t I zF.never h k
  intro F H S ρ G Q R I h k;exact(IA g elt).e I zF.never h k;obtain⟨i,sl,_,h2,h3⟩:=tm b hb;exact I1.dom h2 h3
 | .dnew b=>.of_0 (λ_=>rfl) (λ_=>rfl) λ{E N F H S ρ G Q R} I X h k=>by
  intro p hp;have hh:=iS I hp (.dT 0 []);have e:=kB.dct (o:=.dT 0 []) (b:=b) (ks:=[]) (vs:=[]) (ts:=[]) (W:=λ_=>False) k (Ste.refl.new hp (.dT 0 [])) (I.new hp _) hp (I.fh.free hp) hh ?_ (.nil λ_ z=>z) (λ_ z=>z.elim) .none (λz=>z) h;rw[O7]at e;exact e;cases b with
  |true=>exact⟨0,[],rfl,rfl,rfl,λ_ z=>(nomatch z),Q7⟩
  |false=>exact .inr ⟨0,rfl,rfl,rfl⟩
 | .dsp a b=>.of_0 (λ_=>rfl) (λ_=>rfl) λ{E N F H S ρ G Q R} I X h k=>by
  intro p hp;have hh:=iS I hp (.dT 0 []);have s0:Ste F H S ρ F (UA H p (.dT 0 [])) S ρ:=Ste.refl.new hp _;refine iF (IA g a) (I.new hp _) (X.from s0.toStp) h λy F1 M S1 A x n Z s1 I1 X1 _ er _ ⟨he,q1⟩=>?_;have hh1:=hh.step s1.toStp I1;have ry:=er he;refine(IA g b).e I1 X1 q1 λv F2 H2 S2 J t m Zb s2 I2 r2 q2=>?_;have hh2:=hh1.step s2.toStp I2;obtain⟨he2,hk,q2⟩:=q2;obtain⟨W,rw,hw,frw⟩:=(r2.from s1.toStp).strict he2;have hp2:H2 p=some (.dT 0 []):=s2.hh p _ (s1.hh p _ iA (hh.nu p rfl)) (hh1.nu p rfl);have np:¬ W p:=λz=>by rcases frw p z with q|q;rw[iA]at q;cases q;exact hh.nu p rfl q
  have ry2:=ry.mono s2.ff;refine⟨hp2,?_⟩;generalize x.er=d at hk ry2 q2;cases yQ hk ry2 with|intro ks hh=>obtain⟨c,rfl,rfl,hq⟩:=hh;refine⟨c,ks,rfl,I2.fh.key hq,λep=>?_⟩;exact kB.dct (o:=.dT ep [(ks,c,v)]) (b:=true) (vs:=[v]) (ts:=[t]) k (s0.trans (s1.trans s2)) I2 hp (hh2.dom p rfl).2 hh2 ⟨ep,_,rfl,rfl,rfl,λz hz=>by rw[QJ.mp hz];exact hq,by simp⟩ (Trs.one rw) (λb hb=>by rcases frw b hb with q|q;exact .inl (YB b q);exact .inr q) hw np q2
 | .nz=>⟨λI X h k=>h.elim,λI X h k=>h.elim,λ{E N F H S ρ G md Q R} I X _ h k=>k [] F H S ρ [] (λ_=>False) (λ_=>False) .refl I ⟨.nil λ_ z=>z,λ_ z=>z.elim,λ_ z=>z.elim,λ_ _ _ _ z=>z.elim⟩ (by cases md with|nil=>rfl|cons m r=>cases m<;>rfl) h⟩
 | .ny a O=>⟨λI X h k=>h.elim,λI X h k=>h.elim,λ{E N F H S ρ G md Q R} I X hm h k=>by
  show(wp K Γ a N).e G H λx M=>(wp K Γ O N).a G M λxs H2=>R (x::xs) H2;have vr2:∀i∈KG O,i∈KG (.ny a O):=λi hi=>Qb _ hi;cases L:(md.headD .xx).isMut with
  |true =>
   have h2:B5 a=true/\(pe Ψ O E).a md.tail ρ λxs A=>Q ((.d .none,true)::xs) A:=by have h3:(if(md.headD .xx).isMut=true then _ else _):=h;rw[L,if_pos rfl]at h3;exact h3
   obtain⟨m,md',rfl⟩:∃m md',md=m::md':=by
    cases md with|nil=>cases L|cons m md'=>exact⟨m,md',rfl⟩
   have em:m=.chg:=by have L:m.isMut=true:=L;cases m<;>first|rfl|cases L
   subst em;cases a with
   |xz j=>obtain⟨v,hv⟩:=hm j (show j∈j::uA md' O from QF);show(match G[j]? with|some (some v)=>_|_=>False);rw[hv];refine(IA g O).a I X (λi hi=>hm i (QE _ hi)) h2.2 λvs F' H' S' B xs W Y s C r mv q=>?_;refine k (v::vs) F' H' S' B _ W Y s C ⟨.chg L r.av,r.fr,(r.vars vr2).tm,r.nw⟩ ?_ q;show(some (some v))::(fB md' vs).map _=G[j]?::(uA md' O).map _;have mv:(fB md' vs).map (λv=>some (some v))=(uA md' O).map (λj=>G[j]?):=mv;rw[hv,mv]
   |_=>exact absurd h2.1 (by simp[B5])
  |false =>
   have h2:(pe Ψ a E).e ρ λx n A=>sq (α:=List (T×Bool)) (if n=true then .d .none else x) A ((pe Ψ O E).a md.tail) λxs J=>Q ((x,n)::xs) J:=by have h3:(if(md.headD .xx).isMut=true then _ else _):=h;rw[L,if_neg (by simp)]at h3;exact h3
   have hroots:uA md (.ny a O)=uA md.tail O:=by
    cases md with|nil=>cases O<;>rfl|cons m md'=>have L:m.isMut=false:=L;cases m<;>first|rfl|cases L
   have hmv:∀v vs,fB md (v::vs)=fB md.tail vs:=λv vs=>by unfold fB;generalize md.headD .xx=m at L;cases m<;>first | (cases vs<;>rfl)|cases L
   refine(IA g a).e I X h2 λv F1 M S1 A x n Z s1 I1 r1 q1=>?_;refine Pl (IA g O) I1 (X.from s1.toStp) (λi hi=>hm i (by rw[hroots];exact hi)) q1 λvs F2 H2 S2 J xs W Y s2 I2 kp hs r2 mv q2=>?_;have s12:=s1.trans s2;have r2':=(r2.from s1.toStp).vars vr2;have mv':(fB md (v::vs)).map (λv=>some (some v))=(uA md (.ny a O)).map (λj=>G[j]?):=by rw[hroots,hmv];exact mv
   cases n with
   |true =>
    have hd:=r1.held;have hd2:=hd.step s2.toStp I2;refine k (v::vs) F2 H2 S2 J _ (λb=>Z b∨W b) Y s12 I2 ⟨.new L (s2.toStp.keep r1.tr hd.nu) r2.av (λb hb hw=>?_) λb=>WR,λb hb=>?_,r2'.tm,λi sl e b hb=>?_⟩ mv' q2;rcases r2.fr b hw with q|q
    ·exact(hd.dom b hb).1 q
    exact hd.nu b hb q;rcases hb with hb|hb
    ·exact r1.fr rfl b hb
    exact r2'.fr b hb;rcases hb with hb|hb
    ·exact hd2.nw i sl e b hb
    exact r2.nw i sl e b hb
   |false =>
    have za:∀b,Z b->∃(i:Nat) (s:Sl),i∈KG a/\J[i]?=some (some s)/\S2 i b:=by
     cases hd:x.isD with
     |true =>
      intro b hb;exfalso;have tr:=r1.tr;cases x with
      |d x=>cases tr with|d r n=>exact n b hb
      |_=>cases hd
     |false=>obtain⟨e1,e2⟩:=hs hd;rw[e1,e2];exact r1.tm rfl
    refine k (v::vs) F2 H2 S2 J _ W (λb=>Z b∨Y b) s12 I2 ⟨.tmp L (kp _ _ _ r1.tr) (λb hb=>.inl hb) (r2.av.sub λb hb=>.inr hb),r2'.fr,λb hb=>?_,r2.nw⟩ mv' q2;rcases hb with hb|hb;obtain⟨i,sl,h1,h2⟩:=za b hb;exact⟨i,sl,Qp _ h1,h2⟩;exact r2'.tm b hb⟩
end
end
structure Sts(C J:LN)(F H:Hp)(S:Ft)(ρ:kA)(σ:St)(F' H':Hp)(S':Ft)(ρ':kA)(σ':St):Prop where
 ff:Same F F'
 hh:∀b u,H b=some u->¬ U ρ S b->H' b=some u
 dm:∀b,H' b=none->H b=none
 fn:∀b,F b=none->F' b≠none->U ρ S b∨H b=none
 uu:∀b,U ρ' S' b->U ρ S b∨H b=none
 bo:∀(j:Nat) t,j∉J->ρ'[j]?=some (some (.ky t))->t.isD=false->ρ[j]?=some (some (.ky t))/\S' j=S j/\σ'[j]?=σ[j]?
 sg:∀j∈C,σ'[j]?=σ[j]?
structure Stc(C:LN)(F H:Hp)(S:Ft)(ρ:kA)(σ:St)(F' H':Hp)(S':Ft)(ρ':kA)(σ':St):Prop where
 ff:Same F F'
 hh:∀b u,H b=some u->¬ U ρ S b->H' b=some u
 dm:∀b,H' b=none->H b=none
 fn:∀b,F b=none->F' b≠none->U ρ S b∨H b=none
 uu:∀b,U ρ' S' b->U ρ S b∨H b=none
 sg:∀j∈C,σ'[j]?=σ[j]?
section
variable{K:QA}{Γ:Ev}{Ψ:PEv}{E:XE}{L:XK}{F H m p A G:Hp}{S S1 B:Ft}{ρ y X:kA}{σ g Y:St}{C J:LN}
section
variable{t:T}{Z:lB}{i:Nat}
theorem Stp.sts(s:Stp F H S ρ m p S1 y):Sts C J F H S ρ σ m p S1 y σ:=⟨s.ff,s.hh,s.dm,s.fn,s.uu,λj t _ e h=>let⟨z,x⟩:=s.bo j t e h;⟨z,x,rfl⟩,λ_ _=>rfl⟩
theorem Sts.refl:Sts C J F H S ρ σ F H S ρ σ:=Stp.refl.sts
theorem Sts.trans(a:Sts C J F H S ρ σ m p S1 y g)(b:Sts C [] m p S1 y g A G B X Y):Sts C J F H S ρ σ A G B X Y where
 ff:=a.ff.trans b.ff
 hh:=λx u h n=>b.hh x u (a.hh x u h n) λz=>by rcases a.uu x z with q|q;exact n q;rw[q]at h;cases h
 dm:=λx h=>a.dm x (b.dm x h)
 fn:=λx h z=>by
  by_cases q:m x=none;rcases b.fn x q z with w|w
  ·exact a.uu x w
  exact .inr (a.dm x w);exact a.fn x h q
 uu:=λx h=>by rcases b.uu x h with w|w;exact a.uu x w;exact .inr (a.dm x w)
 bo:=λj t v h n=>by obtain⟨r,o,l⟩:=b.bo j t (by simp) h n;obtain⟨f,e,k⟩:=a.bo j t v r n;exact⟨f,o.trans e,l.trans k⟩
 sg:=λj v=>(b.sg j v).trans (a.sg j v)
theorem Sts.c(s:Sts C J F H S ρ σ m p S1 y g):Stc C F H S ρ σ m p S1 y g:=⟨s.ff,s.hh,s.dm,s.fn,s.uu,s.sg⟩
theorem Stc.trans(a:Stc C F H S ρ σ m p S1 y g)(b:Stc C m p S1 y g A G B X Y):Stc C F H S ρ σ A G B X Y where
 ff:=a.ff.trans b.ff
 hh:=λx u h n=>b.hh x u (a.hh x u h n) λz=>by rcases a.uu x z with q|q;exact n q;rw[q]at h;cases h
 dm:=λx h=>a.dm x (b.dm x h)
 fn:=λx h z=>by
  by_cases q:m x=none;rcases b.fn x q z with w|w
  ·exact a.uu x w
  exact .inr (a.dm x w);exact a.fn x h q
 uu:=λx h=>by rcases b.uu x h with w|w;exact a.uu x w;exact .inr (a.dm x w)
 sg:=λj v=>(b.sg j v).trans (a.sg j v)
theorem zF.fromS(h:zF K F H S ρ E L)(s:Sts C J F H S ρ σ m p S1 y g):zF K m p S1 y E L:=λx k A G B X v f r q =>
 h x k A G (λ_ _=>False) [] ⟨s.ff.trans v.ff,λb u e n=>v.hh b u (s.hh b u e n) (λz=>(s.uu b z).elim n λw=>(by rw[w]at e;cases e)),λb e=>s.dm b (v.dm b e),λb e z=>by
  by_cases q:m b=none;rcases v.fn b q z with w|w
  ·exact s.uu b w
  exact .inr (s.dm b w);exact s.fn b e q,λb ⟨i,t,e,_⟩=>by simp at e,λj t e=>by simp at e⟩ f r q
structure EndsOk(K:QA)(C:LN)(F H:Hp)(S:Ft)(ρ:kA)(σ:St)(Z:PEnds)(Dn:Ends):Prop where
 nx:∀F' H' S' ρ' σ',Sts C [] F H S ρ σ F' H' S' ρ' σ'->Rl K F' H' S' ρ' σ'->Z.nx ρ'->Dn.nx σ' H'
 rt:∀v t W F' H' S' ρ' σ',Stc C F H S ρ σ F' H' S' ρ' σ'->Rl K F' H' S' ρ' σ'->Tr K F' H' true v t W->Held F' H' S' ρ' W->(∀b,W b->H b=none∨U ρ S b)->Z.rt t ρ'->Dn.rt v H'
 bk:∀F' H' S' ρ' σ',Sts C [] F H S ρ σ F' H' S' ρ' σ'->Rl K F' H' S' ρ' σ'->Z.bk ρ'->Dn.bk σ' H'
 ct:∀F' H' S' ρ' σ',Sts C [] F H S ρ σ F' H' S' ρ' σ'->Rl K F' H' S' ρ' σ'->Z.ct ρ'->Dn.ct σ' H'
theorem Ls(s:Sts C J F H S ρ σ m p S1 y g){W:lB}(fr:∀b,W b->p b=none∨U y S1 b):∀b,W b->H b=none∨U ρ S b:=λb hb=>by rcases fr b hb with q|q;exact .inl (s.dm b q);exact(s.uu b q).symm
theorem EndsOk.from{Z:PEnds}{Dn:Ends}(ok:EndsOk K C F H S ρ σ Z Dn)(s:Sts C [] F H S ρ σ m p S1 y g):EndsOk K C m p S1 y g Z Dn :=
 ⟨λa k w z x u I q=>ok.nx a k w z x (s.trans u) I q,λv t W a k w z x u I r h fr q=>ok.rt v t W a k w z x (s.c.trans u) I r h (Ls s fr) q,
  λa k w z x u I q=>ok.bk a k w z x (s.trans u) I q,λa k w z x u I q=>ok.ct a k w z x (s.trans u) I q⟩
theorem Sts.setD(s:Sts C J F H S ρ σ m p S1 y g)(i:Nat)(a:i∉C)(v:V)(k:t.isD=true)(Z:lB):Sts C J F H S ρ σ m p (uH S1 i Z) (y.set i (some (.ky t))) (g.set i (some v)) :=
 ⟨s.ff,s.hh,s.dm,s.fn,λb ⟨j,u,z,w⟩=>by
  rcases dA z with⟨_,e,_⟩| ⟨n,z⟩
  cases e;rw[YA (qD n)]at w;exact s.uu b ⟨j,u,z,w⟩,
 λj u h e x=>by
  rcases dA e with⟨_,e,_⟩| ⟨n,e⟩
  injection e with e;injection e with e;subst e;rw[k]at x;cases x;rw[YA (qD n),DD n];exact s.bo j u h e x,
 λj h=>by have n:i≠j:=λe=>a (e▸h);rw[DD n];exact s.sg j h⟩
theorem Rl.setD(I:Rl K F H S ρ σ)(i:Nat){v:V}{x:D}(r:Rep K F v x):Rl K F H (uH S i λ_=>False) (ρ.set i (bD x)) (σ.set i (some v)) :=
 I.setB i (.d r λ_ z=>z) λ_ _ _ _ _ z=>z.elim
theorem Rl.setN(I:Rl K F H S ρ σ)(i:Nat){v:V}(r:Tr K F H true v t Z)(w:∀(j:Nat) s,j≠i->ρ[j]?=some (some s)->∀b,Z b->¬ S j b):Rl K F H (uH S i Z) (ρ.set i (some (.own t))) (σ.set i (some v)) where
 fh:=I.fh
 len:=by simpa using I.len
 sl:=λj s h=>by
  rcases dA h with⟨rfl,e,hl⟩| ⟨a,h⟩
  cases e;exact⟨v,mW (by rw[<- I.len];exact hl),by rw[MA];exact r⟩;rw[DD a,YA (qD a)];exact I.sl j s h
 dj:=λj k f s n u x b hb hk=>by
  rcases dA u with⟨e,_,_⟩| ⟨l,u⟩
  subst e;rw[MA]at hb;rcases dA x with⟨e,_,_⟩| ⟨z,x⟩
  exact n e;rw[YA (qD z)]at hk;exact w k s (qD z) x b hb hk;rw[YA (qD l)]at hb;rcases dA x with⟨e,_,_⟩| ⟨z,x⟩
  subst e;rw[MA]at hk;exact w j _ n u b hk hb;rw[YA (qD z)]at hk;exact I.dj j k f s n u x b hb hk
theorem Sts.setN(s:Sts C J F H S ρ σ m p S1 y g)(i:Nat)(w:i∉C)(v:V)(t:T)(fr:∀b,Z b->H b=none∨U ρ S b):Sts C J F H S ρ σ m p (uH S1 i Z) (y.set i (some (.own t))) (g.set i (some v)) :=
 ⟨s.ff,s.hh,s.dm,s.fn,λb ⟨j,u,z,x⟩=>by
  rcases dA z with⟨rfl,_,_⟩| ⟨n,z⟩
  rw[MA]at x;exact(fr b x).symm;rw[YA (qD n)]at x;exact s.uu b ⟨j,u,z,x⟩,
 λj u h e k=>by
  rcases dA e with⟨_,e,_⟩| ⟨n,e⟩
  cases e;rw[YA (qD n),DD n];exact s.bo j u h e k,
 λj h=>by have n:i≠j:=λe=>w (e▸h);rw[DD n];exact s.sg j h⟩
theorem Rl.frz1(I:Rl K F H S ρ σ)(h:ρ[i]?=some (some (.own t))):Rl K (tI F H (S i)) H (uH S i λ_=>False) (ρ.set i (bD t.er)) σ/\Sts C [] F H S ρ σ (tI F H (S i)) H (uH S i λ_=>False) (ρ.set i (bD t.er)) σ:=by
 obtain⟨v,hv,r⟩:=I.sl i _ h;have k:=iG (H:=H) λb (hb:S i b)=>(r.dom b hb).2;have O:Rl K F H S (ρ.set i none) σ:=I.drop (by simp) λj s e=>by
  rcases dA e with⟨_,z,_⟩| ⟨_,e⟩
  cases z;exact e
 have l:Held F H S (ρ.set i none) (S i):=⟨r.dom,λj s e b hb z=>by
  rcases dA e with⟨_,q,_⟩| ⟨n,e⟩
  cases q;exact I.dj i j t s n h e b hb z⟩
 have N:=O.frz l;have f:Rep K (tI F H (S i)) v t.er:=Tr.kept k r λb u hb e=>by rw[sI hb];exact e
 have a:=N.setD i f;have M:(ρ.set i none).set i (bD t.er)=ρ.set i (bD t.er):=by simp
 have W:σ.set i (some v)=σ:=by apply qU;intro j;rw[wA];split;rename_i e;subst e;split;exact hv.symm;rename_i n;rw[Qk (by omega)];rfl
 rw[M,W]at a;refine⟨a,⟨k,λb u e _=>e,λb e=>e,λb e z=>.inl ?_,λb ⟨j,u,x,w⟩=>.inl ?_,λj u _ e o=>?_,λ_ _=>rfl⟩⟩;by_cases hb:S i b
 ·exact⟨i,t,h,hb⟩
 rw[cC hb]at z;exact absurd e z;rcases dA x with⟨_,q,_⟩| ⟨n,x⟩
 ·cases q
 rw[YA (qD n)]at w;exact⟨j,u,x,w⟩;rcases dA e with⟨_,q,_⟩| ⟨n,e⟩
 ·injection q with q;injection q with q;subst q;cases o
 exact⟨e,YA (qD n),rfl⟩
theorem DY{f:Option Sl->Option Sl}:ρ.modify i f=match ρ[i]? with|some o=>ρ.set i (f o)|none=>ρ:=by
 apply qU;intro j;rw[Wt];cases h:ρ[i]? with|none=>simp only;by_cases e:i=j;subst e;simp[h];simp[e]|some o=>simp only;rw[wA];by_cases e:i=j;subst e;obtain⟨hl,rfl⟩:=Qf.mp h;simp[hl];simp[e]
theorem mR{α:Type}{l:List α}{o:α}(h:l[i]?=some o):l.set i o=l:=by apply qU;intro j;rw[wA];split;rename_i e;subst e;rw[if_pos (Qf.mp h).1,h];rfl
theorem Rl.frzAt:∀(x:LN) {F:Hp}{S:Ft}{ρ:kA},Rl K F H S ρ σ->∃z S',Rl K z H S' (frzAt x ρ) σ/\Sts C [] F H S ρ σ z H S' (frzAt x ρ) σ
 |[],F,S,ρ,I=>⟨F,S,I,.refl⟩|i::x,F,S,ρ,I=>by
  have one:∃m S1,Rl K m H S1 (ρ.modify i fV) σ/\Sts C [] F H S ρ σ m H S1 (ρ.modify i fV) σ:=by
   rw[DY];cases h:ρ[i]? with
   |none=>exact⟨F,S,I,.refl⟩|some o =>
    cases o with
    |none=>have e:ρ.set i (fV none)=ρ:=mR h;simp only[e];exact⟨F,S,I,.refl⟩|some u =>
     cases u with|ky t=>have e:ρ.set i (fV (some (.ky t)))=ρ:=mR h;simp only[e];exact⟨F,S,I,.refl⟩|own t=>exact⟨_,_,I.frz1 h⟩
  obtain⟨m,S1,a,w⟩:=one;obtain⟨A,B,k,v⟩:=Rl.frzAt x a;exact⟨A,B,k,w.trans v⟩
end
end
noncomputable def tJ(C:LN):PT->Bool
 | .seq s r=>tJ C s&&tJ C r|.set i _=>!C.contains i|.own i _=>!C.contains i|.ife _ a b=>tJ C a&&tJ C b|.for_ x _ _ h=>x.ix.all (λi=>!C.contains i)&&tJ C h|.nil=>true|.expr _=>true|.ret _=>true|.six _ _ _=>true|.sdf _ _=>true|.whl _ h=>tJ C h|.frz _ s=>tJ C s
section
variable{K:QA}{Γ:Ev}{Ψ:PEv}{E:XE}{N:XK}{F H D B F2 M:Hp}{S S1 O:Ft}{ρ A P:kA}{σ G R:St}{C J:LN}
theorem Sts.bind{L:LN}(s:Sts C J F H S ρ σ D B S1 A G)(b:Bd L D B S1 A G F2 M O P R)(v:∀j∈L,j∈J)(w:∀j∈L,j∉C):Sts C J F H S ρ σ F2 M O P R :=
 ⟨s.ff.trans b.ff,λx u e n=>b.hh x u (s.hh x u e n),λx e=>s.dm x (b.dm x e),λx e z=>by
  by_cases q:D x=none;exact .inr (s.dm x (b.fn x q z));exact s.fn x e q,λx u=>s.uu x (b.U u),λj t h e y=>by
  obtain⟨l,i,g⟩:=b.out j λz=>h (v j z);rw[l]at e;obtain⟨f,a,k⟩:=s.bo j t h e y;exact⟨f,i.trans a,g.trans k⟩,λj h=>(b.out j λz=>w j z h).2.2.trans (s.sg j h)⟩
theorem oX{g:Tg}{body:PEnds->kA->Prop}{tb:TS}{Z:PEnds}{Dn:Ends}{xs:List Item}{o:LT}{st:Hp->Prop}{Y:lB}
  (ib:∀{F H:Hp}{S:Ft}{ρ:kA}{σ:St}{Z:PEnds}{Dn:Ends},Rl K F H S ρ σ->zF K F H S ρ E N->body Z ρ->EndsOk K C F H S ρ σ Z Dn->tb Dn σ H)
  (I:Rl K F H S ρ σ) (X:zF K F H S ρ E N) (hC:∀j∈g.ix,j∉C) (pr:Paired (aZ K F H Y) xs o) (hy:∀b,Y b->¬ U ρ S b/\H b≠none/\F b=none) (hst:∀f k,Same F f->Same f k->(∀b,Y b->k b=H b)->st k) (h:sH body g Z o ρ)
  (onx:∀f k S' z w,Sts C g.ix F H S ρ σ f k S' z w->Rl K f k S' z w->Z.nx z->Dn.nx w k)
  (ort:∀v t W f k S' z w,Stc C F H S ρ σ f k S' z w->Rl K f k S' z w->Tr K f k true v t W->Held f k S' z W->(∀b,W b->H b=none∨U ρ S b)->Z.rt t z->Dn.rt v k):Nj K xs st g tb Dn σ H:=by
 intro J hJ;have len:=Q6 pr;have yk:∀{D B:Hp}{S1:Ft}{A:kA}{G:St},Sts C g.ix F H S ρ σ D B S1 A G->∀b,Y b->B b=H b/\D b=none:=λ{D B S1 A G} s b hb=>by
  obtain⟨n,d1,d2⟩:=hy b hb;refine⟨?_,?_⟩;cases e:H b with|none=>exact absurd e d1|some u=>exact s.hh b u e n
  by_cases q:D b=none
  ·exact q
  exact((s.fn b d2 q).elim n d1).elim
 refine⟨λi m w k=>i<=xs.length/\m=xs.length - i/\∃z f S',Sts C g.ix F H S ρ σ f k S' z w/\Rl K f k S' z w/\sH body g Z (o.drop i) z,⟨_,Qt _,rfl,ρ,F,S,.refl,I,by simpa using h⟩,?_⟩;rintro i m G B ⟨hi,rfl,A,D,S1,p,I1,h1⟩;have hs:=hst D B p.ff I1.fh λb hb=>(yk p b hb).1;rcases QA6 i xs.length with l|hge;refine .inr ⟨hJ.go i B hs l,λw k=>i+1<=xs.length/\∃z f S',Sts C g.ix F H S ρ σ f k S' z w/\Rl K f k S' z w/\sH body g Z (o.drop (i+1)) z,λw k ⟨a,b⟩=>⟨_,by omega,a,rfl,b⟩,λx M hyl=>?_⟩;obtain⟨it,hx,hm⟩:=hJ.yld i B x M hs l hyl;obtain⟨y,hd,ry⟩:=Paired.get_of pr hx;rw[hd]at h1;unfold sH at h1;have key:L3.bindI K g it G B λR M=>tb { Dn with nx:=λw k=>i+1<=xs.length/\∃z f S',Sts C g.ix F H S ρ σ f k S' z w/\Rl K f k S' z w/\sH body g Z (o.drop (i+1)) z,ct:=λw k=>i+1<=xs.length/\∃z f S',Sts C g.ix F H S ρ σ f k S' z w/\Rl K f k S' z w/\sH body g Z (o.drop (i+1)) z,bk:=Dn.nx } R M:=by
  refine lT I1 (λb hb u=>?_) (ry.mono p.ff (yk p)) h1 λP R F2 H3 O bd I2 h2=>?_;rcases p.uu b u with q|q
  ·exact(hy b hb).1 q
  exact(hy b hb).2.1 q;have s2:=p.bind bd (λj hj=>hj) hC;exact ib I2 (X.fromS s2) h2 ⟨λf k S' z w L Q q=>⟨l,z,f,S',s2.trans L,Q,q⟩,λv t W f k S' z w L Q r hw fr q=>ort v t W f k S' z w (s2.c.trans L) Q r hw (Ls s2 fr) q,
   λf k S' z w L Q q=>onx f k S' z w (s2.trans L) Q q,λf k S' z w L Q q=>⟨l,z,f,S',s2.trans L,Q,q⟩⟩
 exact FM hm key;have e:o.drop i=[]:=WY (by omega);rw[e]at h1;exact .inl ⟨hJ.stop i B hs hge,onx D B S1 A G p I1 h1⟩
theorem UF:∀(J:LN) (ρ:kA) (i:Nat) s,(kill J ρ)[i]?=some (some s)->ρ[i]?=some (some s)/\(i∈J->∀t,s=.ky t->t.isD=true)
 |[],ρ,i,s,h=>⟨h,λz=>by simp at z⟩|j::J,ρ,i,s,h=>by
  unfold kill at h;obtain⟨x,w⟩:=UF J _ i s h;rw[Wt]at x;by_cases e:j=i;subst e;simp only[reduceIte]at x;cases q:ρ[j]? with
  |none=>rw[q]at x;cases x|some o =>
   rw[q]at x;have x:lM o=some s:=by simpa using x
   cases o with
   |none=>cases x|some v =>
    cases v with
    |own t=>cases x;exact⟨rfl,λ_ u z=>by cases z⟩|ky t =>
     have x:(if t.isD=true then some (Sl.ky t) else none)=some s:=x;cases y:t.isD with|true=>rw[y,if_pos rfl]at x;cases x;exact⟨rfl,λ_ u z=>by cases z;exact y⟩|false=>rw[y]at x;simp at x
  simp only[e,if_false]at x;refine⟨by simpa using x,λm=>w ((QL.mp m).elim (λz=>absurd z.symm e) id)⟩
theorem gM:∀(J:LN) (ρ:kA),(kill J ρ).length=ρ.length
 |[],_=>rfl|j::J,ρ=>by unfold kill;rw[gM J];simp
theorem Sts.kill(s:Sts C J F H S ρ σ D B S1 A G):Sts C [] F H S ρ σ D B S1 (L3.kill J A) G :=
 ⟨s.ff,s.hh,s.dm,s.fn,λb ⟨i,t,y,x⟩=>s.uu b ⟨i,t,(UF J A i _ y).1,x⟩,λj t _ e h=>by obtain⟨y,x⟩:=UF J A j _ e;by_cases z:j∈J;rw[x z t rfl]at h;cases h;exact s.bo j t z y h,s.sg⟩
theorem uS:∀(L:LN) (ρ:kA) (j:Nat),(lock L ρ)[j]?=if j∈L then ρ[j]?.map VF else ρ[j]?
 |[],ρ,j=>by simp[lock]|i::L,ρ,j=>by
  have x:∀o,VF (VF o)=VF o:=λo=>by
   match o with
   |none=>rfl|some (.own _)=>rfl|some (.ky _)=>rfl
  unfold lock;rw[uS L,Wt];by_cases e:i=j;subst e;cases h:ρ[i]? with|none=>simp|some o=>simp[x]
  have y:¬ j=i:=λz=>e z.symm;simp[e,y]
theorem xS:∀(L:LN) (ρ:kA),(lock L ρ).length=ρ.length
 |[],_=>rfl|i::L,ρ=>by unfold lock;rw[xS L];simp
theorem cL:∀(L:LN) (x ρ:kA) (j:Nat),(∀i∈L,i<ρ.length)->(aC L x ρ)[j]?=if j∈L then some (x[j]?.getD none) else ρ[j]?
 |[],x,ρ,j,_=>by simp[aC]|i::L,x,ρ,j,h=>by unfold aC;rw[cL L x _ j (λk hk=>by simpa using h k (QE _ hk)),wA];by_cases e:i=j;subst e;simp[h i QF];have y:¬ j=i:=λz=>e z.symm;simp[e,y]
theorem bL:∀(L:LN) (h ρ:kA),(aC L h ρ).length=ρ.length
 |[],_,_=>rfl|i::L,h,ρ=>by unfold aC;rw[bL L];simp
theorem lH{ρ:kA}:∀(x:LN),∀i∈bC ρ x,∃t,ρ[i]?=some (some (.own t))
 |[],i,h=>by simp[bC]at h|j::x,i,h=>by
  unfold bC at h;split at h
  ·rename_i ho
   rcases QL.mp h with e|e
   ·subst e
    unfold TL at ho;split at ho;rename_i t e;exact⟨t,e⟩
    all_goals cases ho
   exact lH x i e
  exact lH x i h
theorem SL{ρ:kA}{i:Nat}{t:T}(h:ρ[i]?=some (some (.own t))):∀(x:LN),i∈x->i∈bC ρ x
 |[],hi=>by simp at hi|j::x,hi=>by
  unfold bC;rcases QL.mp hi with e|e;subst e;have:TL ρ[i]?=true:=by rw[h];rfl
  rw[if_pos this];exact QF;have:=SL h x e;split;exact QE _ this;exact this
section
variable{L:LN}(y:∀i∈L,∃t,ρ[i]?=some (some (.own t)))
include y
theorem fK{i:Nat}{s:Sl}(h:(lock L ρ)[i]?=some (some s)):(i∈L/\∃t,ρ[i]?=some (some (.own t))/\s=.ky t)∨(i∉L/\ρ[i]?=some (some s)):=by rw[uS]at h;by_cases x:i∈L;rw[if_pos x]at h;obtain⟨t,e⟩:=y i x;rw[e]at h;injection h with h;injection h with h;exact .inl ⟨x,t,e,h.symm⟩;rw[if_neg x]at h;exact .inr ⟨x,h⟩
theorem ZE{b:Addr}(h:U (lock L ρ) S b):U ρ S b:=by
 obtain⟨i,t,x,z⟩:=h;rcases fK y x with⟨_,u,_,e⟩| ⟨_,x⟩
 cases e;exact⟨i,t,x,z⟩
theorem Rl.lock(I:Rl K F H S ρ σ):Rl K F H S (L3.lock L ρ) σ where
 fh:=I.fh
 len:=by rw[xS];exact I.len
 sl:=λi s e=>by
  rcases fK y e with⟨_,t,h,rfl⟩| ⟨_,h⟩
  obtain⟨v,u,x⟩:=I.sl i _ h;exact⟨v,u,x.weak⟩;exact I.sl i s h
 dj:=λi j t s n k w=>by
  rcases fK y k with⟨_,_,_,z⟩| ⟨_,u⟩
  cases z;rcases fK y w with⟨_,a,x,_⟩| ⟨_,x⟩
  ·exact I.dj i j t _ n u x
  exact I.dj i j t s n u x
theorem Rl.lockU(I:Rl K F H S ρ σ){i:Nat}(x:i∈L){b:Addr}(hb:S i b):¬ U (L3.lock L ρ) S b:=λ⟨j,t,h,v⟩=>by
 obtain⟨w,e⟩:=y i x;rcases fK y h with⟨_,_,_,z⟩| ⟨u,h⟩
 cases z;exact I.dj j i t _ (λz=>u (z▸x)) h e b v hb
theorem TX(I:Rl K F H S ρ σ)(s:Sts C [] F H S (lock L ρ) σ D B S1 A G)(W:Rl K D B S1 A G)(hl:∀i∈L,A[i]?=ρ[i]?.map VF) :
  ∃O,Rl K D B O (aC L ρ A) G/\Sts C [] F H S ρ σ D B O (aC L ρ A) G:=by
 classical
 have l1:∀i∈L,∃t,ρ[i]?=some (some (.own t))/\A[i]?=some (some (.ky t)):=λi h=>by obtain⟨t,e⟩:=y i h;have:=hl i h;rw[e]at this;exact⟨t,e,this⟩
 have hlt:∀i∈L,i<A.length:=λi h=>by obtain⟨t,_,e⟩:=l1 i h;exact(Qf.mp e).1
 let O:Ft:=λi=>if i∈L then S i else S1 i
 have l:∀i∈L,O i=S i:=λi h=>if_pos h;have g:∀i,i∉L->O i=S1 i:=λi h=>if_neg h;have get:∀i a,(aC L ρ A)[i]?=some (some a)->(i∈L/\∃t,ρ[i]?=some (some (.own t))/\A[i]?=some (some (.ky t))/\a=.own t)∨(i∉L/\A[i]?=some (some a)):=λi a e=>by rw[cL L ρ A i hlt]at e;by_cases h:i∈L;rw[if_pos h]at e;obtain⟨t,f,Y⟩:=l1 i h;rw[f]at e;injection e with e;have e:some (Sl.own t)=some a:=e;injection e with e;exact .inl ⟨h,t,f,Y,e.symm⟩;rw[if_neg h]at e;exact .inr ⟨h,e⟩
 have Q:∀i∈L,∀k a,k∉L->A[k]?=some (some a)->∀b,S i b->¬ S1 k b:=λi h k a hk e b hb z=>by
  obtain⟨t,f,_⟩:=l1 i h;cases a with
  |own u=>rcases s.uu b ⟨k,u,e,z⟩ with q|q;exact I.lockU y h hb q;exact(I.dom f hb).1 q
  |ky u =>
   cases o:u.isD with
   |true=>exact W.isD e o z|false =>
    obtain⟨m,p,_⟩:=s.bo k u (by simp) e o;rw[p]at z;rcases fK y m with⟨q,_⟩| ⟨_,m⟩
    exact hk q;exact I.dj i k t _ (λq=>hk (q▸h)) f m b hb z
 refine⟨O,⟨W.fh,by rw[bL];exact W.len,λi a e=>?_,λi k t a n f Y b hb hk=>?_⟩,⟨s.ff,λb u e n=>s.hh b u e λz=>n (ZE y z),s.dm,λb e z=>(s.fn b e z).imp (ZE y) id,λb ⟨i,t,h1,h2⟩=>?_,λj t _ e o=>?_,s.sg⟩⟩;rcases get i a e with⟨h,t,f,Y,rfl⟩| ⟨h,f⟩
 ·rw[l i h]
  obtain⟨v,m,p⟩:=I.sl i _ f;cases o:t.isD with
  |true =>
   obtain⟨v',g3,g4⟩:=W.sl i _ Y;refine⟨v',g3,?_⟩;have nb:∀b,¬ S i b:=λb=>I.isD f o;cases t with
   |d x =>
    have g4:Tr K D B false v' (.d x) (S1 i):=g4;cases g4 with|d r _=>exact .d r nb
   |_=>cases o
  |false =>
   obtain⟨_,_,g5⟩:=s.bo i t (by simp) Y o;refine⟨v,g5.trans m,?_⟩;have p:Tr K F H true v t (S i):=p;refine p.mono s.ff λb hb=>?_;obtain⟨d1,d2⟩:=p.dom b hb;have nu:=I.lockU y h hb;refine⟨?_,?_⟩;cases eb:H b with|none=>exact absurd eb d1|some u=>exact s.hh b u eb nu
   by_cases q:D b=none
   ·exact q
   exact((s.fn b d2 q).elim nu d1).elim
 rw[g i h];exact W.sl i a f;rcases get i _ f with⟨h,t',X,a2,_⟩| ⟨h,X⟩
 ·rw[l i h]at hb
  rcases get k a Y with⟨w,t2,Z,b2,_⟩| ⟨w,Z⟩
  rw[l k w]at hk;exact I.dj i k t' _ n X Z b hb hk;rw[g k w]at hk;exact Q i h k a w Z b hb hk
 rw[g i h]at hb;rcases get k a Y with⟨w,t2,Z,b2,_⟩| ⟨w,Z⟩
 rw[l k w]at hk;exact Q k w i _ h X b hk hb;rw[g k w]at hk;exact W.dj i k t a n X Z b hb hk;rcases get i _ h1 with⟨h,t',X,a2,_⟩| ⟨h,X⟩
 ·rw[l i h]at h2
  exact .inl ⟨i,t',X,h2⟩
 rw[g i h]at h2;exact(s.uu b ⟨i,t,X,h2⟩).imp (ZE y) id;rcases get j _ e with⟨_,_,_,_,z⟩| ⟨hj,f⟩
 ·cases z
 obtain⟨m,p,g3⟩:=s.bo j t (by simp) f o;rcases fK y m with⟨q,_⟩| ⟨_,m⟩
 exact absurd q hj;exact⟨m,(g j hj).trans p,g3⟩
end
theorem JP{i:Nat}(h:(!C.contains i)=true):i∉C:=λz=>by have:C.contains i=true:=qF.mpr z;rw[this]at h;cases h
theorem u4{x:LN}(h:(x.all λi=>!C.contains i)=true):∀i∈x,i∉C:=λi y=>JP (Qw.mp h i y)
theorem BX:∀{xs:List (T×Bool)},XQ xs=true->∀t∈tN xs,t.isD=true
 |[],_,t,h=>by simp[tN]at h|p::r,h,t,y=>by
  simp only[XQ,Qd]at h;simp only[tN,QL]at y;rcases y with rfl|y;obtain⟨x,n⟩:=p;cases n with
  |true=>rfl|false =>
   have z:=h.1;cases x with|d x=>rfl|_=>cases z
  exact BX h.2 t y
theorem Tn.bare{Y:lB}{vs:LV}{ts:LT}(h:Tn K F H Y vs ts):(∀t∈ts,t.isD=true)->Tn K F H (λ_=>False) vs ts:=by
 induction h with
 |nil=>exact λ_=>.nil|@cons v t vs ts Z r z a w =>
  intro y;refine .cons (Z:=λ_=>False) ?_ (λ_ z=>z) (w λu k=>y u (QE _ k));have y:=y t QF;cases t with
  |d x=>cases r with|d q _=>exact .d q λ_ z=>z
  |_=>cases y
theorem M1{v:V}{t:T}{W:lB}{Z:PEnds}{Dn:Ends}(ok:EndsOk K C F H S ρ σ Z Dn)(s:Ste F H S ρ D B S1 A)(I:Rl K D B S1 A σ)(r:Tr K D B true v t W)(h:Held D B S1 A W)(fr:∀b,W b->H b=none∨U ρ S b)(q:Z.rt t A):Dn.rt v B :=
 ok.rt v t W D B S1 A σ (s.toStp.sts (J:=[])).c I r h fr q
theorem r8(g:GOk K Γ Ψ):∀(e:PX) {F H:Hp}{S:Ft}{ρ:kA}{σ:St}{Z:PEnds}{Dn:Ends},Rl K F H S ρ σ->zF K F H S ρ E N->mJ Ψ E Z.rt e ρ->EndsOk K C F H S ρ σ Z Dn->(wp K Γ e N).e σ H Dn.rt:=by
  intro e F H S ρ σ Z Dn I X h ok;have a:∀e,(pe Ψ e E).e ρ (λx n A=>tH x n=true/\Z.rt x A)->(wp K Γ e N).e σ H Dn.rt:=λe h=>by refine(IA g e).e (Q:=λx n A=>tH x n=true/\Z.rt x A) I X h λv F' H' S' f x n Za s J r ⟨p,q⟩=>?_;obtain⟨W,l,m,fr⟩:=r.strict p;exact M1 ok s J l m fr q
  cases e with
  |xz i =>
   have y:nr ρ i Z.rt ρ[i]?:=h;show(match σ[i]? with|some (some v)=>Dn.rt v _|_=>False)
   match k:ρ[i]?,y with
   |some (some (.own t)),y =>
    obtain⟨v,w,r⟩:=I.sl i _ k;rw[w];have L:Rl K F H S (ρ.set i none) σ:=I.drop (by simp) λj s e=>by
     rcases dA e with⟨_,z,_⟩| ⟨_,e⟩
     cases z;exact e
    refine ok.rt v t (S i) F H S (ρ.set i none) σ ⟨.refl _,λb u e _=>e,λb e=>e,λb e z=>absurd e z,λb ⟨j,u,w,Y⟩=>.inl ?_,λ_ _=>rfl⟩ L r ⟨r.dom,λj s e b hb z=>?_⟩ (λb hb=>.inr ⟨i,t,k,hb⟩) y;rcases dA w with⟨_,z,_⟩| ⟨_,w⟩
    ·cases z
    exact⟨j,u,w,Y⟩;rcases dA e with⟨_,q,_⟩| ⟨n,e⟩
    ·cases q
    exact I.dj i j t s n k e b hb z
   |some (some (.ky t)),y =>
    obtain⟨v,w,r⟩:=I.sl i _ k;rw[w];obtain⟨o,y⟩:=y;cases t with
    |d x =>
     have r:Tr K F H false v (.d x) (S i):=r;cases r with|d q n=>exact M1 (W:=λ_=>False) ok .refl I (.d q λ_ z=>z) .none (λ_ z=>z.elim) y
    |_=>cases o
   |some none,y=>exact y.elim|none,y=>exact y.elim
  |_=>exact a _ h
theorem yI(g:GOk K Γ Ψ):∀(p:PT) {F H:Hp}{S:Ft}{ρ:kA}{σ:St}{Z:PEnds}{Dn:Ends},tJ C p=true->Rl K F H S ρ σ->zF K F H S ρ E N->bB Ψ E p Z ρ->EndsOk K C F H S ρ σ Z Dn->EQ K Γ N p Dn σ H
 | .nil,_,_,_,_,_,_,_,c,I,X,h,ok=>ok.nx _ _ _ _ _ .refl I h|.seq s r,_,_,_,_,_,_,_,c,I,X,h,ok=>by obtain⟨c1,c2⟩:=yA c;exact yI g s c1 I X h ⟨λF' H' S' L σ' s' J q=>yI g r c2 J (X.fromS s') q (ok.from s'),ok.rt,ok.bk,ok.ct⟩|.set i e,F,H,S,ρ,σ,Z,Dn,c,I,X,h,ok=>by have hi:=JP c;refine iF (RR:=λx B=>Dn.nx (σ.set i (some x)) B) (IA g e) I X h λv F' H' S' L x n Za s J X' r er _ ⟨he,q⟩=>?_;exact ok.nx _ _ _ _ _ (s.toStp.sts.setD i hi v rfl _) (J.setD i (er he)) q|.expr e,F,H,S,ρ,σ,Z,Dn,c,I,X,h,ok=>(IA g e).e I X h λv F' H' S' L x n Za s J r q=>ok.nx _ _ _ _ _ s.toStp.sts J q|.ret e,F,H,S,ρ,σ,Z,Dn,c,I,X,h,ok=>r8 g e I X h ok|.ife t a b,F,H,S,ρ,σ,Z,Dn,c,I,X,h,ok=>by
  obtain⟨c1,c2⟩:=yA c;refine(IA g t).t I X h λk F' H' S' L s J q=>?_;cases k with|true=>exact yI g a c1 J (X.from s.toStp) q (ok.from s.toStp.sts)|false=>exact yI g b c2 J (X.from s.toStp) q (ok.from s.toStp.sts)
 | .for_ tg ik its body,F,H,S,ρ,σ,Z,Dn,c,I,X,h,ok=>by
  obtain⟨c1,c2⟩:=yA c;have hC:=u4 c1;refine HV (RR:=λvs B=>mC K ik vs B λxs st M=>Nj K xs st tg (EQ K Γ N body) Dn σ M) (IA g its) I X h λvs D B S1 A xs Y s1 I1 X1 tn tm q=>?_;rw[zL _ rfl]at q;have ok1:=ok.from s1.toStp.sts;cases ha:XQ xs with
  |true=>have tn':=tn.bare (BX ha);refine JJ I1.fh tn' q λits ys st pr hst hc=>?_;rw[ha,if_pos rfl]at hc;refine oX (λI X h ok=>yI g body c2 I X h ok) I1 X1 hC pr (λb z=>z.elim) hst hc ?_ ?_;exact λF' H' S' L σ' s' I' q=>ok1.nx _ _ _ _ _ s'.kill (I'.drop (gM _ _) λi sl e=>(UF _ _ i sl e).1) q;exact λv t W F' H' S' L σ' s' I' r hw fr q=>ok1.rt v t W F' H' S' L σ' s' I' r hw fr q|false =>
   refine JJ I1.fh tn q λits' ys st pr hst hc=>?_;rw[ha,if_neg (by simp)]at hc;have hL:=lH (ρ:=A) (KG its);have IL:=I1.lock hL;have sL:Sts C [] D B S1 A σ D B (λ_ _=>False) [] σ:=⟨.refl _,λb u e _=>e,λb e=>e,λb e z=>absurd e z,λb ⟨i,t,e,_⟩=>by simp at e,λj t _ e=>by simp at e,λ_ _=>rfl⟩
   have XL:zF K D B S1 (lock (bC A (KG its)) A) E N:=λx dx F2 M O P s2 f r q =>
    X1 x dx F2 M (λ_ _=>False) [] ⟨s2.ff,λb u e n=>s2.hh b u e λz=>n (ZE hL z),s2.dm,λb e z=>(s2.fn b e z).imp (ZE hL) id,λb ⟨i,t,e,_⟩=>by simp at e,λj t e=>by simp at e⟩ f r q
   refine oX (λI X h ok=>yI g body c2 I X h ok) IL XL hC pr (λb hb=>?_) hst hc ?_ ?_;obtain⟨i,sl,h1,h2,h3⟩:=tm b hb;refine⟨λu=>?_,I1.dom h2 h3⟩;cases sl with
   |own t=>exact I1.lockU hL (SL h2 _ h1) h3 u|ky t =>
    obtain⟨j,t',e1,e2⟩:=u;rcases fK hL e1 with⟨_,_,_,z⟩| ⟨_,e1⟩
    cases z;exact I1.dj j i t' _ (λz=>by subst z;rw[h2]at e1;cases e1) e1 h2 b e2 h3
   intro F' H' S' L σ' s' I' ⟨q1,q2⟩;have sk:=s'.kill;have Ik:=I'.drop (gM tg.ix L) λi sl e=>(UF _ _ i sl e).1;obtain⟨O,I2,s2⟩:=TX hL I1 sk Ik λi hi=>(q1 i hi).2;exact ok1.nx _ _ _ _ _ s2 I2 q2;intro v t W F' H' S' L σ' s' I' r hw fr q;exact ok1.rt v t W F' H' S' L σ' ⟨s'.ff,λb u e n=>s'.hh b u e λz=>n (ZE hL z),s'.dm,λb e z=>(s'.fn b e z).imp (ZE hL) id,λb u=>(s'.uu b u).imp (ZE hL) id,s'.sg⟩ I' r hw (λb hb=>(fr b hb).imp id (ZE hL)) q
 | .own i e,F,H,S,ρ,σ,Z,Dn,c,I,X,h,ok=>by refine(IA g e).e (Q:=λx n A=>tH x n=true/\Z.nx (A.set i (some (.own x)))) I X h λv F' H' S' L x n Za s J r ⟨he,q⟩=>?_;obtain⟨W,r2,hw,fr⟩:=r.strict he;exact ok.nx _ _ _ _ _ (s.toStp.sts.setN i (JP c) v x fr) (J.setN i r2 λj sl _ e b hb=>hw.nw j sl e b hb) q|.six o i e,F,H,S,ρ,σ,Z,Dn,c,I,X,h,ok=>by
  have later:∀{j:Nat}{t:T}{v0:V},ρ[j]?=some (some (.own t))->Tr K F H true v0 t (S j)->∀{F' H':Hp}{S':Ft}{L:kA},Ste F H S (ρ.set j (some (.ky t))) F' H' S' L->Tr K F' H' true v0 t (S j)/\∀b,S j b->H' b=H b:=λ{j t v0} hj r0 {F' H' S' L} s=>⟨s.toStp.keep r0 (I.lock1U hj),λb hb=>by
   cases e:H b with|none=>exact absurd e (r0.dom b hb).1|some u=>exact s.hh b u e (I.lock1U hj b hb)⟩
  cases o with
  |xz j =>
   have h:PC ρ[j]? _:=h;unfold PC at h;split at h;rename_i t hj;obtain⟨v0,hv,r0⟩:=I.sl j _ hj;have r0:Tr K F H true v0 t (S j):=r0;show(wp K Γ e N).e σ H λv B=>(wp K Γ (.xz j) N).e σ B λov M=>(wp K Γ i N).e σ M λiv H3=>oR K ov iv v H3 λH4=>Dn.nx σ H4;refine iF (IA g e) (I.lock1 hj) (X.lock1 hj) h λxv D B S1 A x n Zx s1 I1 X1 _ er1 _ ⟨he,q1⟩=>?_;have rx:=er1 he;show(match σ[j]? with|some (some v)=>_|_=>False);rw[hv];refine iF (IA g i) I1 X1 q1 λiv F2 M O P y m Zy s2 I2 X2 _ er2 _ ⟨he2,hj2,q2⟩=>?_;have s12:=s1.trans s2;refine G0 I2.fh (later hj r0 s12).1 (er2 he2) (rx.mono s2.ff) q2 λt' H3 S3 hh dm rt sub q=>?_;obtain⟨st,I3,_⟩:=IH (W:=λ_=>False) I hj hv s12 I2 hh dm rt (λb hb=>.inl (sub b hb)) .none (λ_ z=>z.elim);exact ok.nx _ _ _ _ _ st.toStp.sts I3 q
   all_goals exact h.elim
  |idx a k =>
   cases a with
   |xz j =>
    have h:PC ρ[j]? _:=h;unfold PC at h;split at h;rename_i t hj;obtain⟨v0,hv,r0⟩:=I.sl j _ hj;have r0:Tr K F H true v0 t (S j):=r0;show(wp K Γ e N).e σ H λv B=>(wp K Γ (.xz j) N).e σ B λov M=>(wp K Γ k N).e σ M λzv H3=>dY K ov zv H3 λow H4=>(wp K Γ i N).e σ H4 λiv H5=>oR K ow iv v H5 λH6=>Dn.nx σ H6;refine iF (IA g e) (I.lock1 hj) (X.lock1 hj) h λxv D B S1 A x n Zx s1 I1 X1 _ er1 _ ⟨he,q1⟩=>?_;have rx:=er1 he;show(match σ[j]? with|some (some v)=>_|_=>False);rw[hv];refine iF (IA g k) I1 X1 q1 λzv F2 M O P z l Zz s2 I2 X2 _ er2 _ ⟨hez,b,ks,ts,n,s,et,hk,hf,ht,q2⟩=>?_;have s12:=s1.trans s2;have rz:=er2 hez;subst et;obtain⟨r2,k2⟩:=later hj r0 s12;obtain⟨a,o,vs,ea,ho,dk,hw⟩:∃a o vs,v0=.ref a/\M a=some o/\NJ K F2 b o ks vs/\∃w,vs[n]?=some w/\S j a:=by
     cases r2 with|dct h1 dk h2 h3 h4 h5=>obtain⟨w,_,g1,_⟩:=h3.get ht;exact⟨_,_,_,rfl,h1,dk,w,g1,(h5 _).mpr (.inl rfl)⟩
    obtain⟨w,hw,sa⟩:=hw;subst ea;have gd:=(dk.mono I2.fh).get ho (rz.mono I2.fh) hk;rw[hf]at gd;have gd:FQ K M a zv (vs[n]?):=gd;rw[hw]at gd;have fin:(wp K Γ i N).e σ M λiv H5=>oR K w iv xv H5 λH6=>Dn.nx σ H6:=by
     refine iF (IA g i) I2 X2 q2 λiv F3 H3 S3 ρ3 y m Zy s3 I3 X3 _ er3 _ ⟨he3,hj3,q3⟩=>?_;have s13:=s12.trans s3;obtain⟨r3,k3⟩:=later hj r0 s13;have ho3:H3 a=some o:=by rw[k3 a sa,<- k2 a sa];exact ho
     refine v8 I3.fh r3 ho3 dk hw ht (er3 he3) ((rx.mono s2.ff).mono s3.ff) q3 λt' H4 S4 hh dm rt sub q=>?_;obtain⟨st,I4,_⟩:=IH (W:=λ_=>False) I hj hv s13 I3 hh dm rt (λb hb=>.inl (sub b hb)) .none (λ_ z=>z.elim);exact ok.nx _ _ _ _ _ st.toStp.sts I4 q
    cases zv with|str z=>exact⟨w,gd,fin⟩|ref c=>exact⟨w,gd,fin⟩|_=>exact gd.elim
    all_goals exact h.elim
   |_=>exact h.elim
  |_=>exact h.elim
 | .sdf j k,F,H,S,ρ,σ,Z,Dn,c,I,X,h,ok=>by
  have h:PC ρ[j]? _:=h;unfold PC at h;split at h;rename_i t hj;obtain⟨v0,hv,r0⟩:=I.sl j _ hj;have r0:Tr K F H true v0 t (S j):=r0;obtain⟨hd,h⟩:=h;show(match σ[j]? with|some (some v)=>JZ K "dict" v H/\(wp K Γ k N).e σ H λx B=>∀p,B p=none->UK K v [x,.ref p] (UA B p (.dT 0 [])) λ_ M=>Dn.nx σ M|_=>False);rw[hv];constructor;cases r0 with
  |@dct _ b _ _ _ _ _ _ _ h1 dk _ _ _ _ =>
   cases b with|true=>obtain⟨ep,kvs,rfl,_⟩:=dk;exact .inr (.inr (.inl ⟨rfl,.inr ⟨ep,kvs,h1⟩⟩))|false=>cases hd
  |_=>cases hd
  refine iF (IA g k) (I.lock1 hj) (X.lock1 hj) h λiv D B S1 A y m Zy s1 I1 X1 _ er _ ⟨he,hj1,q1⟩=>?_;intro p hp;have r1:=s1.toStp.keep r0 (I.lock1U hj);refine eg I1.fh hp r1 (er he) q1 λt' H3 S3 hh dm rt sub q=>?_;obtain⟨st,I3,_⟩:=IH (W:=λ_=>False) I hj hv s1 I1 hh dm rt (λb hb=>(sub b hb).imp id λ(z:b=p)=>.inr (by rw[z];exact hp)) .none (λ_ z=>z.elim);exact ok.nx _ _ _ _ _ st.toStp.sts I3 q
  all_goals exact h.elim
 | .whl t body,F,H,S,ρ,σ,Z,Dn,c,I,X,h,ok=>by
  obtain⟨W,⟨m0,w0⟩,turn⟩:=h;refine⟨λm σ' H'=>∃L F' S',Sts C [] F H S ρ σ F' H' S' L σ'/\Rl K F' H' S' L σ'/\W m L,⟨m0,ρ,F,S,.refl,I,w0⟩,?_⟩;rintro m G B ⟨A,D,S1,s1,I1,w1⟩;refine(IA g t).t I1 (X.fromS s1) (turn m A w1) λk F' H' S' L s' J q=>?_;have s2:=s1.trans s'.toStp.sts;cases k with
  |false=>exact ok.nx _ _ _ _ _ s2 J q|true =>
   refine⟨λσ' H'=>∃m',m' < m/\∃L F' S',Sts C [] F H S ρ σ F' H' S' L σ'/\Rl K F' H' S' L σ'/\W m' L,λ_ _ z=>z,?_⟩;refine yI g body c J (X.fromS s2) q ⟨?_,?_,?_,?_⟩;exact λF' H' S' L σ' s' I' ⟨m',hm,w⟩=>⟨m',hm,L,F',S',s2.trans s',I',w⟩
   exact λv t W F' H' S' L σ' s' I' r hw fr q=>ok.rt v t W F' H' S' L σ' (s2.c.trans s') I' r hw (Ls s2 fr) q;exact λF' H' S' L σ' s' I' q=>ok.nx _ _ _ _ _ (s2.trans s') I' q;exact λF' H' S' L σ' s' I' ⟨m',hm,w⟩=>⟨m',hm,L,F',S',s2.trans s',I',w⟩
 | .frz is s,F,H,S,ρ,σ,Z,Dn,c,I,X,h,ok=>by obtain⟨F',S',I',s'⟩:=I.frzAt (C:=C) is;exact yI g s c I' (X.fromS s') h (ok.from s')
end
section
variable{z:Ev}{n:Need}
structure Need where
 fn:LS
 va:LS
 no:LS
noncomputable def Pr(n:Need):ItK->Bool
 | .val=>true|.rng1=>n.no.contains ("range":Str)|.enum=>n.no.contains ("enumerate":Str)|.itm=>true
noncomputable def rB(n:Need):PX->Bool
 | .glo x=>n.va.contains x|.bin _ a b | .cmp _ a b | .and a b | .or a b | .idx a b | .ny a b | .dsp a b=>rB n a&&rB n b
 | .not a | .lst a | .tup a=>rB n a
 | .slc a b c=>rB n a&&(rB n b&&rB n c)|.call f y=>n.fn.contains f&&rB n y|.bi f y=>n.no.contains f.nm&&rB n y|.mt _ o y=>rB n o&&rB n y|.comp _ _ _ w u h v=>Pr n w&&(rB n u&&(rB n h&&rB n v))|_=>true
noncomputable def iE(n:Need):PT->Bool
 | .seq s r=>iE n s&&iE n r|.set _ e=>rB n e|.own _ e=>rB n e|.expr e=>rB n e|.ret e=>rB n e|.ife c a b=>rB n c&&(iE n a&&iE n b)|.for_ _ y x h=>Pr n y&&(rB n x&&iE n h)|.six o i e=>rB n o&&(rB n i&&rB n e)|.sdf i k=>rB n (jm i k)|.whl c b=>rB n c&&iE n b|.frz _ s=>iE n s|.nil=>true
noncomputable def gQ(z:Ev)(n:Need):Glob:=⟨z,λf=>f∈n.fn,λx=>x∈n.va,λx=>x∈n.no⟩
theorem G5{x:ItK}(h:Pr n x=true):yo (gQ z n) x:=by
 cases x with|val=>trivial|itm=>trivial|_=>exact qF.mp h
theorem JC:∀(p:PX),rB n p=true->uB (gQ z n) p:=by
 intro p;induction p with
 |glo x=>intro h;exact qF.mp h|bin _ a b y w|cmp _ a b y w|and a b y w|or a b y w|idx a b y w|ny a b y w|dsp a b y w=>intro h;obtain⟨v,u⟩:=yA h;exact⟨y v,w u⟩
 |not a y|lst a y|tup a y=>intro h;exact y h
 |slc a b c y w m=>intro h;obtain⟨v,e⟩:=yA h;obtain⟨u,k⟩:=yA e;exact⟨y v,w u,m k⟩|call f i y=>intro h;obtain⟨v,u⟩:=yA h;exact⟨qF.mp v,y u⟩|bi f i y=>intro h;obtain⟨v,u⟩:=yA h;exact⟨qF.mp v,y u⟩|mt _ o i l y=>intro h;obtain⟨v,u⟩:=yA h;exact⟨l v,y u⟩|comp _ _ _ Z j g Y s r q=>intro h;obtain⟨v,h⟩:=yA h;obtain⟨u,h⟩:=yA h;obtain⟨k,X⟩:=yA h;exact⟨G5 v,s u,r k,q X⟩|_=>intro _;trivial
theorem JY:∀(p:PT),iE n p=true->eE (gQ z n) p:=by
 intro p;induction p with
 |seq s r f l=>intro h;obtain⟨u,y⟩:=yA h;exact⟨f u,l y⟩|set _ e|own _ e|expr e|ret e=>intro h;exact JC _ h
 |six o i e=>intro h;obtain⟨u,x⟩:=yA h;obtain⟨y,w⟩:=yA x;exact⟨JC _ u,JC _ y,JC _ w⟩|sdf i k=>intro h;exact JC _ h|frz _ s f=>intro h;exact f h|whl c b v=>intro h;obtain⟨u,y⟩:=yA h;exact⟨JC _ u,v y⟩|ife c a b m v=>intro h;obtain⟨u,x⟩:=yA h;obtain⟨y,w⟩:=yA x;exact⟨JC _ u,m y,v w⟩|for_ _ q j g v=>intro h;obtain⟨u,x⟩:=yA h;obtain⟨y,w⟩:=yA x;exact⟨G5 u,JC _ y,v w⟩|_=>intro _;trivial
noncomputable def tM(N ps:LS)(sc:Scope):Bool:=sc.kind==.function&&!sc.isCoroutine&&!sc.isGenerator&&sJ N&&N.take ps.length==ps &&
 ps.all (λx=>sc.names.lookup x==some .local||sc.names.lookup x==some .cell)&&sc.names.all λy=>y.2 != .free
theorem KS{N ps:LS}{sc:Scope}(h:tM N ps sc=true):FnScope N ps sc:=by simp only[tM,Qd,Qw,WS,beq_iff_eq,Q1,bne_iff_ne,ne_eq]at h;obtain⟨⟨⟨⟨⟨⟨a,k⟩,w⟩,v⟩,u⟩,y⟩,x⟩:=h;exact⟨a,k,w,xE v,u,y,x⟩
noncomputable def sB(n:Need)(b:PT)(N ps:LS)(st:Stmt):Bool:=tM N ps (GA st)&&sQ b ⟨N,GA st⟩ (fC st)&&iE n b
noncomputable def Ig:Md->T->Sl
 | .chg,t=>.own t|_,t=>.ky t
noncomputable def GD:List Md->LT->kA
 |_,[]=>[]|md,t::ts=>some (Ig (md.headD .xx) t)::GD md.tail ts
noncomputable def vB(N:LS)(md:List Md)(ts:LT):kA:=GD md ts++QAU (N.length - ts.length) none
noncomputable def iB:Nat->List Md->Nat->LN
 |_,_,0=>[]|k,md,n+1=>match md.headD .xx with
  | .chg=>k::iB (k+1) md.tail n|_=>iB (k+1) md.tail n
def pU:Option (LT)->(LT->Prop)->Prop
 |some os,Q=>Q os|none,_=>False
noncomputable def NC(P:PSp)(n:Nat)(Q:T->LT->Prop):PEnds where
 nx:=λh=>pU (BA (iB 0 P.md n) h) (Q (.d .none))
 rt:=λt h=>pU (BA (iB 0 P.md n) h) (Q t)
abbrev xw(Ψ:PEv)(b:PT)(p:PSp)(N ps:LS)(ds:LT)(Q:T->LT->Prop):Prop:=ds.length=ps.length/\pF Ψ b (NC p ps.length Q) (vB N p.md ds)
abbrev AG(Ψ:PEv)(b:PT)(p:PSp)(N ps:LS):Prop:=∀(h:LT) (Q:T->LT->Prop) (E:XE),p.run h Q E->h.length=ps.length/\pF Ψ b (NC p ps.length Q) (vB N p.md h)
noncomputable def ET(mg:Str->Option Value)(x:Str):V:=((mg x).bind MM).getD .non
noncomputable def Ko(K:QA)(mg:Str->Option Value)(Ψ:PEv):Ev:=⟨λf=>lift K (Ψ.sp f),ET mg⟩
structure ValsOk(P:Program)(w:World)(K:QA)(mg:Str->Option Value)(Ψ:PEv)(va:LS):Prop where
 rep:∀x d,Ψ.va x=some d->∀F,Rep K F (ET mg x) d
 has:∀x∈va,∃u v,mg x=some u/\MM u=some v
theorem eW{u:Value}{v:V}(h:MM u=some v):JA v u:=by cases u<;>first | (obtain rfl:=Qs h;first|rfl|exact⟨_,rfl⟩)|exact nomatch (show(none:Option V)=some v from h)
end
section
variable{P:Program}{w:World}{K:QA}{mg:Str->Option Value}{base:Heap}{Ψ:PEv}
section
variable{k:Nat}{F H:Hp}{Y M:lB}{md:List Md}{vs:LV}{ts:LT}{N ps:LS}{R:PSp}{x l:Str}{st:Stmt}{f:Addr}{o:FuncData}{n:Need}
def cG(P:Program)(w:World)(K:QA)(mg:Str->Option Value)(base:Heap)(Ψ:PEv)(k:Nat)(f:Str):Prop :=
 ∃(a:Addr) (o:FuncData) (ps:LS),FnOk P w K mg base DZ k a o ps (lift K (Ψ.sp f))/\mg f=some (.ref a)/\wK K (.ref a)=true/\kJ K o ps []
theorem cG.mono{j:Nat}{f:Str}(h:cG P w K mg base Ψ j f)(hk:j<=k):cG P w K mg base Ψ k f:=by obtain⟨a,o,ps,z,y⟩:=h;exact⟨a,o,ps,z.mono hk,y⟩
theorem ArgsR.length(h:ArgsR K F H Y md vs ts):vs.length=ts.length:=by
 induction h with|nil=>rfl|chg _ _ e=>exact congrArg Nat.succ e|rd _ _ _ _ e=>exact congrArg Nat.succ e
theorem kI:∀(m:List Md) (ts:LT),(GD m ts).length=ts.length
 |_,[]=>rfl|m,d::ds=>by unfold GD;rw[QM,QM,kI]
theorem u3{m:Md}(h:m≠.chg)(t:T):Ig m t=.ky t:=by cases m<;>first|rfl|exact absurd rfl h
theorem nH(md:List Md)(v:V)(vs:LV):fB md (v::vs)=match md.headD .xx with | .chg=>v::fB md.tail vs|_=>fB md.tail vs:=by first | (rw[fB];done) | (rw[fB];cases md.headD .xx<;>rfl)
theorem uM(md:List Md)(v:T)(vs:LT):KB md (v::vs)=match md.headD .xx with | .chg=>v::KB md.tail vs|_=>KB md.tail vs:=by first | (rw[KB];done) | (rw[KB];cases md.headD .xx<;>rfl)
theorem yO(md:List Md)(t:T)(ts:LT):GD md (t::ts)=some (Ig (md.headD .xx) t)::GD md.tail ts:=by rw[GD]
theorem Bb(h:ArgsR K F H Y md vs ts)(r:Trs K F H true (fB md vs) (KB md ts) M) :
  ∃Z:Ft,(∀(i:Nat) s,(GD md ts)[i]?=some (some s)->∃v,vs[i]?=some v/\Tr K F H s.st v s.t (Z i))/\(∀(i:Nat) t,(GD md ts)[i]?=some (some (.own t))->∀b,Z i b->M b)/\(∀(i:Nat) t,(GD md ts)[i]?=some (some (.ky t))->∀b,Z i b->Y b) /\
   ∀(i j:Nat) t u,i≠j->(GD md ts)[i]?=some (some (.own t))->(GD md ts)[j]?=some (some (.own u))->∀b,Z i b->¬ Z j b:=by
 induction h generalizing M with
 |nil=>exact⟨λ_ _=>False,λi s e=>by simp[GD]at e,λi t e=>by simp[GD]at e,λi t e=>by simp[GD]at e,λi j t u _ e=>by simp[GD]at e⟩|@chg md v vs t ts a L W =>
  have I:fB md (v::vs)=v::fB md.tail vs:=by rw[nH,a]
  have G:KB md (t::ts)=t::KB md.tail ts:=by rw[uM,a]
  rw[I,G]at r;cases r with
  |@cons _ _ _ _ _ _ J S X O n q =>
   obtain⟨Z,C,g,B,A⟩:=W O;have E:GD md (t::ts)=some (.own t)::GD md.tail ts:=by rw[yO,a];rfl
   rw[E];refine⟨λi=>match i with|0=>J|i+1=>Z i,λi s e=>?_,λi u e b hb=>?_,λi u e b hb=>?_,λi j u w p e m b hb y=>?_⟩;cases i with|zero=>simp at e;subst e;exact⟨v,rfl,X⟩|succ i=>exact C i s (by simpa using e)
   cases i with|zero=>exact(q b).mpr (.inl hb)|succ i=>exact(q b).mpr (.inr (g i u (by simpa using e) b hb))
   cases i with|zero=>simp at e|succ i=>exact B i u (by simpa using e) b hb
   cases i with
   |zero =>
    cases j with|zero=>exact p rfl|succ j=>exact n b hb (g j w (by simpa using m) b y)
   |succ i =>
    cases j with|zero=>exact n b y (g i u (by simpa using e) b hb)|succ j=>exact A i j u w (λz=>p (by rw[z])) (by simpa using e) (by simpa using m) b hb y
 |@rd md v vs t ts J a X Q L W =>
  have I:fB md (v::vs)=fB md.tail vs:=by rw[nH];cases e:md.headD .xx<;>first|exact absurd e a|rfl
  have G:KB md (t::ts)=KB md.tail ts:=by rw[uM];cases e:md.headD .xx<;>first|exact absurd e a|rfl
  rw[I,G]at r;obtain⟨Z,C,g,B,A⟩:=W r;have E:GD md (t::ts)=some (.ky t)::GD md.tail ts:=by rw[yO,u3 a]
  rw[E];refine⟨λi=>match i with|0=>J|i+1=>Z i,λi s e=>?_,λi u e b hb=>?_,λi u e b hb=>?_,λi j u w p e m b hb y=>?_⟩;cases i with|zero=>simp at e;subst e;exact⟨v,rfl,X⟩|succ i=>exact C i s (by simpa using e)
  cases i with|zero=>simp at e|succ i=>exact g i u (by simpa using e) b hb
  cases i with|zero=>exact Q b hb|succ i=>exact B i u (by simpa using e) b hb
  cases i with
  |zero=>simp at e|succ i =>
   cases j with|zero=>simp at m|succ j=>exact A i j u w (λz=>p (by rw[z])) (by simpa using e) (by simpa using m) b hb y
theorem C0(f:Same F H)(h:ArgsR K F H Y md vs ts)(q:Trs K F H true (fB md vs) (KB md ts) M)(dj:∀b,Y b->¬ M b) :
  ∃S,Rl K F H S (vB N md ts) (yD N vs)/\∀b,U (vB N md ts) S b->M b:=by
 obtain⟨Z,W,a,X,r⟩:=Bb h q;have hl:=h.length;have get:∀(i:Nat) s,(vB N md ts)[i]?=some (some s)->(GD md ts)[i]?=some (some s):=λi s e=>by
  unfold vB at e;rcases QA6 i ts.length with z|z
  ·rwa [qR (by rw[kI];exact z)]at e
  rw[qJ (by rw[kI];exact z),wc]at e;split at e<;>cases e
 refine⟨Z,⟨f,?_,λi s e=>?_,λi j t s n p m b hb y=>?_⟩,λb ⟨i,t,e,hb⟩=>a i t (get i _ e) b hb⟩;unfold vB yD;rw[QI,QI,kI,QD,qq,qq,hl];obtain⟨v,g,A⟩:=W i s (get i s e);refine⟨v,?_,A⟩;unfold yD;rw[qR (by rw[QD];exact(Qf.mp g).1),QX,g];rfl;cases s with|own u=>exact r i j t u n (get i _ p) (get j _ m) b hb y|ky u=>exact dj b (X j u (get j _ m) b y) (a i t (get i _ p) b hb)
theorem oO:∀{md:List Md}{k n:Nat}{vs:LV}{σ:St},vs.length=n->(∀(i:Nat) v,vs[i]?=some v->σ[k+i]?=some (some v))->(fB md vs).map (λv=>some (some v))=(iB k md n).map λj=>σ[j]?
 |md,k,0,vs,σ,h,g=>by
  cases vs with|nil=>rfl|cons _ _=>cases h
 |md,k,n+1,vs,σ,h,g=>by
  cases vs with
  |nil=>cases h|cons v vs =>
   have y:=oO (md:=md.tail) (k:=k+1) (n:=n) (vs:=vs) (σ:=σ) (by simpa using h) λi w z=>by have:=g (i+1) w (by simpa using z);rw[show k+1+i=k+(i+1) by omega];exact this
   have g0:=g 0 v rfl;rw[nH];unfold iB;cases e:md.headD .xx with|chg=>simp only[QV,y];rw[show σ[k]?=some (some v) from g0]|_=>exact y
theorem VM:∀{md:List Md}{k n j:Nat},j∈iB k md n->k<=j
 |md,k,0,j,h=>by simp[iB]at h|md,k,n+1,j,h=>by
  unfold iB at h;cases e:md.headD .xx with
  |chg=>rw[e]at h;rcases QL.mp h with z|z;omega;have:=VM z;omega
  |_=>rw[e]at h;have:=VM h;omega
theorem OS:∀(md:List Md) (k n:Nat),(iB k md n).Nodup
 |md,k,0=>Q7|md,k,n+1=>by
  have h:=OS md.tail (k+1) n;unfold iB;cases e:md.headD .xx with|chg=>exact Qi.mpr ⟨λz=>by have:=VM z;omega,h⟩|_=>exact h
theorem E5{b:PT}(F:Fun K x l st f o)(xC:sB n b N ps st=true)(hc:tJ (iB 0 R.md ps.length) b=true)
  (fns:∀g∈n.fn,cG P w K mg base Ψ k g) (C:ValsOk P w K mg Ψ n.va) (nos:∀y∈n.no,mg y=none)
  (body:∀ts Q E,R.run ts Q E->ts.length=ps.length/\pF Ψ b (NC R ps.length Q) (vB N R.md ts)):FnOk P w K mg base DZ (k+1) f o ps (lift K R):=by
 obtain⟨c12,c3⟩:=yA xC;obtain⟨c1,c2⟩:=yA c12;have S:=KS c1;refine F.ok S (λvs H Q E h=>?_) (λcdv A J s H vs Q E hr h=>?_);obtain⟨F',ts,M,Y,h1,h2,h3,h4,h5⟩:=h;rw[h2.length];exact(body ts _ _ h5).1;obtain⟨F',ts,M,Y,h1,h2,h3,h4,h5⟩:=h;have q:=(body ts _ _ h5).2;have hlen:=(body ts _ _ h5).1;have ok:OkS ((aV DZ P w K mg base N l (GA st) f cdv A J s H E).nox) ⟨N,GA st⟩ (gQ (Ko K mg Ψ) n) E0:={
  N:=rfl
  sc:=rfl
  calm:=rfl
  un:=by have:=hr.un;show(A.deeper _).units+66<cLine;omega
  fn:=λg hg=>by obtain⟨a,gd,gps,g1,g2,g3,g4⟩:=fns g hg;exact⟨DZ,k,a,gd,gps,g1,hr,g2,g3,g4,Bm,λ_ _ _ _ _ z=>z⟩
  val:=λy hy=>by obtain⟨u,v,e1,e2⟩:=C.has y hy;refine⟨u,e1,?_⟩;show JA (ET mg y) u;unfold ET;rw[e1];show JA ((MM u).getD .non) u;rw[e2];exact eW e2
  no:=λy hy=>nos y hy
  po:=PassesOwn.never
  nd:=S.nd
  cel:=λ_=>rfl }
 refine⟨_,(jr b ok c2 (JY b c3)).1,?_⟩;obtain⟨S0,I,hU⟩:=C0 (N:=N) h1 h2 h3 h4;have g:GOk K (Ko K mg Ψ) Ψ:=⟨λ_ _ _ _ _ h=>h,λy d e F=>C.rep y d e F⟩
 have hvl:vs.length=ps.length:=h2.length.trans hlen;have fin:∀v t W B X G m p,Stc (iB 0 R.md ps.length) F' H S0 (vB N R.md ts) (yD N vs) B X G m p->Rl K B X G m p->Tr K B X true v t W->Held B X G m W->(∀b,W b->H b=none∨U (vB N R.md ts) S0 b) ->
   pU (BA (iB 0 R.md ps.length) m) (λos=>∀v F3 H3 Z M',Frm M F' H F3 H3->Tr K F3 H3 true v t Z->Trs K F3 H3 true (fB R.md vs) os M'->(∀b,Z b->¬ M' b)->(∀b,Z b∨M' b->M b∨H b=none)->Q v H3)->Q v X:=by
  intro v t W B X G m p s I2 r O fr q;cases eo:BA (iB 0 R.md ps.length) m with
  |none=>rw[eo]at q;exact q.elim|some os =>
   rw[eo]at q;have hv:(fB R.md vs).map (λv=>some (some v))=(iB 0 R.md ps.length).map λj=>p[j]?:=by rw[oO (md:=R.md) (k:=0) (n:=ps.length) (vs:=vs) (σ:=yD N vs) hvl λi w O=>?_];exact qK λj L=>(s.sg j L).symm;unfold yD;rw[WG,qR (by rw[QD];exact(Qf.mp O).1),QX,O];rfl
   have trs:=I2.trs (OS _ _ _) eo hv;have own:∀j∈iB 0 R.md ps.length,∃t,m[j]?=some (some (.own t)):=λj L=>by obtain⟨i,hi⟩:=Wl.mp L;obtain⟨t,_,e⟩:=(YD eo).2 i j hi;exact⟨t,e⟩
   have lk:∀b,U (vB N R.md ts) S0 b∨H b=none->M b∨H b=none:=λb hb=>hb.imp (hU b) id;refine q v B X W _ ⟨s.ff,I2.fh,λb u e n=>s.hh b u e λz=>n (hU b z),s.dm,λb e z=>lk b (s.fn b e z)⟩ r trs (λb hb ⟨j,L,z⟩=>?_) λb hb=>?_;obtain⟨t',e⟩:=own j L;exact O.nw j _ e b hb z;rcases hb with hb|⟨j,L,z⟩
   ·exact lk b (fr b hb).symm
   obtain⟨t',e⟩:=own j L;exact lk b (s.uu b ⟨j,t',e,z⟩)
 refine yI g b hc I (λ_ _ _ _ _ _ _ _ _ z=>z.elim) q ⟨?_,?_,λ_ _ _ _ _ _ _ z=>z.elim,λ_ _ _ _ _ _ _ z=>z.elim⟩;intro B X G m p s I2 q;exact fin .non (.d .none) (λ_=>False) B X G m p s.c I2 (.d .non λ_ z=>z) .none (λ_ z=>z.elim) q;intro v t W B X G m p s I2 r O fr q;exact fin v t W B X G m p s I2 r O fr q
theorem O5{h:PEv}{b:PT}(F:Fun K x l st f o)(a:mg x=some (.ref f))(hb:kJ K o ps [])(xC:sB n b N ps st=true)(hc:tJ (iB 0 R.md ps.length) b=true)
  (v:∀g∈n.fn,cG P w K mg base Ψ k g) (z:ValsOk P w K mg Ψ n.va) (u:∀y∈n.no,mg y=none)
  (body:∀ts Q E,R.run ts Q E->ts.length=ps.length/\pF Ψ b (NC R ps.length Q) (vB N R.md ts)) (e:h.sp x=R):cG P w K mg base h (k+1) x :=
 ⟨f,o,ps,by rw[e];exact E5 F xC hc v z u body,a,F.kp,hb⟩
end
end
noncomputable def BR:PSp where
 md:=[.xy]
 run:=λx Q _=>∃h:LJ,h.length<=63/\(∀n∈h,QAD n<=1048576)/\x=[.lst ((h.map Jy).map T.d)]/\Q (.d (.bool true)) []
noncomputable def jk:PSp:=⟨[],λ_ _ _=>False,λ_ _ h=>h⟩
theorem TN{K:QA}{F:Hp}:∀(ns:LJ),Reps K F (ns.map V.int) (ns.map Jy)
 |[]=>.nil|n::r=>.cons (.int n) (TN r)
theorem YL{K:QA}{F:Hp}:∀(ns:LS),Reps K F (ns.map V.str) (ns.map Jx)
 |[]=>.nil|n::r=>.cons (.str n) (YL r)
theorem Rh(K:QA)(H:Hp)(a:Addr)(ns:LJ)(hl:ns.length<=63)(h:∀n∈ns,QAD n<=1048576)(x:HC K H a (ns.map V.int)):lift K BR [.ref a] H (λv _=>v=.bl true) λ_ _ _=>False:=by
 refine⟨H,[.lst ((ns.map Jy).map T.d)],λ_=>False,λ_=>False,.refl _,.rd (Z:=λ_=>False) (by simp[BR]) (.lstF x (TN ns) λ_ z=>z) (λ_ z=>z) .nil,.nil λ_ z=>z,λ_ z=>z.elim,ns,hl,h,rfl,λv w u Z y _ r _ _ _=>?_⟩;cases r with|d r _=>cases r;rfl
theorem RT{ns:LJ}:∀n∈ns,Wu (.int n)<=we (ns.map W0.int):=by
 induction ns with|nil=>intro n h;cases h|cons m ns x=>intro n h;show _<=Wu (.int m)+1+we (ns.map W0.int);rcases QL.mp h with rfl|h;omega;have:=x n h;omega
theorem Xb{ns:LJ}(h:W0.layableAll [.list (ns.map .int)]=true):∀n∈ns,QAD n<=1048576:=by
 intro n z;have v:=(PySem.W.layableW_iff.mp (PySem.W.layableW_arg h _ QF)).2.2;have k:we (ns.map W0.int)<=2 ^ 20:=v;have y:=RT n z;have u:Wu (.int n)=if n==0 then 0 else n.natAbs.log2+1:=rfl
 rw[PySem.intBits_le_iff];by_cases x:n=0;subst x;exact Nat.pow_pos (by decide);have:(n==0)=false:=by simpa using x
 rw[u,this]at y;have w:n.natAbs.log2+1<=1048576:=by have:n.natAbs.log2+1<=we (ns.map W0.int):=y;omega
 exact(Nat.log2_lt (show n.natAbs≠0 by omega)).mp (by omega)
def NX(K:QA)(x:Str)(st:Stmt):Prop:=∃f h,qm K mainGlobals x=some (some (.ref f))/\Fun K x x st f h
def NM(K:QA)(x:Str)(d:D):Prop:=∃u v,qm K mainGlobals x=some (some u)/\MM u=some v/\∀F,Rep K F v d
theorem EZ{K:QA}{x:Str}{f:Addr}{xs:LS}{v:Option Addr}{its:LW}{n:Nat}{z:Array (Option Value)}(a:qm K mainGlobals x=some (some (.ref f)))
  (l:K.lookup f=some ⟨.type "tuple",v,.seq its.toArray n,z⟩) (h:its.map MM=xs.map λy=>some (.str y)) (k:xs.length<=sizeLine):NM K x (.tuple (xs.map Jx)):=by
 refine⟨_,_,a,rfl,λF=>.tup (.inr ⟨_,its.toArray,n,l,rfl,rfl,?_,?_⟩) (YL xs)⟩;have:=congrArg qw h;simp at this;simp;omega;have key:∀(its:LW) (xs:LS),its.map MM=xs.map (λy=>some (.str y))->nA (xs.map V.str) its:=by
  intro its;induction its with
  |nil =>
   intro xs h;cases xs with|nil=>exact .nil|cons _ _=>simp at h
  |cons u its w =>
   intro xs h;cases xs with|nil=>simp at h|cons y xs=>simp only[QV,QAC]at h;exact .cons (eW h.1) (w xs h.2)
 simpa using key its xs h
section
variable{P:Program}{w:World}{K:QA}{mg:Str->Option Value}{base h:Heap}{Ψ:PEv}
section
variable{x:Str}{st:Stmt}{ps:LS}{k:Nat}
theorem NM.inMg(X:K.In h)(G:h.Ns mainGlobals mg){d:D}(v:NM K x d):(∀F,Rep K F (ET mg x) d)/\∃u v,mg x=some u/\MM u=some v:=by
 obtain⟨u,v,a,y,z⟩:=v;have e:=WU X G a;refine⟨λF=>?_,u,v,e,y⟩;have:ET mg x=v:=by unfold ET;rw[e];show(MM u).getD .non=v;rw[y];rfl
 rw[this];exact z F
theorem P5{R:PSp}{z:PEv}{N:LS}{b:PT}{n:Need}(X:K.In h)(G:h.Ns mainGlobals mg)(D:NX K x st)(xC:sB n b N ps st=true)(hc:tJ (iB 0 R.md ps.length) b=true)
  (hb:∀(kV i l:Value) (p:Option Addr) (j ct:Value) (us:LW),us.length=ps.length->bindArgs (qp x x (AC st) (fC st) (GA st) .none kV i l p j ct) ⟨us,[]⟩=pure (ps.zip us))
  (e:∀g∈n.fn,cG P w K mg base Ψ k g) (u:ValsOk P w K mg Ψ n.va) (v:∀y∈n.no,qm K mainGlobals y=some none)
  (body:∀ts Q E,R.run ts Q E->ts.length=ps.length/\pF Ψ b (NC R ps.length Q) (vB N R.md ts)) (o:z.sp x=R):cG P w K mg base z (k+1) x:=by
 obtain⟨f,q,a,F⟩:=D;exact O5 F (WU X G a) (F.binds hb) xC hc e u (λy m=>QAQ X G (v y m)) body o
theorem Sh{i:Addr}(X:K.In h)(G:h.Ns mainGlobals mg)(D:NX K "law" st)(p:ps=[x])(b:mg "law"=some (.ref i))(o:Ψ.sp "law"=BR)
  (hb:∀(kV z g:Value) (j:Option Addr) (v ct:Value) (us:LW),us.length=ps.length->bindArgs (qp "law" "law" (AC st) (fC st) (GA st) .none kV z g j v ct) ⟨us,[]⟩=pure (ps.zip us))
  (H:∀base:Heap,K.In base->base.Ns mainGlobals mg->∀f y,Fun K "law" "law" st f y->mg "law"=some (.ref f)->FnOk P w K mg base DZ k f y ps (lift K (Ψ.sp "law"))) :
  ∃y:FuncData,(∀(s:Shared) (u:Value),BindsTo s y ⟨[u],[]⟩ [(x,u)])/\∀base:Heap,K.In base->base.Ns mainGlobals mg->FnOk P w K mg base DZ k i y [x] (lift K BR):=by
 obtain⟨f,y,a,F⟩:=D;have e:=b.symm.trans (WU X G a);cases e;subst p;refine⟨y,λs u=>?_,λbase n m=>?_⟩;obtain⟨Y,r,kV,z,g,j,v,ct,l,rfl,lk,q⟩:=F.ex;exact .of_eq (hb kV z g j v ct [u] rfl);rw[<- o];exact H base n m i y F b
end
end
theorem gB{α:Type}{body:T->(Option T->Prop)->Prop}(g f:α->T):∀(l:List α) (h:LT) (Q:LT->Prop),(∀x∈l,∀R:Option T->Prop,R (some (f x))->body (g x) R)->h.length+l.length<=sizeLine->Q (h++l.map f)->cD body (l.map g) h Q
 |[],h,Q,_,hl,q=>by simp only[WH,cD];exact⟨by simpa using hl,by simpa using q⟩|x::r,h,Q,hb,hl,q=>by simp only[QV,cD];refine hb x QF _ ?_;simp only[QM]at hl;refine⟨by omega,gB g f r _ Q (λy z=>hb y (QE _ z)) (by simp;omega) (by simpa using q)⟩
theorem fA{α:Type}{body:T->(Option T->Prop)->Prop}(g f:α->T)(p:α->Bool):∀(l:List α) (h:LT) (Q:LT->Prop),(∀x∈l,∀R:Option T->Prop,R (if p x=true then some (f x) else none)->body (g x) R)->h.length+l.length<=sizeLine->Q (h++(l.filter p).map f)->cD body (l.map g) h Q
 |[],h,Q,_,hl,q=>by simp only[WH,cD];exact⟨by simpa using hl,by simpa using q⟩|x::r,h,Q,hb,hl,q=>by
  simp only[QV,cD];refine hb x QF _ ?_;simp only[QM]at hl;cases u:p x with|true=>refine⟨by omega,fA g f p r _ Q (λy z=>hb y (QE _ z)) (by simp;omega) ?_⟩;rw[WE,if_pos u]at q;simpa using q|false=>refine fA g f p r _ Q (λy z=>hb y (QE _ z)) (by omega) ?_;rw[WE,if_neg (by rw[u];simp)]at q;exact q
theorem JQ{α:Type}{xs:List α}{i:Int}(y:0<=i)(x:i<xs.length):∃v,AD xs i=some v/\xs[i.toNat]?=some v:=by
 have h:i.toNat<xs.length:=by omega
 have e:((i.toNat:Nat):Int)=i:=by omega
 have q:=yF (Qe h);rw[e]at q;exact⟨xs[i.toNat],q,Qe h⟩
theorem YG{α h:Type}(f:α->h)(xs:List α)(i:Int):AD (xs.map f) i=(AD xs i).map f:=by
 unfold AD;rw[QD];cases DT xs.length i with|none=>rfl|some j=>exact QX
theorem EA{Ψ:PEv}{E:XE}{α:Type}{body:PT}{u:Tg}{Z:PEnds}(g:α->T)(W:List α->kA->Prop)(k:∀ρ,W [] ρ->Z.nx ρ)
  (v:∀x xs ρ (N:kA->Prop),(∀y,W xs y->N y)->W (x::xs) ρ->rO u (g x) ρ λz=>bB Ψ E body { Z with nx:=N,ct:=N,bk:=Z.nx } z):∀(xs:List α) (ρ:kA),W xs ρ->sH (bB Ψ E body) u Z (xs.map g) ρ
 |[],ρ,w=>k ρ w|x::xs,ρ,w=>v x xs ρ (λh=>sH (bB Ψ E body) u Z (xs.map g) h) (λh a=>EA g W k v xs h a) w
noncomputable def zc(y:List (Str×PSp))(h:List (Str×D)):PEv:=⟨λf=>(y.lookup f).getD jk,λx=>h.lookup x⟩
theorem jW{P:Program}{w:World}{K:QA}{mg:Str->Option Value}{h:Heap}{v:List (Str×PSp)}{tbl:List (Str×D)}{z:LS}(X:K.In h)(G:h.Ns mainGlobals mg)(u:∀p∈tbl,NM K p.1 p.2)
  (y:(z.all λx=>(tbl.map qu).contains x)=true):ValsOk P w K mg (zc v tbl) z:=by
 refine⟨λx d e F=>((u (x,d) (qN e)).inMg X G).1 F,λx k=>?_⟩;have:=Qw.mp y x k;obtain⟨p,a,e⟩:=QU.mp (qF.mp this);rw[<- e];exact((u p a).inMg X G).2
theorem DO{α:Type}[BEq α][LawfulBEq α]{l m:List α}(h:(l.all λx=>m.contains x)=true):∀x∈l,x∈m:=λx y=>qF.mp (Qw.mp h x y)
section
variable{a b c:PX}{i:Nat}{n:Int}{x:Str}{m:Mt}{f:Str}{g:Bi}{op:Operator}{v:CmpOp}{is:List Bool}{h:LS}{z:Tg}{u:ItK}{y:String}
theorem IV:KG (.xz i)=[i]:=rfl
theorem FN:KG (.ny a b)=KG a++KG b:=rfl
theorem jR:KG .nz=[]:=rfl
end
def fF{α:Type}(o:Option α)(K:α->Prop):Prop:=∃a,o=some a/\K a
theorem fF.mk{α:Type}{o:Option α}{a:α}{K:α->Prop}(e:o=some a)(k:K a):fF o K:=⟨a,e,k⟩
theorem MB{α:Type}{a:α}{K:α->Prop}:fF (some a) K=K a:=propext ⟨λ⟨_,e,k⟩=>by cases e;exact k,λk=>⟨a,rfl,k⟩⟩
theorem eF{α h:Type}{o:Option α}{f:α->h}{K:h->Prop}:fF (o.map f) K=fF o λa=>K (f a):=by
 cases o with|none=>exact propext ⟨λ⟨_,e,_⟩=>(by cases e),λ⟨_,e,_⟩=>(by cases e)⟩|some a=>rw[Qy,MB,MB]
def oB(Ψ:PEv)(e:PX)(E:XE)(ρ:kA)(K:TK):Prop:=(pe Ψ e E).e ρ K
def LQ(Ψ:PEv)(e:PX)(E:XE)(ρ:kA)(K:Bool->kA->Prop):Prop:=(pe Ψ e E).t ρ K
def ML(Ψ:PEv)(e:PX)(E:XE)(md:List Md)(ρ:kA)(K:List (T×Bool)->kA->Prop):Prop:=(pe Ψ e E).a md ρ K
def eR(p:PSp)(ts:LT)(K:T->LT->Prop)(E:XE):Prop:=p.run ts K E
def m7(x:T)(n:Bool)(Ψ:PEv)(b:PX)(E:XE)(ρ:kA)(K:TK):Prop:=sq (pA x n) ρ (cu (pe Ψ b E).e) λy h=>K y.1 y.2 h
def t7(x:T)(n:Bool)(Ψ:PEv)(b:PX)(E:XE)(md:List Md)(ρ:kA)(K:List (T×Bool)->kA->Prop):Prop:=sq (if n=true then .d .none else x) ρ ((pe Ψ b E).a md) K
def pH(i:Nat)(σ ρ:kA)(K:TK):Prop:=Ep σ[i]? λt=>K t false ρ
def t8(i:Nat)(σ:kA)(ρ:kA)(j:Nat)(R:T->kA->Prop):Prop:=nr ρ j R σ[i]?
def eL(Ψ:PEv)(E:XE)(r:PT)(Z:PEnds)(i:Nat)(x:T)(n:Bool)(ρ:kA):Prop:=tH x n=true/\bB Ψ E r Z (ρ.set i (bD x.er))
def Dm(Ψ:PEv)(E:XE)(r:PT)(Z:PEnds)(i:Nat)(x:T)(n:Bool)(ρ:kA):Prop:=tH x n=true/\bB Ψ E r Z (ρ.set i (some (.own x)))
def XC(x:T)(n:Bool)(P:Prop):Prop:=tH x n=true/\P
def aH(op:Operator)(x:T)(n:Bool)(y:T)(m:Bool)(Q:T->Bool->Prop):Prop:=binT op (pA x n).vw (pA y m).vw Q
def UB(op:CmpOp)(x y:T)(Q:Bool->Prop):Prop:=zb op x.er y Q
def S7(x:T)(Q:Bool->Prop):Prop:=FH x.er Q
def Uu(x:T)(Q:Bool->Prop):Prop:=sj x.er Q
def PK(f:Bi)(xs:List (T×Bool))(Q:T->Bool->Prop):Prop:=XX f (IB xs) Q
def CA(x:T)(n:Bool)(y:T)(m:Bool)(Q:T->Prop):Prop:=sN (pA x n).vw (pA y m).vw Q∨CS (pA x n).vw y.er Q
def Rk(Ψ:PEv)(E:XE)(c:PX)(q:PT)(Z:PEnds)(ρ:kA):Prop:=bB Ψ E (.whl c q) Z ρ
def bc(t y x:T)(Q:T->Prop):Prop:=Ml t y.er x.er Q
def Fl(z t:T)(Q:T->(T->T)->Prop):Prop:=Hl z.er t Q
def Il(y t:T)(Q:T->Prop):Prop:=rg y.er t Q
def dN(x:T)(n:Bool)(l u:Option Int)(Q:T->Bool->Prop):Prop:=fN (pA x n).vw l u Q
def dM(xs:List (T×Bool))(C:LT->Prop):Prop:=fE xs=true/\C (cF xs)
def DK(h:ItK)(xs:List (T×Bool))(R:LT->Prop):Prop:=VB h (IB xs) R
def aB(md:List Md)(xs:List (T×Bool))(C:LT->Prop):Prop:=fF (XA md xs []) C
def KI(Ψ:PEv)(E:XE)(x:List Bool)(y:LS)(u:Tg)(h z:PX)(ρ:kA):T->(Option T->Prop)->Prop:=PF u (aN y.length x (lockA ρ)) (if isNop h=true then λρ R=>R true ρ else(pe Ψ h E).t) (pe Ψ z E).e
def VX(h:Tg)(x:T)(ρ:kA)(K:kA->Prop):Prop:=rO h x ρ K
section
variable{Ψ:PEv}{E:XE}{ρ:kA}{K:TK}{L:Bool->kA->Prop}{M:List (T×Bool)->kA->Prop}{a b c o its X Y:PX}{q:T->kA->Prop}
section
variable{i j:Nat}{x:T}{op:CmpOp}{f t:Str}{p:PSp}{md:List Md}{v m:List Bool}{w:LS}{g:Tg}{l:ItK}{R:Option T->Prop}{s:Option Sl}{σ:kA}{n:Bool}{ts:LT}
theorem xf:oB Ψ (.xz i) E ρ K=pH i ρ ρ K:=rfl
theorem Ke:LQ Ψ (.xz i) E ρ L=pH i ρ ρ λt _ ρ=>S7 t λb=>L b ρ:=rfl
theorem sf{i:Int}:oB Ψ (.int i) E ρ K=K (.d (.int i)) false ρ:=rfl
theorem bf{x:Str}:oB Ψ (.str x) E ρ K=K (.d (.str x)) false ρ:=rfl
theorem Np{x:Bool}:oB Ψ (.bl x) E ρ K=K (.d (.bool x)) false ρ:=rfl
theorem mf:oB Ψ .non E ρ K=K (.d .none) false ρ:=rfl
theorem kH{x:Str}{d:D}(h:Ψ.va x=some d):oB Ψ (.glo x) E ρ K=K (.d d) false ρ:=by show(match Ψ.va x with|some d=>K (.d d) false ρ|none=>False)=_;rw[h]
theorem Zf{op:Operator}:oB Ψ (.bin op a b) E ρ K=oB Ψ a E ρ λx n u=>m7 x n Ψ b E u λy m h=>aH op x n y m λz k=>K z k h:=rfl
theorem Ve:LQ Ψ (.cmp op a b) E ρ L=oB Ψ a E ρ λx n z=>m7 x n Ψ b E z λy m h=>UB op x (pA y m) λk=>L k h:=rfl
theorem Jf:oB Ψ (.cmp op a b) E ρ K=LQ Ψ (.cmp op a b) E ρ λk h=>K (.d (.bool k)) false h:=rfl
theorem Kf:oB Ψ (.and a b) E ρ K=oB Ψ a E ρ λx _ h=>Uu x λc=>if c=true then oB Ψ b E h K else K (.d (.bool false)) false h:=rfl
theorem Xe:LQ Ψ (.and a b) E ρ L=LQ Ψ a E ρ λc h=>if c=true then LQ Ψ b E h L else L false h:=rfl
theorem Uj:LQ Ψ (.or a b) E ρ L=LQ Ψ a E ρ λc h=>if c=true then L true h else LQ Ψ b E h L:=rfl
theorem gf:oB Ψ (.not a) E ρ K=oB Ψ a E ρ λx _ h=>S7 x λc=>K (.d (.bool (!c))) false h:=rfl
theorem xA(h:Ψ.sp f=p)(F:p.md=md)(C:(md.all λm=>!m.isMut)=true):oB Ψ (.call f o) E ρ K=ML Ψ o E md ρ λxs y=>aB md xs λts=>eR p ts (λr u=>u=[]/\K r true y) E:=by
 have A:∀(md:List Md) (o:PX),(md.all λm=>!m.isMut)=true->uA md o=[]:=by
  intro md;induction md with
  |nil=>intro o _;cases o<;>rfl|cons m md B =>
   intro o h;rw[ql,Qd]at h;cases m with
   |chg=>cases h.1|_=>cases o with|ny a o=>exact B o h.2|_=>rfl
 show(∃u,BA (uA (Ψ.sp f).md o) ρ=some u/\(uA (Ψ.sp f).md o).Nodup/\(pe Ψ o E).a (Ψ.sp f).md (clear (uA (Ψ.sp f).md o) ρ) λxs y=>∃ts,XA (Ψ.sp f).md xs u=some ts/\(Ψ.sp f).run ts (λr Z=>∃z,EB (uA (Ψ.sp f).md o) Z y=some z/\K r true z) E)=_;rw[h,F,A md o C];have W:∀(r:T) (u:LT) (y:kA),(∃z,EB [] u y=some z/\K r true z)=(u=[]/\K r true y):=by
  intro r u y;cases u with|nil=>exact propext ⟨λ⟨_,e,k⟩=>by cases e;exact⟨rfl,k⟩,λk=>⟨_,rfl,k.2⟩⟩|cons _ _=>exact propext ⟨λ⟨_,e,k⟩=>(by cases e),λk=>(by cases k.1)⟩
 have:=λ(y:kA)=>funext λr=>funext λu=>W r u y;simp only[this];exact propext ⟨λ⟨_,e,_,k⟩=>by cases e;exact k,λk=>⟨_,rfl,Q7,k⟩⟩
theorem S6:LQ Ψ (.call f o) E ρ L=oB Ψ (.call f o) E ρ λt _ h=>S7 t λb=>L b h:=rfl
theorem Op{f:Bi}:oB Ψ (.bi f o) E ρ K=ML Ψ o E [] ρ λxs h=>PK f xs λz k=>K z k h:=rfl
theorem df:oB Ψ (.mt .pop (.xz j) o) E ρ K=PC ρ[j]? λt=>cI .pop t=true/\ML Ψ o E [] (ρ.set j (some (.ky t))) λxs h=>fE xs=true/\h[j]?=some (some (.ky t))/\rK .pop t (cF xs) λr s'=>K r true (h.set j (some (.own s'))):=rfl
theorem b7{x:Bool}:oB Ψ (.dnew x) E ρ K=K (.dct x [] []) true ρ:=rfl
theorem af:oB Ψ (.dsp a b) E ρ K=oB Ψ a E ρ λy m z=>XC y m (oB Ψ b E z λx n h=>XC x n (aD true y.er/\K (.dct true [y.er] [x]) true h)):=rfl
theorem ZG(h:Ψ.sp f=p)(O:p.md=.chg::md)(N:(md.all λm=>!m.isMut)=true):oB Ψ (.call f (.ny (.xz j) o)) E ρ K=PC ρ[j]? λt=>ML Ψ o E md (ρ.set j none) λxs y=>aB md xs λts=>eR p (t::ts) (λr u=>∃t',u=[t']/\K r true (y.set j (some (.own t')))) E:=by
 have I:∀(md:List Md) (o:PX),(md.all λm=>!m.isMut)=true->uA md o=[]:=by
  intro md;induction md with
  |nil=>intro o _;cases o<;>rfl|cons m md J =>
   intro o h;rw[ql,Qd]at h;cases m with
   |chg=>cases h.1|_=>cases o with|ny a o=>exact J o h.2|_=>rfl
 show(∃u,BA (uA (Ψ.sp f).md (.ny (.xz j) o)) ρ=some u/\(uA (Ψ.sp f).md (.ny (.xz j) o)).Nodup/\(pe Ψ (.ny (.xz j) o) E).a (Ψ.sp f).md (clear (uA (Ψ.sp f).md (.ny (.xz j) o)) ρ) λxs y=>∃ts,XA (Ψ.sp f).md xs u=some ts/\(Ψ.sp f).run ts (λr Z=>∃W,EB (uA (Ψ.sp f).md (.ny (.xz j) o)) Z y=some W/\K r true W) E)=_;rw[h,O];have P:uA (.chg::md) (.ny (.xz j) o)=[j]:=by show j::uA md o=[j];rw[I md o N]
 rw[P];have A:∀(r:T) (u:LT) (y:kA),(∃W,EB [j] u y=some W/\K r true W)=(∃t',u=[t']/\K r true (y.set j (some (.own t')))):=by
  intro r u y
  match u with
  |[]=>exact propext ⟨λ⟨_,e,k⟩=>(by cases e),λ⟨_,e,k⟩=>(by cases e)⟩|[t]=>exact propext ⟨λ⟨_,e,k⟩=>by cases e;exact⟨t,rfl,k⟩,λ⟨_,e,k⟩=>by cases e;exact⟨_,rfl,k⟩⟩|_::_::_=>exact propext ⟨λ⟨_,e,k⟩=>(by cases e),λ⟨_,e,k⟩=>(by cases e)⟩
 have B:=λ(y:kA)=>funext λr=>funext λu=>A r u y;simp only[B];have C:∀(t:T) (xs:List (T×Bool)) (G:LT->Prop),(∃ts,XA (.chg::md) ((.d .none,true)::xs) [t]=some ts/\G ts)=aB md xs λts=>G (t::ts):=by
  intro t xs G;show(∃ts,(XA md xs []).map (t::·)=some ts/\G ts)=fF (XA md xs []) λts=>G (t::ts);cases XA md xs []with|none=>exact propext ⟨λ⟨_,e,_⟩=>(by cases e),λ⟨_,e,_⟩=>(by cases e)⟩|some ts=>exact propext ⟨λ⟨_,e,k⟩=>by cases e;exact⟨_,rfl,k⟩,λ⟨_,e,k⟩=>by cases e;exact⟨_,rfl,k⟩⟩
 have F:∀t,ρ[j]?=some (some (.own t))->BA [j] ρ=some [t]:=λt e=>by unfold BA;rw[e];rfl
 have Q:∀(u:LT),((pe Ψ (.ny (.xz j) o) E).a (.chg::md) (clear [j] ρ) λxs y=>∃ts,XA (.chg::md) xs u=some ts/\p.run ts (λr Z=>∃t',Z=[t']/\K r true (y.set j (some (.own t')))) E)=(ML Ψ o E md (ρ.set j none) λxs y=>∃ts,XA (.chg::md) ((.d .none,true)::xs) u=some ts/\p.run ts (λr Z=>∃t',Z=[t']/\K r true (y.set j (some (.own t')))) E):=λu=>propext ⟨λh=>h.2,λh=>⟨rfl,h⟩⟩;simp only[Q]
 match e:ρ[j]? with
 |some (some (.own t))=>show _=(ML Ψ o E md (ρ.set j none) λxs y=>aB md xs λts=>eR p (t::ts) (λr u=>∃t',u=[t']/\K r true (y.set j (some (.own t')))) E);rw[F t e];have:=λxs (y:kA)=>C t xs λts=>p.run ts (λr Z=>∃t',Z=[t']/\K r true (y.set j (some (.own t')))) E;refine propext ⟨λ⟨_,e,_,k⟩=>?_,λk=>⟨_,rfl,by simp,?_⟩⟩;cases e;simp only[this]at k;exact k;simp only[this];exact k|some (some (.ky t))=>exact propext ⟨λ⟨_,z,_⟩=>(by unfold BA at z;rw[e]at z;cases z),λk=>k.elim⟩|some none=>exact propext ⟨λ⟨_,z,_⟩=>(by unfold BA at z;rw[e]at z;cases z),λk=>k.elim⟩|none=>exact propext ⟨λ⟨_,z,_⟩=>(by unfold BA at z;rw[e]at z;cases z),λk=>k.elim⟩
theorem ZT:oB Ψ (.mt .extend (.xz j) o) E ρ K=PC ρ[j]? λt=>cI .extend t=true/\ML Ψ o E [] (ρ.set j (some (.ky t))) λxs h=>fE xs=true/\h[j]?=some (some (.ky t))/\rK .extend t (cF xs) λr s'=>K r true (h.set j (some (.own s'))):=rfl
theorem KT:oB Ψ (.mt .append (.xz j) o) E ρ K=PC ρ[j]? λt=>cI .append t=true/\ML Ψ o E [] (ρ.set j (some (.ky t))) λxs h=>fE xs=true/\h[j]?=some (some (.ky t))/\rK .append t (cF xs) λr s'=>K r true (h.set j (some (.own s'))):=rfl
theorem tf:oB Ψ (.idx a b) E ρ K=oB Ψ a E ρ λx n u=>m7 x n Ψ b E u λy m h=>CA x n y m λz=>K z false h:=rfl
theorem rf:oB Ψ (.lst o) E ρ K=ML Ψ o E [] ρ λxs y=>xs.length<=sizeLine/\dM xs λts=>K (.lst ts) true y:=by have:∀(xs:List (T×Bool)) y,(xs.length<=sizeLine/\dM xs λts=>K (.lst ts) true y)=(fE xs=true/\xs.length<=sizeLine/\K (.lst (cF xs)) true y):=λxs y=>propext ⟨λh=>⟨h.2.1,h.1,h.2.2⟩,λh=>⟨h.2.1,h.1,h.2.2⟩⟩;simp only[this];rfl
theorem uf:oB Ψ (.tup o) E ρ K=ML Ψ o E [] ρ λxs y=>xs.length<=sizeLine/\dM xs λts=>K (uE ts) true y:=by have:∀(xs:List (T×Bool)) y,(xs.length<=sizeLine/\dM xs λts=>K (uE ts) true y)=(fE xs=true/\xs.length<=sizeLine/\K (uE (cF xs)) true y):=λxs y=>propext ⟨λh=>⟨h.2.1,h.1,h.2.2⟩,λh=>⟨h.2.1,h.1,h.2.2⟩⟩;simp only[this];rfl
theorem c7:oB Ψ (.comp v w g l its Y X) E ρ K=ML Ψ its E [] ρ λxs y=>DK l xs λh =>
   cD (KI Ψ (λ_=>False) v w g Y X y) h [] λz=>K (.lst z) true y:=rfl
theorem ve:KI Ψ E [] [t] (.nm 0) .nop X ρ x R=oB Ψ X E (some (.ky x)::lockA ρ) λy n _=>XC y n (R (some y)):=rfl
theorem R6{u:Str}{x y:D}:KI Ψ E [] [t,u] (.tp [0,1]) .nop X ρ (.d (.tuple [x,y])) R=oB Ψ X E (bD x::bD y::lockA ρ) λy n _=>XC y n (R (some y)):=MB
theorem ue:KI Ψ E [] [t] (.nm 0) (.cmp op a b) X ρ x R=LQ Ψ (.cmp op a b) E (some (.ky x)::lockA ρ) λk h=>if k=true then oB Ψ X E h λy n _=>XC y n (R (some y)) else R none:=rfl
theorem Xf:ML Ψ .nz E md ρ M=M [] ρ:=rfl
theorem l7:ML Ψ (.ny a o) E [] ρ M=oB Ψ a E ρ λx n y=>t7 x n Ψ o E [] y λxs h=>M ((x,n)::xs) h:=rfl
theorem XT:ML Ψ (.ny a o) E (.xy::md) ρ M=oB Ψ a E ρ λx n y=>t7 x n Ψ o E md y λxs h=>M ((x,n)::xs) h:=rfl
theorem UT:ML Ψ (.ny a o) E (.ky::md) ρ M=oB Ψ a E ρ λx n y=>t7 x n Ψ o E md y λxs h=>M ((x,n)::xs) h:=rfl
theorem Pe:mJ Ψ E q (.xz i) ρ=t8 i ρ ρ i q:=rfl
theorem vp{x:Bool}:mJ Ψ E q (.bl x) ρ=q (.d (.bool x)) ρ:=propext ⟨λh=>h.2,λh=>⟨rfl,h⟩⟩
theorem j7:mJ Ψ E q (.call f o) ρ=oB Ψ (.call f o) E ρ λx n h=>XC x n (q x h):=rfl
theorem Ae{op:Operator}:mJ Ψ E q (.bin op a b) ρ=oB Ψ (.bin op a b) E ρ λx n h=>XC x n (q x h):=rfl
theorem Te:mJ Ψ E q (.cmp op a b) ρ=oB Ψ (.cmp op a b) E ρ λx n h=>XC x n (q x h):=rfl
theorem Ee:mJ Ψ E q (.and a b) ρ=oB Ψ (.and a b) E ρ λx n h=>XC x n (q x h):=rfl
theorem xp{f:Bi}:mJ Ψ E q (.bi f o) ρ=oB Ψ (.bi f o) E ρ λx n h=>XC x n (q x h):=rfl
theorem Se:mJ Ψ E q (.idx a b) ρ=oB Ψ (.idx a b) E ρ λx n h=>XC x n (q x h):=rfl
theorem Re:mJ Ψ E q (.tup o) ρ=oB Ψ (.tup o) E ρ λx n h=>XC x n (q x h):=rfl
theorem E6:mJ Ψ E q (.comp v w g l its Y X) ρ=oB Ψ (.comp v w g l its Y X) E ρ λx n h=>XC x n (q x h):=rfl
theorem Bv:pH (i+1) (s::σ) ρ K=pH i σ ρ K:=rfl
theorem Gv{t:T}:pH 0 (some (.ky t)::σ) ρ K=K t false ρ:=rfl
theorem Cv{t:T}:pH 0 (some (.own t)::σ) ρ K=K t false ρ:=rfl
theorem Fv:pH i (lockA σ) ρ K=pH i σ ρ K:=by
 unfold pH lockA;rw[QX];cases σ[i]? with
 |none=>rfl|some s=>cases s with|none=>rfl|some s=>cases s<;>rfl
theorem Dv{b:Bool}:pH (i+1) (ZC (b::m) (lockA (s::σ))) ρ K=pH i (ZC m (lockA σ)) ρ K:=rfl
theorem Lp:pH 0 (ZC (false::m) (lockA (s::σ))) ρ K=pH 0 (lockA (s::σ)) ρ K:=rfl
theorem Gp:pH i (ZC [] (lockA σ)) ρ K=pH i (lockA σ) ρ K:=rfl
theorem Xv:t8 (i+1) (s::σ) ρ j q=t8 i σ ρ j q:=rfl
theorem Uv{t:T}:t8 0 (some (.own t)::σ) ρ j q=q t (ρ.set j none):=rfl
theorem Fu{x:D}:m7 (.d x) n Ψ b E ρ K=oB Ψ b E ρ K:=by cases n<;>rfl
theorem Cu:m7 x true Ψ b E ρ K=oB Ψ b E ρ K:=rfl
theorem Du:m7 (.lst ts) false Ψ b E ρ K=oB Ψ b E (lockA ρ) λy m _=>K y m ρ:=rfl
theorem sv{x:D}:t7 (.d x) n Ψ b E md ρ M=ML Ψ b E md ρ M:=by cases n<;>rfl
theorem nv:t7 x true Ψ b E md ρ M=ML Ψ b E md ρ M:=rfl
theorem pv:t7 (.lst ts) false Ψ b E md ρ M=ML Ψ b E md (lockA ρ) λxs _=>M xs ρ:=rfl
end
end
section
variable{Ψ:PEv}{E:XE}{ρ σ:kA}{Z:PEnds}{s r q:PT}{i:Nat}{e c its:PX}{o:Option Sl}{n:Bool}{v:D}{P:Prop}{ds:List D}{x:T}
section
variable{j:Nat}{A B:Prop}
theorem zA:bB Ψ E .nil Z ρ=Z.nx ρ:=rfl
theorem De:bB Ψ E (.seq (.set i e) r) Z (o::σ)=oB Ψ e E (o::σ) λx n h=>eL Ψ E r Z i x n h:=rfl
theorem He:bB Ψ E (.seq (.own i e) r) Z (o::σ)=oB Ψ e E (o::σ) λx n h=>Dm Ψ E r Z i x n h:=rfl
theorem A6:bB Ψ E (.seq (.expr e) r) Z (o::σ)=oB Ψ e E (o::σ) λ_ _ h=>bB Ψ E r Z h:=rfl
theorem Ge:bB Ψ E (.seq (.ret e) r) Z (o::σ)=mJ Ψ E Z.rt e (o::σ):=rfl
theorem Le:bB Ψ E (.seq (.ife c s .nil) r) Z (o::σ)=LQ Ψ c E (o::σ) λk h=>if k=true then bB Ψ E s { Z with nx:=λy=>bB Ψ E r Z y } h else bB Ψ E r Z h:=rfl
theorem Oe{u:Tg}{k:ItK}:bB Ψ E (.seq (.for_ u k its q) r) Z (o::σ)=ML Ψ its E [] (o::σ) λxs h=>DK k xs λy =>
   if XQ xs=true then sH (bB Ψ E q) u { Z with nx:=λz=>bB Ψ E r Z (kill u.ix z) } y h
   else sH (bB Ψ E q) u { Z with nx:=λz=>IT u.ix (bC h (KG its)) h (λw=>bB Ψ E r Z w) (kill u.ix z) } y (lock (bC h (KG its)) h):=rfl
theorem Ce{a:PX}:bB Ψ E (.seq (.six (.xz j) a e) r) Z (o::σ)=PC (o::σ)[j]? λt=>oB Ψ e E ((o::σ).set j (some (.ky t))) λx n z=>XC x n (oB Ψ a E z λy m h=>XC y m (h[j]?=some (some (.ky t))/\bc t y x λt'=>bB Ψ E r Z (h.set j (some (.own t'))))):=rfl
theorem T6{a k:PX}:bB Ψ E (.seq (.six (.idx (.xz j) k) a e) r) Z (o::σ)=PC (o::σ)[j]? λt=>oB Ψ e E ((o::σ).set j (some (.ky t))) λx n w=>XC x n (oB Ψ k E w λz l u=>XC z l (Fl z t λs put=>oB Ψ a E u λy m h=>XC y m (h[j]?=some (some (.ky t))/\bc s y x λs'=>bB Ψ E r Z (h.set j (some (.own (put s'))))))):=rfl
theorem Fe{k:PX}:bB Ψ E (.seq (.sdf j k) r) Z (o::σ)=PC (o::σ)[j]? λt=>Ea t=true/\oB Ψ k E ((o::σ).set j (some (.ky t))) λy m h=>XC y m (h[j]?=some (some (.ky t))/\Il y t λt'=>bB Ψ E r Z (h.set j (some (.own t')))):=rfl
theorem Me{h:LN}:bB Ψ E (.seq (.frz h s) r) Z (o::σ)=bB Ψ E (.seq s r) Z (frzAt h (o::σ)):=rfl
theorem Be:bB Ψ E (.seq (.whl c q) r) Z (o::σ)=Rk Ψ E c q { Z with nx:=λh=>bB Ψ E r Z h } (o::σ):=rfl
theorem gv:eL Ψ E r Z i (.d v) n ρ=bB Ψ E r Z (ρ.set i (bD v)):=propext ⟨λh=>h.2,λh=>⟨by cases n<;>rfl,h⟩⟩
theorem Cp:eL Ψ E r Z i (.lst (ds.map T.d)) true ρ=bB Ψ E r Z (ρ.set i (bD (.list ds))):=by unfold eL T.er;rw[RA];exact propext ⟨λh=>h.2,λh=>⟨rfl,h⟩⟩
theorem Ou:Dm Ψ E r Z i x true ρ=bB Ψ E r Z (ρ.set i (some (.own x))):=propext ⟨λh=>h.2,λh=>⟨rfl,h⟩⟩
theorem Lv:XC (.d v) n P=P:=propext ⟨λh=>h.2,λh=>⟨by cases n<;>rfl,h⟩⟩
theorem Hv:XC x true P=P:=propext ⟨λh=>h.2,λh=>⟨rfl,h⟩⟩
theorem AW:(([]:LT)=[]/\P)=P:=propext ⟨λh=>h.2,λh=>⟨rfl,h⟩⟩
theorem zo:(if(true:Bool)=true then A else B)=A:=rfl
theorem vo:(if(false:Bool)=true then A else B)=B:=rfl
theorem bv{v h:Option Sl}:bB Ψ E r Z (w4 (h::σ) 0 v)=bB Ψ E r Z (v::σ):=rfl
theorem uv{v h y:Option Sl}:bB Ψ E r Z (w4 (h::y::σ) 1 v)=bB Ψ E r Z (h::v::σ):=rfl
theorem vv{v y h z:Option Sl}:bB Ψ E r Z (w4 (y::h::z::σ) 2 v)=bB Ψ E r Z (y::h::v::σ):=rfl
theorem Iu{v z y h u:Option Sl}:bB Ψ E r Z (w4 (z::y::h::u::σ) 3 v)=bB Ψ E r Z (z::y::h::v::σ):=rfl
theorem Eu{v u z y h w:Option Sl}:bB Ψ E r Z (w4 (u::z::y::h::w::σ) 4 v)=bB Ψ E r Z (u::z::y::h::v::σ):=rfl
theorem Au{v w u z y h k:Option Sl}:bB Ψ E r Z (w4 (w::u::z::y::h::k::σ) 5 v)=bB Ψ E r Z (w::u::z::y::h::v::σ):=rfl
theorem Tu{v k w u z y h a:Option Sl}:bB Ψ E r Z (w4 (k::w::u::z::y::h::a::σ) 6 v)=bB Ψ E r Z (k::w::u::z::y::h::v::σ):=rfl
theorem Su{v a k w u z y h b:Option Sl}:bB Ψ E r Z (w4 (a::k::w::u::z::y::h::b::σ) 7 v)=bB Ψ E r Z (a::k::w::u::z::y::h::v::σ):=rfl
theorem Ru{v b a k w u z y h f:Option Sl}:bB Ψ E r Z (w4 (b::a::k::w::u::z::y::h::f::σ) 8 v)=bB Ψ E r Z (b::a::k::w::u::z::y::h::v::σ):=rfl
theorem Pu{v f b a k w u z y h g:Option Sl}:bB Ψ E r Z (w4 (f::b::a::k::w::u::z::y::h::g::σ) 9 v)=bB Ψ E r Z (f::b::a::k::w::u::z::y::h::v::σ):=rfl
theorem Xp{v l g f b a k w u z y h:Option Sl}:bB Ψ E r Z (w4 (l::g::f::b::a::k::w::u::z::y::h::σ) 10 v)=bB Ψ E r Z (l::g::f::b::a::k::w::u::z::y::v::σ):=rfl
theorem Vp{v m l g f b a k w u z h y:Option Sl}:bB Ψ E r Z (w4 (m::l::g::f::b::a::k::w::u::z::h::y::σ) 11 v)=bB Ψ E r Z (m::l::g::f::b::a::k::w::u::z::h::v::σ):=rfl
theorem Kp{v p m l g f b a k w u y h z:Option Sl}:bB Ψ E r Z (w4 (p::m::l::g::f::b::a::k::w::u::y::h::z::σ) 12 v)=bB Ψ E r Z (p::m::l::g::f::b::a::k::w::u::y::h::v::σ):=rfl
theorem Zp{v X p m l g f b a k w z y h u:Option Sl}:bB Ψ E r Z (w4 (X::p::m::l::g::f::b::a::k::w::z::y::h::u::σ) 13 v)=bB Ψ E r Z (X::p::m::l::g::f::b::a::k::w::z::y::h::v::σ):=rfl
end
end
section
variable{d:D}{n m:Bool}{i j:Int}{z y:Str}{b:Bool}{xs:List (T×Bool)}{ts:LT}{ds es:List D}{md:List Md}{t:T}{C:LT->Prop}{Q:T->Bool->Prop}{L:Bool->Prop}{R:T->Prop}{W:LT->Prop}
section
variable{ρ:kA}{P:kA->Prop}{e k:D}{op:CmpOp}{ks:List D}{kvs:List (D×D)}{l u:Option Int}
theorem Iq{i:Int}{x:D}{Q:T->Prop}(w:0<=i)(v:i<ds.length)(q:Q (.lst ((ds.set i.toNat x).map T.d))):bc (.lst (ds.map T.d)) (.d (.int i)) (.d x) Q:=by
 have h:i.toNat<ds.length:=by omega
 refine⟨i.toNat,?_,by rw[<- QBD];exact q⟩;unfold DT;rw[QD];rw[if_pos w,if_pos v]
theorem Ze{J:LN}{x:kA}{N:kA->Prop}:IT J [] x N ρ=N ρ:=propext ⟨λh=>h.2,λh=>⟨λ_ z=>(nomatch z),h⟩⟩
theorem oA{α:Type}(f:α->D)(l:List α):l.map (λc=>T.d (f c))=(l.map f).map T.d:=by rw[QS];rfl
theorem YE:(pA (.lst (ds.map T.d)) n).vw=.ls (ds.map T.d):=by cases n;rfl;show Vw.ls ((ersT (ds.map T.d)).map T.d)=_;rw[RA]
theorem Ie:aB md [] C=C []:=MB
theorem Lu:aB [] ((.d d,n)::xs) C=aB [] xs λts=>C (.d d::ts):=by
 have e:XA [] ((.d d,n)::xs) []=(XA [] xs []).map (.d d::·):=by cases n<;>rfl
 unfold aB;rw[e,eF]
theorem Hu:aB [] ((.lst (ds.map T.d),true)::xs) C=aB [] xs λts=>C (.d (.list ds)::ts):=by have e:XA [] ((.lst (ds.map T.d),true)::xs) []=(XA [] xs []).map (.d (.list (ersT (ds.map T.d)))::·):=rfl;unfold aB;rw[e,eF,RA]
theorem Mu:aB (.ky::md) ((t,false)::xs) C=aB md xs λts=>C (t::ts):=by have e:XA (.ky::md) ((t,false)::xs) []=(XA md xs []).map (t::·):=rfl;unfold aB;rw[e,eF]
theorem T0:jE (.lst (ds.map T.d))=some (.lst (ds.map T.d)):=by simp only[jE,T.vw,VA,Qy]
theorem Gu{u:T}(h:jE (pA t n)=some u):aB (.xy::md) ((t,n)::xs) C=aB md xs λts=>C (u::ts):=by
 have e:XA (.xy::md) ((t,n)::xs) []=(XA md xs []).map (u::·):=by show(match jE (pA t n) with|some t=>(XA md xs []).map (t::·)|none=>none)=_;rw[h]
 unfold aB;rw[e,eF]
theorem bp:aB (.xy::md) ((.lst (ds.map T.d),n)::xs) C=aB md xs λts=>C (.lst (ds.map T.d)::ts):=Gu (by cases n;exact T0;show jE (.d (.list (ersT (ds.map T.d))))=_;rw[RA];simp only[jE,T.vw,VA,Qy])
theorem yf:dM [] C=C []:=propext ⟨λh=>h.2,λh=>⟨rfl,h⟩⟩
theorem Tt:dM ((.lst (ds.map T.d),true)::xs) C=dM xs λts=>C (.lst (ds.map T.d)::ts):=by show((tH (.lst (ds.map T.d)) true&&fE xs)=true/\C (.lst (ds.map T.d)::cF xs))=(fE xs=true/\C (.lst (ds.map T.d)::cF xs));rw[show tH (.lst (ds.map T.d)) true=true from rfl,WK]
theorem dv:dM ((.d d,n)::xs) C=dM xs λts=>C (.d d::ts):=by show((tH (.d d) n&&fE xs)=true/\C (.d d::cF xs))=(fE xs=true/\C (.d d::cF xs));rw[show tH (.d d) n=true by cases n<;>rfl,WK]
theorem Vf{i j:Nat}{x y:D}:VX (.tp [i,j]) (.d (.tuple [x,y])) ρ P=P ((ρ.set i (bD x)).set j (bD y)):=MB
theorem Rp{i:Nat}:VX (.nm i) t ρ P=P (ρ.set i (some (.ky t))):=rfl
theorem xj{h:Tg}:rO h t ρ P=VX h t ρ P:=rfl
theorem Ye:aH .Add (.d (.int i)) n (.d (.int j)) m Q=Q (.d (.int (i+j))) false:=by unfold aH;rw[rA,rA];exact oj i j
theorem Je:aH .Add (.d (.str z)) n (.d (.str y)) m Q=(z.length+y.length<=sizeLine/\Q (.d (.str (z++y))) false):=by unfold aH;rw[rA,rA];exact nj z y
theorem fe:aH .Sub (.d (.int i)) n (.d (.int j)) m Q=Q (.d (.int (i - j))) false:=by unfold aH;rw[rA,rA];exact mj i j
theorem oe:aH .Mult (.d (.int i)) n (.d (.int j)) m Q=(IntMulOk i j/\Q (.d (.int (i * j))) false):=by unfold aH;rw[rA,rA];exact lj i j
theorem ge:aH .Mult (.d (.str z)) n (.d (.int j)) m Q=((-(2 ^ 31)<=j/\j<2 ^ 31/\z.length * j.toNat<=sizeLine)/\Q (.d (.str (nJ z j))) false):=by unfold aH;rw[rA,rA];exact gj z j
theorem ae:aH .FloorDiv (.d (.int i)) n (.d (.int j)) m Q=((0<j/\j<2 ^ 200)/\Q (.d (.int (i / j))) false):=by unfold aH;rw[rA,rA];exact fj i j
theorem se:aH .Mod (.d (.int i)) n (.d (.int j)) m Q=(0<j/\Q (.d (.int (i % j))) false):=by unfold aH;rw[rA,rA];exact cj i j
theorem Cn:uE [.d d,.d e]=.d (.tuple [d,e]):=rfl
theorem Bn{f g:D}:uE [.d d,.d e,.d f,.d g]=.d (.tuple [d,e,f,g]):=rfl
theorem Ad:UB .Eq (.d (.int i)) (.d (.int j)) L=L (decide (i=j)):=rfl
theorem Td:UB .Eq (.d (.str z)) (.d (.str y)) L=L (decide (z=y)):=rfl
theorem Hd:UB .NotEq (.d (.str z)) (.d (.str y)) L=L (!decide (z=y)):=rfl
theorem Go:UB .Lt (.d (.int i)) (.d (.int j)) L=L (decide (i<j)):=rfl
theorem K6:UB op (.d d) (.lst (ds.map T.d)) L=rQ op d (.list ds) L:=by show rQ op d (.list (ersT (ds.map T.d))) L=_;rw[RA]
theorem Lo:UB .Gt (.d (.int i)) (.d (.int j)) L=L (decide (j<i)):=rfl
theorem Xu:UB op t (pA (.d d) m) L=UB op t (.d d) L:=by rw[rA]
theorem Oo:UB op t (pA (.lst (ds.map T.d)) true) L=UB op t (.d (.list ds)) L:=by show UB op t (.d (.list (ersT (ds.map T.d)))) L=_;rw[RA]
theorem No{u:T}:UB op t (pA u false) L=UB op t u L:=rfl
theorem Pd:UB .In (.d (.str z)) (.d (.list ds)) L=(((FB (.str z)=true/\ds.all FB=true)∨(sE (.str z)/\sE (.list ds)))/\L (ds.any λy=>Qx y (.str z))):=rfl
theorem C6:UB .NotIn (.d (.str z)) (.lst (ds.map T.d)) L=(((FB (.str z)=true/\ds.all FB=true)∨(sE (.str z)/\sE (.list ds)))/\L (!(ds.any λy=>Qx y (.str z)))):=by exact K6
theorem D6:UB .In (.d d) (.dct b ks ts) L=(aD b d/\L (bA ks d).isSome):=by show(aD b d/\((CmpOp.In=.In/\L (bA ks d).isSome)∨(CmpOp.In=.NotIn/\L (!(bA ks d).isSome))))=_;simp
theorem DM:UB .NotIn (.d d) (.dct b ks ts) L=(aD b d/\L (!(bA ks d).isSome)):=by show(aD b d/\((CmpOp.NotIn=.In/\L (bA ks d).isSome)∨(CmpOp.NotIn=.NotIn/\L (!(bA ks d).isSome))))=_;simp
theorem Nd:UB .In (.d (.str z)) (.d (.tuple ds)) L=(((FB (.str z)=true/\ds.all FB=true)∨(sE (.str z)/\sE (.list ds)))/\L (ds.any λy=>Qx y (.str z))):=rfl
theorem Od:UB .In (.d (.str z)) (.lst (ds.map T.d)) L=(((FB (.str z)=true/\ds.all FB=true)∨(sE (.str z)/\sE (.list ds)))/\L (ds.any λy=>Qx y (.str z))):=by exact K6
theorem tu:S7 (.d (.bool b)) L=L b:=rfl
theorem Bu:Uu (.d (.bool b)) L=L b:=rfl
theorem cn:PK .len [(.d (.list ds),n)] Q=Q (.d (.int ds.length)) false:=by unfold PK IB;rw[rA];refine(ze _).trans ?_;rw[QD]
theorem bn:PK .len [(.lst (ds.map T.d),n)] Q=Q (.d (.int ds.length)) false:=by unfold PK IB;rw[YE];refine(ze _).trans ?_;rw[QD]
theorem gn:PK .any [(.lst (ds.map T.d),n)] Q=∃bs:List Bool,ds=bs.map PyData.bool/\Q (.d (.bool (bs.any id))) false:=by unfold PK IB;rw[YE];refine(Ao _).trans ?_;simp only[VA,Qq]
theorem t6:CS (.ls ts) k R=False:=propext ⟨λ⟨_,_,_,_,_,e,_⟩=>(by cases e),Qc⟩
theorem Mi:CS (.tp ts) k R=False:=propext ⟨λ⟨_,_,_,_,_,e,_⟩=>(by cases e),Qc⟩
theorem Ni{x:D}:CS (.sc x) k R=False:=propext ⟨λ⟨_,_,_,_,_,e,_⟩=>(by cases e),Qc⟩
theorem gu:CA (.lst (ds.map T.d)) n (.d (.int i)) m R=fF (AD ds i) λd=>R (.d d):=by unfold CA;rw[YE,rA,t6,or_false];refine(L5 _ _).trans ?_;show fF (AD (ds.map T.d) i) R=_;rw[YG,eF]
theorem Ff:CA (.d (.list ds)) n (.d (.int i)) m R=fF (AD ds i) λd=>R (.d d):=by unfold CA;rw[rA,rA,show(T.d (.list ds)).vw=.ls (ds.map T.d) from rfl,t6,or_false];refine(L5 _ _).trans ?_;show fF (AD (ds.map T.d) i) R=_;rw[YG,eF]
theorem NZ:CA (.d (.tuple ds)) n (.d (.int i)) m R=fF (AD ds i) λd=>R (.d d):=by unfold CA;rw[rA,rA,show(T.d (.tuple ds)).vw=.tp (ds.map T.d) from rfl,Mi,or_false];refine(si _ _).trans ?_;show fF (AD (ds.map T.d) i) R=_;rw[YG,eF]
theorem Lk:CA (.lst [.d d,.d e]) n t m R=CA (.lst ([d,e].map T.d)) n t m R:=rfl
theorem fu:CA (.d (.str z)) n (.d (.int i)) m R=(z.length<=sizeLine/\fF (AD z.cps.toList i) λc=>R (.d (.str ⟨#[c]⟩))):=by unfold CA;rw[rA,rA,show(T.d (.str z)).vw=.sc (.str z) from rfl,Ni,or_false];exact ai _ _
theorem Mk{q:Bool}{l:Nat}(a:xD kvs=some q)(w:aD q k)(v:bA (kvs.map (·.1)) k=some l)(h:(kvs.map (·.2))[l]?=some e)(x:R (.d e)):CA (.d (.dict kvs)) n (.d k) m R:=by
 unfold CA;rw[rA];refine .inr ?_;show CS (jC kvs) k R;unfold jC;rw[a];refine⟨q,_,_,l,.d e,rfl,w,v,?_,x⟩;rw[QX]at h ⊢;cases z:kvs[l]? with|none=>rw[z]at h;cases h|some p=>rw[z]at h;cases h;rfl
theorem Ju:dN (.d (.str z)) n l u Q=(z.length<=sizeLine/\Q (.d (.str (wl z l u))) false):=by unfold dN;rw[rA];exact gg z
theorem Yu:dN (.d (.list ds)) n l u Q=Q (.lst ((DE ds l u).map T.d)) true:=by unfold dN;rw[rA];refine(fg _).trans ?_;rw[VA];exact MB
theorem ou:DK .val [(.d (.list ds),n)] W=W (ds.map T.d):=by unfold DK IB;rw[rA];exact nI _
theorem lu:DK .val [(.d (.tuple ds),n)] W=W (ds.map T.d):=by unfold DK IB;rw[rA];exact X5 _
theorem yl:DK .val [(.lst (ds.map T.d),n)] W=W (ds.map T.d):=by unfold DK IB;rw[YE];exact nI _
theorem Tk:DK .rng1 [(.d (.int j),n)] W=((-(2 ^ 62)<=j/\j<2 ^ 62)/\W ((Qj j.toNat).map λ(i:Nat)=>.d (.int (i:Int)))):=by unfold DK IB;rw[rA];exact V5 j
theorem ul:DK .enum [(.d (.list ds),n)] W=W (ds.zipIdx.map λp=>.d (.tuple [.int (p.2:Int),p.1])):=by unfold DK IB;rw[rA];refine(sS _).trans ?_;exact propext ⟨λ⟨_,_,x,h,k⟩=>by cases x;rw[VA]at h;cases h;exact k,λk=>⟨_,_,rfl,VA _,k⟩⟩
theorem Ab:DK .enum [(.lst (ds.map T.d),n)] W=W (ds.zipIdx.map λp=>.d (.tuple [.int (p.2:Int),p.1])):=by unfold DK IB;rw[YE];refine(sS _).trans ?_;exact propext ⟨λ⟨_,_,x,h,k⟩=>by cases x;rw[VA]at h;cases h;exact k,λk=>⟨_,_,rfl,VA _,k⟩⟩
theorem zl(h:kvs=[]∨xD kvs=some true):DK .itm [(.d (.dict kvs),n)] W=W (kvs.map λp=>.d (.tuple [p.1,p.2])):=by
 unfold DK IB;rw[rA];show VB .itm [jC kvs] W=_;rcases h with rfl|h;exact K5;unfold jC;rw[h];refine(rS _ _).trans ?_;have e:(kvs.map λp=>T.d p.2)=(kvs.map (·.2)).map T.d:=by rw[QS];rfl
 have x:((kvs.map (·.1)).zip (kvs.map (·.2))).map (λp=>T.d (.tuple [p.1,p.2]))=kvs.map λp=>T.d (.tuple [p.1,p.2]):=by rw[List.zip_map',QS];rfl
 refine propext ⟨λ⟨ds,v,k⟩=>?_,λk=>⟨kvs.map (·.2),by rw[e,VA],?_⟩⟩;rw[e,VA]at v;cases v;rw[x]at k;exact k;rw[x];exact k
noncomputable def eZ(Q:T->LT->Prop):PEnds:={ nx:=λ_=>Q (.d .none) [],rt:=λt _=>Q t [] }
theorem Fd{Q:T->LT->Prop}{t:T}:(eZ Q).rt t ρ=Q t []:=rfl
theorem gA{Ψ:PEv}{b:PT}{p:PSp}{N ps:LS}{ds:LT}{Q:T->LT->Prop}(ρ:kA)(h:pF Ψ b (eZ Q) ρ)(hl:ds.length=ps.length:=by rfl)(hc:iB 0 p.md ps.length=[]:=by rfl)(x:vB N p.md ds=ρ:=by rfl):ds.length=ps.length/\pF Ψ b (NC p ps.length Q) (vB N p.md ds):=by
 have e:NC p ps.length Q=eZ Q:=by unfold NC;rw[hc];rfl
 rw[e,x];exact⟨hl,h⟩
end
end
theorem vn{y:List (List Ky)}{n:Bool}{Q:T->Bool->Prop}(h:y.length<64)(z:Cj y)(q:∀x:List (List Ky),x.Perm y->x.Pairwise ZZ->Q (.lst ((x.map rN).map T.d)) true):PK .sorted [(.lst ((y.map rN).map T.d),n)] Q:=by unfold PK IB;rw[YE];exact .inr (.inr (.inr ⟨_,y,rfl,VA _,⟨h,z⟩,q⟩))
end L2.L3
namespace L2.L3.K36
open PySem PySem.Spec PyProof.Rows L2 L2.L3
section
variable{p q:Pt}{r:Rm}{Q:T->Prop}{l:Inn}{v:Int}{a b n g:Str}{w:Wy}{e:Str×Str}
noncomputable def top(i:Nat):Stmt:=Qm.main.body.getD i (.Pass ⟨0,0,0,0⟩)
noncomputable def uG:LS:=["edges","starts","goal","rooms","came_from","firsts","chains"]
def xF:LS:=["edges","starts","goal"]
noncomputable def xM:Need:=⟨["rooms_of","points_reached","lay_chain","chain_from","full_names"],["BEGIN"],["sorted"]⟩
noncomputable def rC:PT :=
  %[.expr (.call "lay_chain" %[.xz 3,.xz 4,.tup %[.xz 2,.str "to"|1]|1]),.set 4 (.call "points_reached" %[.xz 3|1])|2]
noncomputable def zG:PT :=
  %[.own 3 (.call "rooms_of" %[.xz 0,.xz 1,.xz 2|1]),.set 4 (.call "points_reached" %[.xz 3|1]),.whl (.cmp .In (.tup %[.xz 2,.str "to"|1]) (.xz 4)) rC,.set 5 (.comp [] ["point"] (.nm 0) .val %[.idx (.xz 3) (.glo "BEGIN")|1] (.cmp .Gt (.idx (.idx (.xz 4) (.xz 0)) (.glo "BEGIN")) (.int 0)) (.idx (.xz 0) (.int 0))),.set 6 (.comp [] ["first"] (.nm 0) .val %[.xz 5|1] .nop (.call "chain_from" %[.xz 4,.xz 0,.xz 3|1])),.ret (.tup %[.bi .sorted %[.xz 6|1],.call "full_names" %[.xz 4|1]|1])|2]
theorem iK:sB xM zG uG xF (top 3)=true:=by kernel_rfl
noncomputable def SM:LS:=["edges","starts","goal","rooms","name","first","second"]
def SJ:LS:=["edges","starts","goal"]
noncomputable def CU:Need:=⟨["add_name","add_way"],["BEGIN","WIDE"],[]⟩
noncomputable def HE:PT :=
  %[.ife (.cmp .NotEq (.xz 4) (.xz 2)) %[.expr (.call "add_name" %[.xz 3,.xz 4|1]),.expr (.call "add_way" %[.xz 3,.glo "BEGIN",.tup %[.xz 4,.str "to"|1],.glo "WIDE"|1])|2] .nil|2]
noncomputable def GE:PT :=
  %[.ife (.and (.cmp .NotEq (.xz 5) (.xz 2)) (.cmp .NotEq (.xz 5) (.xz 6))) %[.expr (.call "add_name" %[.xz 3,.xz 5|1]),.expr (.call "add_name" %[.xz 3,.xz 6|1]),.expr (.call "add_way" %[.xz 3,.tup %[.xz 5,.str "from"|1],.tup %[.xz 6,.str "to"|1],.glo "WIDE"|1])|2] .nil|2]
noncomputable def GM:PT :=
  %[.own 3 (.dsp (.glo "BEGIN") (.dnew true)),.for_ (.nm 4) .val %[.xz 1|1] HE,.for_ (.tp [5,6]) .val %[.xz 0|1] GE,.ret (.xz 3)|2]
theorem AS:sB CU GM SM SJ (top 4)=true:=by kernel_rfl
def kN:LS:=["rooms","name"]
def kK:LS:=["rooms","name"]
def OU:Need:=⟨["add_way"],[],[]⟩
noncomputable def UH:PT :=
  %[.expr (.call "add_way" %[.xz 0,.tup %[.xz 1,.str "to"|1],.tup %[.xz 1,.str "from"|1],.int 1|1])|2]
theorem xT:sB OU UH kN kK (top 5)=true:=by kernel_rfl
noncomputable def BO:LS:=["rooms","here","there","room"]
noncomputable def HL:LS:=["rooms","here","there","room"]
def XY:Need:=⟨[],[],[]⟩
noncomputable def JO:PT :=
  %[.sdf 0 (.xz 1),.sdf 0 (.xz 2),.six (.idx (.xz 0) (.xz 1)) (.xz 2) (.xz 3),.six (.idx (.xz 0) (.xz 2)) (.xz 1) (.int 0)|2]
theorem BV:sB XY JO BO HL (top 6)=true:=by kernel_rfl
noncomputable def nE:LS:=["rooms","came_from","waiting","here","there","room"]
def JD:LS:=["rooms"]
def aJ:Need:=⟨[],["BEGIN"],["len"]⟩
noncomputable def SA:PT :=
  %[.ife (.and (.cmp .Gt (.xz 5) (.int 0)) (.cmp .NotIn (.xz 4) (.xz 1))) %[.six (.xz 1) (.xz 4) (.xz 3),.expr (.mt .append (.xz 2) %[.xz 4|1])|2] .nil|2]
noncomputable def lD:PT :=
  %[.set 3 (.mt .pop (.xz 2) %[.int 0|1]),.for_ (.tp [4,5]) .itm %[.idx (.xz 0) (.xz 3)|1] SA|2]
noncomputable def lE:PT :=
  %[.own 1 (.dsp (.glo "BEGIN") .non),.own 2 (.lst %[.glo "BEGIN"|1]),.whl (.cmp .Gt (.bi .len %[.xz 2|1]) (.int 0)) lD,.ret (.xz 1)|2]
theorem VI:sB aJ lE nE JD (top 7)=true:=by kernel_rfl
noncomputable def nK:LS:=["rooms","came_from","last","there","here"]
def zI:LS:=["rooms","came_from","last"]
def IR:Need:=⟨[],["BEGIN"],[]⟩
noncomputable def SD:PT :=
  %[.set 4 (.idx (.xz 1) (.xz 3)),.six (.idx (.xz 0) (.xz 4)) (.xz 3) (.bin .Sub (.idx (.idx (.xz 0) (.xz 4)) (.xz 3)) (.int 1)),.six (.idx (.xz 0) (.xz 3)) (.xz 4) (.bin .Add (.idx (.idx (.xz 0) (.xz 3)) (.xz 4)) (.int 1)),.set 3 (.xz 4)|2]
noncomputable def TF:PT :=
  %[.set 3 (.xz 2),.whl (.cmp .NotEq (.xz 3) (.glo "BEGIN")) SD|2]
theorem aQ:sB IR TF nK zI (top 8)=true:=by kernel_rfl
noncomputable def II:LS:=["rooms","first","goal","chain","name"]
def SG:LS:=["rooms","first","goal"]
def MP:Need:=⟨["name_behind"],[],[]⟩
noncomputable def pD:PT :=
  %[.expr (.mt .append (.xz 3) %[.xz 4|1]),.set 4 (.call "name_behind" %[.xz 0,.xz 4|1])|2]
noncomputable def jF:PT :=
  %[.own 3 (.lst .nz),.set 4 (.xz 1),.whl (.cmp .NotEq (.xz 4) (.xz 2)) pD,.ret (.xz 3)|2]
theorem XN:sB MP jF II SG (top 9)=true:=by kernel_rfl
def jH:LS:=["rooms","name","here"]
def sF:LS:=["rooms","name"]
def mN:Need:=⟨[],[],[]⟩
noncomputable def PD:PT :=
  %[.set 2 (.tup %[.xz 1,.str "from"|1]),.ret (.idx (.comp [] ["there"] (.nm 0) .val %[.idx (.xz 0) (.xz 2)|1] (.and (.cmp .NotEq (.idx (.xz 0) (.int 0)) (.xz 2)) (.cmp .Gt (.idx (.idx (.xz 1) (.xz 0)) (.xz 3)) (.int 0))) (.idx (.xz 0) (.int 0))) (.int 0))|2]
theorem BM:sB mN PD jH sF (top 10)=true:=by kernel_rfl
def EI:LS:=["came_from"]
def RG:LS:=["came_from"]
def LP:Need:=⟨[],[],["sorted"]⟩
noncomputable def IE:PT :=
  %[.ret (.bi .sorted %[.comp [] ["point"] (.nm 0) .val %[.xz 0|1] (.and (.cmp .Eq (.idx (.xz 0) (.int 1)) (.str "to")) (.cmp .NotIn (.tup %[.idx (.xz 0) (.int 0),.str "from"|1]) (.xz 1))) (.idx (.xz 0) (.int 0))|1])|2]
theorem VN:sB LP IE EI RG (top 11)=true:=by kernel_rfl
noncomputable def xG:LS:=["edges","seers","needs","ground","found","grown","name","number","chains"]
def vF:LS:=["edges","seers","needs"]
noncomputable def vM:Need:=⟨["told_through"],[],["len"]⟩
noncomputable def pC:PT :=
  %[.ife (.cmp .NotIn (.xz 6) (.xz 4)) %[.set 8 (.idx (.call "told_through" %[.xz 0,.xz 1,.xz 4,.xz 6|1]) (.int 0)),.ife (.cmp .GtE (.bi .len %[.xz 8|1]) (.xz 7)) %[.expr (.mt .append (.xz 3) %[.tup %[.xz 6,.slc (.xz 8) .nop (.xz 7)|1]|1]),.expr (.mt .append (.xz 4) %[.xz 6|1]),.set 5 (.bl true)|2] .nil|2] .nil|2]
noncomputable def oC:PT :=
  %[.set 5 (.bl false),.for_ (.tp [6,7]) .val %[.xz 2|1] pC|2]
noncomputable def yG:PT :=
  %[.own 3 (.comp [false,false,false,false,false,false,true,true] ["name","number"] (.tp [0,1]) .val %[.xz 2|1] (.cmp .In (.xz 0) (.xz 3)) (.tup %[.xz 0,.lst .nz|1])),.own 4 (.comp [false,false,false,false,false,false,true,false,true] ["name","chains"] (.tp [0,1]) .val %[.xz 3|1] .nop (.xz 0)),.set 5 (.bl true),.whl (.xz 5) oC,.ret (.xz 3)|2]
theorem eK:sB vM yG xG vF (top 13)=true:=by kernel_rfl
noncomputable def vG:LS:=["edges","seers","people","goal"]
noncomputable def kF:LS:=["edges","seers","people","goal"]
def kM:Need:=⟨["apart_chains"],[],[]⟩
noncomputable def dD:PT :=
  %[.ret (.call "apart_chains" %[.comp [] ["edge"] (.nm 0) .val %[.xz 0|1] (.cmp .In (.idx (.xz 0) (.int 0)) (.xz 3)) (.xz 0),.xz 1,.xz 3|1])|2]
theorem aK:sB kM dD vG kF (top 14)=true:=by kernel_rfl
noncomputable def z7:LS:=["world","events","past","taken","wrong","held","known","steps","number","believed","live"]
def KW:LS:=["world"]
noncomputable def Ch:Need:=⟨["going_order","is_taken","wrong_among","live_among","held_among"],[],[]⟩
noncomputable def FJ:PT :=
  %[.own 4 (.call "wrong_among" %[.xz 0,.xz 2|1]),.set 10 (.call "live_among" %[.xz 1,.xz 3,.xz 4|1]),.set 5 (.call "held_among" %[.xz 0,.xz 2,.xz 10,.xz 6|1]),.expr (.mt .append (.xz 7) %[.tup %[.xz 8,.xz 9,.xz 10,.xz 5|1]|1])|2]
noncomputable def LM:PT :=
  (.seq (.set 9 (.call "is_taken" %[.xz 0,.idx (.xz 1) (.xz 8),.xz 4,.xz 5|1]))
  (.seq (.expr (.mt .append (.xz 2) %[.xz 8|1]))
  (.seq (.ife (.and (.xz 9) (.cmp .Eq (.idx (.idx (.xz 1) (.xz 8)) (.int 0)) (.str "tell"))) %[.expr (.mt .append (.xz 3) %[.xz 8|1])|2] .nil)
  FJ)))
noncomputable def GV:PT :=
  %[.set 1 (.idx (.xz 0) (.int 3)),.own 2 (.lst .nz),.own 3 (.lst .nz),.own 4 (.dnew true),.set 5 (.lst .nz),.own 6 (.dnew true),.own 7 (.lst .nz),.for_ (.nm 8) .val %[.call "going_order" %[.xz 1|1]|1] LM,.ret (.xz 7)|2]
theorem cb:sB Ch GV z7 KW (top 17)=true:=by kernel_rfl
noncomputable def EG:LS:=["world","wrong","names","pairs","name"]
def oF:LS:=["world"]
noncomputable def gN:Need:=⟨["wrong_among","going_order"],[],[]⟩
noncomputable def uF:PT :=
  %[.expr (.mt .extend (.xz 3) %[.comp [] ["other"] (.nm 0) .val %[.xz 2|1] (.cmp .In (.tup %[.xz 5,.xz 0|1]) (.xz 2)) (.tup %[.xz 5,.xz 0|1])|1])|2]
noncomputable def ND:PT :=
  %[.own 1 (.call "wrong_among" %[.xz 0,.call "going_order" %[.idx (.xz 0) (.int 3)|1]|1]),.set 2 (.comp [] ["person"] (.nm 0) .val %[.idx (.xz 0) (.int 0)|1] .nop (.idx (.xz 0) (.int 0))),.own 3 (.lst .nz),.for_ (.nm 4) .val %[.xz 2|1] uF,.ret (.xz 3)|2]
theorem XM:sB gN ND EG oF (top 18)=true:=by kernel_rfl
noncomputable def jN:LS:=["world","event","wrong","held","teller","hearer","matter"]
noncomputable def jK:LS:=["world","event","wrong","held"]
noncomputable def LU:Need:=⟨["has_against","rank_of","floor_of"],[],[]⟩
noncomputable def SE:PT :=
  %[.ife (.cmp .Eq (.idx (.xz 1) (.int 0)) (.str "see")) %[.ret (.bl true)|2] .nil,.set 4 (.idx (.xz 1) (.int 2)),.set 5 (.idx (.xz 1) (.int 3)),.set 6 (.idx (.xz 1) (.int 4)),.ife (.or (.cmp .NotIn (.tup %[.xz 4,.xz 6|1]) (.xz 3)) (.cmp .In (.tup %[.xz 4,.xz 5|1]) (.xz 2))) %[.ret (.bl false)|2] .nil,.ret (.and (.cmp .GtE (.call "rank_of" %[.xz 0,.xz 4|1]) (.call "floor_of" %[.xz 0,.xz 5|1])) (.not (.call "has_against" %[.xz 0,.xz 3,.xz 5,.xz 6|1])))|2]
theorem zT:sB LU SE jN jK (top 19)=true:=by kernel_rfl
def KO:LS:=["world","name"]
def CL:LS:=["world","name"]
def YY:Need:=⟨[],[],[]⟩
noncomputable def UJ:PT :=
  %[.ret (.idx (.comp [] ["person"] (.nm 0) .val %[.idx (.xz 0) (.int 0)|1] (.cmp .Eq (.idx (.xz 0) (.int 0)) (.xz 2)) (.idx (.xz 0) (.int 1))) (.int 0))|2]
theorem ZV:sB YY UJ KO CL (top 20)=true:=by kernel_rfl
def yN:LS:=["world","name"]
def yK:LS:=["world","name"]
def MU:Need:=⟨[],[],[]⟩
noncomputable def VH:PT :=
  %[.ret (.idx (.comp [] ["person"] (.nm 0) .val %[.idx (.xz 0) (.int 0)|1] (.cmp .Eq (.idx (.xz 0) (.int 0)) (.xz 2)) (.idx (.xz 0) (.int 2))) (.int 0))|2]
theorem kT:sB MU VH yN yK (top 21)=true:=by kernel_rfl
noncomputable def yH:LS:=["world","pairs","name","matter","rivals"]
noncomputable def tF:LS:=["world","pairs","name","matter"]
def nN:Need:=⟨[],[],["any"]⟩
noncomputable def TD:PT :=
  %[.own 4 (.comp [] ["first","second"] (.tp [0,1]) .val %[.idx (.xz 0) (.int 2)|1] (.cmp .Eq (.xz 0) (.xz 5)) (.xz 1)),.expr (.mt .extend (.xz 4) %[.comp [] ["first","second"] (.tp [0,1]) .val %[.idx (.xz 0) (.int 2)|1] (.cmp .Eq (.xz 1) (.xz 5)) (.xz 0)|1]),.ret (.bi .any %[.comp [] ["rival"] (.nm 0) .val %[.xz 4|1] .nop (.cmp .In (.tup %[.xz 3,.xz 0|1]) (.xz 2))|1])|2]
theorem CM:sB nN TD yH tF (top 22)=true:=by kernel_rfl
noncomputable def IG:LS:=["world","past","seen","wrong","number","event"]
def rF:LS:=["world","past"]
noncomputable def lN:Need:=⟨["seen_among","has_against"],[],[]⟩
noncomputable def bF:PT :=
  %[.set 5 (.idx (.idx (.xz 0) (.int 3)) (.xz 4)),.ife (.and (.cmp .Eq (.idx (.xz 5) (.int 0)) (.str "tell")) (.cmp .NotIn (.tup %[.idx (.xz 5) (.int 3),.idx (.xz 5) (.int 4)|1]) (.xz 2))) %[.ife (.call "has_against" %[.xz 0,.xz 2,.idx (.xz 5) (.int 3),.idx (.xz 5) (.int 4)|1]) %[.six (.xz 3) (.tup %[.idx (.xz 5) (.int 2),.idx (.xz 5) (.int 3)|1]) (.bl true)|2] .nil|2] .nil|2]
noncomputable def OD:PT :=
  %[.own 2 (.call "seen_among" %[.idx (.xz 0) (.int 3),.xz 1|1]),.own 3 (.dnew true),.for_ (.nm 4) .val %[.xz 1|1] bF,.ret (.xz 3)|2]
theorem UM:sB lN OD IG rF (top 23)=true:=by kernel_rfl
noncomputable def OI:LS:=["events","past","seen","number"]
def LG:LS:=["events","past"]
def DP:Need:=⟨[],[],[]⟩
noncomputable def SF:PT :=
  %[.ife (.cmp .Eq (.idx (.idx (.xz 0) (.xz 3)) (.int 0)) (.str "see")) %[.six (.xz 2) (.tup %[.idx (.idx (.xz 0) (.xz 3)) (.int 2),.idx (.idx (.xz 0) (.xz 3)) (.int 3)|1]) (.bl true)|2] .nil|2]
noncomputable def FE:PT :=
  %[.own 2 (.dnew true),.for_ (.nm 3) .val %[.xz 1|1] SF,.ret (.xz 2)|2]
theorem JN:sB DP FE OI LG (top 24)=true:=by kernel_rfl
def RI:LS:=["events","taken","wrong"]
def MG:LS:=["events","taken","wrong"]
def FP:Need:=⟨[],[],["sorted"]⟩
noncomputable def ME:PT :=
  %[.ret (.bi .sorted %[.comp [] ["number"] (.nm 0) .val %[.xz 1|1] (.cmp .NotIn (.tup %[.idx (.idx (.xz 1) (.xz 0)) (.int 2),.idx (.idx (.xz 1) (.xz 0)) (.int 3)|1]) (.xz 3)) (.xz 0)|1])|2]
theorem YN:sB FP ME RI MG (top 25)=true:=by kernel_rfl
noncomputable def AI:LS:=["world","past","live","known","seen","holders","matter","web","held","person"]
noncomputable def OG:LS:=["world","past","live","known"]
noncomputable def HP:Need:=⟨["seen_among","edges_of","seers_of","holders_in"],[],[]⟩
noncomputable def GC:PT :=
  %[.six (.xz 5) (.xz 6) (.idx (.xz 3) (.xz 7))|2]
noncomputable def oD:PT :=
  (.seq (.set 7 (.tup %[.call "seers_of" %[.xz 0,.xz 4,.xz 6|1],.call "edges_of" %[.idx (.xz 0) (.int 3),.xz 2,.xz 6|1]|1]))
  (.seq (.ife (.cmp .NotIn (.xz 7) (.xz 3)) %[.six (.xz 3) (.xz 7) (.call "holders_in" %[.xz 0,.xz 7|1])|2] .nil)
  GC))
noncomputable def mD:PT :=
  %[.expr (.mt .extend (.xz 8) %[.comp [false,false,false,false,false,false,true] ["matter"] (.nm 0) .val %[.idx (.xz 0) (.int 1)|1] (.cmp .In (.idx (.xz 10) (.int 0)) (.idx (.xz 6) (.xz 0))) (.tup %[.idx (.xz 10) (.int 0),.xz 0|1])|1])|2]
noncomputable def EE:PT :=
  %[.own 4 (.call "seen_among" %[.idx (.xz 0) (.int 3),.xz 1|1]),.own 5 (.dnew false),.for_ (.nm 6) .val %[.idx (.xz 0) (.int 1)|1] oD,.own 8 (.lst .nz),.for_ (.nm 9) .val %[.idx (.xz 0) (.int 0)|1] mD,.ret (.xz 8)|2]
theorem KN:sB HP EE AI OG (top 26)=true:=by kernel_rfl
def RM:LS:=["world","seen","matter"]
def RJ:LS:=["world","seen","matter"]
def BU:Need:=⟨[],[],["tuple"]⟩
noncomputable def iH:PT :=
  %[.ret (.bi .tuple %[.comp [] ["person"] (.nm 0) .val %[.idx (.xz 0) (.int 0)|1] (.cmp .In (.tup %[.idx (.xz 0) (.int 0),.xz 3|1]) (.xz 2)) (.idx (.xz 0) (.int 0))|1])|2]
theorem SS:sB BU iH RM RJ (top 27)=true:=by kernel_rfl
noncomputable def zN:LS:=["events","live","matter","tells"]
def zK:LS:=["events","live","matter"]
def NU:Need:=⟨[],[],["tuple"]⟩
noncomputable def XH:PT :=
  %[.set 3 (.comp [] ["number"] (.nm 0) .val %[.xz 1|1] (.cmp .Eq (.idx (.idx (.xz 1) (.xz 0)) (.int 4)) (.xz 3)) (.idx (.xz 1) (.xz 0))),.ret (.bi .tuple %[.comp [] ["event"] (.nm 0) .val %[.xz 3|1] .nop (.tup %[.idx (.xz 0) (.int 2),.idx (.xz 0) (.int 3)|1])|1])|2]
theorem vT:sB NU XH zN zK (top 28)=true:=by kernel_rfl
def SI:LS:=["world","web"]
def NG:LS:=["world","web"]
noncomputable def GP:Need:=⟨["ground_alone","needs_of"],[],[]⟩
noncomputable def AE:PT :=
  %[.ret (.comp [] ["name","chains"] (.tp [0,1]) .val %[.call "ground_alone" %[.idx (.xz 1) (.int 1),.idx (.xz 1) (.int 0),.call "needs_of" %[.xz 0|1]|1]|1] .nop (.xz 0))|2]
theorem ZN:sB GP AE SI NG (top 29)=true:=by kernel_rfl
def TM:LS:=["world"]
def TJ:LS:=["world"]
def DU:Need:=⟨[],[],[]⟩
noncomputable def JH:PT :=
  %[.ret (.comp [] ["person"] (.nm 0) .val %[.idx (.xz 0) (.int 0)|1] .nop (.tup %[.idx (.xz 0) (.int 0),.idx (.xz 0) (.int 3)|1]))|2]
theorem ES:sB DU JH TM TJ (top 30)=true:=by kernel_rfl
noncomputable def YT:LS:=["_law_script","_law_k","_law_many","_law_cell","_law_number"]
noncomputable def EN:LS:=["_law_script","_law_k","_law_many"]
def C4:Need:=⟨[],[],["len"]⟩
noncomputable def jG:PT :=
  %[.set 4 (.bin .Mod (.bin .Mult (.bin .Add (.bin .Add (.bin .Mod (.xz 3) (.int 2147483647)) (.bin .Mult (.int 7) (.xz 1))) (.int 3)) (.bin .Add (.int 48271) (.bin .Mult (.bin .Mult (.int 1103) (.xz 1)) (.xz 1)))) (.int 2147483629)),.ret (.bin .Mod (.bin .FloorDiv (.xz 4) (.int 64)) (.xz 2))|2]
noncomputable def HM:PT :=
  (.seq (.set 3 (.int 0))
  (.seq (.ife (.cmp .Gt (.bi .len %[.xz 0|1]) (.int 0)) %[.set 3 (.idx (.xz 0) (.bin .Mod (.xz 1) (.bi .len %[.xz 0|1])))|2] .nil)
  jG))
theorem dZ:sB C4 HM YT EN (top 32)=true:=by kernel_rfl
noncomputable def XO:LS:=["_law_script","_law_letters","_law_ahead","_law_behind","_law_first"]
def FL:LS:=["_law_script"]
noncomputable def KY:Need:=⟨["_law_draw"],[],["range"]⟩
noncomputable def CJ:PT :=
  %[.set 1 (.str "bcdfgjkmnpqvwxyz"),.set 2 (.bin .Mult (.str "zq") (.call "_law_draw" %[.xz 0,.int 901,.int 2|1])),.set 3 (.slc (.str "vzb") .nop (.call "_law_draw" %[.xz 0,.int 902,.int 4|1])),.set 4 (.call "_law_draw" %[.xz 0,.int 903,.int 16|1]),.ret (.comp [] ["_law_k"] (.nm 0) .rng1 %[.int 16|1] .nop (.bin .Add (.bin .Add (.xz 3) (.idx (.xz 2) (.bin .Mod (.bin .Add (.xz 5) (.xz 0)) (.int 16)))) (.xz 4)))|2]
theorem XV:sB KY CJ XO FL (top 33)=true:=by kernel_rfl
noncomputable def EM:LS:=["_law_script","_law_names_here","_law_people_here","_law_wide","_law_k","_law_name","_law_rank","_law_floor"]
noncomputable def EJ:LS:=["_law_script","_law_names_here"]
noncomputable def GU:Need:=⟨["_law_draw"],[],["enumerate","int"]⟩
noncomputable def CI:PT :=
  %[.set 6 (.call "_law_draw" %[.xz 0,.bin .Add (.int 910) (.xz 4),.xz 3|1]),.set 7 (.bin .Mult (.call "_law_draw" %[.xz 0,.bin .Add (.int 920) (.xz 4),.xz 3|1]) (.bi .int %[.cmp .Eq (.call "_law_draw" %[.xz 0,.bin .Add (.int 930) (.xz 4),.int 3|1]) (.int 0)|1])),.expr (.mt .append (.xz 2) %[.tup %[.xz 5,.xz 6,.xz 7,.idx (.lst %[.int 1,.int 1,.int 1,.int 2,.int 2,.int 3|1]) (.call "_law_draw" %[.xz 0,.bin .Add (.int 940) (.xz 4),.int 6|1])|1]|1])|2]
noncomputable def ZH:PT :=
  %[.own 2 (.lst .nz),.set 3 (.idx (.lst %[.int 4,.int 100|1]) (.call "_law_draw" %[.xz 0,.int 904,.int 2|1])),.for_ (.tp [4,5]) .enum %[.xz 1|1] CI,.ret (.xz 2)|2]
theorem jT:sB GU ZH EM EJ (top 34)=true:=by kernel_rfl
noncomputable def UO:LS:=["_law_script","_law_k","_law_people_here","_law_matters","_law_last","_law_at","_law_matter","_law_word","_law_times","_law_time","_law_teller","_law_others","_law_hearer","_law_by","_law_j"]
noncomputable def GL:LS:=["_law_script","_law_k","_law_people_here","_law_matters","_law_last"]
noncomputable def VY:Need:=⟨["_law_draw"],[],["len","range","tuple"]⟩
noncomputable def mK:PT :=
  %[.expr (.mt .append (.xz 13) %[.idx (.idx (.xz 2) (.call "_law_draw" %[.xz 0,.bin .Add (.bin .Add (.bin .Mult (.int 11) (.xz 1)) (.int 8)) (.xz 14),.bi .len %[.xz 2|1]|1])) (.int 0)|1])|2]
noncomputable def RE:PT :=
  %[.set 11 (.comp [] ["_law_person"] (.nm 0) .val %[.xz 2|1] (.cmp .NotEq (.idx (.xz 0) (.int 0)) (.xz 11)) (.idx (.xz 0) (.int 0))),.set 12 (.idx (.xz 11) (.call "_law_draw" %[.xz 0,.bin .Add (.bin .Mult (.int 11) (.xz 1)) (.int 6),.bi .len %[.xz 11|1]|1])),.own 13 (.lst .nz),.for_ (.nm 14) .rng1 %[.call "_law_draw" %[.xz 0,.bin .Add (.bin .Mult (.int 11) (.xz 1)) (.int 7),.int 3|1]|1] mK,.ret (.tup %[.str "tell",.xz 9,.xz 10,.xz 12,.xz 6,.xz 7,.bi .tuple %[.xz 13|1]|1])|2]
noncomputable def DJ:PT :=
  (.seq (.set 5 (.call "_law_draw" %[.xz 0,.bin .Mult (.int 11) (.xz 1),.bi .len %[.xz 2|1]|1]))
  (.seq (.set 6 (.idx (.xz 3) (.call "_law_draw" %[.xz 0,.bin .Add (.bin .Mult (.int 11) (.xz 1)) (.int 1),.bi .len %[.xz 3|1]|1])))
  (.seq (.set 7 (.slc (.str "abcdef") (.call "_law_draw" %[.xz 0,.bin .Add (.bin .Mult (.int 11) (.xz 1)) (.int 2),.int 6|1]) .nop))
  (.seq (.set 8 (.lst %[.xz 1,.bin .Mult (.int 2) (.bin .FloorDiv (.xz 1) (.int 2)),.call "_law_draw" %[.xz 0,.bin .Add (.bin .Mult (.int 11) (.xz 1)) (.int 3),.int 9|1],.bin .Sub (.int 100) (.xz 1)|1]))
  (.seq (.set 9 (.idx (.xz 8) (.call "_law_draw" %[.xz 0,.int 905,.int 4|1])))
  (.seq (.ife (.or (.cmp .Is (.xz 4) .non) (.cmp .Eq (.call "_law_draw" %[.xz 0,.bin .Add (.bin .Mult (.int 11) (.xz 1)) (.int 4),.int 4|1]) (.int 0))) %[.ret (.tup %[.str "see",.xz 9,.idx (.idx (.xz 2) (.xz 5)) (.int 0),.xz 6,.xz 7|1])|2] .nil)
  (.seq (.set 10 (.idx (.idx (.xz 2) (.xz 5)) (.int 0)))
  (.seq (.ife (.cmp .Gt (.call "_law_draw" %[.xz 0,.bin .Add (.bin .Mult (.int 11) (.xz 1)) (.int 5),.int 3|1]) (.int 0)) %[.set 10 (.idx (.xz 4) (.int 0)),.set 6 (.idx (.xz 4) (.int 1))|2] .nil)
  RE))))))))
theorem UV:sB VY DJ UO GL (top 35)=true:=by kernel_rfl
noncomputable def IM:LS:=["_law_script","_law_most","_law_cells","_law_k","_law_cell"]
def IJ:LS:=["_law_script","_law_most"]
def HU:Need:=⟨[],[],["enumerate"]⟩
noncomputable def DI:PT :=
  %[.ife (.cmp .Lt (.xz 3) (.xz 1)) %[.expr (.mt .append (.xz 2) %[.xz 4|1])|2] %[.six (.xz 2) (.bin .Mod (.xz 3) (.xz 1)) (.bin .Add (.bin .Mult (.idx (.xz 2) (.bin .Mod (.xz 3) (.xz 1))) (.int 31)) (.xz 4))|2]|2]
noncomputable def KH:PT :=
  %[.own 2 (.lst .nz),.for_ (.tp [3,4]) .enum %[.xz 0|1] DI,.ret (.xz 2)|2]
theorem yT:sB HU KH IM IJ (top 36)=true:=by kernel_rfl
noncomputable def VO:LS:=["_law_script","_law_most","_law_names_here","_law_people_here","_law_matters","_law_against","_law_k","_law_j","_law_both","_law_events","_law_last","_law_event_here"]
def DL:LS:=["_law_script","_law_most"]
noncomputable def ZY:Need:=⟨["_law_folded","_law_names","_law_people","_law_draw","_law_event"],[],["len","range"]⟩
noncomputable def IF:PT :=
  %[.set 8 (.lst %[.tup %[.idx (.xz 4) (.xz 6),.idx (.xz 4) (.xz 7)|1],.tup %[.idx (.xz 4) (.xz 7),.idx (.xz 4) (.xz 6)|1]|1]),.ife (.cmp .Gt (.call "_law_draw" %[.xz 0,.bin .Add (.bin .Add (.int 950) (.bin .Mult (.int 3) (.xz 6))) (.xz 7),.int 3|1]) (.int 0)) %[.expr (.mt .append (.xz 5) %[.idx (.xz 8) (.call "_law_draw" %[.xz 0,.bin .Add (.bin .Add (.int 960) (.bin .Mult (.int 3) (.xz 6))) (.xz 7),.int 2|1])|1])|2] .nil|2]
noncomputable def EF:PT :=
  %[.for_ (.nm 7) .rng1 %[.xz 6|1] IF|2]
noncomputable def AF:PT :=
  %[.set 11 (.call "_law_event" %[.xz 0,.xz 6,.xz 3,.xz 4,.xz 10|1]),.expr (.mt .append (.xz 9) %[.xz 11|1]),.set 10 (.tup %[.idx (.xz 11) (.int 2),.idx (.xz 11) (.int 3)|1]),.ife (.cmp .Eq (.idx (.xz 11) (.int 0)) (.str "tell")) %[.set 10 (.tup %[.idx (.xz 11) (.int 3),.idx (.xz 11) (.int 4)|1])|2] .nil|2]
noncomputable def NE:PT :=
  %[.own 5 (.lst .nz),.for_ (.nm 6) .rng1 %[.bi .len %[.xz 4|1]|1] EF,.own 9 (.lst .nz),.set 10 .non,.for_ (.nm 6) .rng1 %[.bi .len %[.xz 0|1]|1] AF,.frz [5,9] (.ret (.tup %[.xz 3,.xz 4,.xz 5,.xz 9|1]))|2]
noncomputable def BJ:PT :=
  (.seq (.set 0 (.call "_law_folded" %[.xz 0,.int 24|1]))
  (.seq (.set 2 (.call "_law_names" %[.xz 0|1]))
  (.seq (.set 3 (.call "_law_people" %[.xz 0,.slc (.xz 2) .nop (.bin .Add (.int 2) (.call "_law_draw" %[.xz 0,.int 906,.bin .Sub (.xz 1) (.int 1)|1]))|1]))
  (.seq (.set 4 (.slc (.xz 2) (.int 6) (.bin .Add (.int 7) (.call "_law_draw" %[.xz 0,.int 907,.int 3|1]))))
  (.seq (.ife (.cmp .Eq (.call "_law_draw" %[.xz 0,.int 908,.int 3|1]) (.int 0)) %[.set 4 (.slc (.xz 2) .nop (.bi .len %[.xz 4|1]))|2] .nil)
  NE)))))
theorem VV:sB ZY BJ VO DL (top 37)=true:=by kernel_rfl
noncomputable def AM:LS:=["_law_world_here","_law_events","_law_rows","_law_number","_law_taken","_law_live","_law_held"]
def AJ:LS:=["_law_world_here"]
def FU:Need:=⟨["gone"],[],["sorted"]⟩
noncomputable def OE:PT :=
  %[.expr (.mt .append (.xz 2) %[.tup %[.idx (.xz 1) (.xz 3),.xz 4,.bi .sorted %[.comp [] ["_law_one"] (.nm 0) .val %[.xz 5|1] .nop (.idx (.xz 2) (.xz 0))|1],.xz 6|1]|1])|2]
noncomputable def YH:PT :=
  %[.set 1 (.idx (.xz 0) (.int 3)),.own 2 (.lst .nz),.for_ (.tp [3,4,5,6]) .val %[.call "gone" %[.xz 0|1]|1] OE,.ret (.xz 2)|2]
theorem IS:sB FU YH AM AJ (top 38)=true:=by kernel_rfl
noncomputable def jf:LS:=["_law_script","_law_world_here","_law_events","_law_keys","_law_turned","_law_other"]
def V2:LS:=["_law_script"]
noncomputable def dn:Need:=⟨["_law_world","_law_draw","_law_walked","wrong_pairs"],[],["enumerate","sorted"]⟩
noncomputable def G6:PT :=
  %[.set 1 (.call "_law_world" %[.xz 0,.int 6|1]),.set 2 (.idx (.xz 1) (.int 3)),.set 3 (.comp [] ["_law_at","_law_event_here"] (.tp [0,1]) .enum %[.xz 2|1] .nop (.tup %[.call "_law_draw" %[.xz 2,.bin .Add (.int 1100) (.bin .Mod (.idx (.xz 1) (.int 1)) (.int 50)),.int 97|1],.idx (.xz 1) (.int 1),.xz 0|1])),.set 4 (.comp [] ["_law_key"] (.nm 0) .val %[.bi .sorted %[.xz 3|1]|1] .nop (.idx (.xz 3) (.idx (.xz 0) (.int 2)))),.set 5 (.tup %[.idx (.xz 1) (.int 0),.idx (.xz 1) (.int 1),.idx (.xz 1) (.int 2),.xz 4|1]),.ife (.cmp .NotEq (.call "_law_walked" %[.xz 1|1]) (.call "_law_walked" %[.xz 5|1])) %[.ret (.bl false)|2] .nil,.ret (.cmp .Eq (.call "wrong_pairs" %[.xz 1|1]) (.call "wrong_pairs" %[.xz 5|1]))|2]
theorem Si:sB dn G6 jf V2 (top 39)=true:=by kernel_rfl
theorem nQ(a b:Str):Qx (.str a) (.str b)=decide (a=b):=by rw[Q4,decide_eq_true_iff];simp[Qx]
theorem RK(l:LS)(z:Str):((l.map Jx).any λy=>Qx y (.str z))=decide (z∈l):=by rw[QCD,Q4,Wr,decide_eq_true_iff];constructor;rintro⟨x,u,e⟩;have e:Qx (.str x) (.str z)=true:=e;rw[nQ,decide_eq_true_iff]at e;exact e▸u;intro h;exact⟨z,h,by show Qx (.str z) (.str z)=true;rw[nQ];exact dT rfl⟩
theorem aI(l:LS):(l.map Jx).all FB=true:=by rw[List.all_map,Qw];exact λ_ _=>rfl
noncomputable def Ha(g:Str)(cut:LS)(s:Str):Bool:=!decide (s=g)&&!decide (s∈cut)
inductive Led(es:gC)(st:LS)(g:Str)(cut:LS):Str->Prop
 |st {s:Str}:s∈st->Ha g cut s=true->Led es st g cut s
 |ed {a b:Str}:Led es st g cut a->(a,b)∈es->Ha g cut b=true->Led es st g cut b
theorem CP:∀{ks ns:LS},ks.Nodup->(∀s∈ks,s∈ns)->ks.length<=ns.length
 |[],_,_,_=>Qt _|s::r,ns,h,hs=>by obtain⟨k,u⟩:=Qi.mp h;have z:=hs s QF;have:=CP (ks:=r) (ns:=ns.erase s) u λx y=>(QBM (λ(e:x=s)=>k (e▸y))).mpr (hs x (QE _ y));rw[QAg z]at this;have f:=WZ z;rw[QM];omega
def one(y:Str):Prop:=∃c,c<128/\y=⟨#[c]⟩
noncomputable def pr(p:Str×Str):D:=.tuple [.str p.1,.str p.2]
theorem pQ{α h:Type}(f:α->h)(l:List α)(a b:Option Int):DE (l.map f) a b=(DE l a b).map f:=by unfold DE;rw[QD,List.map_take,List.map_drop]
noncomputable abbrev Pt:=Str×Str
theorem gP(h:pr p=pr q):p=q:=by obtain⟨a,b⟩:=p;obtain⟨c,d⟩:=q;injection h with h;injection h with h1 h;injection h with h2 _;injection h1 with h1;injection h2 with h2;exact QCL h1 h2
theorem z6{x k:D}{r:List D}(h:x≠k):bA (x::r) k=(bA r k).map (·+1):=by unfold bA;rw[if_neg h];cases r<;>rfl
theorem Xd{x k:D}{r:List D}(h:x=k):bA (x::r) k=some 0:=by unfold bA;rw[if_pos h]
noncomputable def look{α:Type}:List (Pt×α)->Pt->Option α
 |[],_=>none|e::l,p=>if e.1=p then some e.2 else look l p
noncomputable def put{α:Type}:List (Pt×α)->Pt->α->List (Pt×α)
 |[],p,v=>[(p,v)]|e::l,p,v=>if e.1=p then(e.1,v)::l else e::put l p v
noncomputable def KC{α:Type}(l:List (Pt×α)):List D:=l.map λe=>pr e.1
theorem KJ{α:Type}{p:Pt}:∀{l:List (Pt×α)},look l p=none->bA (KC l) (pr p)=none/\∀w,put l p w=l++[(p,w)]
 |[],_=>⟨rfl,λ_=>rfl⟩|e::l,h=>by unfold look at h;by_cases c:e.1=p;rw[if_pos c]at h;cases h;rw[if_neg c]at h;obtain⟨y,x⟩:=KJ h;refine⟨?_,λw=>?_⟩;show bA (pr e.1::KC l) (pr p)=none;rw[z6 (λz=>c (gP z)),y];rfl;show(if e.1=p then(e.1,w)::l else e::put l p w)=_;rw[if_neg c,x];rfl
theorem nC{α:Type}{p:Pt}{v:α}(f:α->T):∀{l:List (Pt×α)},look l p=some v->∃n,bA (KC l) (pr p)=some n/\(l.map λe=>f e.2)[n]?=some (f v)/\∀w,KC (put l p w)=KC l/\(l.map λe=>f e.2).set n (f w)=(put l p w).map λe=>f e.2
 |[],h=>by cases h|e::l,h=>by unfold look at h;by_cases c:e.1=p;rw[if_pos c]at h;injection h with h;refine⟨0,?_,?_,λw=>?_⟩;exact Xd (congrArg pr c);show some (f e.2)=_;rw[h];have:put (e::l) p w=(e.1,w)::l:=if_pos c;rw[this];exact⟨rfl,rfl⟩;rw[if_neg c]at h;obtain⟨n,i,k,u⟩:=nC f h;refine⟨n+1,?_,k,λw=>?_⟩;show bA (pr e.1::KC l) (pr p)=some (n+1);rw[z6 (λz=>c (gP z)),i];rfl;have:put (e::l) p w=e::put l p w:=if_neg c;rw[this];obtain⟨y,x⟩:=u w;refine⟨?_,?_⟩;show pr e.1::KC (put l p w)=pr e.1::KC l;rw[y];show f e.2::(l.map λe=>f e.2).set n (f w)=f e.2::(put l p w).map λe=>f e.2;rw[x]
theorem vD{α:Type}{p q:Pt}{w:α}:∀{l:List (Pt×α)},look (put l p w) q=if p=q then some w else look l q
 |[]=>rfl|e::l=>by
  by_cases c:e.1=p;have h:put (e::l) p w=(e.1,w)::l:=if_pos c;rw[h];show(if e.1=q then some w else look l q)=if p=q then some w else(if e.1=q then some e.2 else look l q)
  rw[c];split<;>rfl;have h:put (e::l) p w=e::put l p w:=if_neg c;rw[h];show(if e.1=q then some e.2 else look (put l p w) q)=if p=q then some w else(if e.1=q then some e.2 else look l q)
  rw[vD];by_cases d:e.1=q;rw[if_pos d,if_pos d,if_neg (λz=>c (d.trans z.symm))];rw[if_neg d,if_neg d]
theorem YW{α:Type}{p:Pt}{w:α}:∀{l:List (Pt×α)},(put l p w).length<=l.length+1
 |[]=>QW _|e::l=>by by_cases c:e.1=p;rw[show put (e::l) p w=(e.1,w)::l from if_pos c,QM,QM];omega;have:=YW (p:=p) (w:=w) (l:=l);rw[show put (e::l) p w=e::put l p w from if_neg c,QM,QM];omega
theorem NB(p:Pt):aD true (pr p):=⟨[.s p.1,.s p.2],rfl,by simp[J4,nkds]⟩
noncomputable abbrev Inn:=List (Pt×Int)
noncomputable abbrev Rm:=List (Pt×Inn)
noncomputable def uD(l:Inn):T:=.dct true (KC l) (l.map λe=>T.d (.int e.2))
noncomputable def zB(r:Rm):T:=.dct true (KC r) (r.map λe=>uD e.2)
noncomputable def sdf(r:Rm)(p:Pt):Rm:=match look r p with
 |some _=>r|none=>r++[(p,[])]
theorem rW(hl:r.length<sizeLine)(q:Q (zB (sdf r p))):Il (.d (pr p)) (zB r) Q:=by
 refine⟨KC r,_,rfl,NB p,by unfold KC;rw[QD];exact hl,?_⟩;unfold sdf at q;cases h:look r p with
 |some v=>rw[h]at q;obtain⟨n,x,_⟩:=nC uD h;exact .inl ⟨n,x,q⟩|none =>
  rw[h]at q;refine .inr ⟨(KJ h).1,?_⟩;have e:zB (r++[(p,[])])=.dct true (KC r++[pr p]) ((r.map λe=>uD e.2)++[.dct true [] []]):=by unfold zB KC;rw[QO,QO];rfl
  show Q (T.dct true (KC r++[pr p]) ((r.map λe=>uD e.2)++[.dct true [] []]));rw[<- e];exact q
theorem GO(hl:l.length<sizeLine)(q:Q (uD (put l p v))):bc (uD l) (.d (pr p)) (.d (.int v)) Q:=by
 refine⟨NB p,by unfold KC;rw[QD];exact hl,?_⟩;have e:oJ true (KC l) (l.map λe=>T.d (.int e.2)) (pr p) (.d (.int v))=uD (put l p v):=by
  unfold oJ;cases h:look l p with|none=>obtain⟨x,y⟩:=KJ h;rw[x,y];unfold uD KC;rw[QO,QO];rfl|some u=>obtain⟨n,x,y,f⟩:=nC (λi:Int=>T.d (.int i)) h;rw[x];obtain⟨k,z⟩:=f v;show T.dct true (KC l) ((l.map λe=>T.d (.int e.2)).set n (T.d (.int v)))=_;unfold uD;rw[k,z]
 show Q (oJ true (KC l) (l.map λe=>T.d (.int e.2)) (pr p) (.d (.int v)));rw[e];exact q
theorem HH{Q:T->(T->T)->Prop}(h:look r p=some l)(q:∀f:T->T,(∀x,f (uD x)=zB (put r p x))->Q (uD l) f):Fl (.d (pr p)) (zB r) Q:=by obtain⟨n,i,k,u⟩:=nC uD h;refine⟨true,KC r,_,n,uD l,rfl,NB p,i,k,q _ λx=>?_⟩;obtain⟨z,y⟩:=u x;show T.dct true (KC r) ((r.map λe=>uD e.2).set n (uD x))=_;unfold zB;rw[z,y]
def KA:Pt:=("","begin")
def tO(n:Str):Pt:=(n,"to")
def fR(n:Str):Pt:=(n,"from")
theorem ur:("begin":Str)≠"to":=by decide +kernel
theorem br:("begin":Str)≠"from":=by decide +kernel
theorem vr:("to":Str)≠"from":=by decide +kernel
theorem GB:KA≠tO a:=λh=>ur (congrArg Prod.snd h)
theorem gE:KA≠fR a:=λh=>br (congrArg Prod.snd h)
theorem FA:tO a≠fR b:=λh=>vr (congrArg Prod.snd h)
theorem ZB(h:tO a=tO b):a=b:=congrArg qu h
theorem rH(h:fR a=fR b):a=b:=congrArg qu h
def BZ(p q:Pt):Prop:=(p=KA/\∃n,q=tO n)∨(∃n,p=tO n/\q=fR n)∨(∃a b,a≠b/\p=fR a/\q=tO b)
theorem VE(h:BZ p q):¬ BZ q p:=by
 rintro k;rcases h with⟨rfl,n,rfl⟩| ⟨n,rfl,rfl⟩| ⟨a,b,u,rfl,rfl⟩<;>rcases k with⟨x,m,y⟩| ⟨m,x,y⟩| ⟨c,d,z,x,y⟩
 exact GB x.symm;exact gE y;exact FA x;exact gE x.symm;exact FA x.symm;exact z ((rH x).symm.trans (ZB y));exact GB x.symm;exact u ((rH y).trans (ZB x).symm);exact FA x
theorem XF(h:BZ p q):p≠q:=λe=>VE h (by rw[e]at h ⊢;exact h)
noncomputable abbrev Wy:=Pt×Pt×Int
noncomputable def lk(r:Rm)(p:Pt):Inn:=(look r p).getD []
noncomputable def tB(r:Rm)(w:Wy):Rm:=put (put (sdf (sdf r w.1) w.2.1) w.1 (put (lk (sdf (sdf r w.1) w.2.1) w.1) w.2.1 w.2.2)) w.2.1 (put (lk (put (sdf (sdf r w.1) w.2.1) w.1 (put (lk (sdf (sdf r w.1) w.2.1) w.1) w.2.1 w.2.2)) w.2.1) w.1 0)
theorem vS{α:Type}{p q:Pt}{v:α}:∀{l:List (Pt×α)},look (l++[(p,v)]) q=(look l q).or (if p=q then some v else none)
 |[]=>rfl|e::l=>by show(if e.1=q then some e.2 else look (l++[(p,v)]) q)=(if e.1=q then some e.2 else look l q).or (if p=q then some v else none);by_cases c:e.1=q;rw[if_pos c,if_pos c];rfl;rw[if_neg c,if_neg c];exact vS
theorem zS:look (sdf r p) q=(look r q).or (if p=q then some [] else none):=by
 unfold sdf;cases h:look r p with
 |some v =>
  show look r q=_;cases y:look r q with
  |some x=>rfl|none =>
   show none=if p=q then some [] else none
   rw[if_neg];intro e;rw[e,y]at h;cases h
 |none=>show look (r++[(p,[])]) q=_;exact vS
theorem kP:(sdf r p).length<=r.length+1:=by unfold sdf;split;omega;rw[QI,qI];omega
theorem jI{α:Type}{p:Pt}{w:α}{e:Pt×α}:∀{l:List (Pt×α)},e∈put l p w->e=(p,w)∨e∈l
 |[],h=>.inl (QJ.mp h)|x::l,h=>by by_cases c:x.1=p;rw[show put (x::l) p w=(x.1,w)::l from if_pos c]at h;rcases QL.mp h with h|h;exact .inl (by rw[h,c]);exact .inr (QE _ h);rw[show put (x::l) p w=x::put l p w from if_neg c]at h;rcases QL.mp h with h|h;exact .inr (by rw[h];exact QF);exact(jI h).imp_right (QE _)
theorem cP{α:Type}{p:Pt}{w:α}{q:Pt}:∀{l:List (Pt×α)},(∃v,(q,v)∈put l p w)↔q=p∨∃v,(q,v)∈l
 |[]=>by
  constructor;rintro⟨v,h⟩;exact .inl (congrArg qu (QJ.mp h));rintro(rfl|⟨v,h⟩)
  ·exact⟨w,QJ.mpr rfl⟩
  exact(nomatch h)
 |x::l=>by
  by_cases c:x.1=p;rw[show put (x::l) p w=(x.1,w)::l from if_pos c];constructor;rintro⟨v,h⟩;rcases QL.mp h with h|h;exact .inl ((congrArg qu h).trans c);exact .inr ⟨v,QE _ h⟩;rintro(rfl|⟨v,h⟩)
  ·exact⟨w,by rw[c];exact QF⟩
  rcases QL.mp h with h|h
  ·exact⟨w,by rw[<- h];exact QF⟩
  exact⟨v,QE _ h⟩;rw[show put (x::l) p w=x::put l p w from if_neg c];have y:=cP (p:=p) (w:=w) (q:=q) (l:=l);constructor;rintro⟨v,h⟩;rcases QL.mp h with h|h;exact .inr ⟨v,by rw[h];exact QF⟩;exact(y.mp ⟨v,h⟩).imp_right λ⟨v,h⟩=>⟨v,QE _ h⟩
  rintro(h|⟨v,h⟩)
  ·obtain⟨v,h⟩:=y.mpr (.inl h)
   exact⟨v,QE _ h⟩
  rcases QL.mp h with h|h
  ·exact⟨v,by rw[h];exact QF⟩
  obtain⟨v,h⟩:=y.mpr (.inr ⟨v,h⟩);exact⟨v,QE _ h⟩
def CZ(r:Rm)(p q:Pt):Prop:=∃v,(q,v)∈lk r p
def Key(r:Rm)(p:Pt):Prop:=∃l,look r p=some l
def Pos(r:Rm):Prop:=∀p,∀e∈lk r p,(0<e.2↔BZ p e.1)
def V7(r:Rm):Prop:=∀p q,CZ r p q->Key r q
def Sz(r:Rm)(n:Nat):Prop:=r.length<=n/\∀p,(lk r p).length<=n
theorem LD:lk (put r p l) q=if p=q then l else lk r q:=by unfold lk;rw[vD];split<;>rfl
theorem HD:lk (sdf r p) q=lk r q:=by
 unfold lk;rw[zS];cases look r q with|some x=>rfl|none=>show(if p=q then some [] else none).getD []=[];split<;>rfl
theorem mI:Key (put r p l) q↔p=q∨Key r q:=by unfold Key;rw[vD];by_cases h:p=q;rw[if_pos h];exact⟨λ_=>.inl h,λ_=>⟨_,rfl⟩⟩;rw[if_neg h];exact⟨.inr,λz=>z.resolve_left h⟩
theorem UD:Key (sdf r p) q↔p=q∨Key r q:=by
 unfold Key;rw[zS];cases look r q with|some x=>exact⟨λ_=>.inr ⟨_,rfl⟩,λ_=>⟨_,rfl⟩⟩|none=>show(∃l,(if p=q then some [] else none)=some l)↔_;by_cases h:p=q;rw[if_pos h];exact⟨λ_=>.inl h,λ_=>⟨_,rfl⟩⟩;rw[if_neg h];exact⟨λ⟨_,e⟩=>(nomatch e),λz=>(z.resolve_left h)⟩
theorem fI(h:w.1≠w.2.1)(p:Pt):lk (tB r w) p=if w.2.1=p then put (lk r p) w.1 0 else if w.1=p then put (lk r p) w.2.1 w.2.2 else lk r p:=by unfold tB;rw[LD,LD,LD,HD,HD,HD,HD,if_neg h,HD,HD];by_cases y:w.2.1=p;rw[if_pos y,if_pos y,y];rw[if_neg y,if_neg y];by_cases x:w.1=p;rw[if_pos x,if_pos x,x];rw[if_neg x,if_neg x]
theorem BF:Key (tB r w) p↔p=w.1∨p=w.2.1∨Key r p:=by
 unfold tB;rw[mI,mI,UD,UD];constructor;rintro(h|h|h|h|h)
 ·exact .inr (.inl h.symm)
 exact .inl h.symm;exact .inr (.inl h.symm);exact .inl h.symm;exact .inr (.inr h);rintro(h|h|h)
 ·exact .inr (.inl h.symm)
 exact .inl h.symm;exact .inr (.inr (.inr (.inr h)))
theorem iI(h:w.1≠w.2.1):CZ (tB r w) p q↔CZ r p q∨(p=w.1/\q=w.2.1)∨(p=w.2.1/\q=w.1):=by
 unfold CZ;rw[fI h];by_cases x:w.2.1=p;rw[if_pos x,cP];constructor;rintro(e|e)
 ·exact .inr (.inr ⟨x.symm,e⟩)
 exact .inl e;rintro(e|⟨u,y⟩| ⟨u,y⟩)
 ·exact .inr e
 exact absurd (u.symm.trans x.symm) h;exact .inl y;rw[if_neg x];by_cases k:w.1=p;rw[if_pos k,cP];constructor;rintro(e|e)
 ·exact .inr (.inl ⟨k.symm,e⟩)
 exact .inl e;rintro(e|⟨u,y⟩| ⟨u,y⟩)
 ·exact .inr e
 exact .inl y;exact absurd u.symm x;rw[if_neg k];exact⟨.inl,λz=>z.elim id λz=>z.elim (λe=>absurd e.1.symm k) λe=>absurd e.1.symm x⟩
def dG(w:Wy):Prop:=BZ w.1 w.2.1/\0<w.2.2
theorem C2(g:dG w)(y:Pos r):Pos (tB r w):=by intro p e h;rw[fI (XF g.1)]at h;by_cases k:w.2.1=p;rw[if_pos k]at h;rcases jI h with z|z;rw[z,<- k];exact⟨λx=>absurd x (wf 0),λx=>absurd x (VE g.1)⟩;exact y p e z;rw[if_neg k]at h;by_cases u:w.1=p;rw[if_pos u]at h;rcases jI h with z|z;rw[z,<- u];exact⟨λ_=>g.1,λ_=>g.2⟩;exact y p e z;rw[if_neg u]at h;exact y p e h
theorem r6(g:dG w)(x:V7 r):V7 (tB r w):=by
 intro p q h;rw[BF];rcases(iI (XF g.1)).mp h with h|⟨_,h⟩| ⟨_,h⟩
 exact .inr (.inr (x p q h));exact .inr (.inl h);exact .inl h
theorem KL{α:Type}{w:α}{l:List (Pt×α)}{n:Nat}(h:l.length<=n):(put l p w).length<=n+1:=QY YW (by omega)
theorem dP{α:Type}{p:Pt}{w:α}:∀{l:List (Pt×α)},(look l p).isSome=true->(put l p w).length=l.length
 |[],h=>by cases h|e::l,h=>by by_cases c:e.1=p;rw[show put (e::l) p w=(e.1,w)::l from if_pos c];rfl;rw[show put (e::l) p w=e::put l p w from if_neg c,QM,QM];rw[show look (e::l) p=look l p from if_neg c]at h;rw[dP h]
theorem mS(h:Key r p):(look r p).isSome=true:=by obtain⟨l,e⟩:=h;rw[e];rfl
theorem E4:(tB r w).length<=r.length+2:=by have x:Key (sdf (sdf r w.1) w.2.1) w.1:=UD.mpr (.inr (UD.mpr (.inl rfl)));have h:Key (sdf (sdf r w.1) w.2.1) w.2.1:=UD.mpr (.inl rfl);unfold tB;rw[dP (mS (mI.mpr (.inr h))),dP (mS x)];have:=kP (r:=r) (p:=w.1);have:=kP (r:=sdf r w.1) (p:=w.2.1);omega
theorem GH{n:Nat}(g:w.1≠w.2.1)(h:Sz r n):Sz (tB r w) (n+2):=by
 refine⟨QY E4 (by have:=h.1;omega),λp=>?_⟩;rw[fI g];have x:=h.2 p;split;exact QY (KL x) (by omega);split
 ·exact QY (KL x) (by omega)
 omega
theorem tX:∀{ws:List Wy}{r:Rm},(∀w∈ws,dG w)->∀{p q:Pt},CZ (ws.foldl tB r) p q↔CZ r p q∨(∃v,(p,q,v)∈ws)∨∃v,(q,p,v)∈ws
 |[],r,_,p,q=>⟨.inl,λz=>z.elim id λz=>z.elim (λ⟨_,z⟩=>(nomatch z)) λ⟨_,z⟩=>(nomatch z)⟩
 |w::ws,r,h,p,q=>by
  rw[QAE,tX (λw x=>h w (QE _ x)),iI (XF (h w QF).1)];constructor;rintro((z|⟨rfl,rfl⟩| ⟨rfl,rfl⟩)|⟨v,z⟩| ⟨v,z⟩)
  ·exact .inl z
  exact .inr (.inl ⟨_,QF⟩);exact .inr (.inr ⟨_,QF⟩);exact .inr (.inl ⟨v,QE _ z⟩);exact .inr (.inr ⟨v,QE _ z⟩);rintro(z|⟨v,z⟩| ⟨v,z⟩)
  ·exact .inl (.inl z)
  rcases QL.mp z with z|z
  ·rw[<- z]
   exact .inl (.inr (.inl ⟨rfl,rfl⟩))
  exact .inr (.inl ⟨v,z⟩);rcases QL.mp z with z|z
  ·rw[<- z]
   exact .inl (.inr (.inr ⟨rfl,rfl⟩))
  exact .inr (.inr ⟨v,z⟩)
theorem iT:∀{ws:List Wy}{r:Rm}{n:Nat},(∀w∈ws,dG w)->Pos r->V7 r->Key r KA->Sz r n->Pos (ws.foldl tB r)/\V7 (ws.foldl tB r)/\Key (ws.foldl tB r) KA/\Sz (ws.foldl tB r) (n+2 * ws.length)
 |[],r,n,_,h1,h2,h3,h4=>⟨h1,h2,h3,h4⟩|w::ws,r,n,h,h1,h2,h3,h4=>by have g:=h w QF;have:=iT (ws:=ws) (r:=tB r w) (n:=n+2) (λw x=>h w (QE _ x)) (C2 g h1) (r6 g h2) (BF.mpr (.inr (.inr h3))) (GH (XF g.1) h4);rw[QAE,QM,show n+2 * (ws.length+1)=n+2+2 * ws.length by omega];exact this
noncomputable def HQ(g:Str)(n:Str):List Wy:=if n=g then[] else[(tO n,fR n,1),(KA,tO n,2)]
noncomputable def CT(g:Str)(e:Str×Str):List Wy:=if e.1=g∨e.1=e.2 then[] else[(tO e.1,fR e.1,1),(tO e.2,fR e.2,1),(fR e.1,tO e.2,2)]
def HG:Rm:=[(KA,[])]
noncomputable def jA(es:gC)(st:LS)(g:Str):Rm:=(es.flatMap (CT g)).foldl tB ((st.flatMap (HQ g)).foldl tB HG)
theorem fq:(0:Int)<1:=by decide
theorem du:(0:Int)<2:=by decide
theorem TV:(HQ g n).length<=2:=by unfold HQ;split;exact Qt _;exact QW _
theorem EV:(CT g e).length<=3:=by unfold CT;split;exact Qt _;exact QW _
theorem AK:∀w∈HQ g n,dG w:=by
 intro w h;unfold HQ at h;split at h;exact(nomatch h);rcases QL.mp h with rfl|h
 ·exact⟨.inr (.inl ⟨n,rfl,rfl⟩),fq⟩
 rw[QJ.mp h];exact⟨.inl ⟨rfl,n,rfl⟩,du⟩
theorem IK:∀w∈CT g e,dG w:=by
 intro w x;unfold CT at x;split at x;exact(nomatch x);rename_i h;rcases QL.mp x with rfl|x;exact⟨.inr (.inl ⟨e.1,rfl,rfl⟩),fq⟩;rcases QL.mp x with rfl|x
 ·exact⟨.inr (.inl ⟨e.2,rfl,rfl⟩),fq⟩
 rw[QJ.mp x];exact⟨.inr (.inr ⟨e.1,e.2,λz=>h (.inr z),rfl,rfl⟩),du⟩
theorem eM{α:Type}{f:α->List Wy}{k:Nat}(h:∀x,(f x).length<=k):∀(l:List α),(l.flatMap f).length<=k * l.length
 |[]=>QW _|x::l=>by have:=eM h l;have:=h x;rw[Wc,QI,QM,Nat.mul_succ];omega
theorem JG{α:Type}{f:α->List Wy}(h:∀x,∀w∈f x,dG w)(l:List α):∀w∈l.flatMap f,dG w:=λw z=>by obtain⟨x,_,y⟩:=wH.mp z;exact h x w y
structure RmOk(r:Rm)(n:Nat):Prop where
 pos:Pos r
 dom:V7 r
 bg:Key r KA
 sz:Sz r n
theorem vE:RmOk HG 1:=by
 have e:∀p,lk HG p=[]:=λp=>by show(if KA=p then some [] else none).getD []=[];split<;>rfl
 refine⟨λp y x=>?_,λp q ⟨v,h⟩=>?_,⟨[],if_pos rfl⟩,QW _,λp=>?_⟩;rw[e]at x;exact(nomatch x);rw[e]at h;exact(nomatch h);rw[e];exact Qt _
theorem RmOk.add{r:Rm}{n:Nat}(h:RmOk r n){ws:List Wy}(g:∀w∈ws,dG w):RmOk (ws.foldl tB r) (n+2 * ws.length):=by obtain⟨u,z,y,x⟩:=iT g h.pos h.dom h.bg h.sz;exact⟨u,z,y,x⟩
theorem LR{es:gC}{st:LS}(z:es.length<=126)(y:st.length<=11):RmOk (jA es st g) 1000:=by have a:=(vE.add (JG (f:=HQ g) (λ_=>AK) st)).add (JG (f:=CT g) (λ_=>IK) es);have x:=eM (f:=HQ g) (k:=2) (λ_=>TV) st;have h:=eM (f:=CT g) (k:=3) (λ_=>EV) es;exact⟨a.pos,a.dom,a.bg,QY a.sz.1 (by omega),λp=>QY (a.sz.2 p) (by omega)⟩
def de(r:Rm)(p q:Pt):Prop:=∃v,(q,v)∈lk r p/\0<v
inductive Rch(r:Rm):Pt->Prop
 |bg:Rch r KA
 |go {p q:Pt}:Rch r p->de r p q->Rch r q
theorem En:(p,q,v)∈HQ g n↔n≠g/\((p,q,v)=(tO n,fR n,1)∨(p,q,v)=(KA,tO n,2)):=by unfold HQ;split;rename_i h;exact⟨λz=>(nomatch z),λz=>absurd h z.1⟩;rename_i h;rw[QL,QJ];exact⟨λz=>⟨h,z⟩,λz=>z.2⟩
theorem jo:(p,q,v)∈CT g e↔(e.1≠g/\e.1≠e.2)/\((p,q,v)=(tO e.1,fR e.1,1)∨(p,q,v)=(tO e.2,fR e.2,1)∨(p,q,v)=(fR e.1,tO e.2,2)):=by unfold CT;split;rename_i h;exact⟨λz=>(nomatch z),λz=>h.elim (λh=>absurd h z.1.1) λh=>absurd h z.1.2⟩;rename_i h;rw[QL,QL,QJ];exact⟨λz=>⟨⟨λe=>h (.inl e),λe=>h (.inr e)⟩,z⟩,λz=>z.2⟩
theorem cE{cut:LS}{s:Str}:Ha g cut s=true↔s≠g/\s∉cut:=by unfold Ha;rw[Qd,Q1,Q1,decide_eq_false_iff_not,decide_eq_false_iff_not]
end
section
variable{es:gC}{st:LS}{g:Str}{x:LS}
theorem fM{s:Str}(h:Led es st g x s):s≠g/\s∉x:=by
 cases h with|st _ h=>exact cE.mp h|ed _ _ h=>exact cE.mp h
end
section
variable{r:Rm}{ks:List Pt}{vs:List D}
theorem U0:∀{ws:List Wy}{r:Rm}{n:Nat},(∀w∈ws,dG w)->Sz r n->Sz (ws.foldl tB r) (n+2 * ws.length)
 |[],r,n,_,h4=>h4|w::ws,r,n,h,h4=>by have:=U0 (ws:=ws) (r:=tB r w) (n:=n+2) (λw x=>h w (QE _ x)) (GH (XF (h w QF).1) h4);rw[QAE,QM,show n+2 * (ws.length+1)=n+2+2 * ws.length by omega];exact this
inductive CF(r:Rm):List Pt->List D->Prop
 |bg:CF r [KA] [.none]
 |add {ks:List Pt}{vs:List D}{p q:Pt}:CF r ks vs->p∈ks->de r p q->q∉ks->CF r (ks++[q]) (vs++[pr p])
theorem CF.len(h:CF r ks vs):vs.length=ks.length:=by
 induction h with|bg=>rfl|add _ _ _ _ x=>rw[QI,QI,x];rfl
theorem CF.hb(h:CF r ks vs):KA∈ks:=by
 induction h with|bg=>exact QF|add _ _ _ _ x=>exact Qp _ x
theorem CF.rch(h:CF r ks vs):∀k∈ks,Rch r k:=by
 induction h with|bg=>intro k hk;rw[QJ.mp hk];exact .bg|add _ y w _ x=>intro k hk;rcases Qh.mp hk with z|z;exact x k z;rw[QJ.mp z];exact .go (x _ y) w
theorem CF.nd(h:CF r ks vs):ks.Nodup:=by
 induction h with
 |bg=>exact Qi.mpr ⟨λz=>(nomatch z),Q7⟩
 |add _ _ _ n x=>refine qh.mpr ⟨x,Qi.mpr ⟨λz=>(nomatch z),Q7⟩,λa y b hb z=>?_⟩;rw[QJ.mp hb]at z;exact n (z▸y)
theorem EH(x:V7 r)(hb:Key r KA){p:Pt}(h:Rch r p):Key r p:=by
 cases h with|bg=>exact hb|go _ w=>obtain⟨v,m,_⟩:=w;exact x _ _ ⟨v,m⟩
theorem zQ{p:Pt}{l:Inn}:∀{r:Rm},look r p=some l->p∈r.map (·.1)
 |[],h=>by cases h|e::r,h=>by by_cases c:e.1=p;rw[<- c];exact QF;rw[show look (e::r) p=look r p from if_neg c]at h;exact QE _ (zQ (r:=r) h)
theorem aG:∀{ks ns:List Pt},ks.Nodup->(∀s∈ks,s∈ns)->ks.length<=ns.length
 |[],_,_,_=>Qt _|s::r,ns,h,hs=>by obtain⟨v,u⟩:=Qi.mp h;have z:=hs s QF;have:=aG (ks:=r) (ns:=ns.erase s) u λx y=>(QBM (λ(e:x=s)=>v (e▸y))).mpr (hs x (QE _ y));rw[QAg z]at this;have w:=WZ z;rw[QM];omega
theorem CF.le(y:V7 r)(hb:Key r KA)(h:CF r ks vs):ks.length<=r.length:=by
 have:=aG (ns:=r.map (·.1)) h.nd λs x=>by obtain⟨l,e⟩:=EH y hb (h.rch s x);exact zQ e
 rw[QD]at this;exact this
structure Srch(r:Rm)(ks:List Pt)(vs:List D)(ws:List Pt):Prop where
 cf:CF r ks vs
 sub:∀w∈ws,w∈ks
 clo:∀k∈ks,k∉ws->∀q,de r k q->q∈ks
structure Srch1(r:Rm)(here:Pt)(ks:List Pt)(vs:List D)(ws:List Pt)(l:Inn):Prop where
 cf:CF r ks vs
 sub:∀w∈ws,w∈ks
 clo:∀k∈ks,k∉ws->k≠here->∀q,de r k q->q∈ks
 her:here∈ks
 don:∀e∈lk r here,0<e.2->e.1∈ks∨e∈l
 all:∀e∈l,e∈lk r here
end
section
variable{r:Rm}{ks ws:List Pt}{vs:List D}
theorem Nl:Srch r [KA] [.none] [KA]:=⟨.bg,λ_ h=>h,λk h n=>absurd h n⟩
theorem Srch.pop{w:Pt}(h:Srch r ks vs (w::ws)):Srch1 r w ks vs ws (lk r w):=by refine⟨h.cf,λx v=>h.sub x (QE _ v),λk hk n u=>h.clo k hk λz=>?_,h.sub w QF,λe y _=>.inr y,λe y=>y⟩;rcases QL.mp z with z|z;exact u z;exact n z
theorem Srch1.skip{y:Pt}{e:Pt×Int}{l:Inn}(h:Srch1 r y ks vs ws (e::l))(c:0<e.2->e.1∈ks):Srch1 r y ks vs ws l:=by
 refine⟨h.cf,h.sub,h.clo,h.her,λx u p=>?_,λx u=>h.all x (QE _ u)⟩;rcases h.don x u p with z|z;exact .inl z;rcases QL.mp z with z|z
 ·rw[z]at p ⊢;exact .inl (c p)
 exact .inr z
theorem Srch1.add{u:Pt}{e:Pt×Int}{l:Inn}(h:Srch1 r u ks vs ws (e::l))(c:0<e.2)(n:e.1∉ks):Srch1 r u (ks++[e.1]) (vs++[pr u]) (ws++[e.1]) l:=by
 have f:=h.all e QF;refine⟨h.cf.add h.her ⟨e.2,f,c⟩ n,λx v=>?_,λk hk a b q w=>?_,Qp _ h.her,λx v p=>?_,λx v=>h.all x (QE _ v)⟩;rcases Qh.mp v with z|z
 ·exact Qp _ (h.sub x z)
 exact Qb _ z;rcases Qh.mp hk with z|z
 ·exact Qp _ (h.clo k z (λy=>a (Qp _ y)) b q w)
 exact absurd (Qb _ z) a;rcases h.don x v p with z|z
 ·exact .inl (Qp _ z)
 rcases QL.mp z with z|z
 ·rw[z];exact .inl (Qb _ QF)
 exact .inr z
theorem Srch1.fin{x:Pt}(h:Srch1 r x ks vs ws []):Srch r ks vs ws:=by refine⟨h.cf,h.sub,λk hk n q w=>?_⟩;by_cases e:k=x;subst e;obtain⟨v,m,p⟩:=w;rcases h.don (q,v) m p with z|z;exact z;exact(nomatch z);exact h.clo k hk n e q w
theorem Srch.done(h:Srch r ks vs [])(p:Pt):p∈ks↔Rch r p:=by
 refine⟨h.cf.rch p,λz=>?_⟩;induction z with|bg=>exact h.cf.hb|go _ w x=>exact h.clo _ x (λz=>(nomatch z)) _ w
end
noncomputable def eC(Q:T->LT->Prop):PEnds:={ nx:=λh=>pU (BA [0] h) (Q (.d .none)),rt:=λt h=>pU (BA [0] h) (Q t) }
theorem XJ{Ψ:PEv}{b:PT}{p:PSp}{N ps:LS}{ds:LT}{Q:T->LT->Prop}(ρ:kA)(h:pF Ψ b (eC Q) ρ)(hl:ds.length=ps.length:=by rfl)(hc:iB 0 p.md ps.length=[0]:=by rfl)(x:vB N p.md ds=ρ:=by rfl):ds.length=ps.length/\pF Ψ b (NC p ps.length Q) (vB N p.md ds):=by
 have e:NC p ps.length Q=eC Q:=by unfold NC;rw[hc];rfl
 rw[e,x];exact⟨hl,h⟩
noncomputable def pZ(r:Rm)(h t:Pt)(v:Int):kA:=[oW (zB r),bD (pr h),bD (pr t),bD (.int v)]
section
variable{Ψ:PEv}{Z:PEnds}{q:PT}{r:Rm}{h t:Pt}{v:Int}
theorem ut(hl:r.length<sizeLine)(k:pF Ψ q Z (pZ (sdf r h) h t v)):pF Ψ (.seq (.sdf 0 (.xz 1)) q) Z (pZ r h t v):=by delta pZ at k ⊢;simp_arith[↓zA];refine⟨rfl,rW hl ?_⟩;exact k
theorem vt(hl:r.length<sizeLine)(k:pF Ψ q Z (pZ (sdf r t) h t v)):pF Ψ (.seq (.sdf 0 (.xz 2)) q) Z (pZ r h t v):=by delta pZ at k ⊢;simp_arith[↓zA];refine⟨rfl,rW hl ?_⟩;exact k
theorem zt{l:Inn}(e:look r h=some l)(hl:l.length<sizeLine)(k:pF Ψ q Z (pZ (put r h (put l t v)) h t v)):pF Ψ (.seq (.six (.idx (.xz 0) (.xz 1)) (.xz 2) (.xz 3)) q) Z (pZ r h t v):=by delta pZ at k ⊢;simp_arith[↓zA];refine HH e λf x=>GO hl ?_;rw[x];exact k
theorem yt{l:Inn}(e:look r t=some l)(hl:l.length<sizeLine)(k:pF Ψ q Z (pZ (put r t (put l h 0)) h t v)):pF Ψ (.seq (.six (.idx (.xz 0) (.xz 2)) (.xz 1) (.int 0)) q) Z (pZ r h t v):=by delta pZ at k ⊢;simp_arith[↓zA];refine HH e λf x=>GO hl ?_;rw[x];exact k
end
theorem bE{r:Rm}{p:Pt}(h:Key r p):look r p=some (lk r p):=by obtain⟨l,e⟩:=h;unfold lk;rw[e];rfl
noncomputable def lG:PSp where
 md:=[.chg]
 run:=λh Q _=>∃(r:Rm) (w:Wy),h=[zB r,.d (pr w.1),.d (pr w.2.1),.d (.int w.2.2)]/\(w.1≠w.2.1/\Sz r 5000)/\Q (.d .none) [zB (tB r w)]
theorem K9{Ψ:PEv}:AG Ψ JO lG BO HL:=by rintro _ Q _ ⟨r,w,rfl,⟨z,h⟩,q⟩;refine XJ (pZ r w.1 w.2.1 w.2.2) ?_;have a:=h.1;have k:=kP (r:=r) (p:=w.1);have y:Key (sdf (sdf r w.1) w.2.1) w.1:=UD.mpr (.inr (UD.mpr (.inl rfl)));have x:Key (sdf (sdf r w.1) w.2.1) w.2.1:=UD.mpr (.inl rfl);have v:=h.2 w.1;have u:=h.2 w.2.1;refine ut (by omega) (vt (by omega) (zt (bE y) (by rw[HD,HD];omega) (yt (bE (mI.mpr (.inr x))) (by rw[LD,if_neg z,HD,HD];omega) ?_)));exact q
noncomputable def TH:PSp where
 md:=[.chg]
 run:=λh Q _=>∃(r:Rm) (n:Str),h=[zB r,.d (.str n)]/\Sz r 5000/\Q (.d .none) [zB (tB r (tO n,fR n,1))]
theorem V9{Ψ:PEv}(x:Ψ.sp "add_way"=lG):AG Ψ UH TH kN kK:=by rintro _ Q _ ⟨r,n,rfl,h,q⟩;refine XJ [oW (zB r),bD (.str n)] ?_;delta UH;simp_arith[↓ZG (md:=[]) x rfl rfl];refine⟨by omega,by omega,?_⟩;exact⟨_,(tO n,fR n,1),rfl,⟨FA,h⟩,⟨_,rfl,q⟩⟩
noncomputable def YZ(es:gC)(st:LS)(g:Str)(r:Rm)(o4 o5 o6:Option Sl):kA:=[bD (.list (es.map pr)),bD (.tuple (st.map Jx)),bD (.str g),oW (zB r),o4,o5,o6]
section
variable{Ψ:PEv}{Z:PEnds}{es:gC}{st:LS}{g:Str}{r:Rm}
theorem lr(h:Ψ.va "BEGIN"=some (pr KA)){q:PT}{o3 o4 o5 o6:Option Sl}(k:pF Ψ q Z (YZ es st g HG o4 o5 o6)) :
  pF Ψ (.seq (.own 3 (.dsp (.glo "BEGIN") (.dnew true))) q) Z [bD (.list (es.map pr)),bD (.tuple (st.map Jx)),bD (.str g),o3,o4,o5,o6]:=by
 simp_arith[↓kH h];exact⟨NB KA,k⟩
theorem gr(b:Ψ.sp "add_name"=TH)(a:Ψ.sp "add_way"=lG)(v:Ψ.va "BEGIN"=some (pr KA))(u:Ψ.va "WIDE"=some (.int 2)){n:Str}{o5 o6:Option Sl}(h:Sz r 4900)(k:Z.nx (YZ es st g ((HQ g n).foldl tB r) (bD (.str n)) o5 o6)) :
  pF Ψ HE Z (YZ es st g r (bD (.str n)) o5 o6):=by
 delta YZ at k ⊢;delta HE;simp_arith[↓kH v,↓kH u,↓ZG (md:=[]) b rfl rfl,↓ZG (md:=[]) a rfl rfl];by_cases e:n=g;rw[dT e];unfold HQ at k;rw[if_pos e]at k;exact k;rw[dF e];unfold HQ at k;rw[if_neg e]at k;have z:Sz r 5000:=⟨QY h.1 (by omega),λp=>QY (h.2 p) (by omega)⟩
 have x:=GH (w:=(tO n,fR n,1)) FA h;have y:Sz (tB r (tO n,fR n,1)) 5000:=⟨QY x.1 (by omega),λp=>QY (x.2 p) (by omega)⟩
 refine⟨_,_,rfl,z,⟨_,rfl,?_⟩⟩;refine⟨by omega,?_⟩;exact⟨_,(KA,tO n,2),rfl,⟨GB,y⟩,⟨_,rfl,k⟩⟩
theorem cr(j:Ψ.sp "add_name"=TH)(i:Ψ.sp "add_way"=lG)(f:Ψ.va "WIDE"=some (.int 2)){a b:Str}{o4:Option Sl}(y:Sz r 4900)(k:Z.nx (YZ es st g ((CT g (a,b)).foldl tB r) o4 (bD (.str a)) (bD (.str b)))) :
  pF Ψ GE Z (YZ es st g r o4 (bD (.str a)) (bD (.str b))):=by
 delta YZ at k ⊢;delta GE;simp_arith[↓kH f,↓ZG (md:=[]) j rfl rfl,↓ZG (md:=[]) i rfl rfl];unfold CT at k;by_cases e:a=g;rw[dT e];rw[if_pos (.inl e)]at k;exact k;rw[dF e];by_cases h:a=b;rw[dT h];rw[if_pos (.inr h)]at k;exact k;rw[dF h];rw[if_neg (λz=>z.elim e h)]at k;have v:Sz r 5000:=⟨QY y.1 (by omega),λp=>QY (y.2 p) (by omega)⟩
 have x:=GH (w:=(tO a,fR a,1)) FA y;have u:=GH (w:=(tO b,fR b,1)) FA x;refine⟨_,_,rfl,v,⟨_,rfl,?_⟩⟩;refine⟨_,_,rfl,⟨QY x.1 (by omega),λp=>QY (x.2 p) (by omega)⟩,⟨_,rfl,?_⟩⟩;refine⟨by omega,by omega,?_⟩;exact⟨_,(fR a,tO b,2),rfl,⟨FA.symm,⟨QY u.1 (by omega),λp=>QY (u.2 p) (by omega)⟩⟩,⟨_,rfl,k⟩⟩
end
section
variable{Ψ:PEv}{r:Rm}{p q:Pt}{l:Inn}{n m:Bool}{R:T->Prop}{W:LT->Prop}{E:XE}{ρ:kA}{b:PX}{M:List (T×Bool)->kA->Prop}{md:List Md}{ks:List Pt}{vs:List D}
noncomputable def OH:PSp where
 run:=λx Q _=>∃(h:gC) (st:LS) (g:Str),x=[.d (.list (h.map pr)),.d (.tuple (st.map Jx)),.d (.str g)]/\(h.length<=126/\st.length<=11)/\Q (zB (jA h st g)) []
theorem tY(o:Ψ.sp "add_name"=TH)(j:Ψ.sp "add_way"=lG)(i:Ψ.va "BEGIN"=some (pr KA))(f:Ψ.va "WIDE"=some (.int 2)):AG Ψ GM OH SM SJ:=by rintro _ Q _ ⟨h,st,g,rfl,⟨Y,X⟩,q⟩;refine gA [bD (.list (h.map pr)),bD (.tuple (st.map Jx)),bD (.str g),none,none,none,none] ?_;refine lr i ?_;delta YZ;simp_arith[↓zA];rw[<- oA];refine EA (λ(s:Str)=>T.d (.str s)) (λl ρ=>∃r x,RmOk r (1+4 * (11 - l.length))/\l.length<=11/\(l.flatMap (HQ g)).foldl tB r=(st.flatMap (HQ g)).foldl tB HG/\ρ=YZ h st g r x none none) ?_ ?_ _ _ ⟨HG,_,?_,X,rfl,rfl⟩;rintro ρ ⟨r,x,ok,_,e,rfl⟩;have e:r=(st.flatMap (HQ g)).foldl tB HG:=e;delta YZ;simp_arith[↓zA];rw[<- oA];refine EA (λ(p:Str×Str)=>T.d (pr p)) (λl ρ=>∃r v u,Sz r (45+6 * (126 - l.length))/\l.length<=126/\(l.flatMap (CT g)).foldl tB r=jA h st g/\ρ=YZ h st g r (lM x) v u) ?_ ?_ _ _ ⟨r,_,_,?_,Y,by rw[e];rfl,rfl⟩;rintro ρ ⟨r,v,u,_,_,e,rfl⟩;have e:r=jA h st g:=e;subst e;delta YZ;simp_arith[↓zA];exact q;rintro⟨a,b⟩ l ρ N k ⟨r,v,u,s,w,e,rfl⟩;rw[QM]at s w;rw[Wc,QAh]at e;refine fF.mk rfl ?_;refine cr (a:=a) (b:=b) o j f ⟨QY s.1 (by omega),λp=>QY (s.2 p) (by omega)⟩ (k _ ⟨_,_,_,?_,by omega,e,rfl⟩);have z:Sz ((CT g (a,b)).foldl tB r) (45+6 * (126 - (l.length+1))+2 * (CT g (a,b)).length):=U0 IK s;have y:=EV (g:=g) (e:=(a,b));exact⟨QY z.1 (by omega),λp=>QY (z.2 p) (by omega)⟩;exact⟨QY ok.sz.1 (by rw[wQ];omega),λp=>QY (ok.sz.2 p) (by rw[wQ];omega)⟩;rintro s l ρ N k ⟨r,x,ok,w,e,rfl⟩;rw[QM]at ok w;rw[Wc,QAh]at e;refine gr (n:=s) o j i f ⟨QY ok.sz.1 (by omega),λp=>QY (ok.sz.2 p) (by omega)⟩ (k _ ⟨_,_,?_,by omega,e,rfl⟩);have z:=ok.add (ws:=HQ g s) AK;have y:=TV (g:=g) (n:=s);exact⟨z.pos,z.dom,z.bg,QY z.sz.1 (by omega),λp=>QY (z.sz.2 p) (by omega)⟩;exact⟨vE.pos,vE.dom,vE.bg,QY vE.sz.1 (by omega),λp=>QY (vE.sz.2 p) (by omega)⟩
noncomputable def zV(l:Inn):D:=.dict (l.map λe=>(pr e.1,.int e.2))
noncomputable def Th(r:Rm):List (D×D):=r.map λe=>(pr e.1,zV e.2)
theorem OY(h:look r p=some l):xD (Th r)=some true:=by
 cases r with|nil=>cases h|cons e r=>rfl
theorem i5(l:Inn):(l.map λe=>(pr e.1,Jy e.2))=[]∨xD (l.map λe=>(pr e.1,Jy e.2))=some true:=by
 cases l with|nil=>exact .inl rfl|cons e r=>exact .inr rfl
theorem Df(h:Key r p)(k:R (.d (zV (lk r p)))):CA (.d (.dict (Th r))) n (.d (pr p)) m R:=by
 have e:=bE h;obtain⟨i,u,y,_⟩:=nC (λl=>T.d (zV l)) e;have w:(Th r).map (·.1)=KC r:=by unfold Th KC;rw[QS];rfl
 refine Mk (OY e) (NB p) (by rw[w];exact u) ?_ k;have v:(Th r).map (·.2)=r.map λe=>zV e.2:=by unfold Th;rw[QS];rfl
 rw[v];rw[QX]at y ⊢;cases z:r[i]? with|none=>rw[z]at y;cases y|some x=>rw[z]at y;injection y with y;injection y with y;show some (zV x.2)=_;rw[y]
theorem xl:DK .itm [(.d (zV l),n)] W=W (l.map λe=>.d (.tuple [pr e.1,.int e.2])):=by unfold zV;rw[zl (i5 l),QS];rfl
theorem BH{K:TK}:m7 (zB r) false Ψ b E ρ K=oB Ψ b E (lockA ρ) λy m _=>K y m ρ:=rfl
theorem LX{K:TK}:m7 (uD l) false Ψ b E ρ K=oB Ψ b E (lockA ρ) λy m _=>K y m ρ:=rfl
theorem CQ:t7 (zB r) false Ψ b E md ρ M=ML Ψ b E md (lockA ρ) λxs _=>M xs ρ:=rfl
theorem v7:t7 (uD l) false Ψ b E md ρ M=ML Ψ b E md (lockA ρ) λxs _=>M xs ρ:=rfl
def Hj(t:T)(r:Rm):Prop:=t=zB r∨t=.d (.dict (Th r))
theorem Nk{b:Bool}{ks:List D}{ts:LT}{n m:Bool}{k:D}{l:Nat}{t:T}(z:aD b k)(y:bA ks k=some l)(x:ts[l]?=some t)(h:R t):CA (.dct b ks ts) false (.d k) m R:=.inr ⟨b,ks,ts,l,t,rfl,z,y,x,h⟩
theorem pE(h:Key r p)(k:R (uD (lk r p))):CA (zB r) false (.d (pr p)) m R:=by obtain⟨i,y,x,_⟩:=nC uD (bE h);exact Nk (n:=false) (NB p) y x k
theorem CO{v:Int}(h:look l p=some v)(k:R (.d (.int v))):CA (uD l) false (.d (pr p)) m R:=by obtain⟨i,y,x,_⟩:=nC (λv:Int=>T.d (.int v)) h;exact Nk (n:=false) (NB p) y x k
theorem yW(l:Inn):XG (l.map λe=>T.d (.int e.2))=some (l.map λe=>.int e.2):=by rw[show(l.map λe=>T.d (.int e.2))=(l.map λe=>Jy e.2).map T.d by rw[QS];rfl,VA]
theorem Pf:DK .itm [(uD l,false)] W=W (l.map λe=>.d (.tuple [pr e.1,.int e.2])):=by
 refine(rS _ _).trans ?_;have e:((KC l).zip (l.map λe=>Jy e.2)).map (λp=>T.d (.tuple [p.1,p.2]))=l.map λe=>T.d (.tuple [pr e.1,.int e.2]):=by unfold KC;rw[List.zip_map',QS];rfl
 refine propext ⟨λ⟨x,h,k⟩=>?_,λk=>⟨_,yW l,by rw[e];exact k⟩⟩;rw[yW]at h;cases h;rw[e]at k;exact k
theorem G7{a:PX}:KG (.idx a b)=KG a:=rfl
theorem Yj:XQ [(uD l,false)]=false:=rfl
noncomputable def gb(ks:List Pt)(vs:List D):T:=.dct true (ks.map pr) (vs.map T.d)
theorem fP:pr q∈ks.map pr↔q∈ks:=by constructor;intro h;obtain⟨x,y,e⟩:=QU.mp h;rw[<- gP e];exact y;exact QBa
theorem eI(ks:List Pt)(q:Pt):(bA (ks.map pr) (pr q)).isSome=decide (q∈ks):=by rw[Q4,oV,fP,decide_eq_true_iff]
theorem yg{x:D}{Q:T->Prop}(n:q∉ks)(hl:ks.length<sizeLine)(k:Q (gb (ks++[q]) (vs++[x]))):bc (gb ks vs) (.d (pr q)) (.d x) Q:=by refine⟨NB q,by rw[QD];exact hl,?_⟩;show Q (oJ true (ks.map pr) (vs.map T.d) (pr q) (.d x));unfold oJ;rw[OA.mpr (λz=>n (fP.mp z))];unfold gb at k;rw[QO,QO]at k;exact k
theorem zj{L:Bool->Prop}:UB .NotIn (.d (pr q)) (gb ks vs) L=L (!decide (q∈ks)):=by unfold gb;rw[DM,eI];exact propext ⟨λh=>h.2,λh=>⟨NB q,h⟩⟩
noncomputable def IN(h:T)(ks:List Pt)(vs:List D)(ws:List Pt)(o3 o4 o5:Option Sl):kA:=[some (.ky h),some (.own (gb ks vs)),some (.own (.lst ((ws.map pr).map T.d))),o3,o4,o5]
end
section
variable{Ψ:PEv}{Z:PEnds}{x:T}{r:Rm}{ks ws:List Pt}{vs:List D}
section
variable{w:Pt}{o3 o4 o5:Option Sl}
theorem Vr{p q:Pt}{v:Int}(hl:ks.length<sizeLine)(a:ws.length<sizeLine)(u:(0<v->q∈ks)->Z.nx (IN x ks vs ws (bD (pr p)) (bD (pr q)) (bD (.int v))))
  (k:0<v->q∉ks->Z.nx (IN x (ks++[q]) (vs++[pr p]) (ws++[q]) (bD (pr p)) (bD (pr q)) (bD (.int v)))) :
  pF Ψ SA Z (IN x ks vs ws (bD (pr p)) (bD (pr q)) (bD (.int v))):=by
 delta IN at u k ⊢;delta SA;simp_arith[↓zj];by_cases h:0<v;rw[dT h];by_cases y:q∈ks;rw[dT y];exact u λ_=>y;rw[dF y];simp only[w8,↓reduceIte];refine yg y hl ?_;refine⟨by rw[QD,QD];exact a,?_⟩;have:=k h y;rw[QO,QO]at this;exact this;rw[dF h];exact u λz=>absurd z h
theorem Gg{q:PT}(k:pF Ψ q Z (IN x ks vs ws (bD (pr w)) o4 o5)) :
  pF Ψ (.seq (.set 3 (.mt .pop (.xz 2) %[.int 0|1])) q) Z (IN x ks vs (w::ws) o3 o4 o5):=by
 delta IN at k ⊢;simp_arith[↓zA];refine⟨0,.d (pr w),?_,rfl,rfl,k⟩;unfold DT;rw[if_pos (by decide),if_pos (by rw[QD,QD,QM];omega)];rfl
theorem Hg(y:Hj x r)(hk:Key r w)
  (k:sH (pF Ψ SA) (.tp [4,5]) { Z with nx:=λh=>Z.nx (kill [4,5] h) } ((lk r w).map λe=>T.d (.tuple [pr e.1,.int e.2])) (IN x ks vs ws (bD (pr w)) o4 o5)) :
  pF Ψ %[.for_ (.tp [4,5]) .itm %[.idx (.xz 0) (.xz 3)|1] SA|2] Z (IN x ks vs ws (bD (pr w)) o4 o5):=by
 rcases y with rfl|rfl;delta IN at k ⊢;simp_arith[↓BH];refine pE hk ?_;simp_arith[↓v7,↓Pf,Yj,G7];exact k;delta IN at k ⊢;simp_arith[↓zA];refine Df hk ?_;simp_arith[↓xl];exact k
theorem Kr(m:Hj x r)(a:V7 r)(hb:Key r KA)(W:r.length<=1000)(h:Srch r ks vs (w::ws))(K:2 * (r.length - ks.length)+ws.length+1<=3000)
  (o:∀z u y o3 o4 o5,Srch r z u y->2 * (r.length - z.length)+y.length<=2 * (r.length - ks.length)+ws.length->Z.nx (IN x z u y o3 o4 o5)) :
  pF Ψ lD Z (IN x ks vs (w::ws) o3 o4 o5):=by
 have A:sizeLine=16777216:=qA;refine Gg ?_;have X:=h.pop;have hk:Key r w:=EH a hb (h.cf.rch w (h.sub w QF));refine Hg m hk ?_;refine EA (λ(e:Pt×Int)=>T.d (.tuple [pr e.1,.int e.2])) (λl k=>∃z u y o4 o5,Srch1 r w z u y l/\2 * (r.length - z.length)+y.length<=2 * (r.length - ks.length)+ws.length/\k=IN x z u y (bD (pr w)) o4 o5) ?_ ?_ _ _ ⟨ks,vs,ws,_,_,X,QW _,rfl⟩;rintro k ⟨z,u,y,g,f,s,l,rfl⟩;exact o z u y _ (lM g) (lM f) s.fin l;rintro⟨q,v⟩ l k N i ⟨z,u,y,g,f,s,e,rfl⟩;refine fF.mk rfl ?_;have Y:=s.cf.le a hb;refine Vr (p:=w) (q:=q) (v:=v) (by omega) (by omega) (λc=>i _ ⟨z,u,y,_,_,s.skip c,e,rfl⟩) λc n=>?_;have b:=s.add c n;have j:=b.cf.le a hb;rw[QI,qI]at j;exact i _ ⟨_,_,_,_,_,b,by rw[QI,QI,qI];omega,rfl⟩
theorem Xr(h:Ψ.va "BEGIN"=some (pr KA)){q:PT}(k:pF Ψ q Z (IN x [KA] [.none] [KA] none none none)) :
  pF Ψ (.seq (.own 1 (.dsp (.glo "BEGIN") .non)) (.seq (.own 2 (.lst %[.glo "BEGIN"|1])) q)) Z [some (.ky x),none,none,none,none,none]:=by
 have y:sizeLine=16777216:=qA;simp_arith[↓kH h];exact⟨NB KA,by omega,k⟩
end
end
theorem DH{Ψ:PEv}{E:XE}{c:PX}{q:PT}{Z:PEnds}{ρ:kA}(W:Nat->kA->Prop)(m:Nat)(u:W m ρ)(z:∀m ρ,W m ρ->LQ Ψ c E ρ λb x=>if b=true then bB Ψ E q { Z with nx:=λh=>∃y,y < m/\W y h,ct:=λh=>∃y,y < m/\W y h,bk:=Z.nx } x else Z.nx x):Rk Ψ E c q Z ρ:=⟨W,⟨m,u⟩,z⟩
noncomputable def nF:PSp where
 md:=[.ky]
 run:=λz Q _=>∃(y:T) (r:Rm),z=[y]/\(Hj y r/\V7 r/\Key r KA/\r.length<=1000)/\∀h x,CF r h x->(∀p,p∈h↔Rch r p)->Q (gb h x) []
theorem N3{Ψ:PEv}(j:Ψ.va "BEGIN"=some (pr KA)):AG Ψ lE nF nE JD:=by
 rintro _ Q _ ⟨k,r,rfl,⟨l,i,hb,g⟩,q⟩;refine gA [some (.ky k),none,none,none,none,none] ?_;refine Xr j ?_;delta IN;simp_arith[↓zA];refine DH (λm v=>m<=3000/\∃h x ws o3 o4 o5,Srch r h x ws/\m=2 * (r.length - h.length)+ws.length/\v=IN k h x ws o3 o4 o5) (2 * (r.length - 1)+1) ⟨by omega,[KA],[.none],[KA],none,none,none,Nl,rfl,rfl⟩ ?_;rintro m v ⟨o,h,x,ws,o3,o4,o5,s,e,rfl⟩;cases ws with|nil=>delta IN;simp_arith[QD];rw[dF (by omega)];simp_arith[↓zA];exact q h x s.cf s.done|cons w ws=>rw[QM]at e;have a:=λ(Z:PEnds) f=>Kr (Ψ:=Ψ) (Z:=Z) (o3:=o3) (o4:=o4) (o5:=o5) l i hb g s (by omega) f;unfold IN at a;delta IN;simp_arith[QD];rw[dT (by omega)];refine a _ λu z y o3 o4 o5 b n=>⟨_,by omega,by omega,u,z,y,o3,o4,o5,b,rfl,rfl⟩
theorem rj{α:Type}{x:α}{r:List α}:AD (x::r) 0=some x:=yF (j:=0) rfl
theorem bt{α:Type}{x y:α}{r:List α}:AD (x::y::r) 1=some y:=yF (j:=1) rfl
noncomputable def sm:List Pt->(Pt->Int)->Int
 |[],_=>0|x::l,f=>f x+sm l f
section
variable{f g:Pt->Int}
theorem NA:∀{l:List Pt},(∀x∈l,f x=g x)->sm l f=sm l g
 |[],_=>rfl|x::l,h=>by show f x+sm l f=g x+sm l g;rw[h x QF,NA λy z=>h y (QE _ z)]
theorem cH:∀(l:List Pt),sm l (λx=>f x+g x)=sm l f+sm l g
 |[]=>rfl|x::l=>by show f x+g x+sm l _=f x+sm l f+(g x+sm l g);rw[cH l];omega
theorem dJ:∀(l:List Pt),sm l (λx=>- f x)=- sm l f
 |[]=>rfl|x::l=>by show - f x+sm l _=- (f x+sm l f);rw[dJ l];omega
theorem mG:∀(l:List Pt),sm l (λ_=>0)=0
 |[]=>rfl|x::l=>by show 0+sm l _=0;rw[mG l];rfl
theorem ON:∀{l:List Pt},(∀x∈l,0<=f x)->0<=sm l f
 |[],_=>QBb _|x::l,h=>by have v:=h x QF;have u:=ON (l:=l) λy z=>h y (QE _ z);show 0<=f x+sm l f;omega
theorem bH:∀{l:List Pt},(∀x∈l,0<=f x)->∀{y:Pt},y∈l->f y<=sm l f
 |x::l,h,y,z=>by have w:=h x QF;have u:∀y∈l,0<=f y:=λy z=>h y (QE _ z);show f y<=f x+sm l f;rcases QL.mp z with e|e;have v:=ON u;rw[e];omega;have v:=bH u e;omega
theorem O0:∀{l:List Pt},(∀x∈l,0<=f x)->∀{y z:Pt},y∈l->z∈l->y≠z->f y+f z<=sm l f
 |x::l,h,y,z,v,hz,ne=>by
  have a:=h x QF;have w:∀y∈l,0<=f y:=λy v=>h y (QE _ v);show f y+f z<=f x+sm l f;rcases QL.mp v with e|e;rcases QL.mp hz with u|u
  ·exact absurd (e.trans u.symm) ne
  have k:=bH w u;rw[e];omega;rcases QL.mp hz with u|u
  ·have k:=bH w e
   rw[u];omega
  have k:=O0 w e u ne;omega
theorem R0:∀{l:List Pt},0<sm l f->∃x∈l,0<f x
 |[],h=>absurd h (wf 0)|x::l,h=>by by_cases c:0<f x;exact⟨x,QF,c⟩;have h:0<f x+sm l f:=h;obtain⟨y,z,p⟩:=R0 (l:=l) (by omega);exact⟨y,QE _ z,p⟩
theorem lW{k:Pt->Pt->Int}{m:List Pt}:∀(l:List Pt),sm l (λx=>sm m λy=>k x y)=sm m λy=>sm l λx=>k x y
 |[]=>(mG m).symm|x::l=>by show sm m (λy=>k x y)+sm l _=sm m λy=>k x y+sm l λx=>k x y;rw[lW l,cH]
theorem jP{u:Pt}{k:Int}:∀{l:List Pt},u∉l->sm l (λx=>if x=u then k else 0)=0
 |[],_=>rfl|x::l,h=>by show(if x=u then k else 0)+sm l _=0;rw[if_neg (λ(e:x=u)=>h (e▸QF)),jP λz=>h (QE _ z)];rfl
theorem fJ{u:Pt}{k:Int}:∀{l:List Pt},l.Nodup->u∈l->sm l (λx=>if x=u then k else 0)=k
 |x::l,nd,h=>by obtain⟨v,y⟩:=Qi.mp nd;show(if x=u then k else 0)+sm l _=k;by_cases e:x=u;rw[if_pos e,jP (by rw[<- e];exact v)];omega;rw[if_neg e,fJ y ((QL.mp h).resolve_left λz=>e z.symm)];omega
theorem lR(p:Pt->Bool):∀(l:List Pt),sm l f=sm (l.filter p) f+sm (l.filter λx=>!p x) f
 |[]=>rfl|x::l=>by
  show f x+sm l f=_;rw[WE,WE,lR p l];cases p x with|true=>show _=(f x+sm (l.filter p) f)+sm (l.filter λx=>!p x) f;omega|false=>show _=sm (l.filter p) f+(f x+sm (l.filter λx=>!p x) f);omega
theorem g8{a:Pt->Pt->Int}(l:List Pt)(h:∀x∈l,∀y∈l,a x y=- a y x):sm l (λx=>sm l λy=>a x y)=0:=by
 have w:sm l (λx=>sm l λy=>a x y)=sm l λy=>sm l λx=>a x y:=lW l;have v:(sm l λy=>sm l λx=>a x y)=- sm l (λy=>sm l λx=>a y x):=by rw[<- dJ];refine NA λy z=>?_;rw[<- dJ];exact NA λx u=>h x u y z
 omega
end
section
variable{p q u v:Pt}{r:Rm}{w:Wy}{es:gC}{st:LS}{g:Str}
noncomputable def rm(r:Rm)(p q:Pt):Int:=(look (lk r p) q).getD 0
def CH(r:Rm)(p q:Pt):Prop:=∃v,look (lk r p) q=some v
def Hb(r:Rm):Prop:=∀p,((lk r p).map (·.1)).Nodup
theorem eG{α:Type}{q:Pt}{v:α}:∀{l:List (Pt×α)},look l q=some v->(q,v)∈l
 |[],h=>by cases h|e::l,h=>by by_cases c:e.1=q;rw[show look (e::l) q=some e.2 from if_pos c]at h;injection h with h;rw[<- c,<- h];exact QF;rw[show look (e::l) q=look l q from if_neg c]at h;exact QE _ (eG h)
theorem uQ{α:Type}{q:Pt}{v:α}:∀{l:List (Pt×α)},(l.map (·.1)).Nodup->(q,v)∈l->look l q=some v
 |e::l,nd,h=>by obtain⟨k,y⟩:=Qi.mp nd;rcases QL.mp h with c|c;rw[<- c];exact if_pos rfl;have x:e.1≠q:=λz=>k (QU.mpr ⟨(q,v),c,z.symm⟩);rw[show look (e::l) q=look l q from if_neg x];exact uQ y c
theorem put_keys{α:Type}{p:Pt}{w:α}:∀{l:List (Pt×α)},(put l p w).map (·.1)=if p∈l.map (·.1) then l.map (·.1) else l.map (·.1)++[p]
 |[]=>rfl|e::l=>by by_cases c:e.1=p;rw[show put (e::l) p w=(e.1,w)::l from if_pos c,if_pos (by rw[<- c];exact QF)];rfl;rw[show put (e::l) p w=e::put l p w from if_neg c];rw[QV,QV,put_keys];by_cases h:p∈l.map (·.1);rw[if_pos h,if_pos (QE _ h)];rw[if_neg h,if_neg (λz=>(QL.mp z).elim (λz=>c z.symm) h)];rfl
theorem pG{α:Type}{w:α}{l:List (Pt×α)}(h:(l.map (·.1)).Nodup):((put l p w).map (·.1)).Nodup:=by rw[put_keys];split;exact h;rename_i n;refine qh.mpr ⟨h,Qi.mpr ⟨λz=>(nomatch z),Q7⟩,λa x b hb z=>?_⟩;rw[QJ.mp hb]at z;exact n (z▸x)
theorem AT(nd:Hb r):de r p q↔0<rm r p q:=by
 unfold de rm;constructor;rintro⟨v,m,h⟩;rw[uQ (nd p) m];exact h;intro h;cases e:look (lk r p) q with|none=>rw[e]at h;exact absurd h (wf 0)|some v=>rw[e]at h;exact⟨v,eG e,h⟩
noncomputable def fY(r:Rm)(u v:Pt):Rm:=put (put r u (put (lk r u) v (rm r u v - 1))) v (put (lk (put r u (put (lk r u) v (rm r u v - 1))) v) u (rm (put r u (put (lk r u) v (rm r u v - 1))) v u+1))
theorem SU(h:u≠v)(p:Pt):lk (fY r u v) p=if v=p then put (lk r v) u (rm r v u+1) else if u=p then put (lk r u) v (rm r u v - 1) else lk r p:=by
 have e:rm (put r u (put (lk r u) v (rm r u v - 1))) v u=rm r v u:=by unfold rm;rw[LD,if_neg h]
 unfold fY;rw[e,LD,LD,LD,if_neg h]
theorem fU(h:u≠v)(p q:Pt):rm (fY r u v) p q=rm r p q+(if p=v/\q=u then 1 else 0) - (if p=u/\q=v then 1 else 0):=by show(look (lk (fY r u v) p) q).getD 0=_;rw[SU h];by_cases y:v=p;rw[if_pos y,vD,if_neg (c:=p=u/\q=v) (λz=>h (z.1.symm.trans y.symm))];by_cases x:u=q;rw[if_pos x,if_pos ⟨y.symm,x.symm⟩,<- y,<- x];show rm r v u+1=rm r v u+1 - 0;omega;rw[if_neg x,if_neg (λz=>x z.2.symm),y];show rm r p q=rm r p q+0 - 0;omega;rw[if_neg y,if_neg (c:=p=v/\q=u) (λz=>y z.1.symm)];by_cases x:u=p;rw[if_pos x,vD];by_cases k:v=q;rw[if_pos k,if_pos ⟨x.symm,k.symm⟩,<- x,<- k];show rm r u v - 1=rm r u v+0 - 1;omega;rw[if_neg k,if_neg (λz=>k z.2.symm),x];show rm r p q=rm r p q+0 - 0;omega;rw[if_neg x,if_neg (λz=>x z.1.symm)];show rm r p q=rm r p q+0 - 0;omega
theorem dB:CH r p q↔CZ r p q:=by
 unfold CH CZ;constructor;rintro⟨v,h⟩;exact⟨v,eG h⟩;rintro⟨v,h⟩;generalize lk r p=l at h;induction l with
 |nil=>exact(nomatch h)
 |cons e l x =>
  by_cases c:e.1=q;exact⟨e.2,if_pos c⟩;rcases QL.mp h with z|z
  ·exact absurd (by rw[<- z]) c
  obtain⟨w,y⟩:=x z;exact⟨w,(show look (e::l) q=look l q from if_neg c).trans y⟩
theorem Fb(h:u≠v)(a:CH r u v)(k:CH r v u):CH (fY r u v) p q↔CH r p q:=by unfold CH;rw[SU h];by_cases y:v=p;rw[if_pos y,vD];by_cases x:u=q;rw[if_pos x,<- y,<- x];exact⟨λ_=>k,λ_=>⟨_,rfl⟩⟩;rw[if_neg x,y];rw[if_neg y];by_cases x:u=p;rw[if_pos x,vD];by_cases z:v=q;rw[if_pos z,<- x,<- z];exact⟨λ_=>a,λ_=>⟨_,rfl⟩⟩;rw[if_neg z,x];rw[if_neg x]
theorem G9(h:u≠v)(nd:Hb r):Hb (fY r u v):=by
 intro p;rw[SU h];split;exact pG (nd v);split
 ·exact pG (nd u)
 exact nd p
theorem vP(h:¬ CH r p q):rm r p q=0:=by
 unfold rm;cases e:look (lk r p) q with|none=>rfl|some v=>exact absurd ⟨v,e⟩ h
def Pp(p q:Pt)(v:Int):Prop:=(∃n,p=tO n/\q=fR n/\v=1)∨(∃n,p=KA/\q=tO n/\v=2)∨(∃a b,a≠b/\p=fR a/\q=tO b/\v=2)∨(¬ BZ p q/\v=0)
def Oj(P:Pt->Pt->Int->Prop)(r:Rm):Prop:=∀p,∀e∈lk r p,P p e.1 e.2
theorem uZ{P:Pt->Pt->Int->Prop}(a:w.1≠w.2.1)(f:P w.1 w.2.1 w.2.2)(b:P w.2.1 w.1 0)(h:Oj P r):Oj P (tB r w):=by intro p e x;rw[fI a]at x;by_cases k:w.2.1=p;rw[if_pos k]at x;rcases jI x with z|z;rw[z,<- k];exact b;exact h p e z;rw[if_neg k]at x;by_cases y:w.1=p;rw[if_pos y]at x;rcases jI x with z|z;rw[z,<- y];exact f;exact h p e z;rw[if_neg y]at x;exact h p e x
theorem tR(h:(r.map (·.1)).Nodup):((sdf r p).map (·.1)).Nodup:=by
 unfold sdf;cases e:look r p with|some v=>exact h|none=>show(List.map (λe:Pt×Inn=>e.1) (r++[(p,[])])).Nodup;rw[QO];refine qh.mpr ⟨h,Qi.mpr ⟨λz=>(nomatch z),Q7⟩,λa y b hb z=>?_⟩;have hb:b=p:=QJ.mp hb;rw[z,hb]at y;obtain⟨x,k,f⟩:=QU.mp y;have:=uQ h (show(p,x.2)∈r by rw[<- f];exact k);rw[e]at this;cases this
theorem V4(x:w.1≠w.2.1)(h:Hb r):Hb (tB r w):=by
 intro p;rw[fI x];split;exact pG (h p);split
 ·exact pG (h p)
 exact h p
theorem AA:Key r p↔p∈r.map (·.1):=by
 constructor;rintro⟨l,e⟩;exact zQ e;intro h;induction r with
 |nil=>exact(nomatch h)
 |cons e r x =>
  by_cases c:e.1=p;exact⟨e.2,if_pos c⟩;rcases QL.mp h with z|z
  ·exact absurd z.symm c
  obtain⟨l,hl⟩:=x z;exact⟨l,(show look (e::r) p=look r p from if_neg c).trans hl⟩
structure Tbl0(r:Rm):Prop where
 ndk:(r.map (·.1)).Nodup
 ndi:Hb r
 cap:Oj Pp r
 kind:∀p,Key r p->p=KA∨∃n,p=tO n∨p=fR n
 sym:∀p q,CZ r p q->CZ r q p/\Key r p
theorem lS(h:BZ p q):(p=KA∨∃n,p=tO n∨p=fR n)/\(q=KA∨∃n,q=tO n∨q=fR n):=by
 rcases h with⟨h,n,e⟩| ⟨n,h,e⟩| ⟨a,b,_,h,e⟩
 exact⟨.inl h,.inr ⟨n,.inl e⟩⟩;exact⟨.inr ⟨n,.inl h⟩,.inr ⟨n,.inr e⟩⟩;exact⟨.inr ⟨a,.inr h⟩,.inr ⟨b,.inl e⟩⟩
theorem A7(k:BZ w.1 w.2.1)(f:Pp w.1 w.2.1 w.2.2)(t:Tbl0 r):Tbl0 (tB r w):=by
 have y:=XF k;refine⟨?_,V4 y t.ndi,uZ y f (.inr (.inr (.inr ⟨VE k,rfl⟩))) t.cap,λp h=>?_,λp q h=>?_⟩;unfold tB;exact pG (pG (tR (tR t.ndk)));rcases BF.mp h with z|z|z
 ·rw[z];exact(lS k).1
 rw[z];exact(lS k).2;exact t.kind p z;rw[iI y,BF];rcases(iI y).mp h with z|⟨x,a⟩| ⟨x,a⟩
 obtain⟨e,b⟩:=t.sym p q z;exact⟨.inl e,.inr (.inr b)⟩;exact⟨.inr (.inr ⟨a,x⟩),.inl x⟩;exact⟨.inr (.inl ⟨a,x⟩),.inr (.inl x)⟩
theorem uW:∀{ws:List Wy}{r:Rm},(∀w∈ws,BZ w.1 w.2.1/\Pp w.1 w.2.1 w.2.2)->Tbl0 r->Tbl0 (ws.foldl tB r)
 |[],_,_,t=>t|w::ws,r,h,t=>uW (ws:=ws) (λw x=>h w (QE _ x)) (A7 (h w QF).1 (h w QF).2 t)
theorem CK{p:Pt}:∀{ws:List Wy}{r:Rm},Key (ws.foldl tB r) p↔Key r p∨∃w∈ws,p=w.1∨p=w.2.1
 |[],r=>⟨.inl,λz=>z.elim id λ⟨_,m,_⟩=>(nomatch m)⟩
 |w::ws,r=>by
  rw[QAE,CK (ws:=ws),BF];constructor;rintro((z|z|z)|⟨x,m,z⟩)
  ·exact .inr ⟨w,QF,.inl z⟩
  exact .inr ⟨w,QF,.inr z⟩;exact .inl z;exact .inr ⟨x,QE _ m,z⟩;rintro(z|⟨x,m,z⟩)
  ·exact .inl (.inr (.inr z))
  rcases QL.mp m with rfl|m
  ·rcases z with z|z
   ·exact .inl (.inl z)
   exact .inl (.inr (.inl z))
  exact .inr ⟨x,m,z⟩
noncomputable def iZ(es:gC)(st:LS)(g:Str):List Wy:=st.flatMap (HQ g)++es.flatMap (CT g)
theorem zE:jA es st g=(iZ es st g).foldl tB HG:=by unfold jA iZ;rw[QAh]
theorem MD{v:Int}:(p,q,v)∈iZ es st g↔(∃n∈st,n≠g/\((p,q,v)=(tO n,fR n,1)∨(p,q,v)=(KA,tO n,2)))∨(∃e∈es,(e.1≠g/\e.1≠e.2)/\((p,q,v)=(tO e.1,fR e.1,1)∨(p,q,v)=(tO e.2,fR e.2,1)∨(p,q,v)=(fR e.1,tO e.2,2))):=by
 unfold iZ;rw[Qh,wH,wH];constructor;rintro(⟨n,m,h⟩| ⟨e,m,h⟩)
 ·exact .inl ⟨n,m,En.mp h⟩
 exact .inr ⟨e,m,jo.mp h⟩;rintro(⟨n,m,h⟩| ⟨e,m,h⟩)
 ·exact .inl ⟨n,m,En.mpr h⟩
 exact .inr ⟨e,m,jo.mpr h⟩
theorem TB:∀w∈iZ es st g,BZ w.1 w.2.1/\Pp w.1 w.2.1 w.2.2:=by
 rintro⟨p,q,v⟩ h;rcases MD.mp h with⟨n,_,_,e|e⟩| ⟨e,_,⟨_,x⟩,z|z|z⟩
 cases e;exact⟨.inr (.inl ⟨n,rfl,rfl⟩),.inl ⟨n,rfl,rfl,rfl⟩⟩;cases e;exact⟨.inl ⟨rfl,n,rfl⟩,.inr (.inl ⟨n,rfl,rfl,rfl⟩)⟩;cases z;exact⟨.inr (.inl ⟨_,rfl,rfl⟩),.inl ⟨_,rfl,rfl,rfl⟩⟩;cases z;exact⟨.inr (.inl ⟨_,rfl,rfl⟩),.inl ⟨_,rfl,rfl,rfl⟩⟩;cases z;exact⟨.inr (.inr ⟨_,_,x,rfl,rfl⟩),.inr (.inr (.inl ⟨_,_,x,rfl,rfl,rfl⟩))⟩
theorem dI(p:Pt):lk HG p=[]:=by show(if KA=p then some [] else none).getD []=[];split<;>rfl
theorem Jl:Tbl0 HG:=by refine⟨Qi.mpr ⟨λz=>(nomatch z),Q7⟩,λp=>?_,λp e x=>?_,λp h=>?_,λp q h=>?_⟩;rw[dI];exact Q7;rw[dI]at x;exact(nomatch x);exact .inl (QJ.mp (AA.mp h));obtain⟨v,h⟩:=h;rw[dI]at h;exact(nomatch h)
end
section
variable{es:gC}{st:LS}{g:Str}
section
variable{p q:Pt}{n:Str}
theorem IC:Tbl0 (jA es st g):=by rw[zE];exact uW TB Jl
theorem R5:∀w∈iZ es st g,dG w:=λw h=>by unfold iZ at h;rcases Qh.mp h with z|z;exact JG (f:=HQ g) (λ_=>AK) st w z;exact JG (f:=CT g) (λ_=>IK) es w z
theorem vC:CZ (jA es st g) p q↔(∃v,(p,q,v)∈iZ es st g)∨∃v,(q,p,v)∈iZ es st g:=by
 rw[zE,tX R5];constructor;rintro(⟨v,h⟩| h)
 ·rw[dI]at h;exact(nomatch h)
 exact h;exact .inr
theorem vO(h:Key (jA es st g) (tO n)):CZ (jA es st g) (tO n) (fR n):=by
 rw[zE]at h;rcases CK.mp h with z|⟨⟨p,q,v⟩,m,z⟩
 exact absurd (QJ.mp (AA.mp z)).symm GB;refine vC.mpr (.inl ⟨1,MD.mpr ?_⟩);have z:tO n=p∨tO n=q:=z;rcases MD.mp m with⟨k,mk,x,e|e⟩| ⟨e,u,x,y|y|y⟩
 cases e;rcases z with z|z;rw[ZB z];exact .inl ⟨k,mk,x,.inl rfl⟩;exact absurd z FA;cases e;rcases z with z|z;exact absurd z.symm GB;rw[ZB z];exact .inl ⟨k,mk,x,.inl rfl⟩;cases y;rcases z with z|z;rw[ZB z];exact .inr ⟨e,u,x,.inl rfl⟩;exact absurd z FA;cases y;rcases z with z|z;rw[ZB z];exact .inr ⟨e,u,x,.inr (.inl rfl)⟩;exact absurd z FA;cases y;rcases z with z|z;exact absurd z FA;rw[ZB z];exact .inr ⟨e,u,x,.inr (.inl rfl)⟩
theorem mZ:Pp p q (rm (jA es st g) p q)∨(¬ CH (jA es st g) p q/\rm (jA es st g) p q=0):=by by_cases h:CH (jA es st g) p q;obtain⟨v,e⟩:=h;have:=IC (es:=es) (st:=st) (g:=g) |>.cap p (q,v) (eG e);unfold rm;rw[e];exact .inl this;exact .inr ⟨h,vP h⟩
theorem Rs:0<=rm (jA es st g) p q:=by rcases mZ (es:=es) (st:=st) (g:=g) (p:=p) (q:=q) with(⟨_,_,_,e⟩| ⟨_,_,_,e⟩| ⟨_,_,_,_,_,e⟩| ⟨_,e⟩)|⟨_,e⟩<;>rw[e]<;>decide
theorem BI(h:¬ BZ p q):rm (jA es st g) p q=0:=by
 rcases mZ (es:=es) (st:=st) (g:=g) (p:=p) (q:=q) with(⟨n,y,x,_⟩| ⟨n,y,x,_⟩| ⟨a,b,z,y,x,_⟩| ⟨_,e⟩)|⟨_,e⟩
 exact absurd (.inr (.inl ⟨n,y,x⟩)) h;exact absurd (.inl ⟨y,n,x⟩) h;exact absurd (.inr (.inr ⟨a,b,z,y,x⟩)) h;exact e;exact e
theorem Ei(h:q≠fR n):rm (jA es st g) (tO n) q=0:=BI λl=>by
 rcases l with⟨e,_⟩| ⟨m,y,x⟩| ⟨a,b,_,e,_⟩
 exact GB e.symm;exact h (by rw[x,ZB y]);exact FA e
theorem Fo:rm (jA es st g) (tO n) (fR n)<=1:=by
 rcases mZ (es:=es) (st:=st) (g:=g) (p:=tO n) (q:=fR n) with(⟨_,_,_,e⟩| ⟨m,h,_,_⟩| ⟨a,b,x,h,y,_⟩| ⟨_,e⟩)|⟨_,e⟩
 rw[e];decide;exact absurd h.symm GB;exact absurd h FA;rw[e];decide;rw[e];decide
theorem Ii(h:Key (jA es st g) (tO n)):rm (jA es st g) (tO n) (fR n)=1:=by
 have a:=dB.mpr (vO h);rcases mZ (es:=es) (st:=st) (g:=g) (p:=tO n) (q:=fR n) with(⟨_,_,_,e⟩| ⟨m,x,_,_⟩| ⟨a,b,y,x,u,_⟩| ⟨l,e⟩)|⟨z,e⟩
 exact e;exact absurd x.symm GB;exact absurd x FA;exact absurd (.inr (.inl ⟨n,rfl,rfl⟩)) l;exact absurd a z
theorem Ts(h:p≠tO n):rm (jA es st g) p (fR n)=0:=BI λl=>by
 rcases l with⟨_,m,e⟩| ⟨m,y,x⟩| ⟨a,b,_,_,e⟩
 exact FA e.symm;exact h (by rw[y,rH x]);exact FA e.symm
theorem Es:rm (jA es st g) p KA=0:=BI λl=>by
 rcases l with⟨_,m,e⟩| ⟨m,x,h⟩| ⟨a,b,_,_,e⟩
 exact GB e;exact gE h;exact GB e
theorem Do(h:p≠fR n):rm (jA es st g) p (tO n)=0∨rm (jA es st g) p (tO n)=2:=by
 rcases mZ (es:=es) (st:=st) (g:=g) (p:=p) (q:=tO n) with(⟨_,_,e,_⟩| ⟨m,_,_,e⟩| ⟨a,b,_,_,_,e⟩| ⟨l,e⟩)|⟨_,e⟩
 exact absurd e FA;exact .inr e;exact .inr e;exact .inl e;exact .inl e
theorem Ai{v:Int}(h:(p,tO n,v)∈iZ es st g):rm (jA es st g) p (tO n)=2:=by
 have a:CH (jA es st g) p (tO n):=dB.mpr (vC.mpr (.inl ⟨v,h⟩));have l:BZ p (tO n):=(TB _ h).1;rcases mZ (es:=es) (st:=st) (g:=g) (p:=p) (q:=tO n) with(⟨_,_,e,_⟩| ⟨m,_,_,e⟩| ⟨a,b,_,_,_,e⟩| ⟨x,e⟩)|⟨z,e⟩
 exact absurd e FA;exact e;exact e;exact absurd l x;exact absurd a z
end
end
section
variable{es:gC}{st:LS}{g:Str}
noncomputable def vs0(es:gC)(st:LS)(g:Str):List Pt:=(jA es st g).map (·.1)
noncomputable def fl(es:gC)(st:LS)(g:Str)(r:Rm)(p q:Pt):Int:=rm (jA es st g) p q - rm r p q
noncomputable def out(es:gC)(st:LS)(g:Str)(r:Rm)(p:Pt):Int:=sm (vs0 es st g) (fl es st g r p)
structure Base(es:gC)(st:LS)(g:Str)(r:Rm):Prop where
 ndi:Hb r
 adj:∀p q,CH r p q↔CH (jA es st g) p q
 keys:r.map (·.1)=vs0 es st g
 nn:∀p q,0<=rm r p q
 anti:∀p q,fl es st g r p q=- fl es st g r q p
structure Flow(es:gC)(st:LS)(g:Str)(r:Rm):Prop extends Base es st g r where
 cons:∀x,x≠KA->x≠tO g->out es st g r x=0
theorem mF:(vs0 es st g).Nodup:=IC.ndk
theorem Vd:Flow es st g (jA es st g):=by
 have e:∀p q,fl es st g (jA es st g) p q=0:=λp q=>by unfold fl;omega
 refine⟨⟨IC.ndi,λp q=>WR,rfl,λp q=>Rs,λp q=>by rw[e,e];rfl⟩,λx _ _=>?_⟩;unfold out;rw[NA (g:=λ_=>0) λq _=>e x q];exact mG _
theorem JB{p q:Pt}(h:CH (jA es st g) p q):CH (jA es st g) q p:=dB.mpr (IC.sym p q (dB.mp h)).1
theorem cB{p q:Pt}(h:CH (jA es st g) p q):p∈vs0 es st g:=AA.mp (IC.sym p q (dB.mp h)).2
theorem UQ{p q:Pt}(h:CH (jA es st g) p q):p≠q:=by
 rcases vC.mp (dB.mp h) with⟨v,m⟩| ⟨v,m⟩
 exact XF (TB _ m).1;exact(XF (TB _ m).1).symm
section
variable{r:Rm}
theorem Base.dom(b:Base es st g r):V7 r:=λp q h=>by have a:=(b.adj p q).mp (dB.mpr h);rw[AA,b.keys];exact cB (JB a)
theorem Base.bg(b:Base es st g r):Key r KA:=by rw[AA,b.keys];refine AA.mp ?_;show Key (jA es st g) KA;rw[zE];exact CK.mpr (.inl ⟨[],if_pos rfl⟩)
theorem Base.len(b:Base es st g r):r.length=(jA es st g).length:=by have:=congrArg qw b.keys;unfold vs0 at this;rw[QD,QD]at this;exact this
theorem Base.adjw(b:Base es st g r){p q:Pt}(h:0<rm r p q):CH (jA es st g) p q:=(b.adj p q).mp (by
 unfold rm at h;cases e:look (lk r p) q with|none=>rw[e]at h;exact absurd h (wf 0)|some v=>exact⟨v,e⟩)
theorem NP{u:Pt}{l:Inn}(h:u∈r.map (·.1)):(put r u l).map (·.1)=r.map (·.1):=by rw[put_keys,if_pos h]
theorem Base.pushed(b:Base es st g r){u v:Pt}(h:0<rm r u v):Base es st g (fY r u v):=by
 have a:=b.adjw h;have y:=UQ a;have e:=fU (r:=r) y;refine⟨G9 y b.ndi,λp q=>?_,?_,λp q=>?_,λp q=>?_⟩;rw[Fb y ((b.adj u v).mpr a) ((b.adj v u).mpr (JB a))];exact b.adj p q;have k:u∈r.map (·.1):=by rw[b.keys];exact cB a
 have f:v∈r.map (·.1):=by rw[b.keys];exact cB (JB a)
 unfold fY;rw[NP (by rw[NP k];exact f),NP k];exact b.keys;rw[e];have:=b.nn p q;by_cases c:p=u/\q=v;rw[if_pos c,c.1,c.2];split<;>omega;rw[if_neg c];split<;>omega;unfold fl;rw[e,e];have:=b.anti p q;unfold fl at this;by_cases x:p=v/\q=u;rw[if_pos x,if_pos (c:=q=u/\p=v) ⟨x.2,x.1⟩,if_neg (c:=p=u/\q=v) (λz=>y (z.1.symm.trans x.1)),if_neg (c:=q=v/\p=u) (λz=>y (z.2.symm.trans x.1))];omega;rw[if_neg x,if_neg (c:=q=u/\p=v) (λz=>x ⟨z.2,z.1⟩)];by_cases w:p=u/\q=v;rw[if_pos w,if_pos (c:=q=v/\p=u) ⟨w.2,w.1⟩];omega;rw[if_neg w,if_neg (c:=q=v/\p=u) (λz=>w ⟨z.2,z.1⟩)];omega
theorem FW(b:Base es st g r){u v:Pt}(h:0<rm r u v)(x:Pt):out es st g (fY r u v) x=out es st g r x+(if x=u then 1 else 0) - (if x=v then 1 else 0):=by
 have a:=b.adjw h;have f:=UQ a;unfold out;have e:∀q,fl es st g (fY r u v) x q=fl es st g r x q+((if q=v then(if x=u then 1 else 0) else 0)+-(if q=u then(if x=v then 1 else 0) else 0)):=λq=>by unfold fl;rw[fU f];by_cases k:x=u;have w:x≠v:=λz=>f (k.symm.trans z);rw[if_neg (c:=x=v/\q=u) (λz=>w z.1),if_pos k,if_neg w];by_cases y:q=v;rw[if_pos (c:=x=u/\q=v) ⟨k,y⟩,if_pos y];split<;>omega;rw[if_neg (c:=x=u/\q=v) (λz=>y z.2),if_neg y];split<;>omega;rw[if_neg (c:=x=u/\q=v) (λz=>k z.1),if_neg k];by_cases w:x=v;rw[if_pos w];by_cases y:q=u;rw[if_pos (c:=x=v/\q=u) ⟨w,y⟩,if_pos y];split<;>omega;rw[if_neg (c:=x=v/\q=u) (λz=>y z.2),if_neg y];split<;>omega;rw[if_neg (c:=x=v/\q=u) (λz=>w z.1),if_neg w];split<;>split<;>omega
 rw[NA λq _=>e q,cH,cH,dJ,fJ mF (cB (JB a)),fJ mF (cB a)];omega
end
section
variable{r y:Rm}{ks:List Pt}
theorem CF.find{vs:List D}(h:CF r ks vs){q:Pt}(m:q∈ks)(b:q≠KA):∃z u p k v,CF r z u/\p∈z/\de r p q/\q∉z/\ks=z++q::k/\vs=u++pr p::v:=by
 induction h with|bg=>exact absurd (QJ.mp m) b|@add ks vs p x c i w n f=>by_cases e:q∈ks;obtain⟨z,u,a,k,v,Z,Y,X,s,o,l⟩:=f e;exact⟨z,u,a,k++[x],v++[pr p],Z,Y,X,s,by rw[o,Qu];rfl,by rw[l,Qu];rfl⟩;have j:q=x:=QJ.mp ((Qh.mp m).resolve_left e);subst j;exact⟨ks,vs,p,[],[],c,i,w,n,rfl,rfl⟩
structure LC(es:gC)(st:LS)(g:Str)(y r:Rm)(here:Pt)(ks:List Pt):Prop extends Base es st g r where
 cons:∀x,x≠KA->x≠tO g->out es st g r x=if x=here then 1 else 0
 val:out es st g r KA=out es st g y KA+if here=KA then 1 else 0
 fresh:∀p,∀q∈ks,rm y p q<=rm r p q
theorem z5(f:Flow es st g y)(ks:List Pt):LC es st g y y (tO g) ks:=by refine⟨f.toBase,λx u h=>?_,?_,λp q _=>QBb _⟩;rw[if_neg h];exact f.cons x u h;rw[if_neg (λz=>GB z.symm)];omega
theorem da{h p:Pt}{u:List Pt}(nd:Hb y)(l:LC es st g y r h ks)(i:h∈ks)(hb:h≠KA)(w:de y p h)(f:h∉u)(e:∀q∈u,q∈ks):0<rm r p h/\LC es st g y (fY r p h) p u:=by have v:0<rm r p h:=Int.lt_of_lt_of_le ((AT nd).mp w) (l.fresh p h i);have b:=UQ (l.adjw v);refine⟨v,l.toBase.pushed v,λx a j=>?_,?_,λx q k=>?_⟩;rw[FW l.toBase v,l.cons x a j];split<;>split<;>omega;rw[FW l.toBase v,l.val,if_neg hb,if_neg (c:=KA=h) (λz=>hb z.symm)];by_cases c:p=KA;rw[if_pos c,if_pos c.symm];omega;rw[if_neg c,if_neg (λz=>c z.symm)];omega;have a:=l.fresh x q (e q k);rw[fU b,if_neg (c:=x=p/\q=h) (λz=>f (z.2▸k))];split<;>omega
theorem Ph(l:LC es st g y r KA ks):Flow es st g r/\out es st g r KA=out es st g y KA+1:=by refine⟨⟨l.toBase,λx h z=>?_⟩,?_⟩;rw[l.cons x h z,if_neg h];rw[l.val,if_pos rfl]
end
end
section
variable{es:gC}{st:LS}{g:Str}{r:Rm}
section
variable{p q y:Pt}{n a:Str}{ks:List Pt}
theorem GK(b:Base es st g r)(h:rm (jA es st g) q p=0):fl es st g r p q=rm r q p:=by have:=b.anti p q;unfold fl at this ⊢;omega
noncomputable def xU(r:Rm)(n:Str):Int:=rm r (fR n) (tO n)
theorem vU(b:Base es st g r)(n:Str):fl es st g r (tO n) (fR n)=xU r n:=GK b (BI λl=>VE (.inr (.inl ⟨n,rfl,rfl⟩)) l)
theorem fL(b:Base es st g r)(n:Str):xU r n<=1:=by rw[<- vU b];have x:=Fo (es:=es) (st:=st) (g:=g) (n:=n);have h:=b.nn (tO n) (fR n);unfold fl;omega
theorem L1(b:Base es st g r)(h:p∉vs0 es st g∨q∉vs0 es st g):rm r p q=0:=by refine vP λa=>?_;have a:=(b.adj p q).mp a;rcases h with h|h;exact h (cB a);exact h (cB (JB a))
theorem fc(l:List Pt)(nd:l.Nodup)(u:Pt)(k:Int)(h:u∉l->k=0):sm l (λx=>if x=u then k else 0)=k:=by by_cases m:u∈l;exact fJ nd m;rw[jP m,h m]
noncomputable def inn(r:Rm)(n:Str)(y:Pt):Int:=if y=fR n then 0 else rm r (tO n) y
theorem xQ(f:Flow es st g r)(h:n≠g):sm (vs0 es st g) (inn r n)=xU r n:=by
 have c:=f.cons (tO n) (λz=>GB z.symm) (λz=>h (ZB z));unfold out at c;have e:∀y,fl es st g r (tO n) y=(if y=fR n then xU r n else 0)+- inn r n y:=λy=>by unfold inn;by_cases e:y=fR n;rw[if_pos e,if_pos e,e,vU f.toBase];omega;rw[if_neg e,if_neg e];unfold fl;rw[Ei e];omega
 rw[NA λy _=>e y,cH,dJ,fc _ mF (fR n) (xU r n) (λz=>L1 f.toBase (.inl z))]at c;omega
theorem vQ(b:Base es st g r)(n:Str)(y:Pt):0<=inn r n y:=by unfold inn;split;decide;exact b.nn _ _
noncomputable def z9(r:Rm)(n:Str)(y:Pt):Int:=if y=tO n then 0 else rm r y (fR n)
theorem DW(f:Flow es st g r)(n:Str):sm (vs0 es st g) (z9 r n)=xU r n:=by
 have c:=f.cons (fR n) (λz=>gE z.symm) (λz=>FA z.symm);unfold out at c;have e:∀y,fl es st g r (fR n) y=- (if y=tO n then xU r n else 0)+z9 r n y:=λy=>by unfold z9;by_cases e:y=tO n;rw[if_pos e,if_pos e,e];have:=f.anti (fR n) (tO n);rw[vU f.toBase]at this;omega;rw[if_neg e,if_neg e,GK f.toBase (Ts e)];omega
 rw[NA λy _=>e y,cH,dJ,fc _ mF (tO n) (xU r n) (λz=>L1 f.toBase (.inr z))]at c;omega
theorem jh(b:Base es st g r)(n:Str)(y:Pt):0<=z9 r n y:=by unfold z9;split;decide;exact b.nn _ _
def FT(r:Rm)(n:Str):Prop:=0<rm r (tO n) KA
def Z7(r:Rm)(a b:Str):Prop:=a≠b/\0<rm r (tO b) (fR a)
theorem YJ(b:Base es st g r)(h:FT r n):n∈st/\n≠g:=by
 rcases vC.mp (dB.mp (b.adjw h)) with⟨v,m⟩| ⟨v,m⟩
 exact absurd (TB _ m).1 λl=>by
  rcases l with⟨e,_⟩| ⟨_,_,e⟩| ⟨_,_,_,e,_⟩
  exact GB e.symm;exact gE e;exact FA e
 rcases MD.mp m with⟨k,mk,x,e|e⟩| ⟨e,_,_,y|y|y⟩
 ·exact absurd (congrArg qu e) GB
 have:=congrArg (λw:Wy=>w.2.1) e;rw[ZB this];exact⟨mk,x⟩;exact absurd (congrArg qu y) GB;exact absurd (congrArg qu y) GB;exact absurd (congrArg qu y) gE
theorem Kh(b:Base es st g r){c:Str}(h:Z7 r a c):(a,c)∈es/\a≠g:=by
 rcases vC.mp (dB.mp (b.adjw h.2)) with⟨v,m⟩| ⟨v,m⟩
 exact absurd (TB _ m).1 λl=>by
  rcases l with⟨e,_⟩| ⟨k,z,x⟩| ⟨_,_,_,e,_⟩
  exact GB e.symm;exact h.1 ((rH x).trans (ZB z).symm);exact FA e
 rcases MD.mp m with⟨k,mk,u,e|e⟩| ⟨e,f,u,y|y|y⟩
 ·exact absurd (congrArg qu e).symm FA
 exact absurd (congrArg qu e).symm gE;exact absurd (congrArg qu y).symm FA;exact absurd (congrArg qu y).symm FA;have z:a=e.1:=rH (congrArg qu y);have x:c=e.2:=ZB (congrArg (λw:Wy=>w.2.1) y);rw[z,x];exact⟨f,u.1⟩
theorem uV:inn r n KA=rm r (tO n) KA:=by unfold inn;exact if_neg gE
theorem eP(h:a≠n):inn r n (fR a)=rm r (tO n) (fR a):=by unfold inn;exact if_neg λz=>h (rH z)
theorem B9(h:a≠n):z9 r a (tO n)=rm r (tO n) (fR a):=by unfold z9;exact if_neg λz=>h (ZB z).symm
theorem vI(b:Base es st g r)(h:0<rm r p q):p∈vs0 es st g/\q∈vs0 es st g:=⟨cB (b.adjw h),cB (JB (b.adjw h))⟩
theorem lX(f:Flow es st g r)(n:Str)(h:n≠g):rm r (tO n) KA<=1:=by by_cases c:0<rm r (tO n) KA;have z:=bH (λx _=>vQ f.toBase n x) (vI f.toBase c).2;rw[xQ f h,uV]at z;exact QAR z (fL f.toBase n);omega
theorem Na(f:Flow es st g r)(h:FT r n):xU r n=1:=by have ng:=(YJ f.toBase h).2;have z:=bH (λx _=>vQ f.toBase n x) (vI f.toBase h).2;rw[xQ f ng,uV]at z;have:=fL f.toBase n;unfold FT at h;omega
theorem U9(f:Flow es st g r)(h:Z7 r a n)(ng:n≠g):xU r n=1:=by have z:=bH (λx _=>vQ f.toBase n x) (vI f.toBase h.2).2;rw[xQ f ng,eP h.1]at z;have:=fL f.toBase n;have:=h.2;omega
theorem o0(f:Flow es st g r)(ng:n≠g){x:Pt}(u:0<inn r n x)(h:0<inn r n y):x=y:=by
 have w:x∈vs0 es st g:=by unfold inn at u;split at u;exact absurd u (wf 0);exact(vI f.toBase u).2
 have v:y∈vs0 es st g:=by unfold inn at h;split at h;exact absurd h (wf 0);exact(vI f.toBase h).2
 by_cases e:x=y;exact e;have k:=O0 (λz _=>vQ f.toBase n z) w v e;rw[xQ f ng]at k;have:=fL f.toBase n;omega
theorem OW(f:Flow es st g r){b:Str}(ng:n≠g)(x:Z7 r a n)(h:Z7 r b n):a=b :=
 rH (o0 f ng (by rw[eP x.1];exact x.2) (by rw[eP h.1];exact h.2))
theorem mQ(f:Flow es st g r)(x:FT r n)(h:Z7 r a n):False :=
 gE (o0 f (YJ f.toBase x).2 (by rw[uV];exact x) (by rw[eP h.1];exact h.2))
theorem j4(f:Flow es st g r)(h:xU r n=1):∃y,y≠tO n/\0<rm r y (fR n):=by obtain⟨y,_,x⟩:=R0 (f:=z9 r n) (l:=vs0 es st g) (by rw[DW f,h];decide);unfold z9 at x;split at x;exact absurd x (wf 0);rename_i ne;exact⟨y,ne,x⟩
theorem Pc(b:Base es st g r)(h:CH r y (fR n)):∃m,y=tO m:=by
 rcases vC.mp (dB.mp ((b.adj _ _).mp h)) with⟨v,m⟩| ⟨v,m⟩
 rcases(TB _ m).1 with⟨_,k,e⟩| ⟨k,e,_⟩| ⟨_,k,_,_,e⟩
 ·exact absurd e.symm FA
 exact⟨k,e⟩;exact absurd e.symm FA;rcases(TB _ m).1 with⟨e,_⟩| ⟨k,e,_⟩| ⟨_,k,_,_,e⟩
 ·exact absurd e.symm gE
 exact absurd e.symm FA;exact⟨k,e⟩
theorem B4(b:Base es st g r)(h:CH r y KA):∃m,y=tO m:=by
 rcases vC.mp (dB.mp ((b.adj _ _).mp h)) with⟨v,m⟩| ⟨v,m⟩
 rcases(TB _ m).1 with⟨_,k,e⟩| ⟨k,_,e⟩| ⟨_,k,_,_,e⟩
 ·exact absurd e GB
 exact absurd e gE;exact absurd e GB;rcases(TB _ m).1 with⟨_,k,e⟩| ⟨k,e,_⟩| ⟨_,k,_,e,_⟩
 ·exact⟨k,e⟩
 exact absurd e GB;exact absurd e gE
theorem Zh(f:Flow es st g r)(h:xU r n=1):∃m,Z7 r n m:=by obtain⟨y,z,x⟩:=j4 f h;obtain⟨m,rfl⟩:=Pc f.toBase ((f.adj _ _).mpr (f.toBase.adjw x));exact⟨m,λe=>z (by rw[e]),x⟩
theorem DN(f:Flow es st g r){v:Int}(m:(p,tO n,v)∈iZ es st g):0<rm r p (tO n):=by
 have c:=Ai m;have l:=(TB _ m).1;have h:fl es st g r p (tO n)=rm r (tO n) p:=GK f.toBase (BI (VE l));unfold fl at h;rw[c]at h;have key:rm r (tO n) p<=1:=by
  rcases MD.mp m with⟨k,mk,z,e|e⟩| ⟨e,o,z,y|y|y⟩
  exact absurd (congrArg (λw:Wy=>w.2.1) e) FA;have b:p=KA:=congrArg qu e;have u:n=k:=ZB (congrArg (λw:Wy=>w.2.1) e);rw[b];exact lX f n (by rw[u];exact z);exact absurd (congrArg (λw:Wy=>w.2.1) y) FA;exact absurd (congrArg (λw:Wy=>w.2.1) y) FA;have b:p=fR e.1:=congrArg qu y;have u:n=e.2:=ZB (congrArg (λw:Wy=>w.2.1) y);rw[b];by_cases c:0<rm r (tO n) (fR e.1);have j:e.1≠n:=by rw[u];exact z.2
  have i:=bH (λx _=>jh f.toBase e.1 x) (vI f.toBase c).1;rw[DW f,B9 j]at i;exact QAR i (fL f.toBase _);omega
 omega
theorem aR{l m:List Pt}(v:l.Nodup)(u:m.Nodup)(h:∀x,x∈l↔x∈m):l.length=m.length:=by have a:=aG v λx z=>(h x).mp z;have b:=aG u λx z=>(h x).mpr z;omega
noncomputable def CG(ks:List Pt)(x:Pt):Bool:=decide (x.2="to")&&!decide (fR x.1∈ks)
theorem BD{x:Pt}:CG ks x=true↔∃n,x=tO n/\fR n∉ks:=by unfold CG;rw[Qd,Q1,decide_eq_true_iff,decide_eq_false_iff_not];constructor;rintro⟨u,z⟩;exact⟨x.1,QCL rfl u,z⟩;rintro⟨n,rfl,h⟩;exact⟨rfl,h⟩
theorem yP(p:Pt->Bool):∀(l:List Pt),sm l (λx=>if p x=true then 1 else 0)=(l.filter p).length
 |[]=>rfl|x::l=>by show(if p x=true then 1 else 0)+sm l _=_;rw[yP p l,WE];by_cases c:p x=true;rw[if_pos c,if_pos c,QM];omega;rw[if_neg c,if_neg c];omega
theorem FS(f:Flow es st g r)(nd:ks.Nodup)(hk:∀p,p∈ks↔Rch r p)(M:tO g∉ks):out es st g r KA=(ks.filter (CG ks)).length:=by
 have sub:∀p∈ks,p∈vs0 es st g:=λp L=>by have:=AA.mp (EH f.toBase.dom f.toBase.bg ((hk p).mp L));rw[f.keys]at this;exact this
 have o:∀x∈ks,∀y,y∉ks->rm r x y=0:=λx w y u=>by have:=f.nn x y;by_cases c:0<rm r x y;exact absurd ((hk y).mpr (.go ((hk x).mp w) ((AT f.ndi).mpr c))) u;omega
 have I:sm ((vs0 es st g).filter λx=>decide (x∈ks)) (λx=>out es st g r x)=out es st g r KA:=by
  have hb:KA∈ks:=(hk KA).mpr .bg;have e:∀x∈(vs0 es st g).filter (λx=>decide (x∈ks)),out es st g r x=if x=KA then out es st g r KA else 0:=λx w=>by by_cases c:x=KA;rw[if_pos c,c];rw[if_neg c];exact f.cons x c λz=>M (z▸of_decide_eq_true (QZ.mp w).2)
  rw[NA e];exact fJ (mF.sublist qH) (QZ.mpr ⟨sub _ hb,dT hb⟩)
 have G:∀x∈(vs0 es st g).filter (λx=>decide (x∈ks)),sm ((vs0 es st g).filter λy=>!decide (y∈ks)) (fl es st g r x)=if CG ks x=true then 1 else 0:=λx w=>by
  have W:x∈ks:=of_decide_eq_true (QZ.mp w).2;have Z:=(QZ.mp w).1;have k:∀y∈(vs0 es st g).filter (λy=>!decide (y∈ks)),y∉ks/\fl es st g r x y=rm (jA es st g) x y:=λy u=>by have:=(QZ.mp u).2;rw[Q1,decide_eq_false_iff_not]at this;refine⟨this,?_⟩;unfold fl;rw[o x W y this];omega
  have B:∀y∈(vs0 es st g).filter (λy=>!decide (y∈ks)),∀n,y=tO n->fl es st g r x y=0:=λy u n e=>by
   obtain⟨C,O⟩:=k y u;rw[O,e];by_cases A:x=fR n;rw[A];exact BI λl=>VE (.inr (.inl ⟨n,rfl,rfl⟩)) l;rcases Do (es:=es) (st:=st) (g:=g) A with z|z
   ·exact z
   have a:CH (jA es st g) x (tO n):=by refine wO λJ=>?_;rw[vP J]at z;exact absurd z (by decide)
   rcases vC.mp (dB.mp a) with⟨v,m⟩| ⟨v,m⟩
   have:=DN f m;rw[o x W (tO n) (e▸C)]at this;exact absurd this (wf 0);rw[BI (VE (TB _ m).1)]
  rcases IC.kind x (AA.mpr Z) with e|⟨n,e|e⟩
  have i:¬ CG ks x=true:=λz=>by obtain⟨n,j,_⟩:=BD.mp z;exact GB (e.symm.trans j)
  rw[if_neg i];rw[NA (g:=λ_=>0),mG];intro y u;by_cases t:∃n,y=tO n;obtain⟨n,t⟩:=t;exact B y u n t;rw[(k y u).2,e];exact BI λl=>by
   rcases l with⟨_,z⟩| ⟨n,z,_⟩| ⟨_,b,_,_,z⟩
   exact t z;exact GB z;exact t ⟨b,z⟩
  by_cases X:fR n∈ks
  ·have i:¬ CG ks x=true:=λz=>by
    obtain⟨m,j,h⟩:=BD.mp z;rw[<- ZB (e.symm.trans j)]at h;exact h X
   rw[if_neg i,NA (g:=λ_=>0),mG];intro y u;rw[(k y u).2,e];exact Ei λz=>(k y u).1 (z▸X)
  rw[if_pos (BD.mpr ⟨n,e,X⟩)];have K:Key (jA es st g) (tO n):=by rw[<- e];exact AA.mpr Z
  have N:fR n∈vs0 es st g:=cB (JB (dB.mpr (vO K)));rw[NA (g:=λy=>if y=fR n then 1 else 0)];exact fJ (mF.sublist qH) (QZ.mpr ⟨N,by rw[dF X];rfl⟩);intro y u;rw[(k y u).2,e];by_cases c:y=fR n;rw[if_pos c,c,Ii K];rw[if_neg c,Ei c];have i:¬ CG ks x=true:=λz=>by obtain⟨m,j,_⟩:=BD.mp z;exact FA (j.symm.trans e)
  rw[if_neg i,NA (g:=λ_=>0),mG];intro y u;by_cases t:∃n,y=tO n;obtain⟨n,t⟩:=t;exact B y u n t;rw[(k y u).2,e];exact BI λl=>by
   rcases l with⟨z,_⟩| ⟨n,z,_⟩| ⟨_,b,_,_,z⟩
   exact gE z.symm;exact FA z.symm;exact t ⟨b,z⟩
 have F:∀x,out es st g r x=sm ((vs0 es st g).filter λy=>decide (y∈ks)) (fl es st g r x)+sm ((vs0 es st g).filter λy=>!decide (y∈ks)) (fl es st g r x):=λx=>lR _ _;have E:sm ((vs0 es st g).filter λx=>decide (x∈ks)) (λx=>out es st g r x)=sm ((vs0 es st g).filter λx=>decide (x∈ks)) (λx=>if CG ks x=true then 1 else 0):=by rw[NA λx _=>F x,cH,g8 _ λx _ y _=>f.anti x y,NA G];omega
 rw[<- I,E,yP];have:(((vs0 es st g).filter λx=>decide (x∈ks)).filter (CG ks)).length=(ks.filter (CG ks)).length:=by refine aR ((mF.sublist qH).sublist qH) (nd.sublist qH) λx=>?_;rw[QZ,QZ,QZ,decide_eq_true_iff];exact⟨λ⟨⟨_,s⟩,Y⟩=>⟨s,Y⟩,λ⟨s,Y⟩=>⟨⟨sub x s,s⟩,Y⟩⟩
 rw[this]
theorem Oa(f:Flow es st g r):out es st g r KA=(((lk r KA).map (·.1)).filter λy=>decide (0<rm r y KA)).length:=by
 have e:∀y∈vs0 es st g,fl es st g r KA y=if decide (0<rm r y KA)=true then 1 else 0:=λy x=>by rw[GK f.toBase Es];have z:=f.nn y KA;by_cases c:0<rm r y KA;rw[dT c,if_pos rfl];obtain⟨n,e⟩:=B4 f.toBase ((f.adj _ _).mpr (f.toBase.adjw c));rw[e]at c ⊢;have:=lX f n (YJ f.toBase c).2;omega;rw[dF c,if_neg (by decide)];omega
 unfold out;rw[NA e,yP];have:((vs0 es st g).filter λy=>decide (0<rm r y KA)).length=(((lk r KA).map (·.1)).filter λy=>decide (0<rm r y KA)).length:=by refine aR (mF.sublist qH) ((f.ndi KA).sublist qH) λy=>?_;rw[QZ,QZ,decide_eq_true_iff];refine⟨λ⟨_,h⟩=>⟨?_,h⟩,λ⟨_,h⟩=>⟨(vI f.toBase h).1,h⟩⟩;obtain⟨v,hv⟩:=(f.adj KA y).mpr (JB (f.toBase.adjw h));exact QU.mpr ⟨(y,v),eG hv,rfl⟩
 rw[this]
theorem jb(f:Flow es st g r)(hk:∀p,p∈ks↔Rch r p)(o:tO g∉ks){cut:LS}(hc:∀n,tO n∈ks->fR n∉ks->n∈cut):¬ ∃a,(a,g)∈es/\Led es st g cut a:=by
 have u:∀p∈ks,∀n v,(p,tO n,v)∈iZ es st g->tO n∈ks:=λp j n v m=>(hk _).mpr (.go ((hk _).mp j) ((AT f.ndi).mpr (DN f m)));have key:∀n,Led es st g cut n->fR n∈ks:=λn h=>by
  induction h with|@st s h k=>obtain⟨w,x⟩:=cE.mp k;have t:=u KA ((hk _).mpr .bg) s 2 (MD.mpr (.inl ⟨s,h,w,.inr rfl⟩));exact wO λz=>x (hc s t z)|@ed a b l m k i=>obtain⟨w,x⟩:=cE.mp k;by_cases e:a=b;rw[<- e];exact i;have t:=u (fR a) i b 2 (MD.mpr (.inr ⟨(a,b),m,⟨(fM l).1,e⟩,.inr (.inr rfl)⟩));exact wO λz=>x (hc b t z)
 rintro⟨a,m,l⟩;exact o (u (fR a) (key a l) g 2 (MD.mpr (.inr ⟨(a,g),m,⟨(fM l).1,(fM l).1⟩,.inr (.inr rfl)⟩)))
end
end
inductive Run(r:Rm)(g f:Str):LS->Str->Prop
 |nil:Run r g f [] f
 |go {c:LS}{n m:Str}:Run r g f c n->n≠g->Z7 r n m->Run r g f (c++[n]) m
inductive Chn(es:gC)(st:LS)(g:Str):LS->Str->Prop
 |st {f:Str}:f∈st->f≠g->Chn es st g [] f
 |go {c:LS}{n m:Str}:Chn es st g c n->n≠g->(n,m)∈es->Chn es st g (c++[n]) m
section
variable{es:gC}{st:LS}{g:Str}{r:Rm}
section
variable{s n:Str}{c:LS}
theorem Run.chn(f:Flow es st g r)(x:FT r s)(h:Run r g s c n):Chn es st g c n:=by
 induction h with|nil=>exact .st (YJ f.toBase x).1 (YJ f.toBase x).2|go _ ng y z=>exact .go z ng (Kh f.toBase y).1
theorem Run.thr1(f:Flow es st g r)(y:FT r s)(h:Run r g s c n)(ng:n≠g):xU r n=1:=by
 cases h with|nil=>exact Na f y|go _ _ x=>exact U9 f x ng
theorem Run.pred(h:Run r g s c n):∀x,x∈c∨x=n->x=s∨∃y∈c,Z7 r y x:=by
 induction h with
 |nil=>intro x u;exact u.elim (λz=>(nomatch z)) .inl
 |@go c n m _ _ v w =>
  intro x u;rcases u with u|rfl;have:x∈c∨x=n:=(Qh.mp u).imp_right QJ.mp;rcases w x this with z|⟨y,k,z⟩
  exact .inl z;exact .inr ⟨y,Qp _ k,z⟩;exact .inr ⟨n,Qb _ QF,v⟩
theorem Run.ng(h:Run r g s c n):∀x∈c,x≠g:=by
 induction h with
 |nil=>exact λx y=>(nomatch y)
 |go _ k _ u=>intro x y;rcases Qh.mp y with z|z;exact u x z;rw[QJ.mp z];exact k
theorem Run.nd(f:Flow es st g r)(w:FT r s)(h:Run r g s c n):c.Nodup/\n∉c:=by
 induction h with
 |nil=>exact⟨Q7,λz=>(nomatch z)⟩
 |@go c n m h k x u =>
  have nd:(c++[n]).Nodup:=qh.mpr ⟨u.1,Qi.mpr ⟨λz=>(nomatch z),Q7⟩,λa i b hb z=>by rw[QJ.mp hb]at z;exact u.2 (z▸i)⟩;refine⟨nd,λz=>?_⟩;rcases Qh.mp z with z|z;rcases h.pred m (.inl z) with e|⟨y,v,e⟩
  ·rw[e]at x;exact mQ f w x
  rw[OW f (h.ng m z) e x]at v;exact u.2 v;exact x.1 (QJ.mp z).symm
theorem Run.apart(f:Flow es st g r){s':Str}(q:FT r s)(b:FT r s'){l:LS}{p:Str}(h:Run r g s c n)(h':Run r g s' l p):∀x∈c,x∈l->s=s':=by
 induction h with
 |nil=>exact λx a=>(nomatch a)
 |@go c n m h k X i =>
  intro x a v;rcases Qh.mp a with z|z;exact i x z v;have z:=QJ.mp z;subst z;rcases h.pred x (.inr rfl) with e|⟨y,j,e⟩<;>rcases h'.pred x (.inl v) with u|⟨o,w,u⟩
  exact e.symm.trans u;rw[e]at u;exact(mQ f q u).elim;rw[u]at e;exact(mQ f b e).elim;rw[OW f k e u]at j;exact i o j w
end
end
section
variable{es:gC}{st:LS}{g:Str}
theorem vb{cut:LS}{c:LS}{n:Str}(h:Chn es st g c n)(hc:∀x∈c,x∉cut)(ng:n≠g)(y:n∉cut):Led es st g cut n:=by
 induction h with|st h _=>exact .st h (cE.mpr ⟨ng,y⟩)|@go c n m _ k e z=>exact .ed (z (λx u=>hc x (Qp _ u)) k (hc n (Qb _ QF))) e (cE.mpr ⟨ng,y⟩)
theorem X6{cut:LS}{c:LS}(h:Chn es st g c g)(hl:¬ ∃a,(a,g)∈es/\Led es st g cut a):∃x∈c,x∈cut:=by
 refine wO λz=>?_;have hc:∀x∈c,x∉cut:=λx y m=>z ⟨x,y,m⟩;cases h with|st _ e=>exact e rfl|@go c n _ h k e=>exact hl ⟨n,e,vb h (λx y=>hc x (Qp _ y)) k (hc n (Qb _ QF))⟩
def vJ:List (LS)->Prop
 |[]=>True|c::cs=>(∀d∈cs,∀x∈c,x∉d)/\vJ cs
theorem Vc{cut:LS}:∀{cs:List (LS)},vJ cs->(∀c∈cs,∃x∈c,x∈cut)->∃ps:LS,ps.length=cs.length/\ps.Nodup/\(∀p∈ps,p∈cut)/\∀p∈ps,∃c∈cs,p∈c
 |[],_,_=>⟨[],rfl,Q7,λ_ z=>(nomatch z),λ_ z=>(nomatch z)⟩
 |c::cs,a,h=>by
  obtain⟨ps,e,b,k,w⟩:=Vc (cs:=cs) a.2 λd u=>h d (QE _ u);obtain⟨x,v,hc⟩:=h c QF;refine⟨x::ps,by rw[QM,QM,e],Qi.mpr ⟨λz=>?_,b⟩,λp y=>?_,λp y=>?_⟩;obtain⟨d,u,y⟩:=w x z;exact a.1 d u x v y;rcases QL.mp y with z|z
  ·rw[z];exact hc
  exact k p z;rcases QL.mp y with z|z
  ·exact⟨c,QF,by rw[z];exact v⟩
  obtain⟨d,u,y⟩:=w p z;exact⟨d,QE _ u,y⟩
theorem cZ{cut:LS}{cs:List (LS)}(a:vJ cs)(h:∀c∈cs,Chn es st g c g)(hl:¬ ∃a,(a,g)∈es/\Led es st g cut a):cs.length<=cut.length:=by obtain⟨u,z,y,x,_⟩:=Vc a λc hc=>X6 (h c hc) hl;rw[<- z];exact CP y x
end
section
variable{ks:List Pt}{vs:List D}{p:Pt}
noncomputable def UC(ks:List Pt)(vs:List D):List (D×D):=(ks.map pr).zip vs
theorem Ti(ks:List Pt)(vs:List D):(gb ks vs).er=.dict (UC ks vs):=by show PyData.dict ((ks.map pr).zip (ersT (vs.map T.d)))=_;rw[RA];rfl
theorem MK(h:vs.length=ks.length):(UC ks vs).map (·.1)=ks.map pr:=Wq (by rw[QD];omega)
theorem db(h:vs.length=ks.length):(UC ks vs).map (·.2)=vs:=WC (by rw[QD];omega)
theorem XI(h:vs.length=ks.length)(m:p∈ks):xD (UC ks vs)=some true:=by
 cases ks with
 |nil=>exact(nomatch m)
 |cons x ks=>cases vs with|nil=>cases h|cons y vs=>rfl
theorem BS{q:Pt}{u:List Pt}:∀{y:List Pt},q∉y->bA ((y++q::u).map pr) (pr q)=some y.length
 |[],_=>Xd rfl|x::y,h=>by show bA (pr x::(y++q::u).map pr) (pr q)=_;rw[z6 (λz=>h (by rw[gP z];exact QF)),BS λz=>h (QE _ z)];rfl
theorem Pk{h z:List Pt}{y x:List D}{q:Pt}{n m:Bool}{R:T->Prop}(u:y.length=h.length)(w:x.length=z.length)(v:q∉h)(k:R (.d (pr p))):CA (.d (.dict (UC (h++q::z) (y++pr p::x)))) n (.d (pr q)) m R:=by
 have hl:(y++pr p::x).length=(h++q::z).length:=by rw[QI,QI,QM,QM,u,w]
 refine Mk (XI hl (p:=q) (Qb _ QF)) (NB q) (by rw[MK hl];exact BS v) ?_ k;rw[db hl,<- u,qJ (QW _),Nat.sub_self];rfl
theorem rV(a b:Pt):Qx (pr a) (pr b)=decide (a=b):=by
 rw[Q4,decide_eq_true_iff];have e:Qx (pr a) (pr b)=(Qx (.str a.1) (.str b.1)&&(Qx (.str a.2) (.str b.2)&&true)):=by simp[pr,Qx,PyData.eqvAll]
 rw[e,nQ,nQ,QBg,Qd,decide_eq_true_iff,decide_eq_true_iff];exact⟨λh=>QCL h.1 h.2,λh=>by rw[h];exact⟨rfl,rfl⟩⟩
def MJ(es:gC)(st:LS):Prop:=(∀s∈st,qW s=true)/\∀e∈es,qW e.1=true/\qW e.2=true
theorem ZD{a b:Str}(x:qW a=true)(h:qW b=true):sE (pr (a,b)):=by refine⟨?_,?_⟩;simp only[pr,QAX,qi,x,h,Bool.and_self];simp only[pr,QA7,wX];decide
theorem gR:qW "to"=true:=by decide +kernel
theorem gW:qW "from"=true:=by decide +kernel
theorem NN:qW ""=true/\qW "begin"=true:=by decide +kernel
theorem J5{es:gC}{st:LS}{g:Str}(h:MJ es st)(k:p∈vs0 es st g):sE (pr p):=by
 have k:Key (jA es st g) p:=AA.mpr k;rw[zE]at k;rcases CK.mp k with z|⟨⟨u,v,c⟩,m,z⟩
 rw[QJ.mp (AA.mp z)];exact ZD NN.1 NN.2;have z:p=u∨p=v:=z;rcases MD.mp m with⟨n,w,_,e|e⟩| ⟨e,x,_,y|y|y⟩
 cases e;rcases z with z|z<;>subst z;exact ZD (h.1 n w) gR;exact ZD (h.1 n w) gW;cases e;rcases z with z|z<;>subst z;exact ZD NN.1 NN.2;exact ZD (h.1 n w) gR;cases y;rcases z with z|z<;>subst z;exact ZD (h.2 e x).1 gR;exact ZD (h.2 e x).1 gW;cases y;rcases z with z|z<;>subst z;exact ZD (h.2 e x).2 gR;exact ZD (h.2 e x).2 gW;cases y;rcases z with z|z<;>subst z;exact ZD (h.2 e x).1 gW;exact ZD (h.2 e x).2 gR
noncomputable def NQ(r:Rm)(kd:List (D×D))(last:D)(h:Pt)(o4:Option Sl):kA:=[oW (zB r),bD (.dict kd),bD last,bD (pr h),o4]
end
section
variable{Ψ:PEv}{Z:PEnds}{q:PT}{r:Rm}{h:List (D×D)}{last:D}{u v:Pt}
theorem Lr(hk:Key r u)(w:CH r u v)(hl:(lk r u).length<sizeLine)(k:pF Ψ q Z (NQ (put r u (put (lk r u) v (rm r u v - 1))) h last v (bD (pr u)))) :
  pF Ψ (.seq (.six (.idx (.xz 0) (.xz 4)) (.xz 3) (.bin .Sub (.idx (.idx (.xz 0) (.xz 4)) (.xz 3)) (.int 1))) q) Z (NQ r h last v (bD (pr u))):=by
 obtain⟨x,y⟩:=w;have e:rm r u v=x:=by unfold rm;rw[y];rfl
 rw[e]at k;delta NQ at k ⊢;simp_arith[↓BH];refine pE hk ?_;simp_arith[↓LX];refine CO y ?_;simp_arith[↓zA];refine HH (bE hk) λf z=>GO hl ?_;rw[z];exact k
theorem Hr(hk:Key r v)(w:CH r v u)(hl:(lk r v).length<sizeLine)(k:pF Ψ q Z (NQ (put r v (put (lk r v) u (rm r v u+1))) h last v (bD (pr u)))) :
  pF Ψ (.seq (.six (.idx (.xz 0) (.xz 3)) (.xz 4) (.bin .Add (.idx (.idx (.xz 0) (.xz 3)) (.xz 4)) (.int 1))) q) Z (NQ r h last v (bD (pr u))):=by
 obtain⟨x,y⟩:=w;have e:rm r v u=x:=by unfold rm;rw[y];rfl
 rw[e]at k;delta NQ at k ⊢;simp_arith[↓BH];refine pE hk ?_;simp_arith[↓LX];refine CO y ?_;simp_arith[↓zA];refine HH (bE hk) λf z=>GO hl ?_;rw[z];exact k
end
theorem Base.inn{es:gC}{st:LS}{g:Str}{r:Rm}(b:Base es st g r)(p:Pt):(lk r p).length<=(jA es st g).length:=by
 have:=aG (ns:=vs0 es st g) (b.ndi p) λq h=>by obtain⟨e,x,z⟩:=QU.mp h;have a:CH r p q:=dB.mpr ⟨e.2,by rw[<- z];exact x⟩;exact cB (JB ((b.adj p q).mp a))
 unfold vs0 at this;rw[QD,QD]at this;exact this
section
variable{Ψ:PEv}{Z:PEnds}{es:gC}{st:LS}{g:Str}
theorem ja{m r:Rm}{ks:List Pt}{vs:List D}{x:Pt}{last:D}{o4:Option Sl}{z v:List Pt}{b u:List D}(hsz:(jA es st g).length<=1000)(Q:Hb m)(G:CF m z b)(R:ks=z++v)(ev:vs=b++u)(h9:u.length=v.length)(E:x∈z)(hb:x≠KA)(i:LC es st g m r x z)
  (k:∀h y n l p r',CF m h y->ks=h++n->vs=y++l->l.length=n.length->h.length<z.length->p∈h->LC es st g m r' p h->Z.nx (NQ r' (UC ks vs) last p (bD (pr p)))) :
  pF Ψ SD Z (NQ r (UC ks vs) last x o4):=by
 obtain⟨h,y,p,j,e,I,P,w,A,X,F⟩:=G.find E hb;have L:=G.len;have J:=I.len;have S:e.length=j.length:=by rw[X,F,QI,QI,QM,QM]at L;omega
 have s:ks=h++x::(j++v):=by rw[R,X,Qu];rfl
 have o:vs=y++pr p::(e++u):=by rw[ev,F,Qu];rfl
 obtain⟨W,K⟩:=da Q i E hb w A λq O=>by rw[X];exact Qp _ O
 have a:=i.adjw W;have B:=UQ a;have N:Key r p:=by rw[AA,i.keys];exact cB a
 have M:Key r x:=by rw[AA,i.keys];exact cB (JB a)
 have C:=i.toBase.inn;have Y:pF Ψ %[.set 3 (.xz 4)|2] Z (NQ (fY r p x) (UC ks vs) last x (bD (pr p))):=by have:=k h y (x::(j++v)) (pr p::(e++u)) p (fY r p x) I s o (by rw[QM,QM,QI,QI];omega) (by rw[X,QI,QM];omega) P K;unfold NQ at this;delta NQ;simp_arith[↓zA];exact this
 have f:pF Ψ %[.six (.idx (.xz 0) (.xz 4)) (.xz 3) (.bin .Sub (.idx (.idx (.xz 0) (.xz 4)) (.xz 3)) (.int 1)),.six (.idx (.xz 0) (.xz 3)) (.xz 4) (.bin .Add (.idx (.idx (.xz 0) (.xz 3)) (.xz 4)) (.int 1)),.set 3 (.xz 4)|2] Z (NQ r (UC ks vs) last x (bD (pr p))):=by have i1:=C p;have H:=C x;refine Lr N ((i.adj _ _).mpr a) (by omega) (Hr ?_ ?_ ?_ Y);exact mI.mpr (.inr M);show CH _ x p;have:=(i.adj x p).mpr (JB a);unfold CH at this ⊢;rw[LD,if_neg B];exact this;rw[LD,if_neg B];omega
 unfold NQ at f;delta NQ;delta SD;simp_arith[↓zA];rw[s,o]at f ⊢;refine Pk J (by rw[QI,QI];omega) A ?_;simp_arith[↓zA];exact f
end
section
variable{Ψ:PEv}{W:LT->Prop}{n m:Bool}{E:XE}{ρ:kA}{R:T->Prop}{a g f:Str}{es:gC}{st c:LS}{r:Rm}{Z:PEnds}{ks:List Pt}{vs:List D}{L:Bool->Prop}{Q:T->Bool->Prop}{i:Nat}{cs:List (LS)}
noncomputable def OO:PSp where
 md:=[.chg]
 run:=λy Q _=>∃(es:gC) (st:LS) (g:Str) (h:Rm) (ks:List Pt) (vs:List D),y=[zB h,.d (.dict (UC ks vs)),.d (pr (tO g))]/\((jA es st g).length<=1000/\MJ es st/\Flow es st g h/\CF h ks vs/\tO g∈ks)/\∀x,Flow es st g x->out es st g x KA=out es st g h KA+1->Q (.d .none) [zB x]
theorem ph(B:Ψ.va "BEGIN"=some (pr KA)):AG Ψ TF OO nK zI:=by
 rintro _ Q _ ⟨es,st,g,k,ks,vs,rfl,⟨N,M,fl,H,I⟩,q⟩;refine XJ [oW (zB k),bD (.dict (UC ks vs)),bD (pr (tO g)),none,none] ?_;delta TF;simp_arith[↓zA];refine DH (λm ρ=>∃r h x v u y o4,m=h.length/\CF k h x/\ks=h++v/\vs=x++u/\u.length=v.length/\y∈h/\LC es st g k r y h/\ρ=NQ r (UC ks vs) (pr (tO g)) y o4) ks.length ⟨k,ks,vs,[],[],tO g,_,rfl,H,by rw[qB],by rw[qB],rfl,I,z5 fl ks,rfl⟩ ?_;rintro m ρ ⟨r,h,x,v,u,y,o4,em,C,S,ev,J,K,Y,rfl⟩;have o:sE (pr y):=J5 M (by have:=EH fl.toBase.dom fl.toBase.bg (C.rch y K);rw[AA,fl.keys]at this;exact this);have s:sE (pr KA):=ZD NN.1 NN.2;have z:∀L:Bool->Prop,L (!decide (y=KA))->UB .NotEq (.d (pr y)) (.d (pr KA)) L:=λL l=>by show sE (pr y)/\sE (pr KA)/\L (!PyData.eqv (pr y) (pr KA));rw[rV];exact⟨o,s,l⟩
 by_cases e:y=KA;subst e;delta NQ;simp_arith[↓kH B];refine z _ ?_;rw[dT rfl];obtain⟨P,O⟩:=Ph Y;exact q r P O;have A:=λ(Z:PEnds) G=>ja (Ψ:=Ψ) (Z:=Z) (last:=pr (tO g)) (o4:=o4) N fl.ndi C S ev J K e Y G;unfold NQ at A;delta NQ;simp_arith[↓kH B];refine z _ ?_;rw[dF e];refine A _ λw j X b p F a1 a2 a3 a4 a5 a6 a7=>⟨w.length,by omega,F,w,j,X,b,p,_,rfl,a1,a2,a3,a4,a6,a7,rfl⟩
theorem TZ{l:Inn}:DK .val [(uD l,false)] W=W ((l.map λe=>pr e.1).map T.d):=pS _ _
theorem Of{kvs:List (D×D)}(h:xD kvs=some true):DK .val [(.d (.dict kvs),n)] W=W ((kvs.map (·.1)).map T.d):=by unfold DK IB;rw[rA];show VB .val [jC kvs] W=_;unfold jC;rw[h];exact pS _ _
theorem be{a b h:PX}{t:Str}{x:T}{R:Option T->Prop}:KI Ψ E [] [t] (.nm 0) (.and a b) h ρ x R=LQ Ψ (.and a b) E (some (.ky x)::lockA ρ) λk z=>if k=true then oB Ψ h E z λy n _=>XC y n (R (some y)) else R none:=rfl
theorem TQ{p:Pt}:CA (.d (pr p)) n (.d (.int 0)) m R=R (.d (.str p.1)):=by delta pr;rw[NZ,rj,MB]
theorem Fk{p:Pt}:CA (.d (pr p)) n (.d (.int 1)) m R=R (.d (.str p.2)):=by delta pr;rw[NZ,bt,MB]
theorem Kc:(T.d (.tuple [.str a,.str "from"]))=.d (pr (fR a)):=rfl
theorem B2:(T.d (.tuple [.str a,.str "to"]))=.d (pr (tO a)):=rfl
noncomputable def hG:PSp where
 md:=[.ky]
 run:=λh Q _=>∃(es:gC) (st:LS) (g:Str) (r:Rm) (n:Str),h=[zB r,.d (.str n)]/\((jA es st g).length<=1000/\Flow es st g r/\xU r n=1)/\∀m,Z7 r n m->Q (.d (.str m)) []
theorem eY:AG Ψ PD hG jH sF:=by
 rintro _ Q _ ⟨es,st,g,r,n,rfl,⟨M,fl,A⟩,q⟩;have J:=fl.toBase.inn (fR n);obtain⟨b,k⟩:=Zh fl A;have o:CH r (fR n) (tO b):=(fl.adj _ _).mpr (JB (fl.toBase.adjw k.2));have X:Key r (fR n):=by rw[AA,fl.keys];exact cB ((fl.adj _ _).mp o)
 refine gA [some (.ky (zB r)),bD (.str n),none] ?_;delta PD;simp_arith[Kc,↓BH];refine⟨by omega,pE X ?_⟩;simp_arith[↓v7,↓TZ];have F:((lk r (fR n)).map λe=>pr e.1).map T.d=((lk r (fR n)).map (·.1)).map λp=>T.d (pr p):=by rw[QS,QS];rfl
 rw[F];refine fA (λp=>T.d (pr p)) (λ(p:Pt)=>T.d (.str p.1)) (λp=>!decide (p.1=n)&&decide (0<rm r p (fR n))) ((lk r (fR n)).map (·.1)) [] _ (λx K R u=>?_) (by show 0+((lk r (fR n)).map (·.1)).length<=_;rw[QD];omega) ?_;obtain⟨e,B,C⟩:=QU.mp K;have G:CH r (fR n) x:=dB.mpr ⟨e.2,by rw[<- C];exact B⟩;have w:CH r x (fR n):=(fl.adj _ _).mpr (JB ((fl.adj _ _).mp G));have s:Key r x:=by rw[AA,fl.keys];exact cB ((fl.adj _ _).mp w)
 obtain⟨v,hv⟩:=w;have ev:rm r x (fR n)=v:=by unfold rm;rw[hv];rfl
 rw[ev]at u;simp_arith[↓be,↓TQ,↓BH];by_cases c:x.1=n;rw[dT c]at u ⊢;exact u;rw[dF c]at u ⊢;simp only[w8,↓reduceIte];refine pE s ?_;simp_arith[↓LX];refine CO hv ?_;simp_arith[↓TQ];by_cases d:0<v;rw[dT d]at u ⊢;exact u;rw[dF d]at u ⊢;exact u;have j:tO b∈((lk r (fR n)).map (·.1)).filter λp=>!decide (p.1=n)&&decide (0<rm r p (fR n)):=by obtain⟨v,hv⟩:=o;refine QZ.mpr ⟨QU.mpr ⟨_,eG hv,rfl⟩,?_⟩;rw[dF (show ¬ (tO b).1=n from λz=>k.1 z.symm),dT k.2];rfl
 cases l:((lk r (fR n)).map (·.1)).filter λp=>!decide (p.1=n)&&decide (0<rm r p (fR n)) with
 |nil=>rw[l]at j;exact(nomatch j)
 |cons y I =>
  have Y:y∈((lk r (fR n)).map (·.1)).filter λp=>!decide (p.1=n)&&decide (0<rm r p (fR n)):=by rw[l];exact QF
  have h:=(QZ.mp Y).2;rw[Qd,Q1,decide_eq_false_iff_not,decide_eq_true_iff]at h;obtain⟨m,rfl⟩:=Pc fl.toBase ((fl.adj _ _).mpr (fl.toBase.adjw h.2));rw[Qg,oA (λp:Pt=>Jx p.1)];simp_arith[↓zA];rw[QV,rj];simp_arith[↓zA];exact q m ⟨λz=>h.1 z.symm,h.2⟩
noncomputable def PH:PSp where
 md:=[.ky]
 run:=λh Q _=>∃(es:gC) (st:LS) (g:Str) (r:Rm) (f:Str),h=[zB r,.d (.str f),.d (.str g)]/\((jA es st g).length<=1000/\Flow es st g r/\FT r f)/\∀c,Run r g f c g->Q (.lst ((c.map Jx).map T.d)) []
theorem Yg(fl:Flow es st g r)(w:FT r f){n:Str}(h:Run r g f c n):(∀x∈c,tO x∈vs0 es st g)/\tO n∈vs0 es st g:=by
 induction h with
 |nil=>exact⟨λx y=>(nomatch y),(vI fl.toBase w).1⟩
 |go _ _ v u=>refine⟨λx y=>?_,(vI fl.toBase v.2).1⟩;rcases Qh.mp y with z|z;exact u.1 x z;rw[QJ.mp z];exact u.2
theorem sW(fl:Flow es st g r)(y:FT r f){n:Str}(h:Run r g f c n):c.length<=(jA es st g).length:=by
 have nd:=(h.nd fl y).1;have:=aG (ks:=c.map tO) (ns:=vs0 es st g) (We tO (λa b u z=>u (ZB z)) nd) λp w=>by obtain⟨x,v,e⟩:=QU.mp w;rw[<- e];exact(Yg fl y h).1 x v
 unfold vs0 at this;rw[QD,QD]at this;exact this
noncomputable def Ri(r:Rm)(f g:Str)(c:LS)(n:Str):kA:=[some (.ky (zB r)),bD (.str f),bD (.str g),oW (.lst ((c.map Jx).map T.d)),bD (.str n)]
theorem xb(y:Ψ.sp "name_behind"=hG){n:Str}(x:(jA es st g).length<=1000)(fl:Flow es st g r)(h:xU r n=1)(hl:c.length<=1000)(k:∀m,Z7 r n m->Z.nx (Ri r f g (c++[n]) m)) :
  pF Ψ pD Z (Ri r f g c n):=by
 delta Ri at k ⊢;delta pD;simp_arith[↓CQ,↓xA (md:=[.ky]) y rfl rfl];refine⟨by rw[QD,QD];omega,⟨_,_,_,_,_,rfl,⟨x,fl,h⟩,λm nx=>?_⟩⟩;have:=k m nx;rw[QO,QO]at this;simp_arith[↓zA];exact this
theorem T3(j:Ψ.sp "name_behind"=hG):AG Ψ jF PH II SG:=by
 rintro _ Q _ ⟨es,st,g,r,f,rfl,⟨b,fl,z⟩,q⟩;have u:sizeLine=16777216:=qA;refine gA [some (.ky (zB r)),bD (.str f),bD (.str g),none,none] ?_;delta jF
 simp_arith[↓zA];refine⟨Qt _,DH (λm ρ=>∃c n,m+c.length=1001/\Run r g f c n/\ρ=Ri r f g c n) 1001 ⟨[],f,rfl,.nil,rfl⟩ ?_⟩;rintro m ρ ⟨c,n,l,x,rfl⟩;have hl:=sW fl z x;by_cases e:n=g;subst e;delta Ri;simp_arith[↓zA];exact q c x;have v:=λ(Z:PEnds) u=>xb (Ψ:=Ψ) (Z:=Z) (f:=f) (g:=g) (c:=c) j b fl (x.thr1 fl z e) (by omega) u;unfold Ri at v;delta Ri;simp_arith[↓zA];rw[dF e];refine v _ λk w=>?_;have h:=x.go e w;have y:=sW fl z h;rw[QI,qI]at y;exact⟨m - 1,by omega,c++[n],k,by rw[QI,qI];omega,h,rfl⟩
theorem yj{q:Pt}(hv:vs.length=ks.length)(hb:KA∈ks):UB .NotIn (.d (pr q)) (.d (.dict (UC ks vs))) L=L (!decide (q∈ks)):=by show(∃b,xD (UC ks vs)=some b/\aD b (pr q)/\L (!(bA ((UC ks vs).map (·.1)) (pr q)).isSome))=_;rw[XI hv hb,MK hv,eI];exact propext ⟨λ⟨_,_,_,h⟩=>h,λh=>⟨true,rfl,NB q,h⟩⟩
theorem Sd{q:Pt}(hv:vs.length=ks.length)(hb:KA∈ks):UB .In (.d (pr q)) (.d (.dict (UC ks vs))) L=L (decide (q∈ks)):=by show(∃b,xD (UC ks vs)=some b/\aD b (pr q)/\L (bA ((UC ks vs).map (·.1)) (pr q)).isSome)=_;rw[XI hv hb,MK hv,eI];exact propext ⟨λ⟨_,_,_,h⟩=>h,λh=>⟨true,rfl,NB q,h⟩⟩
theorem jn{x:LS}(y:x.length<64)(q:∀h:LS,h.Perm x->sortedS h=true->Q (.lst ((h.map Jx).map T.d)) true):PK .sorted [(.lst ((x.map Jx).map T.d),n)] Q:=by unfold PK IB;rw[YE];exact .inl ⟨_,x,rfl,VA _,y,q⟩
theorem yn{ls:List (LS)}(x:ls.length<64)(q:∀h:List (LS),h.Perm ls->Q (.lst ((h.map eD).map T.d)) true):PK .sorted [(.d (.list (ls.map eD)),n)] Q:=by unfold PK IB;rw[rA];exact .inr (.inl ⟨_,ls,rfl,VA _,x,q⟩)
noncomputable def ZM(ks:List Pt):LS:=(ks.filter (CG ks)).map λp=>p.1
noncomputable def SO:PSp where
 run:=λh Q _=>∃(ks:List Pt) (vs:List D),h=[.d (.dict (UC ks vs))]/\(vs.length=ks.length/\KA∈ks/\ks.length<=1000/\(ks.filter (CG ks)).length<64)/\∀cut:LS,cut.Perm (ZM ks)->sortedS cut=true->Q (.lst ((cut.map Jx).map T.d)) []
theorem Y9:AG Ψ IE SO EI RG:=by rintro _ Q _ ⟨ks,vs,rfl,⟨hv,hb,k,v⟩,q⟩;refine gA [bD (.dict (UC ks vs))] ?_;delta IE;simp_arith[↓Of (XI hv hb),MK hv];rw[<- oA];refine fA (λp=>T.d (pr p)) (λ(p:Pt)=>T.d (.str p.1)) (CG ks) ks [] _ (λx w R h=>?_) (by show 0+ks.length<=_;omega) ?_;have h:R (if(decide (x.2="to")&&!decide (fR x.1∈ks))=true then some (T.d (.str x.1)) else none):=h;simp_arith[↓be,↓TQ,↓Fk,Kc,↓yj hv hb];by_cases c:x.2="to";rw[dT c]at h ⊢;refine⟨by omega,?_⟩;by_cases d:fR x.1∈ks;rw[dT d]at h ⊢;exact h;rw[dF d]at h ⊢;exact h;rw[dF c]at h ⊢;exact h;rw[Qg,oA (λp:Pt=>Jx p.1),show((ks.filter (CG ks)).map λp=>Jx p.1)=(ZM ks).map Jx by unfold ZM;rw[QS];rfl];refine jn (by unfold ZM;rw[QD];exact v) λy u z=>?_;simp_arith[↓zA];exact q y u z
theorem kZ(f:Flow es st g r):(((lk r KA).map (·.1)).filter λy=>decide (0<rm r y KA)).length<=st.length:=by
 have u:∀y∈((lk r KA).map (·.1)).filter (λy=>decide (0<rm r y KA)),y=tO y.1/\FT r y.1:=λy x=>by have h:=of_decide_eq_true (QZ.mp x).2;obtain⟨n,rfl⟩:=B4 f.toBase ((f.adj _ _).mpr (f.toBase.adjw h));exact⟨rfl,h⟩
 have nd:(((lk r KA).map (·.1)).filter λy=>decide (0<rm r y KA)).Nodup:=(f.ndi KA).sublist qH;have:=CP (ks:=(((lk r KA).map (·.1)).filter λy=>decide (0<rm r y KA)).map (·.1)) (ns:=st) (by
  refine We _ (λa b h=>h) (wZ (λ{a b} k hb v z=>?_) nd);exact v (by rw[(u a k).1,(u b hb).1,z])) λs w=>by
  obtain⟨y,x,e⟩:=QU.mp w;rw[<- e];exact(YJ f.toBase (u y x).2).1
 rw[QD]at this;exact this
theorem lO{α v:Type}{body:T->(Option T->Prop)->Prop}(P:α->v->Prop)(g:α->T)(f:v->T):∀(l:List α) (h:LT) (Q:LT->Prop),(∀x∈l,∀R:Option T->Prop,(∀y,P x y->R (some (f y)))->body (g x) R)->h.length+l.length<=sizeLine->(∀u,Paired P l u->Q (h++u.map f))->cD body (l.map g) h Q
 |[],h,Q,_,hl,q=>by have:=q [] .nil;rw[WH,qB]at this;exact⟨by rw[wQ]at hl;omega,this⟩|x::r,h,Q,hb,hl,q=>by
  rw[QM]at hl;refine hb x QF _ λy k=>⟨by omega,?_⟩
  refine lO P g f r _ Q (λz w=>hb z (QE _ w)) (by rw[QI,qI];omega) λu b=>?_;have:=q (y::u) (.cons k b);rw[QV]at this;rw[Qu];exact this
theorem zf{r:PT}:eL Ψ E r Z i (gb ks vs) true ρ=bB Ψ E r Z (ρ.set i (bD (.dict (UC ks vs)))):=by unfold eL;rw[Ti];exact propext ⟨λh=>h.2,λh=>⟨rfl,h⟩⟩
noncomputable def Co(c:LS):T:=.lst ((c.map Jx).map T.d)
theorem Pi(cs:List (LS)):ersT (cs.map Co)=cs.map eD:=by rw[HK,QS];congr 1;funext c;show PyData.list (ersT ((c.map Jx).map T.d))=_;rw[RA];rfl
theorem At{r:PT}:eL Ψ E r Z i (.lst (cs.map Co)) true ρ=bB Ψ E r Z (ρ.set i (bD (.list (cs.map eD)))):=by
 have e:(T.lst (cs.map Co)).er=.list (cs.map eD):=by show PyData.list (ersT (cs.map Co))=_;rw[Pi]
 unfold eL;rw[e];exact propext ⟨λh=>h.2,λh=>⟨rfl,h⟩⟩
theorem Vn{a b:LT}:uE [.lst a,.lst b]=.tup [.lst a,.lst b]:=rfl
theorem GJ:∀{cs:List (LS)},vJ cs↔cs.Pairwise λc d=>∀x∈c,x∉d
 |[]=>⟨λ_=>.nil,λ_=>trivial⟩|c::cs=>by rw[List.pairwise_cons,<- GJ];exact WR
theorem MV{ds:List (LS)}(h:ds.Perm cs)(a:vJ cs):vJ ds:=GJ.mpr ((h.pairwise_iff (λ{a b} z x u y=>z x y u)).mpr (GJ.mp a))
structure Good(es:gC)(st:LS)(g:Str)(cs:List (LS))(cut:LS):Prop where
 chn:∀c∈cs,Chn es st g c g/\c.Nodup/\∀x∈c,x≠g
 apart:vJ cs
 len:cs.length=cut.length
 few:cut.length<=11
 nd:cut.Nodup
 srt:sortedS cut=true
 ng:g∉cut
 led:¬ ∃a,(a,g)∈es/\Led es st g cut a
 okn:∀s∈cut,qW s=true
end
section
variable{es:gC}{st:LS}{g:Str}{r:Rm}
theorem JL(f:Flow es st g r):∀{fs:LS}{cs:List (LS)},fs.Nodup->(∀s∈fs,FT r s)->Paired (λs c=>Run r g s c g) fs cs->vJ cs/\(∀c∈cs,∃s∈fs,Run r g s c g)
 |_,_,_,_,.nil=>⟨trivial,λ_ h=>(nomatch h)⟩
 |s::fs,c::cs,nd,hf,.cons h t=>by
  obtain⟨b,a⟩:=Qi.mp nd;obtain⟨l,k⟩:=JL f a (λs j=>hf s (QE _ j)) t;refine⟨⟨λd w x i e=>?_,l⟩,λd w=>?_⟩;obtain⟨u,y,v⟩:=k d w;have:=Run.apart f (hf s QF) (hf u (QE _ y)) h v x i e;exact b (this▸y);rcases QL.mp w with z|z
  ·rw[z];exact⟨s,QF,h⟩
  obtain⟨u,y,v⟩:=k d z;exact⟨u,QE _ y,v⟩
noncomputable def xq(r:Rm):List Pt:=((lk r KA).map λe=>e.1).filter λy=>decide (0<rm r y KA)
def cV(r:Rm):LS:=(xq r).map λp=>p.1
theorem T5(f:Flow es st g r):∀y∈xq r,y=tO y.1/\FT r y.1:=λy x=>by have h:=of_decide_eq_true (QZ.mp x).2;obtain⟨n,rfl⟩:=B4 f.toBase ((f.adj _ _).mpr (f.toBase.adjw h));exact⟨rfl,h⟩
theorem ao(f:Flow es st g r):(cV r).Nodup:=by have nd:(xq r).Nodup:=(f.ndi KA).sublist qH;refine We _ (λa b h=>h) (wZ (λ{a b} y hb x z=>?_) nd);exact x (by rw[(T5 f a y).1,(T5 f b hb).1,z])
theorem bV(f:Flow es st g r):∀s∈cV r,FT r s:=λs x=>by obtain⟨y,h,e⟩:=QU.mp x;rw[<- e];exact(T5 f y h).2
theorem ZJ(f:Flow es st g r):out es st g r KA=(cV r).length/\(cV r).length<=st.length:=by have x:=Oa f;have h:=kZ f;unfold cV;rw[QD];exact⟨x,h⟩
theorem PL{α x:Type}{P:α->x->Prop}{l:List α}{m:List x}(h:Paired P l m):l.length=m.length:=Q6 h
theorem Ga(f:Flow es st g r)(C:MJ es st)(F:st.length<=11){ks:List Pt}{vs:List D}(W:CF r ks vs)(hk:∀p,p∈ks↔Rch r p)(q:tO g∉ks){cs ds:List (LS)}(Y:Paired (λs c=>Run r g s c g) (cV r) cs)(j:ds.Perm cs){cut:LS}(w:cut.Perm (ZM ks))(sc:sortedS cut=true):Good es st g ds cut:=by
 obtain⟨J,I⟩:=JL f (ao f) (bV f) Y;obtain⟨P,O⟩:=ZJ f;have N:=FS f W.nd hk q;have M:(ZM ks).length=(ks.filter (CG ks)).length:=by unfold ZM;rw[QD]
 have L:=PL Y;have u:∀s,s∈ZM ks↔tO s∈ks/\fR s∉ks:=λs=>by unfold ZM;rw[QU];constructor;rintro⟨y,B,e⟩;obtain⟨v,x⟩:=QZ.mp B;obtain⟨n,X,k⟩:=BD.mp x;subst X;have e:n=s:=e;subst e;exact⟨v,k⟩;rintro⟨v,x⟩;exact⟨tO s,QZ.mpr ⟨v,BD.mpr ⟨s,rfl,x⟩⟩,rfl⟩
 have l:(ZM ks).Nodup:=by unfold ZM;refine We _ (λa b h=>h) (wZ (λ{a b} E hb A z=>?_) (W.nd.sublist (qH (p:=CG ks))));obtain⟨n,G,_⟩:=BD.mp (QZ.mp E).2;obtain⟨m,X,_⟩:=BD.mp (QZ.mp hb).2;subst G X;have z:n=m:=z;exact A (by rw[z])
 have K:=w.length_eq;refine⟨λc hc=>?_,MV j J,by rw[j.length_eq,K];omega,by omega,w.nodup_iff.mpr l,sc,λz=>q ((u g).mp (w.mem_iff.mp z)).1,?_,λs o=>?_⟩;obtain⟨s,o,i⟩:=I c (j.mem_iff.mp hc);have Z:=bV f s o;exact⟨i.chn f Z,(i.nd f Z).1,i.ng⟩;exact jb f hk q λn v x=>w.mem_iff.mpr ((u n).mpr ⟨v,x⟩);have v:=((u s).mp (w.mem_iff.mp o)).1;have x:=AA.mp (EH f.toBase.dom f.toBase.bg ((hk _).mp v));rw[f.keys]at x;have k:=(J5 C x).1;simp only[pr,tO,QAX,qi,Qd]at k;exact k.1
end
noncomputable def KQ(es:gC)(st:LS)(g:Str)(r:Rm)(kd:List (D×D))(o5 o6:Option Sl):kA:=[bD (.list (es.map pr)),bD (.tuple (st.map Jx)),bD (.str g),oW (zB r),bD (.dict kd),o5,o6]
section
variable{Ψ:PEv}{Z:PEnds}{es:gC}{st:LS}{g:Str}{r:Rm}
section
variable{q:PT}{h:List (D×D)}{o6:Option Sl}
theorem Yt(u:Ψ.sp "rooms_of"=OH)(z:Ψ.sp "points_reached"=nF)(y:es.length<=126)(x:st.length<=11)(k:∀ks vs,CF (jA es st g) ks vs->(∀p,p∈ks↔Rch (jA es st g) p)->pF Ψ q Z (KQ es st g (jA es st g) (UC ks vs) none none)) :
  pF Ψ (.seq (.own 3 (.call "rooms_of" %[.xz 0,.xz 1,.xz 2|1])) (.seq (.set 4 (.call "points_reached" %[.xz 3|1])) q)) Z [bD (.list (es.map pr)),bD (.tuple (st.map Jx)),bD (.str g),none,none,none,none]:=by
 have ok:=LR (g:=g) y x;delta KQ at k;simp_arith[↓xA (md:=[]) u rfl rfl,↓xA (md:=[.ky]) z rfl rfl];refine⟨_,_,_,rfl,⟨y,x⟩,?_⟩;simp_arith[↓CQ,↓xA (md:=[.ky]) z rfl rfl];refine⟨_,_,rfl,⟨(.inl rfl),ok.dom,ok.bg,ok.sz.1⟩,λks vs hc hk=>?_⟩;simp_arith[↓zf];exact k ks vs hc hk
theorem Jt(v:Ψ.sp "points_reached"=nF)(b:Ψ.sp "lay_chain"=OO){ks:List Pt}{vs:List D}(u:(jA es st g).length<=1000)(w:MJ es st)(f:Flow es st g r)(i:CF r ks vs)(a:tO g∈ks)
  (k:∀r' x y,Flow es st g r'->out es st g r' KA=out es st g r KA+1->CF r' x y->(∀p,p∈x↔Rch r' p)->Z.nx (KQ es st g r' (UC x y) none none)) :
  pF Ψ rC Z (KQ es st g r (UC ks vs) none none):=by
 delta KQ at k ⊢;delta rC;simp_arith[B2,↓ZG (md:=[]) b rfl rfl,↓xA (md:=[.ky]) v rfl rfl];refine⟨by omega,⟨_,_,_,_,_,_,rfl,⟨u,w,f,i,a⟩,λr' z e=>⟨_,rfl,?_⟩⟩⟩;simp_arith[↓CQ,↓xA (md:=[.ky]) v rfl rfl];refine⟨_,_,rfl,⟨(.inl rfl),z.toBase.dom,z.toBase.bg,(by rw[z.toBase.len];exact u)⟩,λx y hc hk=>?_⟩;simp_arith[↓zf];exact k r' x y z e hc hk
theorem gt(w:Ψ.va "BEGIN"=some (pr KA)){o5:Option Sl}(o:(jA es st g).length<=1000)(f:Flow es st g r)(k:pF Ψ q Z (KQ es st g r h (bD (.list ((cV r).map Jx))) o6)) :
  pF Ψ (.seq (.set 5 (.comp [] ["point"] (.nm 0) .val %[.idx (.xz 3) (.glo "BEGIN")|1] (.cmp .Gt (.idx (.idx (.xz 4) (.xz 0)) (.glo "BEGIN")) (.int 0)) (.idx (.xz 0) (.int 0)))) q) Z (KQ es st g r h o5 o6):=by
 have s:=f.toBase.inn KA;delta KQ at k ⊢;simp_arith[↓BH,↓kH w];refine pE f.toBase.bg ?_;simp_arith[↓v7,↓TZ];have m:((lk r KA).map λe=>pr e.1).map T.d=((lk r KA).map λe=>e.1).map λp=>T.d (pr p):=by rw[QS,QS];rfl
 rw[m];refine fA (λp=>T.d (pr p)) (λ(p:Pt)=>T.d (.str p.1)) (λy=>decide (0<rm r y KA)) ((lk r KA).map λe=>e.1) [] _ (λx b R z=>?_) (by show 0+((lk r KA).map λe=>e.1).length<=_;rw[QD];omega) ?_;obtain⟨e,i,j⟩:=QU.mp b;have n:CH r KA x:=dB.mpr ⟨e.2,by rw[<- j];exact i⟩;have u:CH r x KA:=(f.adj _ _).mpr (JB ((f.adj _ _).mp n));have a:Key r x:=by rw[AA,f.keys];exact cB ((f.adj _ _).mp u)
 obtain⟨v,hv⟩:=u;have ev:rm r x KA=v:=by unfold rm;rw[hv];rfl
 rw[ev]at z;simp_arith[↓BH,↓kH w];refine pE a ?_;simp_arith[↓LX,↓kH w];refine CO hv ?_;simp_arith[↓TQ];by_cases d:0<v;rw[dT d]at z ⊢;exact z;rw[dF d]at z ⊢;exact z;rw[Qg,oA (λp:Pt=>Jx p.1)];have l:((((lk r KA).map λe=>e.1).filter λy=>decide (0<rm r y KA)).map λp=>Jx p.1)=(cV r).map Jx:=by unfold cV xq;rw[QS];rfl
 rw[l];simp_arith[↓zA];exact k
theorem ft(a:Ψ.sp "chain_from"=PH)(u:(jA es st g).length<=1000)(b:st.length<=11)(f:Flow es st g r)(k:∀cs,Paired (λs c=>Run r g s c g) (cV r) cs->pF Ψ q Z (KQ es st g r h (bD (.list ((cV r).map Jx))) (bD (.list (cs.map eD))))) :
  pF Ψ (.seq (.set 6 (.comp [] ["first"] (.nm 0) .val %[.xz 5|1] .nop (.call "chain_from" %[.xz 4,.xz 0,.xz 3|1]))) q) Z (KQ es st g r h (bD (.list ((cV r).map Jx))) o6):=by
 have hl:=(ZJ f).2;delta KQ at k ⊢;simp_arith[↓zA];rw[<- oA Jx (cV r)];refine lO (λs c=>Run r g s c g) (λs=>T.d (.str s)) Co (cV r) [] _ (λx z R w=>?_) (by show 0+(cV r).length<=_;omega) λcs v=>?_;simp_arith[↓CQ,↓xA (md:=[.ky]) a rfl rfl];refine⟨_,_,_,_,_,rfl,⟨u,f,(bV f x z)⟩,λc y=>?_⟩;simp_arith[↓zA];exact w c y;rw[Qg];simp_arith[↓At];exact k cs v
end
end
section
variable{es u:gC}{F sr z:LS}{x:Str}{n:Int}
noncomputable def RH:PSp where
 run:=λy Q _=>∃(es:gC) (st:LS) (g:Str),y=[.d (.list (es.map pr)),.d (.tuple (st.map Jx)),.d (.str g)]/\(es.length<=126/\st.length<=11/\MJ es st)/\∀h cut,Good es st g h cut->Q (.tup [.lst ((h.map eD).map T.d),.lst ((cut.map Jx).map T.d)]) []
theorem A3{Ψ:PEv}(S:Ψ.sp "rooms_of"=OH)(G:Ψ.sp "points_reached"=nF)(R:Ψ.sp "lay_chain"=OO)(P:Ψ.sp "chain_from"=PH)(C:Ψ.sp "full_names"=SO)(O:Ψ.va "BEGIN"=some (pr KA))(ds Q E)(h:RH.run ds Q E):xw Ψ zG RH uG xF ds Q:=by
 obtain⟨es,st,g,rfl,⟨W,i,B⟩,q⟩:=h;have K:sizeLine=16777216:=qA;have j:(jA es st g).length<=1000:=(LR (g:=g) W i).sz.1;refine gA [bD (.list (es.map pr)),bD (.tuple (st.map Jx)),bD (.str g),none,none,none,none] ?_;refine Yt S G W i λo w H M=>?_;have b0:=ZJ (Vd (es:=es) (st:=st) (g:=g));delta KQ;simp_arith[↓zA];refine DH (λm Y=>∃r v b,(m:Int)+out es st g r KA=12/\Flow es st g r/\CF r v b/\(∀p,p∈v↔Rch r p)/\Y=KQ es st g r (UC v b) none none) (12 - out es st g (jA es st g) KA).toNat ⟨jA es st g,o,w,by omega,Vd,H,M,rfl⟩ ?_;rintro m Y ⟨r,v,b,em,f,y,hk,rfl⟩;have bd:=ZJ f;by_cases a:tO g∈v;have k:=λ(Z:PEnds) K=>Jt (Ψ:=Ψ) (Z:=Z) G R j B f y a K;unfold KQ at k;delta KQ;simp_arith[B2,↓Sd y.len y.hb];refine⟨by omega,?_⟩;rw[dT a];refine k _ λI s l X e c' N=>⟨m - 1,?_,I,s,l,?_,X,c',N,rfl⟩
 have:=ZJ X;omega;have:=ZJ X;omega;have A:pF Ψ %[.set 5 (.comp [] ["point"] (.nm 0) .val %[.idx (.xz 3) (.glo "BEGIN")|1] (.cmp .Gt (.idx (.idx (.xz 4) (.xz 0)) (.glo "BEGIN")) (.int 0)) (.idx (.xz 0) (.int 0))),.set 6 (.comp [] ["first"] (.nm 0) .val %[.xz 5|1] .nop (.call "chain_from" %[.xz 4,.xz 0,.xz 3|1])),.ret (.tup %[.bi .sorted %[.xz 6|1],.call "full_names" %[.xz 4|1]|1])|2] (eZ Q) (KQ es st g r (UC v b) none none):=by refine gt O j f (ft P j i f λcs k=>?_);have lc:=PL k;have l3:=FS f y.nd hk a;delta KQ;simp_arith[↓xA (md:=[]) C rfl rfl];refine yn (by omega) λds J=>?_;simp_arith[↓xA (md:=[]) C rfl rfl];refine⟨_,_,rfl,⟨y.len,y.hb,(QY (y.le f.toBase.dom f.toBase.bg) (by rw[f.toBase.len];exact j)),by omega⟩,λcut L sc=>?_⟩;simp_arith[Vn];exact⟨by omega,q ds cut (Ga f B i y hk a k J L sc)⟩
 unfold KQ at A;delta KQ;simp_arith[B2,↓Sd y.len y.hb];refine⟨by omega,?_⟩;rw[dF a];exact A
noncomputable def pV(es:gC)(F:LS):gC:=es.filter λe=>decide (e.1∈F)
theorem bQ{e:Str×Str}:e∈pV es F↔e∈es/\e.1∈F:=by unfold pV;rw[QZ,decide_eq_true_iff]
def JK(es:gC)(sr:LS)(x:Str)(F:LS)(n:Int):Prop:=∃h:List (LS),vJ h/\(∀c∈h,Chn (pV es F) sr x c x)/\n<=(h.length:Int)
theorem Chn.sub{g:Str}(w:∀e∈es,e∈u)(v:∀s∈sr,s∈z){c:LS}{n:Str}(h:Chn es sr g c n):Chn u z g c n:=by
 induction h with|st a b=>exact .st (v _ a) b|go _ b c y=>exact .go y b (w _ c)
theorem JK.sub{w:LS}{v:Int}(j:∀e∈es,e∈u)(i:∀s∈sr,s∈z)(g:∀y∈F,y∈w)(k:v<=n)(h:JK es sr x F n):JK u z x w v:=by obtain⟨p,a,c,l⟩:=h;refine⟨p,a,λd f=>Chn.sub (λe b=>?_) i (c d f),QAR k l⟩;obtain⟨o,m⟩:=bQ.mp b;exact bQ.mpr ⟨j e o,g _ m⟩
theorem O4{cs:List (LS)}{cut:LS}(h:Good (pV es F) sr x cs cut):JK es sr x F n↔n<=(cs.length:Int):=by constructor;rintro⟨y,a,c,l⟩;have:=cZ a c h.led;rw[<- h.len]at this;exact QAR l (QBE.mpr this);exact λl=>⟨cs,h.apart,λc hc=>(h.chn c hc).1,l⟩
inductive Held(es:gC)(sr:LS)(nd:List (Str×Int)):Str->Prop
 |see {x:Str}{n:Int}:(x,n)∈nd->x∈sr->Held es sr nd x
 |tell {x:Str}{n:Int}(F:LS):(x,n)∈nd->(∀y∈F,Held es sr nd y)->JK es sr x F n->Held es sr nd x
end
section
variable{es v:gC}{sr y:LS}{nd u:List (Str×Int)}
theorem N5{S:LS}(f:∀x∈S,Held es sr nd x)(e:∀x n,(x,n)∈nd->x∈sr->x∈S)(k:∀x n,(x,n)∈nd->x∉S->¬ JK es sr x S n)(x:Str):x∈S↔Held es sr nd x:=by
 refine⟨f x,λh=>?_⟩;induction h with|see a b=>exact e _ _ a b|@tell x n F a _ m w=>by_cases z:x∈S;exact z;exact absurd (m.sub (λ_ h=>h) (λ_ h=>h) w (QBb _)) (k x n a z)
theorem Held.sub(j:∀e∈es,e∈v)(g:∀s∈sr,s∈y)(f:∀x n,(x,n)∈nd->∃w,w<=n/\(x,w)∈u){x:Str}(h:Held es sr nd x):Held v y u x:=by
 induction h with|see a b=>obtain⟨w,_,m⟩:=f _ _ a;exact .see m (g _ b)|tell F a _ m i=>obtain⟨w,l,k⟩:=f _ _ a;exact .tell F k i (m.sub j g (λ_ z=>z) l)
theorem Ca{x:Str}(h:Held es sr nd x):∃n,(x,n)∈nd:=by
 cases h with|see a _=>exact⟨_,a⟩|tell _ a=>exact⟨_,a⟩
end
noncomputable def NH:PSp where
 md:=[.xx,.xx,.xy]
 run:=λz Q _=>∃(x:gC) (h F:LS) (g:Str),z=[.d (.tuple (x.map pr)),.d (.tuple (h.map Jx)),.lst ((F.map Jx).map T.d),.d (.str g)]/\(x.length<=126/\h.length<=11/\MJ x h)/\∀y cut,Good (pV x F) h g y cut->Q (.tup [.lst ((y.map eD).map T.d),.lst ((cut.map Jx).map T.d)]) []
theorem n9{Ψ:PEv}(w:Ψ.sp "apart_chains"=RH):AG Ψ dD NH vG kF:=by
 rintro _ Q _ ⟨h,u,F,g,rfl,⟨b,a,v⟩,q⟩;have k:(pV h F).length<=126:=QY (Q8 _ _) b;have z:MJ (pV h F) u:=⟨v.1,λe f=>v.2 e (bQ.mp f).1⟩
 refine gA [bD (.tuple (h.map pr)),bD (.tuple (u.map Jx)),some (.ky (.lst ((F.map Jx).map T.d))),bD (.str g)] ?_;delta dD;simp_arith[↓xA (md:=[]) w rfl rfl];rw[<- oA pr h];refine fA (λp=>T.d (pr p)) (λ(p:Str×Str)=>T.d (pr p)) (λp=>decide (p.1∈F)) h [] _ (λx l R y=>?_) (by show 0+h.length<=_;omega) ?_;simp_arith[↓TQ,RK,aI,FB,true_or];by_cases d:x.1∈F;rw[dT d]at y ⊢;exact y;rw[dF d]at y ⊢;exact y;rw[Qg,oA pr];simp_arith[↓xA (md:=[]) w rfl rfl];refine⟨_,_,_,rfl,⟨k,a,z⟩,λj cut i=>?_⟩;simp_arith[↓zA];exact q j cut i
section
variable{Ψ:PEv}{E:XE}{ρ:kA}{K:TK}{a b c h:PX}{ds:List D}{n m:Bool}{L:Bool->Prop}
def Al(x:T)(n:Bool)(Ψ:PEv)(b:PX)(E:XE)(ρ:kA)(K:TK):Prop:=sq (α:=Option Int) (pA x n) ρ (λρ R=>(pe Ψ b E).e ρ λu _ y=>aF u.er λo=>R o y) λu y=>fN (pA x n).vw none u λz k=>K z k y
def NL(x:T)(Q:Option Int->Prop):Prop:=aF x.er Q
theorem E1{i:Int}{Q:Option Int->Prop}:NL (.d (.int i)) Q=Q (some i):=rfl
theorem ug{x:T}{R:Option Int->kA->Prop}:sq (α:=Option Int) x ρ (λρ (R:Option Int->kA->Prop)=>R none ρ) R=R none ρ:=by unfold sq;split<;>rfl
theorem Pj{j:Nat}:oB Ψ (.slc a .nop (.xz j)) E ρ K=oB Ψ a E ρ λx n v=>Al x n Ψ (.xz j) E v K:=by show(pe Ψ a E).e ρ (λx n v=>sq (α:=Option Int) (pA x n) v (λρ (R:Option Int->kA->Prop)=>R none ρ) λl w=>sq (α:=Option Int) (pA x n) w (λρ R=>(pe Ψ (.xz j) E).e ρ λu _ y=>aF u.er λo=>R o y) λu y=>fN (pA x n).vw l u λz k=>K z k y)=_;simp only[ug];rfl
theorem xu{x:D}:Al (.d x) n Ψ b E ρ K=oB Ψ b E ρ λu _ y=>NL u λo=>dN (.d x) n none o λz k=>K z k y:=by cases n<;>rfl
theorem Sa(a b:List D):(T.tup [.lst (a.map T.d),.lst (b.map T.d)]).er=.tuple [.list a,.list b]:=by show PyData.tuple [.list (ersT (a.map T.d)),.list (ersT (b.map T.d))]=_;rw[RA,RA]
theorem gq{a b:List D}{m:Bool}{t:T}{R:T->Prop}:CA (.tup [.lst (a.map T.d),.lst (b.map T.d)]) true t m R=CA (.d (.tuple [.list a,.list b])) false t m R:=by
 have e:pA (.tup [.lst (a.map T.d),.lst (b.map T.d)]) true=.d (.tuple [.list a,.list b]):=by show T.d (T.tup [.lst (a.map T.d),.lst (b.map T.d)]).er=_;rw[Sa]
 unfold CA;rw[e];rfl
end
section
variable{Ψ:PEv}{E:XE}{ρ:kA}{a c h:PX}{W:LT->Prop}{R:Option T->Prop}{C:LT->Prop}{xs:List (T×Bool)}{ds:List D}{n m:Bool}
section
variable{md:List Md}{ts:LT}{b:Bool}{t u:Str}
theorem PB{v:PX}{M:List (T×Bool)->kA->Prop}:ML Ψ (.ny a v) E (.xx::md) ρ M=oB Ψ a E ρ λx n z=>t7 x n Ψ v E md z λxs y=>M ((x,n)::xs) y:=rfl
theorem Y7{d:D}:aB (.xx::md) ((.d d,n)::xs) C=aB md xs λts=>C (.d d::ts):=by
 have e:XA (.xx::md) ((.d d,n)::xs) []=(XA md xs []).map (.d d::·):=by cases n<;>rfl
 unfold aB;rw[e,eF]
theorem Ek:DK .val [(.lst ts,false)] W=W ts:=by unfold DK IB;exact nI ts
theorem Io{m:List Bool}{x y:D}{op:CmpOp}:KI Ψ E (b::m) [t,u] (.tp [0,1]) (.cmp op a c) h ρ (.d (.tuple [x,y])) R=LQ Ψ (.cmp op a c) E (bD x::bD y::ZC (b::m) (lockA ρ)) λk z=>if k=true then oB Ψ h E z λy n _=>XC y n (R (some y)) else R none:=MB
theorem Kt{m:List Bool}{x y:T}:KI Ψ E (b::m) [t,u] (.tp [0,1]) .nop h ρ (.tup [x,y]) R=oB Ψ h E (some (.ky x)::some (.ky y)::ZC (b::m) (lockA ρ)) λy n _=>XC y n (R (some y)):=MB
theorem uw:dM ((.lst [],true)::xs) C=dM xs λts=>C (.lst []::ts):=Tt (ds:=[])
theorem Zn{d:D}:uE [.d d,.lst ts]=.tup [.d d,.lst ts]:=rfl
theorem Mo{i j:Int}{L:Bool->Prop}:UB .GtE (.d (.int i)) (.d (.int j)) L=L (decide (j<=i)):=rfl
end
end
noncomputable abbrev Rw:=Str×List (LS)
noncomputable def lJ(r:Rw):T:=.tup [.d (.str r.1),.lst ((r.2.map eD).map T.d)]
noncomputable def MQ(p:Str×Int):D:=.tuple [.str p.1,.int p.2]
noncomputable def zZ(es:gC)(sr:LS)(nd:List (Str×Int))(h:List Rw)(F:LS)(b:Bool)(o6 o7 o8:Option Sl):kA:=[bD (.tuple (es.map pr)),bD (.tuple (sr.map Jx)),bD (.list (nd.map MQ)),oW (.lst (h.map lJ)),oW (.lst ((F.map Jx).map T.d)),bD (.bool b),o6,o7,o8]
section
variable{Ψ:PEv}{Z:PEnds}{es:gC}{sr:LS}{nd:List (Str×Int)}{q:PT}
section
variable{o5 o6 o7 o8:Option Sl}{h:List Rw}
noncomputable def sR(sr:LS)(nd:List (Str×Int)):List Rw:=(nd.filter λp=>decide (p.1∈sr)).map λp=>(p.1,[])
theorem Ks(hl:nd.length<=100){o4:Option Sl}(k:pF Ψ q Z [bD (.tuple (es.map pr)),bD (.tuple (sr.map Jx)),bD (.list (nd.map MQ)),oW (.lst ((sR sr nd).map lJ)),o4,o5,o6,o7,o8]) :
  pF Ψ (.seq (.own 3 (.comp [false,false,false,false,false,false,true,true] ["name","number"] (.tp [0,1]) .val %[.xz 2|1] (.cmp .In (.xz 0) (.xz 3)) (.tup %[.xz 0,.lst .nz|1]))) q) Z [bD (.tuple (es.map pr)),bD (.tuple (sr.map Jx)),bD (.list (nd.map MQ)),none,o4,o5,o6,o7,o8]:=by
 simp_arith[↓zA];rw[<- oA MQ nd];refine fA (λp=>T.d (MQ p)) (λ(p:Str×Int)=>lJ (p.1,[])) (λp=>decide (p.1∈sr)) nd [] _ (λx z R y=>?_) (by show 0+nd.length<=_;omega) ?_;obtain⟨x,n⟩:=x;delta MQ;simp_arith[↓Io,RK,aI,FB,true_or];by_cases d:x∈sr;rw[dT d]at y ⊢;simp_arith[↓uw,↓Zn];exact⟨by omega,by omega,y⟩;rw[dF d]at y ⊢;exact y;rw[Qg];have e:(nd.filter λp=>decide (p.1∈sr)).map (λp=>lJ (p.1,[]))=(sR sr nd).map lJ:=by unfold sR;rw[QS];rfl
 rw[e];exact k
theorem Zs(hl:h.length<=100)(k:pF Ψ q Z [bD (.tuple (es.map pr)),bD (.tuple (sr.map Jx)),bD (.list (nd.map MQ)),oW (.lst (h.map lJ)),oW (.lst (((h.map λr=>r.1).map Jx).map T.d)),o5,o6,o7,o8]) :
  pF Ψ (.seq (.own 4 (.comp [false,false,false,false,false,false,true,false,true] ["name","chains"] (.tp [0,1]) .val %[.xz 3|1] .nop (.xz 0))) q) Z [bD (.tuple (es.map pr)),bD (.tuple (sr.map Jx)),bD (.list (nd.map MQ)),oW (.lst (h.map lJ)),none,o5,o6,o7,o8]:=by
 simp_arith[↓Ek];refine gB lJ (λr=>T.d (.str r.1)) h [] _ (λx z R y=>?_) (by show 0+h.length<=_;omega) ?_;delta lJ;simp_arith[↓Kt];exact y;rw[Qg,oA (λr:Rw=>Jx r.1)];have e:(h.map λr=>Jx r.1)=(h.map λr=>r.1).map Jx:=by rw[QS];rfl
 rw[e];exact k
theorem Ys(f:Ψ.sp "told_through"=NH){F:LS}{b:Bool}{x:Str}{n:Int}(a:es.length<=126)(k:sr.length<=11)(e:MJ es sr)(j:h.length<=100)(i:F.length<=100)
  (w:x∈F->∀o8,Z.nx (zZ es sr nd h F b (bD (.str x)) (bD (.int n)) o8))
  (v:x∉F->¬ JK es sr x F n->∀o8,Z.nx (zZ es sr nd h F b (bD (.str x)) (bD (.int n)) o8))
  (u:x∉F->JK es sr x F n->∀cs o8,Z.nx (zZ es sr nd (h++[(x,cs)]) (F++[x]) true (bD (.str x)) (bD (.int n)) o8)) :
  pF Ψ pC Z (zZ es sr nd h F b (bD (.str x)) (bD (.int n)) o8):=by
 delta zZ at w v u ⊢;delta pC;simp_arith[RK,aI,FB,true_or];by_cases d:x∈F;rw[dT d];exact w d _;rw[dF d];simp_arith[↓PB,↓Y7,↓xA (md:=[.xx,.xx,.xy]) f rfl rfl];refine⟨_,_,_,_,rfl,⟨a,k,e⟩,λcs cut g=>?_⟩;have y:=O4 (n:=n) g;simp_arith[↓gq,↓rj,↓Mo,QD];by_cases c:n<=(cs.length:Int);rw[dT c];simp_arith[↓Pj,↓xu,↓E1,↓Zn];rw[pQ];refine⟨by omega,by omega,by rw[QD,QD];omega,?_⟩;have:=u d (y.mpr c) (DE cs none (some n)) (bD (.list (cs.map eD)));rw[QO,QO,QO]at this;exact this;rw[dF c];exact v d (λz=>c (y.mp z)) _
end
end
structure GI(es:gC)(sr:LS)(nd:List (Str×Int))(rs:List Rw)(F:LS):Prop where
 e:F=rs.map λr=>r.1
 ndp:F.Nodup
 held:∀x∈F,Held es sr nd x
 see:∀x n,(x,n)∈nd->x∈sr->x∈F
 non:∀r∈rs,r.1∈sr->r.2=[]
section
variable{es:gC}{sr:LS}{nd:List (Str×Int)}{u:List Rw}{F:LS}
theorem GI.len(g:GI es sr nd u F):F.length<=nd.length:=by
 have:=CP (ns:=nd.map λp=>p.1) g.ndp λs x=>by obtain⟨n,h⟩:=Ca (g.held s x);exact QU.mpr ⟨_,h,rfl⟩
 rw[QD]at this;exact this
theorem GI.rlen(g:GI es sr nd u F):u.length=F.length:=by rw[g.e,QD]
theorem js(h:(nd.map λp=>p.1).Nodup):GI es sr nd (sR sr nd) ((sR sr nd).map λr=>r.1):=by
 have e:((sR sr nd).map λr=>r.1)=(nd.filter λp=>decide (p.1∈sr)).map λp=>p.1:=by unfold sR;rw[QS];rfl
 refine⟨rfl,?_,λx y=>?_,λx n y v=>?_,λr z _=>?_⟩;rw[e];exact h.sublist (qH.map _);rw[e]at y;obtain⟨p,w,rfl⟩:=QU.mp y;obtain⟨a,k⟩:=QZ.mp w;exact .see (n:=p.2) a (of_decide_eq_true k);rw[e];exact QU.mpr ⟨(x,n),QZ.mpr ⟨y,dT v⟩,rfl⟩;unfold sR at z;obtain⟨p,_,rfl⟩:=QU.mp z;rfl
theorem GI.add(g:GI es sr nd u F){x:Str}{n:Int}(w:(x,n)∈nd)(f:x∉F)(m:JK es sr x F n)(cs:List (LS)):GI es sr nd (u++[(x,cs)]) (F++[x]):=by
 refine⟨by rw[QO,<- g.e];rfl,qh.mpr ⟨g.ndp,Qi.mpr ⟨λz=>(nomatch z),Q7⟩,λa j b hb e=>?_⟩,λy v=>?_,λy k v h=>Qp _ (g.see y k v h),λr i h=>?_⟩;rw[QJ.mp hb]at e;exact f (e▸j);rcases Qh.mp v with z|z
 ·exact g.held y z
 rw[QJ.mp z];exact .tell F w g.held m;rcases Qh.mp i with z|z
 ·exact g.non r z h
 rw[QJ.mp z]at h;exact absurd (g.see x n w h) f
end
noncomputable def SH:PSp where
 run:=λu Q _=>∃(y:gC) (h:LS) (nd:List (Str×Int)),u=[.d (.tuple (y.map pr)),.d (.tuple (h.map Jx)),.d (.list (nd.map MQ))]/\(y.length<=126/\h.length<=11/\MJ y h/\nd.length<=90/\(nd.map λp=>p.1).Nodup)/\∀z F,GI y h nd z F->(∀x,x∈F↔Held y h nd x)->Q (.lst (z.map lJ)) []
theorem xY{es:gC}{sr:LS}{nd:List (Str×Int)}{K:T->LT->Prop}{E:XE}(l:es.length<=126/\sr.length<=11/\MJ es sr/\nd.length<=90/\(nd.map λp=>p.1).Nodup)(q:∀h F,GI es sr nd h F->(∀x,x∈F↔Held es sr nd x)->K (.lst (h.map lJ)) []):eR SH [.d (.tuple (es.map pr)),.d (.tuple (sr.map Jx)),.d (.list (nd.map MQ))] K E:=⟨es,sr,nd,rfl,l,q⟩
section
variable{Ψ:PEv}{Z:PEnds}{es:gC}{sr:LS}{nd:List (Str×Int)}{u:List Rw}{F:LS}
theorem Js(L:Ψ.sp "told_through"=NH)(G:es.length<=126)(E:sr.length<=11)(J:MJ es sr)(O:nd.length<=90){b:Bool}{o6 o7 o8:Option Sl}(g:GI es sr nd u F)
  (k:∀v w a o6 o7 o8,GI es sr nd v w->F.length<=w.length->(a=true->F.length<w.length)->(a=false->∀x n,(x,n)∈nd->x∉w->¬ JK es sr x w n)->Z.nx (zZ es sr nd v w a o6 o7 o8)) :
  pF Ψ oC Z (zZ es sr nd u F b o6 o7 o8):=by
 delta zZ;delta oC;simp_arith[↓zA];rw[<- oA MQ nd];refine EA (λ(p:Str×Int)=>T.d (MQ p)) (λl r=>∃v w a o6 o7 o8,GI es sr nd v w/\(∀p∈l,p∈nd)/\F.length<=w.length/\(a=true->F.length<w.length)/\(a=false->∀x n,(x,n)∈nd->(x,n)∈l∨x∈w∨¬ JK es sr x w n)/\r=zZ es sr nd v w a o6 o7 o8) ?_ ?_ _ _ ⟨u,F,false,_,_,_,g,λ_ z=>z,QW _,λz=>(nomatch z),λ_ x n h=>.inl h,rfl⟩;rintro r ⟨v,w,a,B,A,K,f,_,q,o,j,rfl⟩;exact k v w a _ _ _ f q o λhb x n Y i=>((j hb x n Y).resolve_left λz=>(nomatch z)).resolve_left i;rintro⟨x,n⟩ l r N W ⟨v,w,a,B,A,K,f,m,q,o,j,rfl⟩;have Y:=m _ QF;have s:∀p∈l,p∈nd:=λp I=>m p (QE _ I);have Q:=f.len;have P:=f.rlen;refine fF.mk rfl ?_;refine Ys (x:=x) (n:=n) L G E J (by omega) (by omega) (λi o8=>W _ ⟨v,w,a,_,_,_,f,s,q,o,λhb y k X=>?_,rfl⟩) (λi nm o8=>W _ ⟨v,w,a,_,_,_,f,s,q,o,λhb y k X=>?_,rfl⟩) λi C M o8=>W _ ⟨_,_,true,_,_,_,f.add Y i C M,s,?_,λ_=>?_,λz=>(nomatch z),rfl⟩;rcases j hb y k X with z|z
 ·rcases QL.mp z with e|z
  ·cases e
   exact .inr (.inl i)
  exact .inl z
 exact .inr z;rcases j hb y k X with z|z
 ·rcases QL.mp z with e|z
  ·cases e
   exact .inr (.inr nm)
  exact .inl z
 exact .inr z;rw[QI,qI];omega;rw[QI,qI];omega
end
theorem E3{Ψ:PEv}(p:Ψ.sp "told_through"=NH):AG Ψ yG SH xG vF:=by
 rintro _ Q _ ⟨es,sr,nd,rfl,⟨i,f,l,e,o⟩,q⟩;refine gA [bD (.tuple (es.map pr)),bD (.tuple (sr.map Jx)),bD (.list (nd.map MQ)),none,none,none,none,none,none] ?_;have g0:=js (es:=es) (sr:=sr) o;have K:=g0.len;have W:=g0.rlen;refine Ks (by omega) (Zs (by omega) ?_);simp_arith[↓zA];refine DH (λm u=>∃h F b o6 o7 o8,m=2 * (nd.length - F.length)+(if b=true then 1 else 0)/\GI es sr nd h F/\(b=false->∀x n,(x,n)∈nd->x∉F->¬ JK es sr x F n)/\u=zZ es sr nd h F b o6 o7 o8) _ ⟨_,_,true,none,none,none,rfl,g0,λz=>(nomatch z),rfl⟩ ?_;rintro m u ⟨h,F,b,o6,o7,o8,k,g,r,rfl⟩;cases b with
 |true =>
  have v:=λ(Z:PEnds) j=>Js (Ψ:=Ψ) (Z:=Z) (b:=true) (o6:=o6) (o7:=o7) (o8:=o8) p i f l e g j;unfold zZ at v;delta zZ;simp_arith[↓zA];refine v _ λy Y a o6 o7 o8 w A X s=>⟨_,?_,y,Y,a,o6,o7,o8,rfl,w,s,rfl⟩
  have:=w.len;cases a with|true=>have:=X rfl;rw[k,if_pos rfl];omega|false=>rw[k,if_pos rfl,if_neg QG];omega
 |false=>delta zZ;simp_arith[↓zA];exact q h F g λx=>N5 g.held g.see (r rfl) x
noncomputable def xJ(p:Str×Int×Int×Int):D:=.tuple [.str p.1,.int p.2.1,.int p.2.2.1,.int p.2.2.2]
inductive Evt where
 |see (t:Int) (p m w:Str)|tell (t:Int) (a b m w:Str) (by_:LS)
noncomputable def dC:Evt->D
 | .see t p m w=>.tuple [.str "see",.int t,.str p,.str m,.str w]|.tell t a b m w q=>.tuple [.str "tell",.int t,.str a,.str b,.str m,.str w,.tuple (q.map Jx)]
structure Wd where
 ps:List (Str×Int×Int×Int)
 ms:LS
 ag:gC
 es:List Evt
noncomputable def wD(w:Wd):D:=.tuple [.list (w.ps.map xJ),.list (w.ms.map Jx),.list (w.ag.map pr),.list (w.es.map dC)]
section
variable{w:Wd}{p:Str×Int×Int×Int}{n m:Bool}{R:T->Prop}
theorem DA{ds:List D}{i:Nat}{d:D}(h:ds[i]?=some d):CA (.d (.tuple ds)) n (.d (.int (i:Int))) m R=R (.d d):=by rw[NZ,show AD ds (i:Int)=some d from yF h,MB]
theorem SQ:CA (.d (wD w)) n (.d (.int 0)) m R=R (.d (.list (w.ps.map xJ))):=DA (i:=0) rfl
theorem GZ:CA (.d (wD w)) n (.d (.int 1)) m R=R (.d (.list (w.ms.map Jx))):=DA (i:=1) rfl
theorem Cf:CA (.d (wD w)) n (.d (.int 2)) m R=R (.d (.list (w.ag.map pr))):=DA (i:=2) rfl
theorem RQ:CA (.d (wD w)) n (.d (.int 3)) m R=R (.d (.list (w.es.map dC))):=DA (i:=3) rfl
theorem SK:CA (.d (xJ p)) n (.d (.int 0)) m R=R (.d (.str p.1)):=DA (i:=0) rfl
theorem oq:CA (.d (xJ p)) n (.d (.int 1)) m R=R (.d (.int p.2.1)):=DA (i:=1) rfl
theorem nq:CA (.d (xJ p)) n (.d (.int 2)) m R=R (.d (.int p.2.2.1)):=DA (i:=2) rfl
theorem mq:CA (.d (xJ p)) n (.d (.int 3)) m R=R (.d (.int p.2.2.2)):=DA (i:=3) rfl
end
noncomputable def zM(w:Wd):List (Str×Int):=w.ps.map λp=>(p.1,p.2.2.2)
noncomputable def cU:PSp where
 run:=λh Q _=>∃w:Wd,h=[.d (wD w)]/\w.ps.length<=90/\Q (.lst (((zM w).map MQ).map T.d)) []
theorem nh{Ψ:PEv}:AG Ψ JH cU TM TJ:=by
 rintro _ Q _ ⟨w,rfl,l,q⟩;refine gA [bD (wD w)] ?_;delta JH;simp_arith[↓SQ];rw[<- oA xJ];refine gB (λp=>T.d (xJ p)) (λp=>T.d (MQ (p.1,p.2.2.2))) w.ps [] _ (λx y R h=>?_) (by show 0+w.ps.length<=_;omega) ?_;simp_arith[↓SK,↓mq];exact⟨by omega,h⟩;rw[Qg,oA λp:Str×Int×Int×Int=>MQ (p.1,p.2.2.2)];have e:(w.ps.map λp=>MQ (p.1,p.2.2.2))=(zM w).map MQ:=by unfold zM;rw[QS];rfl
 rw[e];exact q
noncomputable def ED(es:gC)(sr:LS):D:=.tuple [.tuple (sr.map Jx),.tuple (es.map pr)]
section
variable{es:gC}{sr:LS}{n m:Bool}{R:T->Prop}
theorem Yq:CA (.d (ED es sr)) n (.d (.int 0)) m R=R (.d (.tuple (sr.map Jx))):=DA (i:=0) rfl
theorem Jq:CA (.d (ED es sr)) n (.d (.int 1)) m R=R (.d (.tuple (es.map pr))):=DA (i:=1) rfl
end
noncomputable def ZK:PSp where
 run:=λz Q _=>∃(w:Wd) (y:gC) (h:LS),z=[.d (wD w),.d (ED y h)]/\(y.length<=126/\h.length<=11/\MJ y h/\w.ps.length<=90/\(w.ps.map λp=>p.1).Nodup)/\∀l:LS,(∀x,x∈l↔Held y h (zM w) x)->l.length<=90->Q (.lst ((l.map Jx).map T.d)) []
theorem Ak{ts:LT}{W:LT->Prop}:DK .val [(.lst ts,true)] W=W ((ersT ts).map T.d):=nI _
theorem Ui(r:Rw):(lJ r).er=.tuple [.str r.1,.list (ersT ((r.2.map eD).map T.d))]:=rfl
theorem e9{Ψ:PEv}(l:Ψ.sp "ground_alone"=SH)(j:Ψ.sp "needs_of"=cU):AG Ψ AE ZK SI NG:=by
 rintro _ Q _ ⟨w,m,z,rfl,⟨a,k,b,y,nd⟩,q⟩;have v:(zM w).length<=90:=by unfold zM;rw[QD];exact y
 have u:((zM w).map λp=>p.1).Nodup:=by unfold zM;rw[QS];exact nd
 refine gA [bD (wD w),bD (ED m z)] ?_;delta AE;simp_arith[↓Yq,↓Jq,↓xA (md:=[]) l rfl rfl,↓xA (md:=[]) j rfl rfl];refine⟨_,rfl,y,?_⟩;simp_arith[↓zA];refine xY ⟨a,k,b,v,u⟩ λh F g i=>?_;rw[Ak];have fl:=g.len;have rl:h.length=F.length:=by rw[g.e,QD]
 rw[HK,QS,QS];refine⟨rfl,?_⟩;refine gB (λr=>T.d (lJ r).er) (λr=>T.d (.str r.1)) h [] _ (λx n R f=>?_) (by show 0+h.length<=_;omega) ?_;rw[Ui];simp_arith[↓zA];exact f;rw[Qg,oA (λr:Rw=>Jx r.1)];have e:(h.map λr=>Jx r.1)=F.map Jx:=by rw[g.e,QS];rfl
 rw[e];exact q F i (by omega)
noncomputable def lA(h:List Evt)(n:Nat):Evt:=(h[n]?).getD (.see 0 "" "" "")
def sC(e:Evt):Prop:=∃t a b m w q,e=.tell t a b m w q
noncomputable def Fn:Evt->Str
 | .see _ _ m _=>m|.tell _ _ _ m _ _=>m
noncomputable def FG:Evt->Str×Str
 | .see _ p m _=>(p,m)|.tell _ a b _ _ _=>(a,b)
def nD(n:Nat):D:=.int (n:Int)
theorem bN{x:List Evt}{i:Nat}{n m:Bool}{R:T->Prop}(h:i<x.length):CA (.d (.list (x.map dC))) n (.d (nD i)) m R=R (.d (dC (lA x i))):=by delta nD;rw[Ff,show AD (x.map dC) (i:Int)=some (dC (lA x i)) from yF (by rw[QX,Qe h];unfold lA;rw[Qe h];rfl),MB]
section
variable{e:Evt}{n m:Bool}{R:T->Prop}
theorem Pb(h:sC e):CA (.d (dC e)) n (.d (.int 2)) m R=R (.d (.str (FG e).1)):=by obtain⟨t,a,b,x,w,q,rfl⟩:=h;exact DA (i:=2) rfl
theorem Ob(h:sC e):CA (.d (dC e)) n (.d (.int 3)) m R=R (.d (.str (FG e).2)):=by obtain⟨t,a,b,x,w,q,rfl⟩:=h;exact DA (i:=3) rfl
theorem Dk(h:sC e):CA (.d (dC e)) n (.d (.int 4)) m R=R (.d (.str (Fn e))):=by obtain⟨t,a,b,x,w,q,rfl⟩:=h;exact DA (i:=4) rfl
end
section
variable{Ψ:PEv}{ks:List Pt}{L:Bool->Prop}
theorem Rc{ds:List D}{Q:T->Bool->Prop}:PK .tuple [(.lst (ds.map T.d),true)] Q=Q (.d (.tuple ds)) false:=by unfold PK IB;show XX .tuple [.ls ((ersT (ds.map T.d)).map T.d)] Q=_;rw[RA,ye];exact propext ⟨λ⟨_,e,q⟩=>by rw[VA]at e;cases e;exact q,λq=>⟨_,VA _,q⟩⟩
noncomputable def BE(h:List Evt)(x:LN)(m:Str):gC:=(x.filter λn=>decide (Fn (lA h n)=m)).map λn=>FG (lA h n)
noncomputable def AO:PSp where
 run:=λy Q _=>∃(h:List Evt) (x:LN) (m:Str),y=[.d (.list (h.map dC)),.d (.list (x.map nD)),.d (.str m)]/\x.length<=100/\(∀n∈x,n<h.length/\sC (lA h n))/\Q (.d (.tuple ((BE h x m).map pr))) []
theorem Jh:AG Ψ XH AO zN zK:=by
 rintro _ Q _ ⟨h,y,m,rfl,l,a,q⟩;refine gA [bD (.list (h.map dC)),bD (.list (y.map nD)),bD (.str m),none] ?_;delta XH;simp_arith[↓zA];rw[<- oA nD];refine fA (λn=>T.d (nD n)) (λn=>T.d (dC (lA h n))) (λn=>decide (Fn (lA h n)=m)) y [] _ (λx v R u=>?_) (by show 0+y.length<=_;omega) ?_;simp_arith[↓bN (a x v).1,↓Dk (a x v).2];split at u;rename_i c;rw[if_pos c];exact u;rename_i c;rw[if_neg c];exact u;rw[Qg,oA λn=>dC (lA h n)];simp_arith[↓zA];rw[<- oA λn=>dC (lA h n)];refine gB (λn=>T.d (dC (lA h n))) (λn=>T.d (pr (FG (lA h n)))) _ [] _ (λx v R u=>?_) (by show 0+(List.filter _ y).length<=_;have:=Q8 (λn=>decide (Fn (lA h n)=m)) y;omega) ?_;have z:=(QZ.mp v).1;simp_arith[↓Pb (a x z).2,↓Ob (a x z).2];exact⟨by omega,u⟩;rw[Qg,oA λn=>pr (FG (lA h n)),Rc];have e:((y.filter λn=>decide (Fn (lA h n)=m)).map λn=>pr (FG (lA h n)))=(BE h y m).map pr:=by unfold BE;rw[QS];rfl
 rw[e];simp_arith[↓zA];exact q
noncomputable def PJ(w:Wd)(x:Str):LJ:=(w.ps.filter λp=>decide (p.1=x)).map λp=>p.2.1
noncomputable def NO:PSp where
 run:=λh Q _=>∃(w:Wd) (x:Str) (r:Int),h=[.d (wD w),.d (.str x)]/\w.ps.length<=90/\(PJ w x)[0]?=some r/\Q (.d (.int r)) []
theorem r9:AG Ψ UJ NO KO CL:=by
 rintro _ Q _ ⟨w,x,r,rfl,l,a,q⟩;refine gA [bD (wD w),bD (.str x)] ?_;delta UJ;simp_arith[↓SQ];rw[<- oA xJ];refine fA (λp=>T.d (xJ p)) (λp=>T.d (.int p.2.1)) (λp=>decide (p.1=x)) w.ps [] _ (λp z R h=>?_) (by show 0+w.ps.length<=_;omega) ?_;simp_arith[↓SK,↓oq];split at h;rename_i c;rw[if_pos c];exact h;rename_i c;rw[if_neg c];exact h;rw[Qg,oA λp:Str×Int×Int×Int=>Jy p.2.1];have e:((w.ps.filter λp=>decide (p.1=x)).map λp=>Jy p.2.1)=(PJ w x).map Jy:=by unfold PJ;rw[QS];rfl
 rw[e];have y:AD ((PJ w x).map Jy) 0=some (.int r):=yF (j:=0) (by rw[QX,a];rfl);simp_arith[y];exact q
noncomputable def HF(w:Wd)(x:Str):LJ:=(w.ps.filter λp=>decide (p.1=x)).map λp=>p.2.2.1
noncomputable def rL:PSp where
 run:=λh Q _=>∃(w:Wd) (x:Str) (r:Int),h=[.d (wD w),.d (.str x)]/\w.ps.length<=90/\(HF w x)[0]?=some r/\Q (.d (.int r)) []
theorem P3:AG Ψ VH rL yN yK:=by
 rintro _ Q _ ⟨w,x,r,rfl,l,a,q⟩;refine gA [bD (wD w),bD (.str x)] ?_;delta VH;simp_arith[↓SQ];rw[<- oA xJ];refine fA (λp=>T.d (xJ p)) (λp=>T.d (.int p.2.2.1)) (λp=>decide (p.1=x)) w.ps [] _ (λp z R h=>?_) (by show 0+w.ps.length<=_;omega) ?_;simp_arith[↓SK,↓nq];split at h;rename_i c;rw[if_pos c];exact h;rename_i c;rw[if_neg c];exact h;rw[Qg,oA λp:Str×Int×Int×Int=>Jy p.2.2.1];have e:((w.ps.filter λp=>decide (p.1=x)).map λp=>Jy p.2.2.1)=(HF w x).map Jy:=by unfold HF;rw[QS];rfl
 rw[e];have y:AD ((HF w x).map Jy) 0=some (.int r):=yF (j:=0) (by rw[QX,a];rfl);simp_arith[y];exact q
noncomputable def bK(ks:List Pt):T:=.dct true (ks.map pr) (ks.map λ_=>T.d (.bool true))
noncomputable def BQ(ks:List Pt)(p:Pt):List Pt:=if p∈ks then ks else ks++[p]
theorem JT(ks:List Pt)(p:Pt):(BQ ks p).length<=ks.length+1:=by unfold BQ;split;omega;simp
theorem PN{α h:Type}(c:h):∀(l:List α) (n:Nat),(l.map λ_=>c).set n c=l.map λ_=>c
 |[],_=>rfl|_::_,0=>rfl|x::l,n+1=>by show c::(l.map λ_=>c).set n c=_;rw[PN c l n];rfl
theorem xc{p:Pt}{Q:T->Prop}(hl:ks.length<sizeLine)(q:Q (bK (BQ ks p))):bc (bK ks) (.d (pr p)) (.d (.bool true)) Q:=by
 refine⟨NB p,by rw[QD];exact hl,?_⟩;show Q (oJ true (ks.map pr) (ks.map λ_=>T.d (.bool true)) (pr p) (.d (.bool true)));unfold BQ at q;unfold oJ;by_cases c:p∈ks;rw[if_pos c]at q;cases e:bA (ks.map pr) (pr p) with|none=>exact absurd (fP.mpr c) (OA.mp e)|some n=>show Q (.dct true (ks.map pr) ((ks.map λ_=>T.d (.bool true)).set n (.d (.bool true))));rw[PN];exact q
 rw[if_neg c]at q;rw[OA.mpr λz=>c (fP.mp z)];unfold bK at q;rw[QO,QO]at q;exact q
theorem Ho{q:Pt}:UB .In (.d (pr q)) (bK ks) L=L (decide (q∈ks)):=by unfold bK;rw[D6,eI];exact propext ⟨λh=>h.2,λh=>⟨NB q,h⟩⟩
theorem jj{q:Pt}:UB .NotIn (.d (pr q)) (bK ks) L=L (!decide (q∈ks)):=by unfold bK;rw[DM,eI];exact propext ⟨λh=>h.2,λh=>⟨NB q,h⟩⟩
noncomputable def yE(h:List Evt)(ks:List Pt)(n:Nat):List Pt:=match lA h n with
 | .see _ p m _=>BQ ks (p,m)|_=>ks
noncomputable def xB(h:List Evt)(l:LN):List Pt:=l.foldl (yE h) []
noncomputable def VZ:Evt->Str
 | .see _ _ _ _=>"see"|.tell _ _ _ _ _ _=>"tell"
end
section
variable{e:Evt}{n m:Bool}{R:T->Prop}{t:Int}{p h w:Str}
theorem AQ:CA (.d (dC e)) n (.d (.int 0)) m R=R (.d (.str (VZ e))):=by cases e;exact DA (i:=0) rfl;exact DA (i:=0) rfl
theorem Rb:CA (.d (dC (.see t p h w))) n (.d (.int 2)) m R=R (.d (.str p)):=DA (i:=2) rfl
theorem OZ:CA (.d (dC (.see t p h w))) n (.d (.int 3)) m R=R (.d (.str h)):=DA (i:=3) rfl
end
section
variable{Ψ:PEv}{ks z:List Pt}{a b:Str}{L:Bool->Prop}{ns:LJ}
theorem oM{c a b:Prop}[Decidable c](h:¬ c)(q:b):if c then a else b:=by rw[if_neg h];exact q
noncomputable def kr(h:List Evt)(l:LN)(ks:List Pt)(o3:Option Sl):kA:=[bD (.list (h.map dC)),some (.ky (.lst (l.map λn=>T.d (nD n)))),oW (bK ks),o3]
noncomputable def YK:PSp where
 md:=[.xx,.xy]
 run:=λx Q _=>∃(h:List Evt) (l:LN),x=[.d (.list (h.map dC)),.lst ((l.map nD).map T.d)]/\l.length<=100/\(∀n∈l,n<h.length)/\Q (bK (xB h l)) []
theorem p9:AG Ψ FE YK OI LG:=by
 rintro _ Q _ ⟨h,l,rfl,hl,j,q⟩;refine gA [bD (.list (h.map dC)),some (.ky (.lst ((l.map nD).map T.d))),none,none] ?_;delta FE;simp_arith[↓zA];rw[<- oA nD];refine EA (λn=>T.d (nD n)) (λr y=>∃ks u,r.foldl (yE h) ks=xB h l/\ks.length+r.length<=100/\(∀n∈r,n<h.length)/\y=kr h l ks u) ?_ ?_ l _ ⟨[],none,rfl,by simpa using hl,j,rfl⟩;rintro y ⟨ks,u,e,_,_,rfl⟩;have e:ks=xB h l:=e;subst e;delta kr;simp_arith[↓zA];exact q;rintro n r y N i ⟨ks,u,e,hk,k,rfl⟩;have g:ks.length+(r.length+1)<=100:=hk;have f:=k n QF;delta kr;delta SF;simp_arith[↓bN f,↓AQ];have e:r.foldl (yE h) (yE h ks n)=xB h l:=e;unfold yE at e;cases ev:lA h n with|see t p m w=>rw[ev]at e;simp_arith[VZ,↓Rb,↓OZ];rw[bN f,ev];simp_arith[↓OZ];exact⟨by omega,xc (p:=(p,m)) (by omega) (i _ ⟨BQ ks (p,m),_,e,by have:=JT ks (p,m);omega,λx v=>k x (QE _ v),rfl⟩)⟩|tell t a b m w o=>rw[ev]at e;refine oM (show decide ((QR "tell")=(QR "see"))≠true by decide) ?_;exact i _ ⟨ks,_,e,by omega,λx v=>k x (QE _ v),rfl⟩
theorem iQ:UB .In (.d (.tuple [.str a,.str b])) (bK ks) L=L (decide ((a,b)∈ks)):=Ho (q:=(a,b))
theorem ZX:UB .NotIn (.d (.tuple [.str a,.str b])) (bK ks) L=L (!decide ((a,b)∈ks)):=jj (q:=(a,b))
noncomputable def BG(w:Wd)(ks:List Pt)(m:Str):LS:=(w.ps.filter λp=>decide ((p.1,m)∈ks)).map λp=>p.1
noncomputable def MO:PSp where
 md:=[.xx,.ky]
 run:=λh Q _=>∃(w:Wd) (ks:List Pt) (m:Str),h=[.d (wD w),bK ks,.d (.str m)]/\w.ps.length<=90/\Q (.d (.tuple ((BG w ks m).map Jx))) []
theorem gh:AG Ψ iH MO RM RJ:=by
 rintro _ Q _ ⟨w,ks,m,rfl,l,q⟩;refine gA [bD (wD w),some (.ky (bK ks)),bD (.str m)] ?_;delta iH;simp_arith[↓SQ];rw[<- oA xJ];refine fA (λp=>T.d (xJ p)) (λp=>T.d (.str p.1)) (λp=>decide ((p.1,m)∈ks)) w.ps [] _ (λp x R h=>?_) (by show 0+w.ps.length<=_;omega) ?_;simp_arith[↓SK,↓iQ];refine⟨by omega,?_⟩;split at h;rename_i c;rw[if_pos c];exact h;rename_i c;rw[if_neg c];exact h;rw[Qg,oA λp:Str×Int×Int×Int=>Jx p.1,Rc];have e:((w.ps.filter λp=>decide ((p.1,m)∈ks)).map λp=>Jx p.1)=(BG w ks m).map Jx:=by unfold BG;rw[QS];rfl
 rw[e];simp_arith[↓zA];exact q
theorem Vj{E:XE}{ρ:kA}{a c h:PX}{t u:Str}{x y:D}{op:CmpOp}{R:Option T->Prop}:KI Ψ E [] [t,u] (.tp [0,1]) (.cmp op a c) h ρ (.d (.tuple [x,y])) R=LQ Ψ (.cmp op a c) E (bD x::bD y::lockA ρ) λk v=>if k=true then oB Ψ h E v λy n _=>XC y n (R (some y)) else R none:=MB
theorem jX:∀{l:List D},(∀x∈l,x.canLay0=true/\x.depth<=1)->qi l=true/\wX l<=1
 |[],_=>by simp[qi,wX]|x::l,h=>by obtain⟨w,e⟩:=h x QF;obtain⟨u,k⟩:=jX (l:=l) λy v=>h y (QE _ v);simp only[qi,wX,w,u,Bool.and_self,true_and];omega
theorem oh{l:List D}(h:∀x∈l,x.canLay0=true/\x.depth<=1):sE (.list l):=by obtain⟨y,u⟩:=jX h;refine⟨?_,?_⟩;simp only[QAX];exact y;simp only[QA7];omega
noncomputable def pK(w:Wd)(m:Str):LS:=(w.ag.filter λp=>decide (p.1=m)).map λp=>p.2
noncomputable def oK(w:Wd)(m:Str):LS:=(w.ag.filter λp=>decide (p.2=m)).map λp=>p.1
def OkS(a:Str):Prop:=qW a=true
def Mj(h:T)(f:Pt->Bool):Prop:=∀a b (L:Bool->Prop),OkS a->OkS b->L (f (a,b))->UB .In (.d (.tuple [.str a,.str b])) h L
theorem An(ks:List Pt):Mj (bK ks) λq=>decide (q∈ks):=λa b L _ _ h=>by rw[iQ];exact h
theorem lh(h:∀p∈z,OkS p.1/\OkS p.2):sE (.list (z.map pr)):=oh λx u=>by obtain⟨p,y,rfl⟩:=QU.mp u;have q:=ZD (h p y).1 (h p y).2;exact⟨q.1,by simp[pr,QA7,wX]⟩
theorem F5(h:∀p∈z,OkS p.1/\OkS p.2):Mj (.d (.list (z.map pr))) λq=>decide (q∈z):=λa b L u hb q=>by
 refine⟨.inr ⟨ZD u hb,lh h⟩,?_⟩;have e:((z.map pr).any λy=>Qx y (.tuple [.str a,.str b]))=decide ((a,b)∈z):=by rw[QCD,Q4,Wr,decide_eq_true_iff];constructor;rintro⟨p,x,e⟩;have e:Qx (pr p) (pr (a,b))=true:=e;rw[rV,decide_eq_true_iff]at e;exact e▸x;intro x;refine⟨(a,b),x,?_⟩;show Qx (pr (a,b)) (pr (a,b))=true;rw[rV];exact dT rfl
 show L ((z.map pr).any λy=>Qx y (.tuple [.str a,.str b]));rw[e];exact q
noncomputable def EO:PSp where
 md:=[.xx,.ky]
 run:=λy Q _=>∃(w:Wd) (h:T) (f:Pt->Bool) (x m:Str),y=[.d (wD w),h,.d (.str x),.d (.str m)]/\(Mj h f/\OkS x/\∀p∈w.ag,OkS p.1/\OkS p.2)/\w.ag.length<=100/\Q (.d (.bool ((pK w m++oK w m).any λr=>f (x,r)))) []
theorem Yh:AG Ψ TD EO yH tF:=by
 rintro _ Q _ ⟨w,v,f,x,m,rfl,⟨i,k,u⟩,l,q⟩;have Y:=Q8 (λp:Str×Str=>decide (p.1=m)) w.ag;have X:=Q8 (λp:Str×Str=>decide (p.2=m)) w.ag;have s:(pK w m).length<=100:=by unfold pK;rw[QD];omega
 have o:(oK w m).length<=100:=by unfold oK;rw[QD];omega
 refine gA [bD (wD w),some (.ky v),bD (.str x),bD (.str m),none] ?_;delta TD;simp_arith[↓Cf];rw[<- oA pr w.ag];refine fA (λp=>T.d (pr p)) (λ(p:Str×Str)=>T.d (.str p.2)) (λp=>decide (p.1=m)) w.ag [] _ (λp e R y=>?_) (by show 0+w.ag.length<=_;omega) ?_;delta pr;simp_arith[↓Vj];split at y;rename_i c;rw[if_pos c];exact y;rename_i c;rw[if_neg c];exact y;rw[Qg,oA λp:Str×Str=>Jx p.2];have n:((w.ag.filter λp=>decide (p.1=m)).map λp=>Jx p.2)=(pK w m).map Jx:=by unfold pK;rw[QS];rfl
 rw[n];refine fA (λp=>T.d (pr p)) (λ(p:Str×Str)=>T.d (.str p.1)) (λp=>decide (p.2=m)) w.ag [] _ (λp e R y=>?_) (by show 0+w.ag.length<=_;omega) ?_;delta pr;simp_arith[↓Vj];split at y;rename_i c;rw[if_pos c];exact y;rename_i c;rw[if_neg c];exact y;rw[Qg,oA λp:Str×Str=>Jx p.1];have j:((w.ag.filter λp=>decide (p.2=m)).map λp=>Jx p.1)=(oK w m).map Jx:=by unfold oK;rw[QS];rfl
 rw[j,<- QO,<- QO];refine⟨by rw[QD,QD,QD,QD];omega,?_⟩;simp_arith[↓zA];rw[<- oA Jx];refine gB (λr=>T.d (.str r)) (λr=>T.d (.bool (f (x,r)))) (pK w m++oK w m) [] _ (λr e R y=>?_) (by show 0+(pK w m++oK w m).length<=_;rw[QI];omega) ?_;simp_arith[↓zA];refine⟨by omega,i _ _ _ k ?_ y⟩;rcases Qh.mp e with h|h;obtain⟨p,g,rfl⟩:=QU.mp h;exact(u p (QZ.mp g).1).2;obtain⟨p,g,rfl⟩:=QU.mp h;exact(u p (QZ.mp g).1).1;rw[Qg,oA λr=>PyData.bool (f (x,r)),gn];refine⟨(pK w m++oK w m).map λr=>f (x,r),by rw[QS];rfl,?_⟩;rw[QCD];simp_arith[↓zA];exact q
theorem zn{n:Bool}{Q:T->Bool->Prop}(x:ns.length<64)(q:∀h:LJ,h.Perm ns->h.Pairwise (·<=·)->Q (.lst ((h.map Jy).map T.d)) true):PK .sorted [(.lst ((ns.map Jy).map T.d),n)] Q:=by unfold PK IB;rw[YE];exact .inr (.inr (.inl ⟨_,ns,rfl,VA _,x,q⟩))
theorem L9{l:LN}(h:ns.Perm (l.map λ(n:Nat)=>(n:Int)))(u:ns.Pairwise (·<=·)):∃y:LN,ns=y.map (λ(n:Nat)=>(n:Int))/\y.Perm l/\y.Pairwise (·<=·):=by
 have e:ns=(ns.map QCX).map λ(n:Nat)=>(n:Int):=by rw[QS];refine(QAq ns).symm.trans (qK λx v=>?_);obtain⟨n,_,rfl⟩:=QU.mp (h.mem_iff.mp v);rfl
 refine⟨ns.map QCX,e,?_,?_⟩;have:=h.map QCX;rw[QS]at this;refine this.trans (QAF ?_);exact(qK λn _=>rfl).trans (QAq l);rw[e]at u;exact(wz.mp u).imp λh=>by omega
noncomputable def KF(h:List Evt)(x:LN)(ks:List Pt):LN:=x.filter λn=>!decide (((FG (lA h n)).1,(FG (lA h n)).2)∈ks)
noncomputable def gG:PSp where
 md:=[.xx,.xy,.ky]
 run:=λu Q _=>∃(h:List Evt) (x:LN) (ks:List Pt),u=[.d (.list (h.map dC)),.lst ((x.map nD).map T.d),bK ks]/\x.length<64/\(∀n∈x,n<h.length/\sC (lA h n))/\∀y:LN,y.Perm (KF h x ks)->y.Pairwise (·<=·)->Q (.lst ((y.map nD).map T.d)) []
theorem t9:AG Ψ ME gG RI MG:=by
 rintro _ Q _ ⟨h,x,ks,rfl,l,a,q⟩;refine gA [bD (.list (h.map dC)),some (.ky (.lst ((x.map nD).map T.d))),some (.ky (bK ks))] ?_;delta ME;simp_arith[↓zA];rw[<- oA nD];refine fA (λn=>T.d (nD n)) (λn=>T.d (nD n)) (λn=>!decide (((FG (lA h n)).1,(FG (lA h n)).2)∈ks)) x [] _ (λn u R v=>?_) (by show 0+x.length<=_;omega) ?_;simp_arith[↓bN (a n u).1,↓Pb (a n u).2,↓Ob (a n u).2,↓ZX];refine⟨by omega,?_⟩;split at v;rename_i c;rw[if_pos c];exact v;rename_i c;rw[if_neg c];exact v;rw[Qg,oA nD];have e:(KF h x ks).map nD=((KF h x ks).map λ(n:Nat)=>(n:Int)).map Jy:=by rw[QS];rfl
 have fl:=Q8 (λn=>!decide (((FG (lA h n)).1,(FG (lA h n)).2)∈ks)) x;show PK .sorted [(.lst (((KF h x ks).map nD).map T.d),true)] _;rw[e];refine zn (by rw[QD];unfold KF;omega) λf k w=>?_;obtain⟨y,rfl,i,g⟩:=L9 k w;have j:(y.map λ(n:Nat)=>(n:Int)).map Jy=y.map nD:=by rw[QS];rfl
 rw[j];simp_arith[↓zA];exact q y i g
noncomputable def MT(w:Wd)(h:List Pt)(b m:Str):Bool:=!decide ((b,m)∈h)&&(pK w m++oK w m).any λr=>decide ((b,r)∈h)
noncomputable def jL(w:Wd)(h ks:List Pt)(n:Nat):List Pt:=match lA w.es n with
 | .tell _ a b m _ _=>if MT w h b m=true then BQ ks (a,b) else ks|_=>ks
noncomputable def vH(w:Wd)(l:LN):List Pt:=l.foldl (jL w (xB w.es l)) []
def Lj(w:Wd)(x:Str):Prop:=∃p∈w.ps,p.1=x
def Nb(w:Wd):Evt->Prop
 | .see _ p m h=>Lj w p/\m∈w.ms/\OkS h|.tell _ a b m h q=>Lj w a/\Lj w b/\m∈w.ms/\a≠b/\OkS h/\∀x∈q,Lj w x
structure WOk(w:Wd):Prop where
 ag:∀p∈w.ag,OkS p.1/\OkS p.2
 al:w.ag.length<=100
 pl:w.ps.length<=11
 pn:(w.ps.map λp=>p.1).Nodup
 po:∀p∈w.ps,OkS p.1
 ml:w.ms.length<=10
 mo:∀m∈w.ms,OkS m
 mn:w.ms.Nodup
 el:w.es.length<=60
 eo:∀e∈w.es,Nb w e
theorem WOk.ev{w:Wd}(h:WOk w){n:Nat}(x:n<w.es.length):Nb w (lA w.es n):=by unfold lA;rw[Qe x];exact h.eo _ (wk x)
theorem WOk.nm{w:Wd}(h:WOk w){x:Str}(y:Lj w x):OkS x:=by obtain⟨p,u,rfl⟩:=y;exact h.po p u
end
section
variable{Ψ:PEv}{E:XE}{ρ:kA}{M:List (T×Bool)->kA->Prop}{a z:PX}{md:List Md}{d:D}{n m:Bool}{xs:List (T×Bool)}{C:LT->Prop}{R:T->Prop}{t:Int}{x b h y:Str}{q:LS}
theorem Dp{ks:List Pt}:t7 (bK ks) false Ψ z E md ρ M=ML Ψ z E md (lockA ρ) λxs _=>M xs ρ:=rfl
theorem MZ:CA (.d (dC (.tell t x b h y q))) n (.d (.int 2)) m R=R (.d (.str x)):=DA (i:=2) rfl
theorem LZ:CA (.d (dC (.tell t x b h y q))) n (.d (.int 3)) m R=R (.d (.str b)):=DA (i:=3) rfl
theorem HZ:CA (.d (dC (.tell t x b h y q))) n (.d (.int 4)) m R=R (.d (.str h)):=DA (i:=4) rfl
end
section
variable{Ψ:PEv}{x:Str}{es:List Pt}{sr:LS}{u:Kn}
noncomputable def Bq(w:Wd)(l:LN)(ks:List Pt)(o4 o5:Option Sl):kA:=[bD (wD w),some (.ky (.lst (l.map λn=>T.d (nD n)))),oW (bK (xB w.es l)),oW (bK ks),o4,o5]
noncomputable def ID:PSp where
 md:=[.xx,.xy]
 run:=λh Q _=>∃(w:Wd) (l:LN),h=[.d (wD w),.lst ((l.map nD).map T.d)]/\WOk w/\l.length<=100/\(∀n∈l,n<w.es.length)/\Q (bK (vH w l)) []
theorem G3(K:Ψ.sp "seen_among"=YK)(W:Ψ.sp "has_against"=EO):AG Ψ OD ID IG rF:=by
 rintro _ Q _ ⟨w,l,rfl,k,hl,X,q⟩;refine gA [bD (wD w),some (.ky (.lst ((l.map nD).map T.d))),none,none,none,none] ?_;delta OD;simp_arith[↓RQ,↓xA (md:=[.xx,.xy]) K rfl rfl,↓PB,↓Y7];refine⟨_,_,rfl,hl,X,?_⟩;simp_arith[↓zA];rw[<- oA nD];refine EA (λn=>T.d (nD n)) (λr i=>∃h o j,r.foldl (jL w (xB w.es l)) h=vH w l/\h.length+r.length<=100/\(∀n∈r,n<w.es.length)/\i=Bq w l h o j) ?_ ?_ l _ ⟨[],none,none,rfl,by simpa using hl,X,rfl⟩;rintro i ⟨h,o,j,e,_,_,rfl⟩;have e:h=vH w l:=e;subst e;delta Bq;simp_arith[↓zA];exact q;rintro n r i N f ⟨h,o,j,e,hk,z,rfl⟩;have Y:h.length+(r.length+1)<=100:=hk;have s:=z n QF;have v:=k.ev s;have e:r.foldl (jL w (xB w.es l)) (jL w (xB w.es l) h n)=vH w l:=e;unfold jL at e;delta Bq;delta bF;simp_arith[↓RQ,↓bN s,↓AQ];cases ev:lA w.es n with|see t p m Z=>rw[ev]at e;refine oM (show decide ((QR "see")=(QR "tell"))≠true by decide) ?_;exact f _ ⟨h,_,_,e,by omega,λx y=>z x (QE _ y),rfl⟩|tell t a b m Z A=>rw[ev]at e v;obtain⟨C,hb,B,_⟩:=v;simp_arith[VZ,↓MZ,↓LZ,↓HZ,↓ZX,↓xA (md:=[.xx,.ky]) W rfl rfl,↓PB,↓Y7,↓Dp];refine⟨by omega,?_⟩;unfold MT at e;by_cases c:(b,m)∈xB w.es l;simp_arith[dT c];simp only[dT c,Ww,QAS,Qr,if_false]at e;exact f _ ⟨h,_,_,e,by omega,λx y=>z x (QE _ y),rfl⟩;simp_arith[dF c];refine⟨_,_,_,_,_,rfl,⟨An _,k.nm hb,k.ag⟩,k.al,?_⟩;simp_arith[↓zA];by_cases g:((pK w m++oK w m).any λr=>decide ((b,r)∈xB w.es l))=true;simp_arith[g];simp only[dF c,g,w8,WK,if_true]at e;exact⟨by omega,xc (p:=(a,b)) (by omega) (f _ ⟨BQ h (a,b),_,_,e,by have:=JT h (a,b);omega,λx y=>z x (QE _ y),rfl⟩)⟩;rw[if_neg g];simp only[dF c,w8,WK]at e;rw[if_neg g]at e;exact f _ ⟨h,_,_,e,by omega,λx y=>z x (QE _ y),rfl⟩
theorem F9{y:List Pt}(h:∀p∈y,OkS p.1/\OkS p.2){a b:Str}{L:Bool->Prop}(z:OkS a)(hb:OkS b)(q:L (!decide ((a,b)∈y))):UB .NotIn (.d (.tuple [.str a,.str b])) (.d (.list (y.map pr))) L:=F5 h a b (λc=>L (!c)) z hb q
noncomputable def JR(w:Wd)(x:Str):Int:=((PJ w x)[0]?).getD 0
noncomputable def aM(w:Wd)(x:Str):Int:=((HF w x)[0]?).getD 0
theorem e8{w:Wd}(h:Lj w x):(PJ w x)[0]?=some (JR w x):=by
 obtain⟨p,z,rfl⟩:=h;have y:p.2.1∈PJ w p.1:=QU.mpr ⟨p,QZ.mpr ⟨z,dT rfl⟩,rfl⟩;unfold JR;cases e:PJ w p.1 with|nil=>rw[e]at y;cases y|cons x r=>rfl
theorem j6{w:Wd}(h:Lj w x):(HF w x)[0]?=some (aM w x):=by
 obtain⟨p,z,rfl⟩:=h;have y:p.2.2.1∈HF w p.1:=QU.mpr ⟨p,QZ.mpr ⟨z,dT rfl⟩,rfl⟩;unfold aM;cases e:HF w p.1 with|nil=>rw[e]at y;cases y|cons x r=>rfl
noncomputable def Dq(w:Wd)(wr h:List Pt):Evt->Bool
 | .see _ _ _ _=>true|.tell _ a b m _ _=>decide ((a,m)∈h)&&!decide ((a,b)∈wr)&&decide (aM w b<=JR w a)&&!((pK w m++oK w m).any λr=>decide ((b,r)∈h))
def Mb(h:List Pt):Prop:=∀p∈h,OkS p.1/\OkS p.2
noncomputable def dW:PSp where
 md:=[.xx,.xx,.ky,.xx]
 run:=λz Q _=>∃(w:Wd) (e:Evt) (y h:List Pt),z=[.d (wD w),.d (dC e),bK y,.d (.list (h.map pr))]/\WOk w/\Nb w e/\Mb h/\Q (.d (.bool (Dq w y h e))) []
theorem Om(Y:Ψ.sp "rank_of"=NO)(X:Ψ.sp "floor_of"=rL)(s:Ψ.sp "has_against"=EO):AG Ψ SE dW jN jK:=by
 rintro _ Q _ ⟨w,e,f,y,rfl,h,o,i,q⟩;refine gA [bD (wD w),bD (dC e),some (.ky (bK f)),bD (.list (y.map pr)),none,none,none] ?_;cases e with|see t p m l=>delta SE;simp_arith[↓AQ,VZ];exact q|tell t a b m l Z=>obtain⟨j,hb,n,_⟩:=o;delta SE;simp_arith[↓AQ,VZ];refine oM (show decide ((QR "tell")=(QR "see"))≠true by decide) ?_;simp_arith[↓MZ,↓LZ,↓HZ,↓Uj];refine⟨by omega,F9 i (h.nm j) (h.mo _ n) ?_⟩;have q:Q (.d (.bool (decide ((a,m)∈y)&&!decide ((a,b)∈f)&&decide (aM w b<=JR w a)&&!((pK w m++oK w m).any λr=>decide ((b,r)∈y))))) []:=q;by_cases k:(a,m)∈y;simp_arith[dT k,↓iQ];rw[dT k]at q;refine⟨by omega,?_⟩;by_cases v:(a,b)∈f;simp_arith[dT v];rw[dT v]at q;exact q;simp_arith[dF v,↓xA (md:=[]) Y rfl rfl,↓xA (md:=[]) X rfl rfl];rw[dF v]at q;have g:w.ps.length<=90:=QY h.pl (by decide);refine⟨_,_,_,rfl,g,(e8 j),?_⟩;simp_arith[↓zA];refine⟨_,_,_,rfl,g,(j6 hb),?_⟩;simp_arith[↓Mo];by_cases z:aM w b<=JR w a;simp_arith[dT z,↓xA (md:=[.xx,.ky]) s rfl rfl,↓PB,↓Y7];rw[dT z]at q;refine⟨_,_,_,_,_,rfl,⟨F5 i,h.nm hb,h.ag⟩,h.al,?_⟩;simp_arith[↓zA];exact q;simp_arith[dF z];rw[dF z]at q;exact q;simp_arith[dF k];rw[dF k]at q;exact q
noncomputable abbrev Kn:=List ((List Pt×LS)×LS)
noncomputable def NY(u:Kn):List D:=u.map λx=>ED x.1.1 x.1.2
noncomputable def Eh(u:Kn):LT:=u.map λx=>T.d (.list (x.2.map Jx))
def KZ(u:Kn):T:=.dct true (NY u) (Eh u)
def vN(w:Wd)(u:Kn):Prop:=∀x∈u,∀y,y∈x.2↔Held x.1.1 x.1.2 (zM w) y
theorem jc:∀l:LS,tDs (l.map NK.s)=l.map Jx
 |[]=>rfl|x::l=>by show Jx x::tDs (l.map NK.s)=_;rw[jc l];rfl
theorem yc:∀l:List Pt,tDs (l.map λp=>NK.t [.s p.1,.s p.2])=l.map pr
 |[]=>rfl|x::l=>by show pr x::tDs (l.map λp=>NK.t [.s p.1,.s p.2])=_;rw[yc l];rfl
theorem Am:∀l:LS,nkds (l.map NK.s)=0
 |[]=>rfl|x::l=>by show max 0 (nkds (l.map NK.s))=0;rw[Am l];rfl
theorem Em:∀l:List Pt,nkds (l.map λp=>NK.t [.s p.1,.s p.2])<=1
 |[]=>Qt _|x::l=>by show max 1 (nkds (l.map λp=>NK.t [.s p.1,.s p.2]))<=1;have:=Em l;omega
theorem jQ(es:List Pt)(sr:LS):aD true (ED es sr):=by refine⟨[.t (sr.map NK.s),.t (es.map λp=>NK.t [.s p.1,.s p.2])],?_,?_⟩;show _=PyData.tuple [.tuple (tDs (sr.map NK.s)),.tuple (tDs (es.map λp=>NK.t [.s p.1,.s p.2]))];rw[jc,yc];rfl;show max (nkds (sr.map NK.s)+1) (max (nkds (es.map λp=>NK.t [.s p.1,.s p.2])+1) 0)+1<=6;rw[Am];have:=Em es;omega
theorem D7{v:List Pt}{z:LS}(h:ED es sr=ED v z):es=v/\sr=z:=by injection h with h;injection h with h1 h2;injection h2 with h2 _;injection h1 with h1;injection h2 with h2;refine⟨(wn λx y e=>?_).mp h2,(wn λx y e=>?_).mp h1⟩;injection e with e;injection e with e1 e2;injection e2 with e2 _;injection e1 with e1;injection e2 with e2;exact QCL e1 e2;injection e
theorem Ah{v:LS}{Q:T->Prop}(hl:u.length<sizeLine)(h:bA (NY u) (ED es sr)=none)(q:Q (KZ (u++[((es,sr),v)]))):bc (KZ u) (.d (ED es sr)) (.lst ((v.map Jx).map T.d)) Q:=by refine⟨jQ es sr,by unfold NY;rw[QD];exact hl,?_⟩;show Q (oJ true (NY u) (Eh u) (ED es sr) (.d (.list (ersT ((v.map Jx).map T.d)))));unfold oJ;rw[h,RA];unfold KZ NY Eh at q;rw[QO,QO]at q;exact q
theorem ud{k:Nat}(h:bA (NY u) (ED es sr)=some k):∃v,((es,sr),v)∈u/\(Eh u)[k]?=some (T.d (.list (v.map Jx))):=by
 have e:=VC h;unfold NY at e;unfold Eh;rw[QX]at e ⊢;cases z:u[k]? with|none=>rw[z]at e;cases e|some x=>rw[z]at e;obtain⟨w,y⟩:=D7 (Qs e);obtain⟨⟨a,b⟩,v⟩:=x;cases w;cases y;exact⟨v,qQ z,rfl⟩
end
section
variable{Ψ:PEv}{E:XE}{ρ:kA}{K:TK}{M:List (T×Bool)->kA->Prop}{a b c i g:PX}{md:List Md}{m:Bool}{f:Kn}{es:List Pt}{sr:LS}{L:Bool->Prop}{R:T->Prop}
section
variable{u:List (Str×LS)}{w:Str}
theorem Yb:UB .NotIn (.d (.tuple [.tuple (sr.map Jx),.tuple (es.map pr)])) (KZ f) L=L (!(bA (NY f) (ED es sr)).isSome):=by unfold KZ;rw[DM];exact propext ⟨λh=>h.2,λh=>⟨jQ es sr,h⟩⟩
theorem aq{v:LS}{k:Nat}(h:bA (NY f) (ED es sr)=some k)(hv:(Eh f)[k]?=some (T.d (.list (v.map Jx))))(q:R (.d (.list (v.map Jx)))):CA (KZ f) false (.d (.tuple [.tuple (sr.map Jx),.tuple (es.map pr)])) m R:=.inr ⟨true,_,_,k,_,rfl,jQ es sr,h,hv,q⟩
theorem zw:m7 (KZ f) false Ψ b E ρ K=oB Ψ b E (lockA ρ) λy m _=>K y m ρ:=rfl
noncomputable def EY(u:List (Str×LS)):T:=.dct false (u.map λx=>.str x.1) (u.map λx=>T.d (.list (x.2.map Jx)))
theorem xo{v:LS}{Q:T->Prop}(hl:u.length<sizeLine)(h:w∉u.map λx=>x.1)(q:Q (EY (u++[(w,v)]))):bc (EY u) (.d (.str w)) (.d (.list (v.map Jx))) Q:=by refine⟨⟨w,rfl⟩,by rw[QD];exact hl,?_⟩;show Q (oJ false (u.map λx=>.str x.1) (u.map λx=>T.d (.list (x.2.map Jx))) (.str w) (.d (.list (v.map Jx))));unfold oJ;rw[OA.mpr λz=>h (by obtain⟨x,y,e⟩:=QU.mp z;injection e with e;exact QU.mpr ⟨x,y,e⟩)];unfold EY at q;rw[QO,QO]at q;exact q
theorem uo(h:w∈u.map λx=>x.1)(q:∀v,(w,v)∈u->R (.d (.list (v.map Jx)))):CA (EY u) false (.d (.str w)) m R:=by
 cases e:bA (u.map λx=>Jx x.1) (.str w) with
 |none=>obtain⟨x,l,j⟩:=QU.mp h;exact absurd (QU.mpr ⟨x,l,congrArg Jx j⟩) (OA.mp e)|some k =>
  have j:=VC e;rw[QX]at j;cases z:u[k]? with|none=>rw[z]at j;cases j|some x=>rw[z]at j;have j:Jx x.1=.str w:=Qs j;injection j with j;obtain⟨y,v⟩:=x;cases j;exact .inr ⟨false,_,_,k,T.d (.list (v.map Jx)),rfl,⟨_,rfl⟩,e,by rw[QX,z];rfl,q v (qQ z)⟩
theorem kw:m7 (EY u) false Ψ b E ρ K=oB Ψ b E (lockA ρ) λy m _=>K y m ρ:=rfl
theorem Zt{z:Bool}{mk:List Bool}{t:Str}{x:T}{op:CmpOp}{R:Option T->Prop}:KI Ψ E (z::mk) [t] (.nm 0) (.cmp op a c) g ρ x R=LQ Ψ (.cmp op a c) E (some (.ky x)::ZC (z::mk) (lockA ρ)) λk h=>if k=true then oB Ψ g E h λy n _=>XC y n (R (some y)) else R none:=rfl
end
end
theorem Va{c a b:Prop}[Decidable c](h:c)(q:a):if c then a else b:=by rw[if_pos h];exact q
def yJ(w:Wd)(l h:LN)(m x:Str):Prop:=Held (BE w.es h m) (BG w (xB w.es l) m) (zM w) x
open Classical in
noncomputable def yZ(w:Wd)(l h:LN)(x m:Str):Bool:=decide (yJ w l h m x)
open Classical in
section
variable{Ψ:PEv}{Z:PEnds}{w:Wd}{l u:LN}{f:Kn}{g:List (Str×LS)}{m:Str}{o8 i o7:Option Sl}
theorem pI(w:Wd)(l u:LN)(x m:Str):yZ w l u x m=true↔yJ w l u m x:=by unfold yZ;exact decide_eq_true_iff
noncomputable def Yd(w:Wd)(l u:LN)(x:Str):List Pt:=(w.ms.filter (yZ w l u x)).map λm=>(x,m)
noncomputable def DF(w:Wd)(l u:LN):List Pt:=w.ps.flatMap λp=>Yd w l u p.1
def Lb(w:Wd)(u:LN):Prop:=u.length<=100/\∀n∈u,n<w.es.length/\sC (lA w.es n)
noncomputable def Vu(Q:T->LT->Prop):PEnds:={ nx:=λh=>pU (BA [3] h) (Q (.d .none)),rt:=λt h=>pU (BA [3] h) (Q t) }
noncomputable def jZ(w:Wd)(l u:LN)(f:Kn)(g:List (Str×LS))(o6 o7 o8 i:Option Sl):kA:=[bD (wD w),some (.ky (.lst ((l.map nD).map T.d))),bD (.list (u.map nD)),oW (KZ f),oW (bK (xB w.es l)),oW (EY g),o6,o7,o8,i]
noncomputable def F7(w:Wd)(l u:LN)(m:Str):T:=.d (ED (BE w.es u m) (BG w (xB w.es l) m))
theorem Jd{k:Nat}{v:LS}(hl:g.length<sizeLine)(y:m∉g.map λx=>x.1)(h:bA (NY f) (ED (BE w.es u m) (BG w (xB w.es l) m))=some k)(hv:(Eh f)[k]?=some (T.d (.list (v.map Jx))))(q:Z.nx (jZ w l u f (g++[(m,v)]) (bD (.str m)) (some (.ky (F7 w l u m))) o8 i)):pF Ψ GC Z (jZ w l u f g (bD (.str m)) (some (.ky (F7 w l u m))) o8 i):=by delta jZ F7 ED;delta GC;simp_arith[↓zw];refine aq h hv ?_;simp_arith[↓zA];exact xo hl y q
theorem xg(w:Wd)(ks:List Pt)(m:Str):(BG w ks m).length<=w.ps.length:=by unfold BG;rw[QD];exact Q8 _ _
theorem Fi(h:List Evt)(u:LN)(m:Str):(BE h u m).length<=u.length:=by unfold BE;rw[QD];exact Q8 _ _
theorem Lf(h:WOk w)(hv:Lb w u)(m:Str):MJ (BE w.es u m) (BG w (xB w.es l) m):=by constructor;intro s z;obtain⟨p,v,rfl⟩:=QU.mp z;exact h.po p (QZ.mp v).1;intro e k;obtain⟨n,y,rfl⟩:=QU.mp k;have y:=(QZ.mp y).1;obtain⟨a,t,x,b,o,j,q,e⟩:=hv.2 n y;have:=h.ev a;rw[e]at this ⊢;exact⟨h.nm this.1,h.nm this.2.1⟩
theorem Ar(F:Ψ.sp "seers_of"=MO)(E:Ψ.sp "edges_of"=AO)(r:Ψ.sp "holders_in"=ZK)(b:WOk w)(hv:Lb w u)(hk:vN w f)(C:f.length<=20000)(hl:g.length<1000)(p:m∉g.map λx=>x.1)(q:∀h v,vN w h->h.length<=f.length+1->(∀y,y∈v↔yJ w l u m y)->Z.nx (jZ w l u h (g++[(m,v)]) (bD (.str m)) (some (.ky (F7 w l u m))) o8 i)):pF Ψ oD Z (jZ w l u f g (bD (.str m)) o7 o8 i):=by
 have L:=b.pl;have J:=xg w (xB w.es l) m;have I:=Fi w.es u m;have G:=hv.1;delta jZ;delta oD;simp_arith[↓RQ,↓xA (md:=[.xx,.ky]) F rfl rfl,↓xA (md:=[]) E rfl rfl,↓xA (md:=[]) r rfl rfl,↓PB,↓Y7,↓Dp];refine⟨_,_,_,rfl,by omega,?_⟩;simp_arith[↓zA];refine⟨_,_,_,rfl,hv.1,hv.2,?_⟩;simp_arith[↓Yb];refine⟨by omega,?_⟩;cases e:bA (NY f) (ED (BE w.es u m) (BG w (xB w.es l) m)) with
 |some k=>obtain⟨v,X,s⟩:=ud e;refine oM (λz=>by cases z) ?_;exact Jd (by omega) p e s (q f v hk (by omega) (hk _ X))|none =>
  refine Va rfl ?_;simp_arith[↓xA (md:=[]) r rfl rfl];refine⟨_,_,_,rfl,⟨by omega,by omega,Lf b hv m,by omega,b.pn⟩,λv j B=>?_⟩;simp_arith[↓zA];refine Ah (by omega) e ?_;have A:bA (NY (f++[((BE w.es u m,BG w (xB w.es l) m),v)])) (ED (BE w.es u m) (BG w (xB w.es l) m))≠none:=λz=>OA.mp z (QU.mpr ⟨_,Qb _ (QJ.mpr rfl),rfl⟩);have o:vN w (f++[((BE w.es u m,BG w (xB w.es l) m),v)]):=λx a=>by rcases Qh.mp a with a|a;exact hk x a;rw[QJ.mp a];exact j
  cases n:bA (NY (f++[((BE w.es u m,BG w (xB w.es l) m),v)])) (ED (BE w.es u m) (BG w (xB w.es l) m)) with|none=>exact absurd n A|some k=>obtain⟨Y,K,W⟩:=ud n;exact Jd (by omega) p n W (q _ Y o (by rw[QI];exact QW _) (o _ K))
theorem oZ{b:PT}{p:PSp}{N ps:LS}{ds:LT}{Q:T->LT->Prop}(ρ:kA)(h:pF Ψ b (Vu Q) ρ)(hl:ds.length=ps.length:=by rfl)(hc:iB 0 p.md ps.length=[3]:=by rfl)(x:vB N p.md ds=ρ:=by rfl):ds.length=ps.length/\pF Ψ b (NC p ps.length Q) (vB N p.md ds):=by
 have e:NC p ps.length Q=Vu Q:=by unfold NC;rw[hc];rfl
 rw[e,x];exact⟨hl,h⟩
noncomputable def iD:PSp where
 md:=[.xx,.xy,.xx,.chg]
 run:=λx Q _=>∃(w:Wd) (l u:LN) (f:Kn),x=[.d (wD w),.lst ((l.map nD).map T.d),.d (.list (u.map nD)),KZ f]/\(WOk w/\l.length<=100/\∀n∈l,n<w.es.length)/\Lb w u/\(vN w f/\f.length<=10000)/\∀h,vN w h->h.length<=f.length+10->Q (.lst (((DF w l u).map pr).map T.d)) [KZ h]
theorem dX(h:WOk w)(l u:LN)(x:Str):(Yd w l u x).length<=10:=by unfold Yd;rw[QD];exact QY (Q8 _ _) h.ml
theorem Sr{h:List Pt}{o6:Option Sl}{p:Str×Int×Int×Int}(k:WOk w)(n:g.map (λx=>x.1)=w.ms)(j:∀x∈g,∀y,y∈x.2↔yJ w l u x.1 y)(hl:h.length<=1000)(q:Z.nx (jZ w l u f g o6 o7 (oW (.lst (((h++Yd w l u p.1).map pr).map T.d))) (bD (xJ p)))):pF Ψ mD Z (jZ w l u f g o6 o7 (oW (.lst ((h.map pr).map T.d))) (bD (xJ p))):=by
 have o:=k.ml;have a:=dX k l u p.1;delta jZ;delta mD;simp_arith[↓GZ];rw[<- oA Jx];refine fA (λm=>T.d (.str m)) (λm=>T.d (pr (p.1,m))) (yZ w l u p.1) w.ms [] _ (λm b R z=>?_) (by show 0+w.ms.length<=_;omega) ?_;simp_arith[↓Zt,↓SK,↓kw];refine uo (n▸b) λv hv=>?_;have e:decide (p.1∈v)=yZ w l u p.1 m:=by rw[Q4,decide_eq_true_iff];exact(j _ hv p.1).trans (pI w l u p.1 m).symm
 simp_arith[RK,aI,FB,true_or,e];split at z;rename_i c;rw[if_pos c];exact⟨by omega,z⟩;rename_i c;rw[if_neg c];exact z;rw[Qg,oA λm=>pr (p.1,m)];have e:((w.ms.filter (yZ w l u p.1)).map λm=>pr (p.1,m))=(Yd w l u p.1).map pr:=by unfold Yd;rw[QS];rfl
 rw[e,<- QO,<- QO];exact⟨by rw[QD,QD,QD,QD];omega,q⟩
theorem i9(L:Ψ.sp "seen_among"=YK)(J:Ψ.sp "seers_of"=MO)(I:Ψ.sp "edges_of"=AO)(G:Ψ.sp "holders_in"=ZK):AG Ψ EE iD AI OG:=by
 rintro _ Q _ ⟨w,l,u,f,rfl,⟨n,hl,E⟩,hv,⟨hk,F⟩,q⟩;have R:=n.ml;have P:=n.pl;refine oZ [bD (wD w),some (.ky (.lst ((l.map nD).map T.d))),bD (.list (u.map nD)),oW (KZ f),none,none,none,none,none,none] ?_;delta EE;simp_arith[↓RQ,↓GZ,↓xA (md:=[.xx,.xy]) L rfl rfl,↓PB,↓Y7];refine⟨_,_,rfl,hl,E,?_⟩;simp_arith[↓GZ];rw[<- oA Jx];refine EA (λm=>T.d (.str m)) (λr b=>∃h g a o7,g.map (λx=>x.1)++r=w.ms/\(vN w h/\h.length+r.length<=f.length+w.ms.length)/\(∀x∈g,∀y,y∈x.2↔yJ w l u x.1 y)/\b=jZ w l u h g a o7 none none) ?_ ?_ w.ms _ ⟨f,[],none,none,rfl,⟨hk,QW _⟩,(λx j=>by cases j),rfl⟩;rintro b ⟨h,g,a,o7,e,⟨Y,o⟩,K,rfl⟩;have e:g.map (λx=>x.1)=w.ms:=by rw[<- e,qB]
 have o:h.length<=f.length+w.ms.length:=o;delta jZ;simp_arith[↓SQ];rw[<- oA xJ];refine⟨by omega,?_⟩;refine EA (λp=>T.d (xJ p)) (λr b=>∃k a o7 i,k++r.flatMap (λp=>Yd w l u p.1)=DF w l u/\k.length+10 * r.length<=200/\b=jZ w l u h g a o7 (oW (.lst ((k.map pr).map T.d))) i) ?_ ?_ w.ps _ ⟨[],_,_,none,rfl,by show 0+10 * w.ps.length<=200;omega,rfl⟩;rintro b ⟨k,a,o7,i,s,_,rfl⟩;have s:k=DF w l u:=by rw[<- s];exact(qB k).symm
 subst s;delta jZ;simp_arith[↓zA];exact q h Y (by omega);rintro p r b N W ⟨k,a,o7,i,s,A,rfl⟩;have A:k.length+10 * (r.length+1)<=200:=A;have B:=dX n l u p.1;refine Sr n e K (by omega) (W _ ⟨k++Yd w l u p.1,a,o7,_,?_,by rw[QI];omega,rfl⟩);rw[Qu];exact s;rintro m r b N W ⟨h,g,a,o7,e,⟨Y,o⟩,K,rfl⟩;have o:h.length+(r.length+1)<=f.length+w.ms.length:=o;have C:g.length+(r.length+1)=w.ms.length:=by rw[<- e,QI,QD];rfl
 have nd:=n.mn;rw[<- e]at nd;refine Ar J I G n hv Y (by omega) (by omega) (λz=>(qh.mp nd).2.2 m z m QF rfl) λX v O S M=>W _ ⟨X,g++[(m,v)],_,_,?_,⟨O,by omega⟩,?_,rfl⟩;rw[QO,Qu];exact e;intro x j;rcases Qh.mp j with j|j;exact K x j;rw[QJ.mp j];exact M
end
end L2.L3.K36
namespace L2.L3
open PySem PySem.Spec PyProof.Rows PySem.W PySem.SeqAt
noncomputable def HY(ks:List (Int×Int))(i j:Nat):Bool:=decide ((ks.getD i (0,0)).1<(ks.getD j (0,0)).1∨(ks.getD i (0,0)).1=(ks.getD j (0,0)).1/\(ks.getD i (0,0)).2<(ks.getD j (0,0)).2)
theorem ya(ks:List (Int×Int)):Ord (HY ks):=by refine⟨λa b h=>?_,λa b c y x=>?_⟩;unfold HY at h ⊢;have:=of_decide_eq_true h;exact dF (by omega);unfold lI HY at *;have y:=of_decide_eq_false y;have x:=of_decide_eq_false x;exact dF (by omega)
def sD(h:Heap)(v:Value)(p:Int×Int):Prop:=∃a o n t u,v=.ref a/\h.get? a=some o/\o.cls=.type "tuple"/\o.data=.seq (Q2 [Value.int p.1 t,Value.int p.2 u]) n
theorem sD.keep{h h':Heap}{v:Value}{x:Int×Int}{c:Addr}{u:Obj}(e:h.get? c=some u)(hc:u.cls≠.type "tuple")(k:∀b o,b≠c->h.get? b=some o->h'.get? b=some o)(t:sD h v x):sD h' v x:=by obtain⟨a,o,n,t,r,f,y,w,d⟩:=t;exact⟨a,o,n,t,r,f,k _ _ (λz=>by rw[z,e]at y;cases y;exact hc w) y,w,d⟩
section
variable{prog:Program}{w:World}{A:Around}{E:uC}{s:Shared}
section
variable{vs:LW}{r f:Addr}{a b c:Int}{t u v:Tok}{n:Nat}{kz:List (Int×Int)}
theorem Gh{v u:Value}{x y:Int×Int}{Q:Bool->Shared->Prop}(hv:sD s.heap v x)(z:sD s.heap u y)(q:Q (decide (x.1<y.1∨x.1=y.1/\x.2<y.2)) s):wpAny (model prog w) A (keyLt' (tuples' true) v u) Q E s:=by obtain⟨a,o,n,t,r,rfl,g,_,j⟩:=hv;obtain⟨b,p,X,l,m,rfl,k,_,i⟩:=z;refine kat_lt g j k i (kat_cons (QAw ?_));by_cases e:x.1=y.1;rw[e,beq_self_eq_true];refine kat_yes (kat_cons (QAw ?_));by_cases h:x.2=y.2;rw[h,beq_self_eq_true];refine kat_yes (kat_nil ?_);rw[show decide (x.1<y.1∨x.1=y.1/\x.2<y.2)=false from dF (by omega)]at q;exact q;rw[beq_false_of_ne h];refine kat_no (kat_one _ _ (QBZ ?_));rw[show decide (x.1<y.1∨x.1=y.1/\x.2<y.2)=decide (x.2<y.2) from decide_eq_decide.mpr (by omega)]at q;exact q;rw[beq_false_of_ne e];refine kat_no (oneLt_int ?_);rw[show decide (x.1<y.1∨x.1=y.1/\x.2<y.2)=decide (x.1<y.1) from decide_eq_decide.mpr (by omega)]at q;exact q
theorem t5{ns:List (Int×Int)}{Q:SortKind->Shared->Prop}(l:Paired (sD s.heap) vs ns)(K:2<=vs.length)(q:Q (tuples' true) s):wpAny (model prog w) A (keyKind' vs.toArray) Q E s:=by
 have key:∀{vs:LW}{ns:List (Int×Int)},Paired (sD s.heap) vs ns->∃fs,KatTups s.heap vs fs/\fs.length=vs.length/\∀f∈fs,∃x t,f=.int x t:=by
  intro vs ns h;induction h with
  |nil=>exact⟨[],.nil,rfl,λ_ z=>(nomatch z)⟩
  |@cons v x Z Y h _ e=>obtain⟨fs,j,i,g⟩:=e;obtain⟨a,o,n,t,r,rfl,p,hc,X⟩:=h;refine⟨.int x.1 t::fs,.cons (f:=.int x.1 t) p hc X (by simp) j,by rw[QM,QM,i],λf m=>?_⟩;rcases QL.mp m with rfl|z;exact⟨_,_,rfl⟩;exact g f z
 obtain⟨fs,k,W,y⟩:=key l;exact kat_kind (T:=.type "int") k (by omega) (λv hv=>by obtain⟨x,t,rfl⟩:=y v hv;exact .of_pure rfl) (by decide) q
theorem gH{α x:Type}{R:α->x->Prop}{d:α}{e:x}:∀{l:List α}{m:List x},Paired R l m->∀i,i<l.length->R (l.getD i d) (m.getD i e)
 |_,_,.nil,i,h=>absurd h (QBA _)|_,_,.cons r _,0,_=>r|_,_,.cons _ t,i+1,h=>gH t i (wF h)
theorem vK{α x:Type}{R:α->x->Prop}:∀{l z:List α}{m y:List x},Paired R l m->Paired R z y->Paired R (l++z) (m++y)
 |_,_,_,_,.nil,h=>h|_,_,_,_,.cons r t,h=>.cons r (vK t h)
theorem eN{Q:LW->Shared->Prop}(Y:A.handled=none)(q:IsRange s.heap r a b c t u v)(x:QBc a b c=true)
  (X:WM a b c=n) (z:n<=2 ^ 24)
  (h:∀h' g y,(∀b o,s.heap.get? b=some o->h'.get? b=some o)->s.heap.objs.size<h'.objs.size->ItemsOf (λi v=>∃t,v=.int (a+i * c) t) y n->Q y.toList { s with heap:=h',toks:=g }) :
  wpAny (model prog w) A (collect (.ref r)) Q E s:=by
 unfold collect;refine QC (wpAny_runValue (W7 F.entry_proto_collect ?_));rw[w6 F.plain_proto_collect _];show wpAny _ A.in1 (newList [] >>= λl=>again (.builtin "list.__iadd__" ⟨[l,.ref r],[]⟩)) _ _ s;refine QC (Q0 ?_);refine QK ⟨QBs QB6 _,W7 F.entry_list_iadd ?_⟩;rw[w6 QB6 _];have Z:(s.heap.push { cls:=.type "list",data:=.seq ([]:LW).toArray }).get? s.heap.objs.size=some { cls:=.type "list",data:=.seq #[] }:=QT _ rfl;show wpAny _ A.in1 (Builtin.List.listExtendWith (.ref s.heap.objs.size) (.ref r) (.ref s.heap.objs.size)) _ _ _;refine wpAny_extend_range (R:=λr j=>match r with | .ok (.ret v)=>wpAny (model prog w) A (match v with | .ref a=>(do let o <- load a;match o.data with | .seq m _=>pure m.toList|_=>unsupported "internal:collect")|_=>unsupported "internal:collect") Q E j | .ok _=>False | .error e=>E e j) (s:={ s with heap:=s.heap.push { cls:=.type "list",data:=.seq ([]:LW).toArray } }) Y (QH _ q) x X z _ _ _ Z λh' g y W p k it=>?_;show wpAny _ A (load s.heap.objs.size >>= _) _ _ _;refine QC (wpAny_load k ?_);exact QK (h h' g y (λb o e=>p b o (Qn (Qa e)) (QH _ e)) (Qa k) it)
theorem Lh{a:Addr}{P:PySem.Fin->Shared->Prop}(ho:s.heap.get? a=some (seqObj "list" vs.toArray n))(h64:vs.length<64)(hl:kz.length=vs.length)
  (hf:∀(h:Heap) (g:Nat),(∀b o,b≠a->s.heap.get? b=some o->h.get? b=some o)->∀(i:Nat) (x:Value) (p:Int×Int),vs[i]?=some x->kz[i]?=some p->∀C:Value->Shared->Prop,
   (∀W m k,(∀b o,h.get? b=some o->W.get? b=some o)->sD W k p->C k { s with heap:=W,toks:=m })->wpAny (model prog w) A (call (.ref f) [x]) C (λ_ _=>False) { s with heap:=h,toks:=g })
  (k:∀(p:Array Nat) (h':Heap) (g c:Nat),Pm vs.length p->Up (HY kz) p vs.length->(∀b o,b≠a->s.heap.get? b=some o->h'.get? b=some o)->h'.get? a=some (seqObj "list" (p.toList.map λi=>vs.getD i Jz).toArray c)->P (.done (.ret .none)) { s with heap:=h',toks:=g }) :
  wpAny (model prog w) A (ksk_tree a (.ref f) false) P E s:=by
 have ha:a<s.heap.objs.size:=Qa ho;have s1:=qC s.heap a (qE λ_=>(#[]:Array Value));obtain⟨G,ho1⟩:∃G,(s.heap.update a (qE λ_=>(#[]:Array Value))).get? a=some (seqObj "list" #[] G):=⟨_,W9 ho λ_=>#[]⟩
 generalize hH:((s.heap.update a (qE λ_=>(#[]:Array Value))).push (seqObj "tuple" vs.toArray 0))=hT;have S:hT.objs.size=s.heap.objs.size+1:=by rw[<- hH,size_push',QCJ]
 have kS0:(hT.push (seqObj "list" #[] 0)).get? hT.objs.size=some (seqObj "list" #[] 0):=QT _ rfl;have a0:(hT.push (seqObj "list" #[] 0)).get? a=some (seqObj "list" #[] G):=QH _ (by rw[<- hH];exact QH _ ho1);have kp0:∀b o,b≠a->s.heap.get? b=some o->(hT.push (seqObj "list" #[] 0)).get? b=some o:=λb o hb e=>QH _ (by rw[<- hH];exact QH _ ((s1.2 b hb).trans e));have naK:a≠hT.objs.size:=by rw[S];exact Qn (Wa ha)
 unfold ksk_tree;refine QC (QCC ho rfl (QC (WQ ho rfl ?_ (by rw[QN];omega) (Qt _))));refine QC (QBY ho1 rfl (QC (QBR ?_ (by show vs.length<=_;omega))));refine QC (QAn (qk ?_) (Qt _));rw[hH];generalize hK:hT.objs.size=kS at *;have fin:∀(y:LW) (e:Nat) (h:Heap) (g:Nat) (st:SortSt) (p:Array Nat),y.length=vs.length->h.get? kS=some (seqObj "list" (Q2 y) e)->h.get? a=some (seqObj "list" #[] G)->(∀b o,b≠a->s.heap.get? b=some o->h.get? b=some o)->Pm vs.length p->Up (HY kz) p vs.length ->
   (arrOf st).map (·.2)=Q2 (p.toList.map λi=>vs.getD i Jz)->failedOf st=none->wpAny (model prog w) A (ksk_tail a false G (.ref kS) st) P E { s with heap:=h,toks:=g }:=by
  intro y e h g st p Z hk l I pm H hout N;have t1:=qC h kS (qE λ_=>(#[]:Array Value));have R:=(t1.2 a naK).trans l;have t2:=qC (h.update kS (qE λ_=>(#[]:Array Value))) a (qE λ_=>Q2 (p.toList.map λi=>vs.getD i Jz));have hps:(p.toList.map λi=>vs.getD i Jz).length=vs.length:=by rw[QD,(Q3.mp pm).length_eq];simp
  unfold ksk_tail;dsimp only;rw[hout];refine QC (WQ hk rfl ?_ (by rw[QN,qA];omega) (Qt _));refine QC (wpAny_letGo (QC (QBY R rfl (QC (WQ R rfl ?_ (Qt _) (by simp only[Qr,if_false];rw[QN,qA];omega))))));rw[N];simp only[bne_self_eq_false,Qr,if_false];refine QK (k p _ g _ pm H (λb o hb e=>?_) (W9 R λ_=>Q2 (p.toList.map λi=>vs.getD i Jz)));have O:b≠kS:=λz=>by have:=Qa e;rw[z,S]at this;exact absurd this (Nat.not_lt.mpr (wB _))
  exact(t2.2 b hb).trans ((t1.2 b O).trans (I b o hb e))
 have L:∀(y:LW) (e:Nat) (h:Heap) (g:Nat),Paired (sD h) y kz->h.get? kS=some (seqObj "list" (Q2 y) e)->h.get? a=some (seqObj "list" #[] G)->(∀b o,b≠a->s.heap.get? b=some o->h.get? b=some o) ->
   wpAny (model prog w) A (ksk_end a false vs.toArray G (.ref kS) (Q2 y)) P E { s with heap:=h,toks:=g }:=by
  intro y e h g Y hk l I;have Z:y.length=vs.length:=(Q6 Y).trans hl;unfold ksk_end;dsimp only;simp only[Qr,if_false];by_cases h2:vs.length<2;have F:vs.toArray.size<2:=by rw[QN];exact h2
  rw[if_pos F,if_pos F];refine QC (QK ?_);rw[QCR];refine QC (QK ?_);refine fin y e h g _ (Q2 (Qj vs.length)) Z hk l I (W8 _) (λi j hi hj=>?_) ?_ rfl;have e:i=j:=by omega
  subst e;unfold lI HY;exact dF (by omega);show((Q2 y).zip vs.toArray).map (·.2)=_;rw[oG];apply WB.mp;simp[WC,Z];have F:¬ vs.toArray.size<2:=by rw[QN];exact h2
  rw[if_neg F,if_neg F];refine QC (t5 (s:={ s with heap:=h,toks:=g }) Y (by omega) ?_);have tree:(kas_sort vs.length).kasWp (kas_ask prog w A (tuples' true) y) (λp K=>K={ s with heap:=h,toks:=g }/\Pm vs.length p/\Up (HY kz) p vs.length) { s with heap:=h,toks:=g } :=
   zH.wp (lt:=HY kz) (λi j hi hj _ C hC=>Gh (s:={ s with heap:=h,toks:=g }) (gH Y i (by omega)) (gH Y j (by omega)) hC) (λp Y=>⟨rfl,Y⟩) (NW (ya kz) (by omega))
  refine QC (qt (kat_run (Q:=λB K=>∃p:Array Nat,arrOf B=p.map (kas_item ((Q2 y).zip vs.toArray))/\failedOf B=none/\K={ s with heap:=h,toks:=g }/\Pm vs.length p/\Up (HY kz) p vs.length) Z (by omega) h64 (λp B K _ a2 a3 a4=>⟨p,a2,a3,a4⟩) tree) ?_ λ_ _ x=>x);rintro⟨⟨⟩,B⟩ K ⟨p,har,N,rfl,pm,H⟩;exact fin y e h g B p Z hk l I pm H (kat_snds Z har) N
 unfold ksk_rest;refine QC (QB0 ?_);rw[List.forIn_toArray];refine QC (ksk_fold (λj K=>∃(y:LW) (e:Nat) (h:Heap) (g:Nat),K={ s with heap:=h,toks:=g }/\Paired (sD h) y (kz.take j)/\h.get? kS=some (seqObj "list" (Q2 y) e)/\h.get? a=some (seqObj "list" #[] G)/\(∀b o,b≠a->s.heap.get? b=some o->h.get? b=some o)/\j<=vs.length) vs 0 _ ⟨[],0,_,s.toks,rfl,.nil,kS0,a0,kp0,Qt _⟩ (λj x K hx hI=>?_) λK hI=>?_);obtain⟨y,e,h,g,rfl,Y,hk,l,I,jl⟩:=hI;rw[WG]at Y jl ⊢;have jv:j<vs.length:=(Qf.mp hx).1;have hkl:y.length=j:=by rw[Q6 Y,wg];omega
 have hzj:kz[j]?=some (kz[j]'(by omega)):=Qe _;refine QC (Wz (qt (hf h g I j x _ hx hzj (λJ K=>∃W m,K={ s with heap:=W,toks:=m }/\(∀b o,h.get? b=some o->W.get? b=some o)/\sD W J (kz[j]'(by omega))) λW m J X ka=>⟨W,m,rfl,X,ka⟩) (λJ K hc=>?_) λ_ _ z=>z.elim));obtain⟨W,m,rfl,X,ka⟩:=hc;have ea:(Q2 y).push J=Q2 (y++[J]):=by simp
 have s5:=qC W kS (qE (·.push J));have M:=X _ _ hk;dsimp only;refine QC (WQ M rfl ?_ (by rw[QN,qA];omega) (QY (wv (Array.size_push ..)) (by rw[QN,qA];omega)));refine QK ⟨rfl,y++[J],_,_,m,rfl,?_,by rw[<- ea];exact W9 M (·.push J),(s5.2 a naK).trans (X _ _ l),λb o hb q=>?_,jv⟩;have H:∀{v:Value}{x:Int×Int},sD W v x->sD (W.update kS (qE (·.push J))) v x:=λt=>t.keep M (by show Value.type "list"≠Value.type "tuple";decide) λb o hb q=>(s5.2 b hb).trans q;rw[List.take_succ,hzj];exact vK (L2.Paired.mapP Y λ_ _ ⟨a1,o1,n1,t1,r1,G,g1,c1,d1⟩=>H ⟨a1,o1,n1,t1,r1,G,X _ _ g1,c1,d1⟩) (.cons (H ka) .nil);have O:b≠kS:=λz=>by have:=Qa q;rw[z,S]at this;exact absurd this (Nat.not_lt.mpr (wB _))
 exact(s5.2 b O).trans (X _ _ (I b o hb q));obtain⟨y,e,h,g,rfl,Y,hk,l,I,_⟩:=hI;rw[WG,<- hl,List.take_length]at Y;exact QC (QCC hk rfl (L y e h g Y hk l I))
theorem c8{Q:uC}(S:A.handled=none)(N:IsRange s.heap r a b c t u v)(y:QBc a b c=true)
  (R:WM a b c=n) (h64:n<64) (hl:kz.length=n)
  (H:∀(Y:Heap) (z:Nat),(∀b o,s.heap.get? b=some o->Y.get? b=some o)->∀(i:Nat) (Z:Tok) (p:Int×Int),kz[i]?=some p->∀C:Value->Shared->Prop,
   (∀I W k,(∀b o,Y.get? b=some o->I.get? b=some o)->sD I k p->C k { s with heap:=I,toks:=W })->wpAny (model prog w) A.in1.in1 (call (.ref f) [Value.int (a+i * c) Z]) C (λ_ _=>False) { s with heap:=Y,toks:=z })
  (k:∀(p:Array Nat) (vs:LW) (D:Addr) (h':Heap) (z e:Nat),Pm n p->Up (HY kz) p n->(∀b o,s.heap.get? b=some o->h'.get? b=some o)->s.heap.objs.size<=D->vs.length=n->(∀(i:Nat) x,vs[i]?=some x->∃t,x=Value.int (a+i * c) t) ->
   h'.get? D=some (seqObj "list" (p.toList.map λi=>vs.getD i Jz).toArray e)->Q (.ref D) { s with heap:=h',toks:=z }) :
  wpAny (model prog w) A (call (.builtin "sorted") [.ref r] [(QR "key",.ref f)]) Q E s:=by
 refine call_function_entry_kw kind_sorted plain_sorted entry_sorted (ksk_s1 _ _) ?_;unfold Builtin.«sorted»;refine QC (m:=checkCount "sorted" 1 1 _) (QK ?_);refine QC (eN S N y R (by omega) λg K h l G it=>?_);have M:h.toList.length=n:=by rw[Ql];exact it.1
 refine QC (QAn ?_ (by rw[qA];omega));have X:(g.push (seqObj "list" h.toList.toArray 0)).get? g.objs.size=some (seqObj "list" h.toList.toArray 0):=QT _ rfl;have j:∀b o,s.heap.get? b=some o->(g.push (seqObj "list" h.toList.toArray 0)).get? b=some o:=λb o q=>QH _ (l b o q);refine QC (qk (wpAny_call_entry_kw slot_list_sort ⟨_,X,rfl⟩ entry_list_sort ?body (ksk_l1 _ _)))
 case body =>
  show wpAny (model prog w) A.in1.in1 (Builtin.«list.sort» ⟨[.ref g.objs.size],[(QR "key",.ref f)]⟩) _ _ _;rw[ksk_t1];have nD:∀b o,s.heap.get? b=some o->b≠g.objs.size:=λb o q=>Qn (Qa (l b o q));refine Lh (s:={ s with heap:=g.push (seqObj "list" h.toList.toArray 0),toks:=K }) (kz:=kz) X (by omega) (by omega) (λY z B i x p F O C hC=>?_) λp h' z c L J B P=>⟨_,rfl,QK ⟨_,rfl,?_⟩⟩
  obtain⟨Z,rfl⟩:=it.2 i x (by rw[<- F,wu]);exact H Y z (λb o q=>B b o (nD b o q) (j b o q)) i Z p O C hC;rw[M]at L J;exact k p h.toList _ h' z c L J (λb o q=>B b o (nD b o q) (j b o q)) (QAN G) M (λi x F=>it.2 i x (by rw[<- F,wu])) P
end
end
section
variable{U Z p2 W V Y X K:Pos}
noncomputable abbrev n5(U Z p2 W V Y X:Pos):Expr:=.Tuple [.Subscript (.Subscript (.Name "events" U) (.Name "number" Z) p2) (.Constant (.int 1) 0 W) V,.Name "number" Y] 0 X
noncomputable abbrev ma(K:Pos):Arguments:={ posonlyargs:=[],args:=[{ arg:="number",annotation:=none,pos:=K }],vararg:=none,kwonlyargs:=[],kw_defaults:=[],kwarg:=none,defaults:=[] }
noncomputable abbrev TU:Scope:={ kind:=.function,names:=[(QR "number",.local),(QR "events",.free)],isGenerator:=false,isCoroutine:=false,more:=[] }
variable{prog:Program}{w:World}{A:Around}{E:uC}{s:Shared}
section
variable{h h':Heap}{y n:Addr}{i:Nat}{g:Int}{l:Tok}
def CN(h:Heap)(y:Addr)(i:Nat)(g:Int):Prop:=∃(x z:Array Value) (t:Addr) (u:Tok),(h.IsList y x∨IsTup h y x)/\x[i]?=some (.ref t)/\i<2 ^ 62/\x.size<2 ^ 62/\IsTup h t z/\z[1]?=some (.int g u)/\z.size<2 ^ 62
theorem CN.keepB{P:Addr}{ps:Array Value}(m:h.get? P=some (tabObj ps))(k:∀b o,b≠P->h.get? b=some o->h'.get? b=some o)(x:CN h y i g):CN h' y i g:=by
 obtain⟨f,j,t,u,a,b,c,p,⟨o,d⟩,e⟩:=x;have v:∀{b:Addr}{o:Obj}{T:String},h.get? b=some o->o.cls=.type T->b≠P:=λe c z=>by rw[z,m]at e;cases e;cases c
 refine⟨f,j,t,u,?_,b,c,p,⟨o,k _ _ (v d.1 d.2.1) d.1,d.2⟩,e⟩;rcases a with⟨o,a⟩| ⟨o,a⟩
 exact .inl ⟨o,k _ _ (v a.1 a.2.1) a.1,a.2⟩;exact .inr ⟨o,k _ _ (v a.1 a.2.1) a.1,a.2⟩
theorem CN.keep(z:∀b o,h.get? b=some o->h'.get? b=some o)(x:CN h y i g):CN h' y i g:=by
 obtain⟨v,k,t,u,a,b,c,f,⟨o,d⟩,e⟩:=x;refine⟨v,k,t,u,?_,b,c,f,⟨o,z _ _ d.1,d.2⟩,e⟩;rcases a with⟨o,a⟩| ⟨o,a⟩
 exact .inl ⟨o,z _ _ a.1,a.2⟩;exact .inr ⟨o,z _ _ a.1,a.2⟩
theorem u5{env:Env}{L:Addr}{m:Str->Option Value}{Q:uC}(hk:env.scope=TU)(G:env.cells.lookup (QR "events")=some n)(hc:s.heap.IsCell n (some (.ref y)))
  (S:env.locals=L) (P:s.heap.Ns L m) (R:m "number"=some (.int i l)) (F:CN s.heap y i g)
  (q:∀J u,Q (.ref s.heap.objs.size) { s with heap:=s.heap.push { cls:=.type "tuple",data:=.seq (Q2 [Value.int g u,Value.int i l]) },toks:=J }) :
  wpAny (model prog w) A (eval (n5 U Z p2 W V Y X) env) Q E s:=by
 have N:env.kindOf "number"=some .local:=by show env.scope.names.lookup _=_;rw[hk];rfl
 have O:env.kindOf "events"=some .free:=by show env.scope.names.lookup _=_;rw[hk];rfl
 have k:env.scope.kind=.function:=by rw[hk]
 obtain⟨C,B,t,u,a,b,c,c2,d,e,c3⟩:=F;subst S;have v:∀{p:Pos}{Q:uC}(z:Shared),z.heap=s.heap->Q (.int i l) z->wpAny (model prog w) A (eval (.Name "number" p) env) Q E z:=λz I q=>QBF (QBH k N (by rw[I];exact P) R q) (by decide);refine QBV ?_;show wpAny _ _ (spliced ((false,eval (.Subscript (.Subscript (.Name "events" U) (.Name "number" Z) p2) (.Constant (.int 1) 0 W) V) env)::backTo X (starEach [.Name "number" Y] env))) _ _ s;refine WN (QBw (QBw (QBF (QBU k O G hc (v _ rfl ?_) (by decide)) (by decide))));have o:(0:Int)<=(i:Int):=QBt i;have f:(i:Int)<2 ^ 63:=by omega (config:={})
 have M:∀{Q:uC},Q (.ref t) s->wpAny (model prog w) A (subscriptTail (.Name "events" U) (.Name "number" Z) (.ref y) (.int i l)) Q E s:=λ{Q} q=>by rcases a with a|a;exact item_listR a o f (by simpa using b) q;have I:i<C.size:=(QAM.mp b).1;exact qf (x:=.ref t) a.typeIs QAO.lookup (QBo (j:=i) (Q:=λr z=>r=.ref t/\Q r z) a (by omega (config:={})) f (by rw[QAl o (by omega (config:={}))];simp) b ⟨rfl,q⟩)
 refine M (QBl ?_);have H:1<B.size:=(QAM.mp e).1;refine qf (x:=.int g u) (s:={ s with toks:=s.toks+1 }) (show IsTup s.heap t B from d).typeIs QAO.lookup (QBo (j:=1) (show IsTup s.heap t B from d) (by decide) (by decide) (by rw[QAl (by decide) (by omega (config:={}))];rfl) e ⟨rfl,?_⟩);show wpAny _ _ (spliced ((false,eval (.Name "number" Y) env)::backTo X (starEach [] env))) _ _ _;exact WN (v _ rfl (QAd ⟨by rw[qA];show 2<=_;decide,q _ _⟩))
theorem m5{f L:Addr}{z:Str}{N I:Value}{C:uC}(j:A.depth<recursionLimit)(P:s.heap.get? f=some (kla_obj "<lambda>" z (ma K) (n5 U Z p2 W V Y X) TU [(QR "events",n)] N L I))
  (F:s.heap.CodeRec (.ref L) z) (r:s.heap.NoLimit) (hc:s.heap.IsCell n (some (.ref y))) (B:CN s.heap y i g)
  (k:∀G p v,(∀b o,s.heap.get? b=some o->G.get? b=some o)->sD G v (g,(i:Int))->C v { s with heap:=G,toks:=p }) :
  wpAny (model prog w) A (call (.ref f) [.int i l]) C E s:=by
 refine wpAny_call (kla_callFunE j P rfl rfl rfl rfl F ?_);show wpAny _ _ (pure [(QR "number",Value.int i l)]) _ _ _;refine QK (QBI (show ∀x∈TU.names,x.2≠NameKind.cell by decide) (by intro x O;rcases QJ.mp O with rfl;rfl) (λJ q m=>⟨r.fresh _ m,kla_codeExpr ?_⟩) rfl);have a:∀b o,s.heap.get? b=some o->J.get? b=some o:=λb o e=>m.extBut b o (Qn (Qa e)) (QH _ e);refine u5 (s:={ s with heap:=J,toks:=s.toks+1 }) rfl rfl (hc.keeps a) rfl q rfl (B.keep a) λM u=>?_;exact k _ M _ (λb o e=>QH _ (a b o e)) ⟨_,_,_,_,_,rfl,QT _ rfl,rfl,rfl⟩
end
end
theorem NV{pos:Pos}{a b:Int}{c y:Value}(l:LW)(h:TriplesOk l)(g:codeAmong pos (l++[rawInt a,rawInt b,c])=some y):codeAmong pos l=some y∨y=c:=by
 fun_induction TriplesOk l with
 |case1=>right;have g:codeAmong pos [rawInt a,rawInt b,c]=some y:=g;unfold rawInt codeAmong at g;split at g;exact(Qs g).symm;cases g|case2 i t f u x v w=>simp only[QAs,codeAmong]at g ⊢;split at g;rename_i z;rw[if_pos z];exact .inl g;rename_i z;rw[if_neg z];exact w h g|case3 l e k=>exact h.elim
section
variable{X:Cx}{h:HB}{σ:St}{H:Hp}{s:Shared}
theorem _root_.L2.Inv.tabbed{P x:Addr}{q:Str}{ps:Array Value}{W Z:Int}{h':Heap}{t':Nat}(I:Inv X h σ H s)(l:H P=some (.tbl q))(M:s.heap.get? P=some (tabObj ps))(K:TriplesOk ps.toList)(m:∀pos j,codeAmong pos ps.toList=some j->∃c,j=.ref c/\H c=some (.own P)/\s.heap.CodeRec j q)
  (k:W6 P s.heap h') (f:s.heap.objs.size<=x) (A:h'.CodeRec (.ref x) q) (a:h'.get? P=some (tabObj (ps++#[rawInt W,rawInt Z,.ref x]))):H x=none/\Inv X h σ (UA H x (.own P)) { s with heap:=h',toks:=t' }:=by
 have B:H x=none:=I.hok.fresh f;have y:∀b o,H b=some o->b≠x:=λb o e z=>by rw[z,B]at e;cases e
 have Y:∀b,H b=none->b≠P:=λb e z=>by rw[z,l]at e;cases e
 refine⟨B,I.un ⟨λb o e n _ _=>k b o (Y b n) e,λb o e n _ _=>⟨o.slots,k b o (Y b n) e⟩,λb o e n _=>?_,λb o e _=>?_,λb E e=>?_,λb o u e=>?_,λb q e=>?_⟩ λb u e=>?_⟩;rw[vA (Qn (Qo (Qa e) f))];exact n;by_cases hb:b=P
 ·exact⟨_,hb▸a⟩
 exact⟨o,k b o hb e⟩;rw[vA (y b _ e)];exact e;rw[vA (y b _ e)];exact e;rw[vA (y b _ e)];exact e;by_cases hb:b=x
 ·subst hb
  rw[iA]at e;cases e;obtain⟨c,o,p,t,L,J,_⟩:=A;cases L;exact⟨o,J⟩
 rw[vA hb]at e;by_cases i:b=P;subst i;rw[l]at e;cases e;refine⟨_,a,?_,λpos j g=>?_⟩;simpa using TriplesOk_snoc W Z _ ps.toList K;rcases NV ps.toList K (by simpa using g) with g|rfl
 ·obtain⟨c,rfl,o,N,ob,p,F,C,G,r⟩:=m pos j g
  cases C;refine⟨c,rfl,by rw[vA (y c _ o)];exact o,c,ob,p,F,rfl,k _ _ (λz=>?_) G,r⟩;rw[z,l]at o;cases o
 exact⟨x,rfl,iA,A⟩;refine(I.hok b u e).stay (λd v w g=>k d v (λz=>?_) g) (λd g=>by rw[vA (y d _ g)];exact g) λd E g=>by rw[vA (y d _ g)];exact g
 rcases w with w|w;exact i (w.symm.trans z);rw[z,l]at w;cases w
end
def Zu(K:QA)(H:Hp)(xs:LV)(kz:List (Int×Int)):Prop:=kz.length=xs.length/\∀(j:Nat) p,kz[j]?=some p->p.2=j/\∃t h,xs[j]?=some (.ref t)/\rD K H t h/\h[1]?=some (.int p.1)
noncomputable def au(K:QA)(P:Addr)(i:Nat):TE:=λz H Q=>∃ev h y,z[i]?=some (some (.ref ev))/\(HC K H ev h∨rD K H ev h)/\Zu K H h y/\h.length<64 /\
 ∀(p:Array Nat) x l,Pm h.length p->Up (HY y) p h.length->(x=H∨∃c,H c=none/\x=UA H c (.own P))->x l=none->Q (.ref l) (UA x l (.lst (p.toList.map λ(i:Nat)=>V.int i)))
section
variable{X:Cx}{J G p2 F E B W U Z S M Y g d a O L:Pos}
section
variable{x:HB}{σ:St}{H:Hp}{s:Shared}{y:Addr}{kz:List (Int×Int)}{i:Nat}{q:Str}
theorem Zo{xs:LV}(I:Inv X x σ H s)(k:HC X.K H y xs∨rD X.K H y xs)(C:Zu X.K H xs kz):∀(j:Nat) p,kz[j]?=some p->CN s.heap y j p.1:=λj p N=>by obtain⟨_,t,ys,f,Q,P⟩:=C.2 j p N;have hz:=qA;obtain⟨h,n,w,R⟩:=I.tuple Q;obtain⟨u2,o,A⟩:=n.get P;obtain⟨m,rfl⟩:=A;have l2:=n.length;have jl:j<xs.length:=(Qf.mp f).1;rcases k with k|k;obtain⟨v,r,b,z⟩:=I.list k;obtain⟨u,e,q⟩:=r.get f;cases q;have l:=r.length;exact⟨v.toArray,h.toArray,t,m,.inl b.isList,by simpa using e,by omega,by rw[QN];omega,w,by simpa using o,by rw[QN];omega⟩;obtain⟨v,r,b,z⟩:=I.tuple k;obtain⟨u,e,q⟩:=r.get f;cases q;have l:=r.length;exact⟨v.toArray,h.toArray,t,m,.inr b,by simpa using e,by omega,by rw[QN];omega,w,by simpa using o,by rw[QN];omega⟩
theorem ub(I:Inv X x σ H s)(w:X.N[i]?=some (QR "events"))(h:X.env.scope.names.lookup (QR "events")=some .cell)(hv:σ[i]?=some (some (.ref y))):∃v,X.env.cells.lookup (QR "events")=some v/\s.heap.IsCell v (some (.ref y)):=by
 obtain⟨m,_,hl⟩:=I.loc;obtain⟨u,r,l⟩:=hl i "events" _ w hv (.inr (.inl h));cases r;rcases l with⟨k,_⟩| ⟨_,c,e,z⟩
 have k:X.env.scope.names.lookup (QR "events")=some .local:=k;rw[h]at k;cases k;exact⟨c,e,z⟩
theorem OJ{n:Nat}{vs:LW}(hv:∀i,i<n->∃t,vs.getD i Jz=.int (i:Int) t):∀l:LN,(∀i∈l,i<n)->nA (l.map λ(i:Nat)=>V.int i) (l.map λi=>vs.getD i Jz)
 |[],_=>.nil|i::l,h=>.cons (hv i (h i QF)) (OJ hv l λj z=>h j (QE _ z))
theorem JS{R f ce c':Addr}{b ctv:Value}{t u v:Tok}{Q:VK}{n:Nat}(I:Inv X x σ H s)(hh:X.A.handled=none)(z:X.A.in1.in1.depth<recursionLimit)
  (ho:s.heap.get? f=some (kla_obj "<lambda>" q (ma U) (n5 J G p2 F E B W) TU [(QR "events",ce)] b c' ctv)) (m:s.heap.CodeRec (.ref c') q) (hc:s.heap.IsCell ce (some (.ref y))) (hev:∀(j:Nat) p,kz[j]?=some p->p.2=j/\CN s.heap y j p.1)
  (hl:kz.length=n) (h64:n<64) (hr:IsRange s.heap R 0 n 1 t u v) (k:∀(p:Array Nat) l,Pm n p->Up (HY kz) p n->H l=none->Q (.ref l) (UA H l (.lst (p.toList.map λ(i:Nat)=>V.int i)))) :
  wpAny (model X.prog X.w) X.A (call (.builtin "sorted") [.ref R] [(QR "key",.ref f)]) (EP X x σ Q) X.xe s:=by
 refine c8 (n:=n) hh hr (small_one (by decide) (by decide) (by omega) (by omega)) (by rw[rangeSize_one];split<;>omega) h64 hl (λh3 P h j tx p hj C hC=>?_) λp K D h' P e b up h r vl hvs ho'=>?_;obtain⟨e2,ev'⟩:=hev j p hj;have e3:(0:Int)+(j:Int) * 1=(j:Int):=by omega
 rw[e3];refine m5 (s:={ s with heap:=h3,toks:=P }) z (h _ _ ho) (m.keeps h) (I.nolimit.keeps h) (hc.keeps h) (ev'.keep h) λh4 N v kp4 ka=>hC h4 N v kp4 ?_;rw[<- e2]at ka;exact ka;have pl:∀i∈p.toList,i<n:=λi hi=>by simpa using(Q3.mp b).mem_iff.mp hi
 have ps:p.toList.length=n:=by rw[(Q3.mp b).length_eq];simp
 refine⟨.ref D,UA H D (.lst (p.toList.map λ(i:Nat)=>V.int i)),I.laid (t':=P) h r ⟨by rw[QD,ps,qA];omega,_,e,OJ (λi hi=>?_) p.toList pl,ho'⟩,rfl,k p D b up (I.hok.fresh r)⟩;have o:i<K.length:=by omega
 obtain⟨t,e⟩:=hvs i (K[i]) (Qe o);refine⟨t,?_⟩;have:K.getD i Jz=K[i]:=by simp[o]
 rw[this,e,show(0:Int)+(i:Int) * 1=(i:Int) by omega]
theorem N8{c P:Addr}(hN:X.N[i]?=some (QR "events"))(hs:X.env.scope.names.lookup (QR "events")=some .cell)(n:X.env.code=.ref c)(hC:CodeHd X.base c P)(hT:ZO X.mg X.base P q)(hq:q=X.env.qual++"<lambda>")(hb:X.base.BuiltinsAt X.mg P)(hgP:mainGlobals≠P)
  (g1:Gl X "sorted") (m1:X.mg "sorted"=none) (g2:Gl X "range") (m2:X.mg "range"=none) (g3:Gl X "len") (m3:X.mg "len"=none) (hh:X.A.handled=none) (f:X.A.in1.in1.depth<recursionLimit) :
  PE X (.Call (.Name "sorted" S) [.Call (.Name "range" M) [.Call (.Name "len" Y) [.Name "events" g] [] d] [] a] [⟨some "key",.Lambda (ma U) (n5 J G p2 F E B W) TU Z,O⟩] L) (au X.K P i):=by
 rintro x s σ H Q I ⟨y,xs,kz,hv,hsq,m,h64,k⟩;refine wm (iJ I g1 m1 boot_sorted ?_);refine callWith_kw ?_;show wpAny _ _ (spliced ((false,eval (.Call (.Name "range" M) [.Call (.Name "len" Y) [.Name "events" g] [] d] [] a) X.env)::backTo L (starEach [] X.env))) _ _ s;have paL:PA X [.Call (.Name "len" Y) [.Name "events" g] [] d] _:=lP (XR UI g3 m3 boot_len (lP (N2 hN (.inr (.inl hs))) oU)) oU;refine WN (Call_ (iJ I g2 m2 boot_range (callWith_type1 (LB (paL a x s σ H (λvs H1=>vs=[.int xs.length]/\H1=H) I ?_) λus h ⟨vs,H1,I1,r1,q1⟩=>?_) rfl rfl)));exact⟨_,hv,y,xs,rfl,hsq,rfl,rfl⟩;obtain⟨rfl,rfl⟩:=q1;cases r1 with
 |cons r rr =>
 cases rr;obtain⟨t,rfl⟩:=r;refine call_range_1 (QAd (kws_cons (kla_eval rfl ?_)));have w:Inv X x σ H1 { h with heap:=h.heap.push { cls:=.type "range",data:=.fields #[.int 0 h.toks,.int xs.length t,.int 1 (h.toks+1)] },toks:=h.toks+1+1 }:=I1.kept λb o e=>QH _ e;have hr2:IsRange (h.heap.push { cls:=.type "range",data:=.fields #[.int 0 h.toks,.int xs.length t,.int 1 (h.toks+1)] }) h.heap.objs.size 0 xs.length 1 h.toks t (h.toks+1):=QT _ rfl;have hP:=w.tb P q hT;obtain⟨ps,hp,ht,hps⟩:=w.hok P _ hP;obtain⟨ce,hce,hcl⟩:=ub w hN hs hv;have R:closureFor TU X.env=pure [(QR "events",ce)]:=by unfold closureFor cellOf;simp[hce]
 obtain⟨bm,ob,b1,b2,b3,b4,b5,b6⟩:=hb;have hb2:=And.intro b1 (And.intro b2 (And.intro b3 (And.intro b4 (And.intro (w.bk _ _ b5) b6))));have evs:=Zo w hsq m;subst hq;cases e:codeAmong Z ps.toList with|none=>refine kla_makeFunction (mg:=X.mg) R I.ok.glob (w.mod.glob.keeps w.bk) n (hC.keeps w.bk) hp ht e hgP ⟨bm,ob,hb2⟩ λc' ctv h' tk hx hge hlt v htb=>evalAll_nil ?_;obtain⟨hn,I3⟩:=w.tabbed (t':=tk) hP hp ht hps hx hge v htb;have C:∀{oN:Obj}(b:Addr) (o:Obj),h'.get? b=some o->(h'.push oN).get? b=some o:=λb o e=>QH _ e;obtain⟨oc,c1,c2⟩:=hcl;show wpAny _ _ (call (.builtin "sorted") [.ref h.heap.objs.size] [(QR "key",.ref h'.objs.size)]) _ _ _;refine JS (I3.kept C) hh f (QT _ rfl) (v.push _) ⟨oc,C _ _ (hx _ _ (λz=>?_) c1),c2⟩ (λj p hj=>⟨(m.2 j p hj).1,((evs j p hj).keepB hp hx).keep C⟩) m.1 h64 (C _ _ (hx _ _ (λz=>?_) hr2)) λp l pm u hl=>k p _ l pm u (.inr ⟨c',hn,rfl⟩) hl;rw[z,hp]at c1;cases c1;cases c2;have z2:=hp.symm.trans (z▸hr2);cases z2|some cv=>obtain⟨c',rfl,_,v⟩:=hps _ _ e;refine kla_makeFunctionHit (mg:=X.mg) R I.ok.glob (w.mod.glob.keeps w.bk) n (hC.keeps w.bk) hp ht e ⟨bm,ob,hb2⟩ λctv h' tk kp hge=>evalAll_nil ?_;have C:∀{oN:Obj}(b:Addr) (o:Obj),(h.heap.push { cls:=.type "range",data:=.fields #[.int 0 h.toks,.int xs.length t,.int 1 (h.toks+1)] }).get? b=some o->(h'.push oN).get? b=some o:=λb o e=>QH _ (kp b o e);show wpAny _ _ (call (.builtin "sorted") [.ref h.heap.objs.size] [(QR "key",.ref h'.objs.size)]) _ _ _;exact JS (w.kept C) hh f (QT _ rfl) (v.keeps C) (hcl.keeps C) (λj p hj=>⟨(m.2 j p hj).1,(evs j p hj).keep C⟩) m.1 h64 (C _ _ hr2) λp l pm u hl=>k p _ l pm u (.inl rfl) hl
end
end
noncomputable def VJ:D->Option Int
 | .tuple h=>(match h[1]? with|some (Jy t)=>some t|_=>none)
 |_=>none
noncomputable def NF(h:List D):List (Int×Int):=(Qj h.length).map λ(i:Nat)=>(((h[i]?).bind VJ).getD 0,(i:Int))
theorem vZ{x:List D}{j:Nat}{p:Int×Int}(h:(NF x)[j]?=some p):j<x.length/\p=(((x[j]?).bind VJ).getD 0,(j:Int)):=by unfold NF at h;rw[QX]at h;by_cases c:j<x.length;rw[wE c]at h;exact⟨c,(Qs h).symm⟩;rw[Qk (by simpa using c)]at h;cases h
def Fp(h:List D)(ns:LN):Prop:=ns.Perm (Qj h.length)/\ns.Pairwise λa b=>HY (NF h) b a=false
noncomputable def zk:PSp where
 run:=λy Q _=>∃h:List D,y=[.d (.list h)]/\h.length<64/\(∀e∈h,∃t,VJ e=some t)/\∀x,Fp h x->Q (.lst (x.map λ(i:Nat)=>.d (.int i))) []
theorem V1{K:QA}{H x:Hp}{a:Addr}{xs:LV}(e:Same H x)(h:rD K H a xs):rD K x a xs:=by rcases h with(h|⟨o,h⟩)|h;exact .inl (.inl (e _ _ h));exact .inl (.inr ⟨o,e _ _ h⟩);exact .inr h
theorem IZ{lt:Nat->Nat->Bool}{p:Array Nat}(h:Up lt p p.size):p.toList.Pairwise λa b=>lt b a=false:=by
 rw[WA];intro i j x u y;have e:∀i (x:i<p.toList.length),gD p i=p.toList[i]:=λi x=>by
  have z:i<p.size:=by simpa using x
  unfold gD;simp[QBG,z]
 have:=h i j (QAN y) (by simpa using u);unfold lI at this;rw[e i x,e j u]at this;exact this
section
variable{P:Program}{w:World}{K:QA}{mg:Str->Option Value}{base:Heap}{Ψ:PEv}{D C p2 B W U n m g a0 a1 R O N L J I y:Pos}
noncomputable abbrev Er:Scope:={ kind:=.function,names:=[(QR "events",.cell),(QR "sorted",.globalImplicit),(QR "range",.globalImplicit),(QR "len",.globalImplicit)],isGenerator:=false,isCoroutine:=false,more:=[] }
noncomputable abbrev Ku(D C p2 B W U n m g a0 a1 R O N L J I y:Pos):List Stmt:=[.Return (some (.Call (.Name "sorted" a0) [.Call (.Name "range" a1) [.Call (.Name "len" R) [.Name "events" O] [] N] [] L] [⟨some "key",.Lambda (ma m) (n5 D C p2 B W U n) TU g,J⟩] I)) y]
theorem fX{H F:Hp}{vs:LV}{Q:VK}{E:XK}{T:Addr}(h:lift K zk vs H Q E):vs.length=1/\au K T 0 (yD [QR "events"] vs) H λv H'=>Q v H':=by
 obtain⟨F,ts,M,Y,h1,h2,h3,h4,x,rfl,h64,he,q⟩:=h;cases h2 with
 |chg hm=>cases hm|@rd _ v vs' _ _ Z _ hr _ r =>
 cases r;refine⟨rfl,?_⟩;cases hr with
 |d rp hz =>
 cases rp with
 |@lst a xs _ hq rs =>
 have A:xs.length=x.length:=rs.length;have kl:(NF x).length=xs.length:=by unfold NF;rw[QD,Qv,A]
 refine⟨a,xs,NF x,rfl,.inl (h1.seq hq),⟨kl,λj p hj=>?_⟩,by rw[A];exact h64,λp H1 l pm up hH hl=>?_⟩;obtain⟨jl,rfl⟩:=vZ hj;have G:x[j]?=some (x[j]'jl):=Qe jl;obtain⟨t,k⟩:=he _ (wk jl);obtain⟨v,v1,v2⟩:=rs.get G;refine⟨rfl,?_⟩;rw[G];show ∃t ys,_/\_/\ys[1]?=some (V.int ((VJ x[j]).getD 0));rw[k];generalize x[j]=e at *;cases v2 with
 |@tup b ys ds sq rs2 =>
  have k:(match ds[1]? with|some (Jy t)=>some t|_=>none)=some t:=k;cases hd:ds[1]? with
  |none=>rw[hd]at k;cases k|some d =>
   rw[hd]at k;obtain⟨u,u1,u2⟩:=rs2.get hd;cases u2 with|int i=>cases k;exact⟨b,ys,v1,V1 h1 sq,u1⟩|_=>cases k
 |_=>cases k
 have pn:p.size=x.length:=by have:=pm.size_eq;simpa[A]using this
 have f:H l=none:=by
  rcases hH with rfl|⟨c,hc,rfl⟩
  exact hl;by_cases z:l=c
  ·rw[z];exact hc
  rw[vA z]at hl;exact hl
 have hs:Same H H1:=by
  rcases hH with rfl|⟨c,hc,rfl⟩
  exact λ_ _ e=>e;exact λb o e=>by rw[vA (aA e hc)];exact e
 have s:Same H (UA H1 l (.lst (p.toList.map λ(i:Nat)=>V.int i))):=λb o e=>by rw[vA (aA e f)];exact hs b o e
 have fl:F l=none:=by
  cases z:F l with|none=>rfl|some o=>rw[h1 l o z]at f;cases f
 have X:∀S:LN,Trs K F (UA H1 l (.lst (p.toList.map λ(i:Nat)=>V.int i))) true (S.map λ(i:Nat)=>V.int i) (S.map λ(i:Nat)=>.d (.int i)) λ_=>False:=λS=>by
  induction S with|nil=>exact .nil λ_ z=>z|cons i r ih=>exact .cons (.d (.int _) λ_ (z:False)=>z) ih (λ_ z=>z.elim) λb=>⟨Qc,λz=>z.elim id id⟩
 refine q p.toList ⟨?_,?_⟩ (.ref l) F (UA H1 l (.lst (p.toList.map λ(i:Nat)=>V.int i))) (λb=>b=l) (λ_=>False) ⟨λ_ _ e=>e,λb o e=>s b o (h1 b o e),λb u e _=>s b u e,λb e=>?_,λb e z=>absurd e z⟩ (.lst iA fl (X _) (λz=>z) λb=>⟨.inl,λz=>z.elim id Qc⟩) (.nil λ_ z=>z) (λ_ _ z=>z) λb z=>.inr (z.elim (λz=>z▸f) Qc);rw[A]at pm;exact Q3.mp pm;rw[A,<- pn]at up;exact IZ up;cases z:H b with|none=>rfl|some o=>rw[s b o z]at e;cases e
theorem Fa{f c T:Addr}{oc kV v l ct:Value}{M Y:Option Addr}{b:Array (Option Value)}{z:Arguments}{k:Nat}(X:K.In base)(G:base.Ns mainGlobals mg)(p:mg "going_order"=some (.ref f))
  (lk:K.lookup f=some ⟨oc,M,.func (fnOf "going_order" "going_order" z (Ku D C p2 B W U n m g a0 a1 R O N L J I y) Er .none kV v l Y (.ref c) ct),b⟩)
  (j:codeIn K (.ref c) "going_order"=true) (e:keepIn K (.ref f)=true) (r:CodeHd base c T) (hb:base.BuiltinsAt mg T) (i:mainGlobals≠T) (m1:mg "sorted"=none) (m2:mg "range"=none) (m3:mg "len"=none)
  (u:∀us:LW,us.length=1->bindArgs (fnOf "going_order" "going_order" z (Ku D C p2 B W U n m g a0 a1 R O N L J I y) Er .none kV v l Y (.ref c) ct) ⟨us,[]⟩=pure ([QR "events"].zip us)) (hR:Ψ.sp "going_order"=zk):cG P w K mg base Ψ (k+1) "going_order":=by
 have S:FnScope [QR "events"] [QR "events"] Er:=⟨rfl,rfl,rfl,by decide,rfl,by intro x hx;rcases QJ.mp hx with rfl;exact .inr rfl,by decide⟩
 refine⟨f,_,[QR "events"],?_,p,e,.all u⟩;rw[hR];refine Kd lk j S (λZ H Q E h=>(fX (T:=T) (F:=H) h).1) λA a s H Z Q E o h=>⟨_,ZW (K2 (N8 (q:=(QR "going_order")++(QR ".<locals>.<lambda>")) rfl rfl rfl r ?_ ?_ hb i rfl m1 rfl m2 rfl m3 o.hd ?_)),(fX (F:=H) h).2⟩
 exact⟨f,_,_,c,p,X _ _ lk,rfl,rfl,r,rfl⟩;show QR "going_order"++QR ".<locals>.<lambda>"=(QR "going_order"++QR ".<locals>.")++QR "<lambda>";decide;exact WL (QY (QAx _ (3 * k)) (QAx _ 5)) o.dp
end
end L2.L3
namespace L2.L3.K36
open PySem PySem.Spec PyProof.Rows L2 L2.L3
def pN(a b:Nat):Bool:=decide (a<=b)
def srt(l:LN):LN:=l.mergeSort pN
theorem Ln(a b c:Nat)(x:pN a b=true)(y:pN b c=true):pN a c=true:=dT (QY (of_decide_eq_true x) (of_decide_eq_true y))
theorem Mn(a b:Nat):(pN a b||pN b a)=true:=by rcases Nat.le_total a b with z|z;rw[show pN a b=true from dT z];rfl;rw[show pN b a=true from dT z,QB7]
theorem kg(l:LN):(srt l).Pairwise λa b=>a<=b:=(QAr Ln Mn l).imp λz=>of_decide_eq_true z
theorem vg{z l:LN}(h:z.Perm l)(u:z.Pairwise (·<=·)):z=srt l:=QAi (λa b _ _ x y=>Nat.le_antisymm x y) u (kg l) (h.trans (QAG l pN).symm)
theorem MH(l:LN):(srt l).Perm l:=QAG l pN
noncomputable abbrev Stp:=Nat×Bool×LN×List Pt
structure Gs where
 past:LN
 taken:LN
 held:List Pt
 steps:List Stp
noncomputable def xW(w:Wd)(g:Gs)(n:Nat):Bool:=Dq w (vH w g.past) g.held (lA w.es n)
noncomputable def xR(w:Wd)(g:Gs)(n:Nat):LN:=if(xW w g n&&decide (VZ (lA w.es n)="tell"))=true then g.taken++[n] else g.taken
noncomputable def FY(w:Wd)(g:Gs)(n:Nat):LN:=srt (KF w.es (xR w g n) (vH w (g.past++[n])))
noncomputable def J7(w:Wd)(g:Gs)(n:Nat):List Pt:=DF w (g.past++[n]) (FY w g n)
noncomputable def yC(w:Wd)(g:Gs)(n:Nat):Gs:=⟨g.past++[n],xR w g n,J7 w g n,g.steps++[(n,xW w g n,FY w g n,J7 w g n)]⟩
noncomputable def FF(w:Wd)(ns:LN):Gs:=ns.foldl (yC w) ⟨[],[],[],[]⟩
noncomputable def cc(s:Stp):D:=.tuple [nD s.1,.bool s.2.1,.list (s.2.2.1.map nD),.list (s.2.2.2.map pr)]
noncomputable def U4(l:LN):T:=.lst ((l.map nD).map T.d)
noncomputable def Ma(w:Wd)(past taken:LN)(wr held:List Pt)(x:Kn)(st:List Stp)(o8 h o10:Option Sl):kA:=[bD (wD w),bD (.list (w.es.map dC)),oW (U4 past),oW (U4 taken),oW (bK wr),bD (.list (held.map pr)),oW (KZ x),oW (.lst ((st.map cc).map T.d)),o8,h,o10]
theorem X4(l:LN)(n:Nat):U4 (l++[n])=.lst ((l.map nD).map T.d++[T.d (nD n)]):=by unfold U4;rw[QO,QO];rfl
theorem zg(l:List Stp)(n:Stp):((l++[n]).map cc).map T.d=(l.map cc).map T.d++[T.d (cc n)]:=by rw[QO,QO];rfl
theorem U1{h:List Evt}{x:LN}{ks:List Pt}{K:T->LT->Prop}{E:XE}(l:x.length<64)(a:∀n∈x,n<h.length/\sC (lA h n))(q:K (.lst (((srt (KF h x ks)).map nD).map T.d)) []):eR gG [.d (.list (h.map dC)),.lst ((x.map nD).map T.d),bK ks] K E:=⟨h,x,ks,rfl,l,a,λu z y=>by rw[vg z y];exact q⟩
section
variable{Ψ:PEv}{E:XE}{K:TK}{y x:D}{u:List D}{k:T}{g f e c b w v:Option Sl}
theorem La(h:Ψ.sp "held_among"=iD)(q:eR iD [.d y,.lst (u.map T.d),.d x,k] (λr j=>∃n,j=[n]/\K r true [bD y,g,oW (.lst (u.map T.d)),f,e,c,oW n,b,w,v,bD x]) E):oB Ψ (.call "held_among" %[.xz 0,.xz 2,.xz 10,.xz 6|1]) E [bD y,g,oW (.lst (u.map T.d)),f,e,c,oW k,b,w,v,bD x] K:=by show ∃j,BA (uA (Ψ.sp "held_among").md %[.xz 0,.xz 2,.xz 10,.xz 6|1]) [bD y,g,oW (.lst (u.map T.d)),f,e,c,oW k,b,w,v,bD x]=some j/\(uA (Ψ.sp "held_among").md %[.xz 0,.xz 2,.xz 10,.xz 6|1]).Nodup/\(pe Ψ %[.xz 0,.xz 2,.xz 10,.xz 6|1] E).a (Ψ.sp "held_among").md (clear (uA (Ψ.sp "held_among").md %[.xz 0,.xz 2,.xz 10,.xz 6|1]) [bD y,g,oW (.lst (u.map T.d)),f,e,c,oW k,b,w,v,bD x]) λp l=>∃o,XA (Ψ.sp "held_among").md p j=some o/\(Ψ.sp "held_among").run o (λr m=>∃i,EB (uA (Ψ.sp "held_among").md %[.xz 0,.xz 2,.xz 10,.xz 6|1]) m l=some i/\K r true i) E;rw[h];refine⟨[k],rfl,Qi.mpr ⟨WD,Q7⟩,?_⟩;refine⟨rfl,?_⟩;refine⟨[.d y,.lst (u.map T.d),.d x,k],?_,?_⟩;show(match jE (T.lst (u.map T.d)) with|some t=>(some [T.d x,k]).map (t::·)|none=>none).map (T.d y::·)=_;rw[T0];rfl;refine iD.mono (λr j z=>?_) (λ_ z=>z) q;obtain⟨n,rfl,z⟩:=z;exact⟨_,rfl,z⟩
end
section
variable{Ψ:PEv}{Z:PEnds}{w:Wd}{y:Kn}{n:Nat}{o10:Option Sl}{g:Gs}{ns:LN}
theorem fo(m:Ψ.sp "wrong_among"=ID)(k:Ψ.sp "live_among"=gG)(l:Ψ.sp "held_among"=iD){past taken:LN}{wr held:List Pt}{st:List Stp}{b:Bool}(z:WOk w)(r:past.length<=60)(v:∀n∈past,n<w.es.length)(o:taken.length<=60)(u:∀n∈taken,n<w.es.length/\sC (lA w.es n))(hk:vN w y)(e:y.length<=10000)(p:st.length<=60)
  (q:∀h,vN w h->h.length<=y.length+10->Z.nx (Ma w past taken (vH w past) (DF w past (srt (KF w.es taken (vH w past)))) h (st++[(n,b,srt (KF w.es taken (vH w past)),DF w past (srt (KF w.es taken (vH w past))))]) (bD (nD n)) (bD (.bool b)) (bD (.list ((srt (KF w.es taken (vH w past))).map nD))))) :
  pF Ψ FJ Z (Ma w past taken wr held y st (bD (nD n)) (bD (.bool b)) o10):=by
 have x:=MH (KF w.es taken (vH w past));have fl:=Q8 (λn=>!decide (((FG (lA w.es n)).1,(FG (lA w.es n)).2)∈vH w past)) taken;have a:Lb w (srt (KF w.es taken (vH w past))):=⟨by rw[x.length_eq];unfold KF;omega,λn j=>u n (QZ.mp (x.mem_iff.mp j)).1⟩
 delta Ma U4;delta FJ;simp_arith[↓xA (md:=[.xx,.xy]) m rfl rfl,↓xA (md:=[.xx,.xy,.ky]) k rfl rfl,↓PB,↓Y7,↓Dp];refine⟨_,_,rfl,z,by omega,v,?_⟩;simp_arith[↓xA (md:=[.xx,.xy,.ky]) k rfl rfl,↓PB,↓Y7,↓Dp];refine U1 (by omega) u ?_;simp_arith[↓zA];refine La l (⟨_,_,_,_,rfl,⟨z,by omega,v⟩,a,⟨hk,e⟩,λh i f=>⟨_,rfl,?_⟩⟩);simp_arith[↓zA];rw[QD,QD];refine⟨by omega,by omega,?_⟩;have q:=q h i f;unfold Ma U4 at q;rw[zg]at q;exact q
structure GsOk(w:Wd)(g:Gs):Prop where
 p:∀n∈g.past,n<w.es.length
 tl:g.taken.length<=g.past.length
 t:∀n∈g.taken,n<w.es.length/\sC (lA w.es n)
 h:Mb g.held
 s:g.steps.length=g.past.length
theorem cX(z:WOk w)(l u:LN):Mb (DF w l u):=by intro p h;obtain⟨x,v,h⟩:=wH.mp h;obtain⟨m,k,rfl⟩:=QU.mp h;exact⟨z.po x v,z.mo m (QZ.mp k).1⟩
theorem T7{e:Evt}(h:VZ e="tell"):sC e:=by
 cases e with|see t p m x=>exact absurd (show QR "see"=QR "tell" from h) (by decide)|tell t a b m x q=>exact⟨t,a,b,m,x,q,rfl⟩
theorem Ib(h:GsOk w g)(x:n<w.es.length):(xR w g n).length<=g.past.length+1/\∀k∈xR w g n,k<w.es.length/\sC (lA w.es k):=by have:=h.tl;unfold xR;split;rename_i c;rw[Qd,decide_eq_true_iff]at c;refine⟨by rw[QI];exact Wn this,λk hk=>?_⟩;rcases Qh.mp hk with hk|hk;exact h.t k hk;rw[QJ.mp hk];exact⟨x,T7 c.2⟩;exact⟨by omega,h.t⟩
theorem dQ(v:WOk w)(h:GsOk w g)(x:n<w.es.length):GsOk w (yC w g n):=by
 obtain⟨u,z⟩:=Ib h x;refine⟨λk hk=>?_,?_,z,cX v _ _,?_⟩;rcases Qh.mp hk with hk|hk
 ·exact h.p k hk
 rw[QJ.mp hk];exact x;show(xR w g n).length<=(g.past++[n]).length;rw[QI];exact u;show(g.steps++_).length=(g.past++[n]).length;rw[QI,QI,h.s];rfl
theorem Ir(C:Ψ.sp "is_taken"=dW)(B:Ψ.sp "wrong_among"=ID)(A:Ψ.sp "live_among"=gG)(K:Ψ.sp "held_among"=iD){j:Option Sl}(i:WOk w)(a:GsOk w g)(E:g.past.length<60)(v:n<w.es.length)(hk:vN w y)(X:y.length<=10000)
  (q:∀x j o10,vN w x->x.length<=y.length+10->Z.nx (Ma w (g.past++[n]) (xR w g n) (vH w (g.past++[n])) (J7 w g n) x (yC w g n).steps (bD (nD n)) j o10)) :
  pF Ψ LM Z (Ma w g.past g.taken (vH w g.past) g.held y g.steps (bD (nD n)) j o10):=by
 have F:=a.tl;have I:=a.s;obtain⟨G,m⟩:=Ib a v;have o:∀k∈g.past++[n],k<w.es.length:=(dQ i a v).p;have r:=λ{o10}=>fo (Z:=Z) (wr:=vH w g.past) (held:=g.held) (st:=g.steps) (n:=n) (b:=xW w g n) (o10:=o10) B A K i (past:=g.past++[n]) (by rw[QI];exact E) o (taken:=xR w g n) (by omega) m hk X (by omega) λx W Y=>q x _ _ W Y;delta Ma U4;delta LM;simp_arith[↓bN v,↓xA (md:=[.xx,.xx,.ky,.xx]) C rfl rfl,↓PB,↓Y7,↓Dp];refine⟨_,_,_,_,rfl,i,(i.ev v),a.h,?_⟩;simp_arith[↓bN v,↓AQ];rw[QD,QD,<- X4];refine⟨by omega,?_⟩;have e:Dq w (vH w g.past) g.held (lA w.es n)=xW w g n:=rfl;rw[e];cases u:xW w g n with
 |false=>have f:xR w g n=g.taken:=if_neg (by rw[u];exact λz=>by cases z);rw[f,u]at r;exact r|true =>
  cases l:decide (VZ (lA w.es n)="tell") with|false=>have f:xR w g n=g.taken:=if_neg (by rw[u,l];exact λz=>by cases z);rw[f,u]at r;exact r|true=>have f:xR w g n=g.taken++[n]:=if_pos (by rw[u,l];rfl);rw[f,u]at r;simp_arith[↓zA];rw[QD,QD,<- X4];exact⟨by omega,r⟩
theorem Ra(e:Evt):∃t,VJ (dC e)=some t:=by
 cases e with|see t p m h=>exact⟨t,rfl⟩|tell t a b m h q=>exact⟨t,rfl⟩
def NI(w:Wd)(ns:LN):Prop:=Fp (w.es.map dC) ns
theorem jM(h:NI w ns):∀n∈ns,n<w.es.length:=λn x=>by
 have:=qG.mp (h.1.mem_iff.mp x)
 rwa [QD]at this
theorem KU(h:NI w ns):ns.length=w.es.length:=by rw[h.1.length_eq,Qv,QD]
theorem B1{K:T->LT->Prop}{E:XE}(x:WOk w)(q:∀ns,NI w ns->K (U4 ns) []):eR zk [.d (.list (w.es.map dC))] K E:=⟨_,rfl,by rw[QD];exact WL x.el (by decide),λe z=>by
 obtain⟨v,_,rfl⟩:=QU.mp z;exact Ra v,λns h=>by
 have:=q ns h;unfold U4 at this;rw[QS]at this;exact this⟩
noncomputable def RO:PSp where
 run:=λh Q _=>∃w:Wd,h=[.d (wD w)]/\WOk w/\∀ns,NI w ns->Q (.lst (((FF w ns).steps.map cc).map T.d)) []
theorem yu{E:XE}{r:PT}{i:Nat}{ρ:kA}:eL Ψ E r Z i (.lst []) true ρ=bB Ψ E r Z (ρ.set i (bD (.list []))):=Cp (ds:=[])
theorem J9(l:Ψ.sp "going_order"=zk)(C:Ψ.sp "is_taken"=dW)(B:Ψ.sp "wrong_among"=ID)(A:Ψ.sp "live_among"=gG)(K:Ψ.sp "held_among"=iD):AG Ψ GV RO z7 KW:=by rintro _ Q _ ⟨w,rfl,k,q⟩;have I:=k.el;refine gA [bD (wD w),none,none,none,none,none,none,none,none,none,none] ?_;delta GV;simp_arith[↓RQ,↓xA (md:=[]) l rfl rfl];refine⟨by omega,by omega,by omega,?_⟩;simp_arith[↓yu,↓xA (md:=[]) l rfl rfl];refine⟨by omega,B1 k λns u=>?_⟩;delta U4;simp_arith[↓zA];rw[<- oA nD];have E:=KU u;refine EA (λn=>T.d (nD n)) (λr a=>∃g y i f o10,r.foldl (yC w) g=FF w ns/\(GsOk w g/\g.past.length+r.length<=60/\∀n∈r,n<w.es.length)/\(vN w y/\y.length<=10 * g.past.length)/\a=Ma w g.past g.taken (vH w g.past) g.held y g.steps i f o10) ?_ ?_ ns _ ⟨⟨[],[],[],[]⟩,[],none,none,none,rfl,⟨⟨λ_ z=>(by cases z),QW _,λ_ z=>(by cases z),λ_ z=>(by cases z),rfl⟩,by show 0+ns.length<=60;omega,jM u⟩,⟨λ_ z=>(by cases z),QW _⟩,rfl⟩;rintro a ⟨g,y,i,f,o10,e,_,_,rfl⟩;have e:g=FF w ns:=e;subst e;delta Ma;simp_arith[↓zA];exact q ns u;rintro n r a N W ⟨g,y,i,f,o10,e,⟨p,o,m⟩,⟨s,F⟩,rfl⟩;have o:g.past.length+(r.length+1)<=60:=o;have j:=m n QF;refine Ir C B A K k p (by omega) j s (by omega) λh b v X G=>W _ ⟨yC w g n,h,_,b,v,e,⟨dQ k p j,?_,λx Y=>m x (QE _ Y)⟩,⟨X,?_⟩,rfl⟩;show(g.past++[n]).length+r.length<=60;rw[QI];show g.past.length+1+r.length<=60;omega;show h.length<=10 * (g.past++[n]).length;rw[QI];show h.length<=10 * (g.past.length+1);omega
noncomputable def k8(w:Wd):Gs->LN->List Stp
 |_,[]=>[]|g,n::r=>(n,xW w g n,FY w g n,J7 w g n)::k8 w (yC w g n) r
theorem cR(w:Wd):∀(ns:LN) (g:Gs),(ns.foldl (yC w) g).steps=g.steps++k8 w g ns
 |[],g=>(qB _).symm|n::r,g=>by show(r.foldl (yC w) (yC w g n)).steps=_;rw[cR w r];show(g.steps++[_])++_=g.steps++(_::_);rw[Qu];rfl
def g0:Gs:=⟨[],[],[],[]⟩
theorem fQ(w:Wd)(ns:LN):(FF w ns).steps=k8 w g0 ns:=cR w ns g0
theorem yw(w:Wd):GsOk w g0:=⟨λ_ z=>(by cases z),QW _,λ_ z=>(by cases z),λ_ z=>(by cases z),rfl⟩
noncomputable def wU(w:Wd)(es:List Evt):Wd:=⟨w.ps,w.ms,w.ag,es⟩
end
section
variable{w:Wd}{es:List Evt}{f:Nat->Nat}(h:∀n,lA es n=lA w.es (f n))
include h
theorem rR(l:LN):xB es l=xB w.es (l.map f):=by unfold xB;rw[List.foldl_map];congr 1;funext ks n;unfold yE;rw[h]
theorem GT(l:LN):vH (wU w es) l=vH w (l.map f):=by unfold vH;rw[List.foldl_map,<- rR h];congr 1;funext ks n;show(match lA es n with | .tell _ a b m _ _=>if MT w (xB es l) b m=true then BQ ks (a,b) else ks|_=>ks)=_;rw[h];rfl
theorem Di(x:LN)(m:Str):BE es x m=BE w.es (x.map f) m:=by unfold BE;rw[QCS,QS];simp only[h];rfl
theorem Ji(l y:LN):DF (wU w es) l y=DF w (l.map f) (y.map f):=by
 have e:∀x,yZ (wU w es) l y x=yZ w (l.map f) (y.map f) x:=λx=>funext λm=>by
  have e:yJ (wU w es) l y m x=yJ w (l.map f) (y.map f) m x:=by show Held (BE es y m) (BG w (xB es l) m) (zM w) x=_;rw[Di h,rR h];rfl
  exact Q4.mpr (by rw[pI,pI,e])
 show(w.ps.flatMap λp=>(w.ms.filter (yZ (wU w es) l y p.1)).map λm=>(p.1,m))=_;simp only[e];rfl
end
section
variable{es:List Evt}{n:Nat}{l:List D}{x:D}
noncomputable def E7:Evt->Int
 | .see t _ _ _=>t|.tell t _ _ _ _ _=>t
def Oh(es:List Evt)(a b:Nat):Prop:=E7 (lA es a)<E7 (lA es b)∨E7 (lA es a)=E7 (lA es b)/\a<=b
theorem k6(h:n<es.length):(NF (es.map dC)).getD n (0,0)=(E7 (lA es n),(n:Int)):=by
 have e:VJ (dC (es[n]'h))=some (E7 (es[n]'h)):=by cases es[n]'h<;>rfl
 unfold NF lA;rw[QD,wG,QX,wE h];simp only[Qy,Wp];rw[QX,Qe h];simp only[Qy,Option.bind_some,Wp,e]
theorem x4{w:Wd}{ns:LN}(h:NI w ns):ns.Pairwise (Oh w.es):=by refine h.2.imp_of_mem λ{a b} y hb z=>?_;have z:=of_decide_eq_false z;rw[k6 (jM h a y),k6 (jM h b hb)]at z;unfold Oh;dsimp only at z;omega
theorem yh{l z:LN}(p:l.Perm z)(h:l.Pairwise (Oh es))(h':z.Pairwise (Oh es)):l=z:=QAi (λa b _ _ x y=>by unfold Oh at x y;omega) h h' p
def OP(n:Nat)(x:D):Prop:=x.canLay0=true/\x.depth<=n
theorem cM{n:Nat}:∀{l:List D},(∀x∈l,OP n x)->qi l=true/\wX l<=n
 |[],_=>⟨rfl,Qt _⟩|x::l,h=>by obtain⟨k,w⟩:=h x QF;obtain⟨u,z⟩:=cM (l:=l) λy v=>h y (QE _ v);exact⟨by show(x.canLay0&&qi l)=true;rw[k,u];rfl,Nat.max_le.mpr ⟨w,z⟩⟩
theorem E9(h:∀x∈l,OP n x):OP (n+1) (.list l):=⟨(cM h).1,Wn (cM h).2⟩
theorem P4(h:∀x∈l,OP n x):OP (n+1) (.tuple l):=⟨(cM h).1,Wn (cM h).2⟩
theorem sK{s:Str}(h:OkS s):OP n (.str s):=⟨h,Qt _⟩
theorem Hn{i:Int}:OP n (.int i):=⟨rfl,Qt _⟩
theorem jd(h:OP n x)(y:n<=64):sE x:=⟨h.1,QY h.2 y⟩
theorem Ec{m:Nat}(h:OP n x)(y:n<=m):OP m x:=⟨h.1,QY h.2 y⟩
theorem lF(h:OP n x)(u:∀y∈l,OP n y):∀y∈x::l,OP n y:=λy z=>by rcases QL.mp z with rfl|z;exact h;exact u y z
theorem A9:∀y∈([]:List D),OP n y:=λy h=>by cases h
theorem R4{α:Type}{f:α->D}{l:List α}(h:∀a∈l,OP n (f a)):∀y∈l.map f,OP n y:=λy z=>by obtain⟨a,u,rfl⟩:=QU.mp z;exact h a u
theorem Ic{p:Pt}(h:OkS p.1/\OkS p.2):OP 1 (pr p):=P4 (lF (sK h.1) (lF (sK h.2) A9))
theorem cg:OkS "see":=(by decide +kernel:qW "see"=true)
theorem f8:OkS "tell":=(by decide +kernel:qW "tell"=true)
theorem yd{w:Wd}(y:WOk w){e:Evt}(h:Nb w e):OP 2 (dC e):=by
 cases e with|see t p m z=>exact P4 (lF (sK cg) (lF Hn (lF (sK (y.nm h.1)) (lF (sK (y.mo _ h.2.1)) (lF (sK h.2.2) A9)))))|tell t a b m z q=>exact P4 (lF (sK f8) (lF Hn (lF (sK (y.nm h.1)) (lF (sK (y.nm h.2.1)) (lF (sK (y.mo _ h.2.2.1)) (lF (sK h.2.2.2.2.1) (lF (P4 (R4 λx u=>sK (y.nm (h.2.2.2.2.2 x u)))) A9)))))))
end
section
variable{ds es:List D}{L:Bool->Prop}{x:D}{op:CmpOp}
theorem u6(h:sE (.list ds))(q:L true):rQ .Eq (.list ds) (.list ds) L:=⟨h,h,by rw[QBN _ h.1];exact q⟩
theorem K4(h:sE (.list ds))(q:L false):rQ .NotEq (.list ds) (.list ds) L:=⟨h,h,by rw[QBN _ h.1];exact q⟩
end
def j5(a b:List Ky):Bool:=!ltR b a
noncomputable def yY(l:List (List Ky)):List (List Ky):=l.mergeSort j5
theorem bW(l:List (List Ky)):(yY l).Pairwise ZZ:=(QAr (λa b c x y=>by
 unfold j5 at *;rw[Q1]at *;exact YR.tr a b c x y) (λa b=>by
 unfold j5;cases z:ltR b a with|false=>rfl|true=>rw[YR.asy _ _ z];rfl) l).imp λ{a b} z=>by unfold j5 at z;rw[Q1]at z;exact z
theorem bJ(l:List (List Ky)):(yY l).Perm l:=QAG l j5
theorem cW{l x:List (List Ky)}(p:x.Perm l)(h:x.Pairwise ZZ):x=yY l:=ca (p.trans (bJ l).symm) h (bW l)
noncomputable def Yk:Evt->List Ky
 | .see t p m w=>[.s "see",.i t,.s p,.s m,.s w]|.tell t a b m w q=>[.s "tell",.i t,.s a,.s b,.s m,.s w,.l q]
theorem vd(e:Evt):rN (Yk e)=dC e:=by cases e<;>rfl
noncomputable abbrev Ct:=Evt×Bool×List (List Ky)×List Pt
noncomputable def dU(es:List Evt)(s:Stp):Ct:=(lA es s.1,s.2.1,yY (s.2.2.1.map λn=>Yk (lA es n)),s.2.2.2)
theorem Da{w:Wd}{l u z:LN}(p:u.Perm z):DF w l u=DF w l z:=by
 have e:∀x,yZ w l u x=yZ w l z x:=λx=>funext λm=>by have sub:∀{u z:LN},u.Perm z->yJ w l u m x->yJ w l z m x:=λp h=>Held.sub (λe a=>((p.filter _).map _).mem_iff.mp a) (λs v=>v) (λy n k=>⟨n,QBb _,k⟩) h;exact Q4.mpr (by rw[pI,pI];exact⟨sub p,sub p.symm⟩)
 show(w.ps.flatMap λp=>(w.ms.filter (yZ w l u p.1)).map λm=>(p.1,m))=(w.ps.flatMap λp=>(w.ms.filter (yZ w l z p.1)).map λm=>(p.1,m));simp only[e]
section
variable{w:Wd}{es:List Evt}{f:Nat->Nat}(h:∀n,lA es n=lA w.es (f n))
include h
theorem vc:∀(ns:LN) (g' g:Gs),g.past=g'.past.map f->g.taken=g'.taken.map f->g.held=g'.held->(k8 (wU w es) g' ns).map (dU es)=(k8 w g (ns.map f)).map (dU w.es)
 |[],_,_,_,_,_=>rfl|n::r,g',g,hp,ht,hh=>by
  have x:g.past++[f n]=(g'.past++[n]).map f:=by rw[hp,QO];rfl
  have v:xW w g (f n)=xW (wU w es) g' n:=by unfold xW;rw[hp,hh,<- GT h,<- h];rfl
  have u:xR w g (f n)=(xR (wU w es) g' n).map f:=by show(if(xW w g (f n)&&decide (VZ (lA w.es (f n))="tell"))=true then _ else _)=(if(xW (wU w es) g' n&&decide (VZ (lA es n)="tell"))=true then _ else _:LN).map f;rw[v,ht,<- h];split;rw[QO];rfl;rfl
  have z:(FY w g (f n)).Perm ((FY (wU w es) g' n).map f):=by unfold FY;rw[u,x,<- GT h];refine(MH _).trans (QBB.trans (QAF ?_) ((MH _).map f).symm);unfold KF;rw[QCS];show _=(List.filter (λn=>!decide (((FG (lA es n)).1,(FG (lA es n)).2)∈_)) _).map f;simp only[h];rfl
  have y:J7 w g (f n)=J7 (wU w es) g' n:=by unfold J7;rw[Ji h,x,Da z]
  have k:dU es (n,xW (wU w es) g' n,FY (wU w es) g' n,J7 (wU w es) g' n)=dU w.es (f n,xW w g (f n),FY w g (f n),J7 w g (f n)):=by
   have e:yY ((FY (wU w es) g' n).map λn=>Yk (lA es n))=yY ((FY w g (f n)).map λn=>Yk (lA w.es n)):=by refine cW ((bJ _).trans (QBB.symm ((z.map _).trans (QAF ?_)))) (bW _);rw[QS];exact qK λn _=>by rw[h];rfl
   unfold dU;rw[v,y];dsimp only;rw[e,h]
  show dU es _::(k8 (wU w es) (yC (wU w es) g' n) r).map (dU es)=dU w.es (f n,xW w g (f n),FY w g (f n),J7 w g (f n))::(k8 w (yC w g (f n)) (r.map f)).map (dU w.es);rw[<- vc r (yC (wU w es) g' n) (yC w g (f n)) x u y,<- k]
end
noncomputable def PQ(h:Int->Int)(es:List Evt)(k:Nat):List Ky:=[.i (h (E7 (lA es k))),.i (E7 (lA es k)),.i (k:Int)]
def lY(ps:LN)(N n:Nat):Nat:=ps.getD n N
structure PsO(dr:Int->Int)(es:List Evt)(ps:LN):Prop where
 p:ps.Perm (Qj es.length)
 o:ps.Pairwise λa b=>ZZ (PQ dr es a) (PQ dr es b)
section
variable{w:Wd}{es:List Evt}{ps:LN}{y:Int->Int}{N:Nat}
section
variable{n:Nat}{ns x:LN}
theorem PsO.lt(h:PsO y es ps)(z:n∈ps):n<es.length:=qG.mp (h.p.mem_iff.mp z)
theorem PsO.len(h:PsO y es ps):ps.length=es.length:=by rw[h.p.length_eq,Qv]
theorem Zm{h:List (List Ky)}(p:h.Perm ((Qj es.length).map (PQ y es)))(o:h.Pairwise ZZ):∃ps,h=ps.map (PQ y es)/\PsO y es ps:=by
 let z:List Ky->Nat:=λr=>match r with
  |[_,_,.i k]=>k.toNat|_=>0
 have v:∀k,z (PQ y es k)=k:=λk=>qM k;have u:(h.map z).map (PQ y es)=h:=by rw[QS];refine(qK λr a=>?_).trans (QAq h);obtain⟨k,_,rfl⟩:=QU.mp (p.mem_iff.mp a);show PQ y es (z (PQ y es k))=PQ y es k;rw[v]
 refine⟨h.map z,u.symm,?_,?_⟩;refine(p.map z).trans (QAF ?_);rw[QS];exact(qK λk _=>v k).trans (QAq _);refine wz.mp ?_;rw[u];exact o
theorem y9(h:n<ps.length):ps[n]?=some (lY ps N n):=by unfold lY;rw[wG,Qe h];rfl
theorem j9(n:Nat):lA (ps.map (lA es)) n=lA es (lY ps es.length n):=by
 by_cases h:n<ps.length;have e:=y9 (N:=es.length) h;unfold lA at *;rw[QX,e];rfl;have e:lY ps es.length n=es.length:=by unfold lY;rw[wG,Qk (Wo h)];rfl
 rw[e];unfold lA;rw[Qk (by rw[QD];exact Wo h),Qk (QW _)]
theorem Cm:(Qj ps.length).map (lY ps N)=ps:=by apply qU;intro i;rw[QX];by_cases h:i<ps.length;rw[wE h,y9 h];rfl;rw[Qk (by rw[Qv];omega),Qk (by omega)];rfl
noncomputable def wP(w:Wd)(ps:LN):Wd:=wU w (ps.map (lA w.es))
theorem Gf(u:WOk w)(h:PsO y w.es ps):WOk (wP w ps):=by
 refine⟨u.ag,u.al,u.pl,u.pn,u.po,u.ml,u.mo,u.mn,?_,λe k=>?_⟩;show(ps.map (lA w.es)).length<=60;rw[QD,h.len];exact u.el;obtain⟨n,v,rfl⟩:=QU.mp (show e∈ps.map (lA w.es) from k);have:=u.ev (h.lt v);cases z:lA w.es n with|see _ _ _ _=>rw[z]at this;exact this|tell _ _ _ _ _ _=>rw[z]at this;exact this
theorem RW(v:PsO y w.es ps)(h:NI w ns)(h':NI (wP w ps) x):x.map (lY ps w.es.length)=ns:=by
 have e:(wP w ps).es.length=ps.length:=QD _;have j:(x.map (lY ps w.es.length)).Perm ns:=by have:=h'.1.map (lY ps w.es.length);rw[QD,e,Cm]at this;have k:=h.1;rw[QD]at k;exact(this.trans v.p).trans k.symm
 refine yh (es:=w.es) j (wz.mpr ((x4 h').imp_of_mem λ{a b} u hb z=>?_)) (x4 h);have u:=jM h' a u;have hb:=jM h' b hb;rw[e]at u hb;have m:=j9 (ps:=ps) (es:=w.es) a;have l:=j9 (ps:=ps) (es:=w.es) b;have z:Oh (ps.map (lA w.es)) a b:=z;unfold Oh at *;rw[m,l]at z;refine z.imp id λz=>⟨z.1,?_⟩
 rcases Nat.lt_or_eq_of_le z.2 with c|c;have g:=y9 (N:=w.es.length) u;have f:=y9 (N:=w.es.length) hb;rw[Qe u]at g;rw[Qe hb]at f;have o:=WA.mp v.o a b u hb c;rw[Qs g,Qs f]at o;unfold ZZ PQ at o;rw[z.1]at o;have o:(if Ky.i _=Ky.i _ then if Ky.i _=Ky.i _ then if Ky.i ((lY ps w.es.length b:Nat):Int)=Ky.i ((lY ps w.es.length a:Nat):Int) then false else decide (((lY ps w.es.length b:Nat):Int)<((lY ps w.es.length a:Nat):Int)) else _ else _)=false:=o;rw[if_pos rfl,if_pos rfl]at o;split at o;rename_i q;injection q with q;omega;have:=of_decide_eq_false o;omega;rw[c];exact QW _
theorem z8(z:PsO y w.es ps)(h:NI w ns)(h':NI (wP w ps) x):(FF (wP w ps) x).steps.map (dU (wP w ps).es)=(FF w ns).steps.map (dU w.es):=by rw[fQ,fQ,<- RW z h h'];exact vc (λn=>j9 n) x g0 g0 rfl rfl rfl
theorem C7(z:PsO y w.es ps)(h:NI w ns)(h':NI (wP w ps) x):vH (wP w ps) x=vH w ns:=by rw[<- RW z h h'];exact GT (λn=>j9 n) x
end
end
section
variable{i k m:Int}{cs:LJ}{Ψ:PEv}
noncomputable def gI{α:Type}(l:List α)(i:Int)(d:α):α:=(AD l i).getD d
theorem TC{α:Type}{l:List α}{d:α}(z:0<=i)(y:i<l.length):AD l i=some (gI l i d)/\gI l i d∈l:=by obtain⟨v,x,h⟩:=JQ z y;unfold gI;rw[x];exact⟨rfl,qQ h⟩
theorem CC{α:Type}{f:α->D}{l:List α}(d:α){K:D->Prop}(x:0<=i)(h:i<l.length)(q:K (f (gI l i d))):fF (AD (l.map f) i) K:=by rw[YG,(TC (d:=d) x h).1];exact⟨_,rfl,q⟩
noncomputable def pO(cs:LJ)(k:Int):Int:=if 0<cs.length then gI cs (k % cs.length) 0 else 0
noncomputable def Gr(c k:Int):Int:=(c % 2147483647+7 * k+3) * (48271+1103 * k * k) % 2147483629
noncomputable def cA(cs:LJ)(k m:Int):Int:=Gr (pO cs k) k / 64 % m
theorem ZA(h:0<m):0<=cA cs k m/\cA cs k m<m:=⟨wx _ (by omega),wJ _ h⟩
theorem dj{j:Nat}(h:j<100)(c:Int)(hc:decide (0<=c/\c<=4000)=true):0<=c+(j:Int)/\c+(j:Int)<=5000:=by have:=of_decide_eq_true hc;omega
theorem dk(h:0<=k/\k<=100)(c:Int)(hc:decide (0<=c/\c<=40)=true):0<=11 * k+c/\11 * k+c<=5000:=by have:=of_decide_eq_true hc;omega
noncomputable def AB:PSp where
 md:=[.xy]
 run:=λh Q _=>∃(cs:LJ) (k m:Int),h=[.lst ((cs.map Jy).map T.d),.d (.int k),.d (.int m)]/\((0<=k/\k<=5000)/\0<m)/\Q (.d (.int (cA cs k m))) []
theorem D5{a b:LJ}(h:(a.map Jy).map T.d=(b.map Jy).map T.d):a=b:=(wn λx y e=>by injection e).mp ((wn λx y e=>by injection e).mp h)
theorem pB{K:T->LT->Prop}{E:XE}:eR AB [.lst ((cs.map Jy).map T.d),.d (.int k),.d (.int m)] K E=(((0<=k/\k<=5000)/\0<m)/\K (.d (.int (cA cs k m))) []):=propext ⟨λ⟨h,_,_,e,a,q⟩=>by injection e with e1 e2;injection e1 with e1;cases D5 e1;cases e2;exact⟨a,q⟩,λq=>⟨cs,k,m,rfl,q⟩⟩
theorem PM{ds:List D}{n:Bool}{md:List Md}{xs:List (T×Bool)}{C:LT->Prop}:aB (.xy::md) ((.d (.list ds),n)::xs) C=aB md xs λts=>C (.lst (ds.map T.d)::ts):=Gu (by rw[rA];simp only[jE,T.vw,VA,Qy])
theorem Z9:AG Ψ HM AB YT EN:=by
 rintro _ Q _ ⟨cs,k,m,rfl,⟨⟨u,y⟩,x⟩,q⟩;refine gA [some (.ky (.lst ((cs.map Jy).map T.d))),bD (.int k),bD (.int m),none,none] ?_;have r:∀c,c=pO cs k->pF Ψ jG (eZ Q) [some (.ky (.lst ((cs.map Jy).map T.d))),bD (.int k),bD (.int m),bD (.int c),none]:=by rintro c rfl;delta jG;simp_arith[↓zA];have a:=wx (pO cs k) (show(2147483647:Int)≠0 by decide);have b:=wJ (pO cs k) (show(0:Int)<2147483647 by decide);exact⟨uN.ok (.inl ⟨by decide,by decide⟩),uN.ok (.inl ⟨by decide,by decide⟩),uN.ok (.inr ⟨by omega,by omega⟩),uN.ok (.inl ⟨by omega,by omega⟩),x,q⟩
 delta HM;simp_arith[QD];by_cases c:0<cs.length;have h:(0:Int)<cs.length:=by omega
 rw[if_pos (dT h)];refine⟨h,CC 0 (wx _ (by omega)) (wJ _ h) ?_⟩;exact r _ (by unfold pO;rw[if_pos c]);rw[if_neg (λz=>by have:=of_decide_eq_true z;omega)];exact r _ (by unfold pO;rw[if_neg c])
noncomputable def OB(m:Int)(cs:LJ)(p:Int×Nat):LJ:=if(p.2:Int)<m then cs++[p.1] else cs.set ((p.2:Int) % m).toNat (gI cs ((p.2:Int) % m) 0 * 31+p.1)
noncomputable def XB(m:Int)(l:LJ):LJ:=l.zipIdx.foldl (OB m) []
theorem sM{m:Int}(y:0<m):∀(l:LJ) (i:Nat) (cs:LJ),(cs.length:Int)<=m->cs.length<=i->((i:Int)<m->cs.length=i)->((l.zipIdx i).foldl (OB m) cs).length<=m.toNat
 |[],i,cs,h,_,_=>by show cs.length<=_;omega|x::l,i,cs,h,h2,h3=>by show((l.zipIdx (i+1)).foldl (OB m) (OB m cs (x,i))).length<=_;unfold OB;split;rename_i c;have c:(i:Int)<m:=c;have:=h3 c;refine sM y l (i+1) _ ?_ ?_ λ_=>?_;rw[QI];show((cs.length+1:Nat):Int)<=m;omega;rw[QI];show cs.length+1<=i+1;omega;rw[QI];show cs.length+1=i+1;omega;rename_i c;have c:¬ (i:Int)<m:=c;refine sM y l (i+1) _ ?_ ?_ λz=>?_;rw[qY];exact h;rw[qY];omega;omega
noncomputable def cJ:PSp where
 md:=[.xy]
 run:=λx Q _=>∃(h:LJ) (m:Int),x=[.lst ((h.map Jy).map T.d),.d (.int m)]/\(0<m/\m<=100)/\Q (.lst (((XB m h).map Jy).map T.d)) []
noncomputable def Jo(ns:LJ)(m:Int)(cs:LJ)(o3 o4:Option Sl):kA:=[some (.ky (.lst ((ns.map Jy).map T.d))),bD (.int m),oW (.lst ((cs.map Jy).map T.d)),o3,o4]
noncomputable def Xo{α:Type}(f:α->D)(p:α×Nat):T:=.d (.tuple [.int (p.2:Int),f p.1])
theorem n6{α:Type}(f:α->D)(l:List α):((l.map f).zipIdx.map λp=>T.d (.tuple [.int (p.2:Int),p.1]))=l.zipIdx.map (Xo f):=by rw[List.zipIdx_map,QS];rfl
theorem Dj{E:XE}{c:PX}{s y r:PT}{Z:PEnds}{o:Option Sl}{σ:kA}:bB Ψ E (.seq (.ife c s y) r) Z (o::σ)=LQ Ψ c E (o::σ) λk x=>if k=true then bB Ψ E s { Z with nx:=λh=>bB Ψ E r Z h } x else bB Ψ E y { Z with nx:=λh=>bB Ψ E r Z h } x:=rfl
theorem aY:AG Ψ KH cJ IM IJ:=by
 rintro _ Q _ ⟨h,m,rfl,⟨g,s⟩,q⟩;refine gA [some (.ky (.lst ((h.map Jy).map T.d))),bD (.int m),none,none,none] ?_;delta KH;simp_arith[↓zA];refine⟨by omega,?_⟩;rw[n6];refine EA (Xo Jy) (λr v=>∃l i cs f w,r=List.zipIdx l i/\r.foldl (OB m) cs=XB m h/\((cs.length:Int)<=m/\((i:Int)<m->cs.length=i)/\(m<=(i:Int)->(cs.length:Int)=m))/\v=Jo h m cs f w) ?_ ?_ _ _ ⟨h,0,[],none,none,rfl,rfl,⟨by show(0:Int)<=m;omega,λ_=>rfl,λz=>by omega⟩,rfl⟩;rintro v ⟨l,i,cs,f,w,_,e,_,rfl⟩;have e:cs=XB m h:=e;subst e;delta Jo;simp_arith[↓zA];exact q;rintro⟨x,j⟩ r v N n ⟨l,i,cs,f,w,u,e,⟨X,p,o⟩,rfl⟩;cases l with|nil=>cases u|cons y l=>injection u with u e3;injection u with e4 e5;subst e4;subst e5;have e:r.foldl (OB m) (OB m cs (x,j))=XB m h:=e;delta Jo Xo;delta DI;simp_arith[↓Dj];by_cases c:(j:Int)<m;rw[show OB m cs (x,j)=cs++[x] from if_pos c]at e;have:=p c;simp_arith[dT c,QD];refine⟨by omega,n _ ⟨l,j+1,cs++[x],bD (.int (j:Int)),bD (.int x),e3,e,⟨?_,?_,?_⟩,?_⟩⟩;rw[QI];show((cs.length+1:Nat):Int)<=m;omega;rw[QI];intro z;show cs.length+1=j+1;omega;rw[QI];intro z;show((cs.length+1:Nat):Int)=m;omega;delta Jo;rw[QO,QO];rfl;rw[show OB m cs (x,j)=cs.set ((j:Int) % m).toNat (gI cs ((j:Int) % m) 0 * 31+x) from if_neg c]at e;have Y:(cs.length:Int)=m:=o (by omega);have a:=wx (j:Int) (show m≠0 by omega);have b:=wJ (j:Int) g;rw[if_neg (λz=>c (of_decide_eq_true z))];refine⟨g,CC 0 a (by omega) ?_⟩;simp_arith[↓zA];refine⟨uN.ok (.inr ⟨by decide,by decide⟩),g,Iq a (by rw[QD];omega) (n _ ⟨l,j+1,cs.set ((j:Int) % m).toNat (gI cs ((j:Int) % m) 0 * 31+x),bD (.int (j:Int)),bD (.int x),e3,e,⟨?_,?_,?_⟩,?_⟩)⟩;rw[qY];omega;intro z;omega;intro z;rw[qY];omega;delta Jo;rw[QBD,QBD,QBD]
end
section
variable{Ψ:PEv}{E:XE}{ρ:kA}{K:TK}{a y v h b:PX}{x:D}{n:Bool}{f:Str}{op:Operator}{g:Bi}{i:Int}
def zY(x:T)(n:Bool)(Ψ:PEv)(y v:PX)(E:XE)(m:kA)(K:TK):Prop:=sq (α:=Option Int) (pA x n) m (if isNop y=true then λρ (R:Option Int->kA->Prop)=>R none ρ else λρ R=>(pe Ψ y E).e ρ λl _ j=>aF l.er λo=>R o j) λl j =>
   sq (α:=Option Int) (pA x n) j (if isNop v=true then λρ (R:Option Int->kA->Prop)=>R none ρ else λρ R=>(pe Ψ v E).e ρ λu _ w=>aF u.er λo=>R o w) λu w=>fN (pA x n).vw l u λz k=>K z k w
theorem DQ:oB Ψ (.slc a y v) E ρ K=oB Ψ a E ρ λx n z=>zY x n Ψ y v E z K:=rfl
theorem Xs:zY (.d x) n Ψ .nop (.call f h) E ρ K=oB Ψ (.call f h) E ρ λu _ w=>NL u λo=>dN (.d x) n none o λz k=>K z k w:=by cases n<;>rfl
theorem Us:zY (.d x) n Ψ .nop (.bin op a b) E ρ K=oB Ψ (.bin op a b) E ρ λu _ w=>NL u λo=>dN (.d x) n none o λz k=>K z k w:=by cases n<;>rfl
theorem Vs:zY (.d x) n Ψ .nop (.bi g h) E ρ K=oB Ψ (.bi g h) E ρ λu _ w=>NL u λo=>dN (.d x) n none o λz k=>K z k w:=by cases n<;>rfl
theorem Cs:zY (.d x) n Ψ (.call f h) .nop E ρ K=oB Ψ (.call f h) E ρ λu _ w=>NL u λo=>dN (.d x) n o none λz k=>K z k w:=by cases n<;>rfl
theorem Bs:zY (.d x) n Ψ (.int i) (.bin op a b) E ρ K=oB Ψ (.bin op a b) E ρ λu _ w=>NL u λo=>dN (.d x) n (some i) o λz k=>K z k w:=by cases n<;>rfl
end
section
variable{a k most:Int}{b d e c:D}{Ψ:PEv}{n m:Bool}{Q:T->Bool->Prop}{R:T->Prop}{i:Nat}{ps:Ps}{w:LS}{cs:LJ}{o:Option (Str×Str)}{p:Str×Str}{Z:PEnds}{ρ:kA}
def PP:Str:="bcdfgjkmnpqvwxyz"
noncomputable def Nc(a b f:Int)(k:Nat):Str:=nJ "zq" a++⟨#[gI PP.cps.toList ((f+(k:Int)) % 16) 0]⟩++wl "vzb" none (some b)
noncomputable def Sm(a b f:Int):LS:=(Qj 16).map (Nc a b f)
noncomputable def Ej(s:Str):Bool:=decide (s.length<=3)&&s.cps.toList.all λc=>decide (c<128)
theorem X8:((Qj 2).all λ(a:Nat)=>Ej (nJ "zq" (a:Int)))=true:=by decide +kernel
theorem y8:((Qj 4).all λ(b:Nat)=>Ej (wl "vzb" none (some (b:Int))))=true:=by decide +kernel
theorem ba:(decide PP.cps.toList.Nodup&&PP.cps.toList.all λc=>decide (c<128))=true:=by decide +kernel
theorem U2(h:0<=a)(x:a<2):Ej (nJ "zq" a)=true:=by obtain⟨a,rfl⟩:=qZ h;exact Qw.mp X8 a (qG.mpr (by omega))
theorem B0(h:0<=a)(x:a<4):Ej (wl "vzb" none (some a))=true:=by obtain⟨a,rfl⟩:=qZ h;exact Qw.mp y8 a (qG.mpr (by omega))
theorem yM(a b f:Int)(k:Nat):(Nc a b f k).cps.toList=(nJ "zq" a).cps.toList++([gI PP.cps.toList ((f+(k:Int)) % 16) 0]++(wl "vzb" none (some b)).cps.toList):=by show((nJ "zq" a).cps++#[gI PP.cps.toList ((f+(k:Int)) % 16) 0]++(wl "vzb" none (some b)).cps).toList=_;rw[QBd,QBd,Qu]
theorem Zi{l:LN}(h:l.Nodup){x y:Int}(j:0<=x)(g:x<l.length)(f:0<=y)(z:y<l.length)(e:gI l x 0=gI l y 0):x=y:=by obtain⟨v,X,s⟩:=JQ j g;obtain⟨u,r,q⟩:=JQ f z;unfold gI at e;rw[X,r]at e;have e:v=u:=e;subst e;have:=(QB4 (i:=x.toNat) (by omega) h).mp (s.trans q.symm);omega
theorem cK(f:Int)(k:Nat):0<=(f+(k:Int)) % 16/\(f+(k:Int)) % 16<PP.cps.toList.length:=⟨wx _ (by decide),wJ _ (by decide)⟩
theorem Bh{b f:Int}(q:0<=a)(l:a<2)(g:0<=b)(v:b<4)(X:0<=f)(r:f<16):(Sm a b f).Nodup/\∀x∈Sm a b f,OkS x:=by
 have o:=ba;rw[Qd,decide_eq_true_iff]at o;have p:=U2 q l;have s:=B0 g v;unfold Ej at p s;rw[Qd]at p s;constructor;refine wz.mpr (wZ (λ{i j} u z h e=>h ?_) QCK);have e:=congrArg (λs:Str=>s.cps.toList) e;have e:(Nc a b f i).cps.toList=(Nc a b f j).cps.toList:=e;rw[yM,yM]at e;have e:=List.append_cancel_left e;injection e with e _;have:=Zi o.1 (cK f i).1 (cK f i).2 (cK f j).1 (cK f j).2 e;have:=qG.mp u;have:=qG.mp z;omega;intro x y;obtain⟨k,_,rfl⟩:=QU.mp y;show(Nc a b f k).cps.all _=true;rw[<- Array.all_toList,yM,Qw];intro c hc;have:c<128:=by
  rcases Qh.mp hc with hc|hc;exact of_decide_eq_true (Qw.mp p.2 c hc);rcases Qh.mp hc with hc|hc
  ·rw[QJ.mp hc]
   exact of_decide_eq_true (Qw.mp o.2 _ (TC (cK f k).1 (cK f k).2).2)
  exact of_decide_eq_true (Qw.mp s.2 c hc)
 exact dT (by omega)
noncomputable def FC(cs:LJ):LS:=Sm (cA cs 901 2) (cA cs 902 4) (cA cs 903 16)
theorem YF(cs:LJ):(FC cs).Nodup/\(∀x∈FC cs,OkS x)/\(FC cs).length=16:=by have a:=ZA (cs:=cs) (k:=901) (m:=2) (by decide);have b:=ZA (cs:=cs) (k:=902) (m:=4) (by decide);have c:=ZA (cs:=cs) (k:=903) (m:=16) (by decide);obtain⟨y,h⟩:=Bh a.1 a.2 b.1 b.2 c.1 c.2;exact⟨y,h,by unfold FC Sm;rw[QD,Qv]⟩
noncomputable def mL:PSp where
 run:=λh Q _=>∃cs:LJ,h=[.d (.list (cs.map Jy))]/\Q (.lst (((FC cs).map Jx).map T.d)) []
theorem O3(u:Ψ.sp "_law_draw"=AB):AG Ψ CJ mL XO FL:=by
 rintro _ Q _ ⟨cs,rfl,q⟩;have a:=ZA (cs:=cs) (k:=901) (m:=2) (by decide);have b:=ZA (cs:=cs) (k:=902) (m:=4) (by decide);have c:=ZA (cs:=cs) (k:=903) (m:=16) (by decide);refine gA [bD (.list (cs.map Jy)),none,none,none,none] ?_;delta CJ;simp_arith[↓DQ,↓Xs,↓E1,↓xA (md:=[.xy]) u rfl rfl,↓PM,↓pB];have y:(QR "zq").length=2:=rfl;have x:(QR "vzb").length=3:=rfl;have h:(QR "bcdfgjkmnpqvwxyz").length=16:=rfl;rw[y,x];refine⟨by omega,by omega,by omega,by omega,?_⟩;refine gB (λ(i:Nat)=>T.d (.int (i:Int))) (λi=>T.d (.str (Nc (cA cs 901 2) (cA cs 902 4) (cA cs 903 16) i))) _ [] _ (λi j R z=>?_) (by show 0+(Qj 16).length<=_;rw[Qv];omega) ?_;simp_arith[↓zA];have X:=wx (cA cs 903 16+(i:Int)) (show(16:Int)≠0 by decide);have r:=wJ (cA cs 903 16+(i:Int)) (show(0:Int)<16 by decide);rw[h];refine⟨by omega,?_⟩;have v:AD (QR "bcdfgjkmnpqvwxyz").cps.toList ((cA cs 903 16+(i:Int)) % 16)=some (gI PP.cps.toList ((cA cs 903 16+(i:Int)) % 16) 0):=(TC (l:=PP.cps.toList) (cK _ i).1 (cK _ i).2).1;refine⟨_,v,?_⟩;simp_arith[↓zA];have p:=U2 a.1 a.2;have s:=B0 b.1 b.2;unfold Ej at p s;rw[Qd,decide_eq_true_iff]at p s;have e:(nJ (QR "zq") (cA cs 901 2)++⟨#[gI PP.cps.toList ((cA cs 903 16+(i:Int)) % 16) 0]⟩:Str).length=(nJ (QR "zq") (cA cs 901 2)).length+1:=Array.size_append;have g:(nJ (QR "zq") (cA cs 901 2)).length<=3:=p.1;have f:(wl (QR "vzb") none (some (cA cs 902 4))).length<=3:=s.1;rw[e];exact⟨by show _+1<=_;omega,by omega,z⟩;rw[Qg,oA λi=>Jx (Nc (cA cs 901 2) (cA cs 902 4) (cA cs 903 16) i)];have e:((Qj 16).map λi=>Jx (Nc (cA cs 901 2) (cA cs 902 4) (cA cs 903 16) i))=(FC cs).map Jx:=by unfold FC Sm;rw[QS];rfl
 exact e▸q
def Bk(b:Bool):Int:=if b then 1 else 0
theorem Sc{b:Bool}:PK .int [(.d (.bool b),n)] Q=Q (.d (.int (Bk b))) false:=by unfold PK IB;rw[rA];exact To b
theorem pq{f g h k:D}{t:T}:CA (.lst [.d d,.d e,.d f,.d g,.d h,.d k]) n t m R=CA (.lst ([d,e,f,g,h,k].map T.d)) n t m R:=rfl
noncomputable def Og(cs:LJ)(h:Int)(p:Str×Nat):Str×Int×Int×Int:=(p.1,cA cs (910+(p.2:Int)) h,cA cs (920+(p.2:Int)) h * Bk (decide (cA cs (930+(p.2:Int)) 3=0)),gI [1,1,1,2,2,3] (cA cs (940+(p.2:Int)) 6) 0)
noncomputable def yL(cs:LJ):Int:=gI [4,100] (cA cs 904 2) 0
noncomputable def KR(cs:LJ)(ns:LS):List (Str×Int×Int×Int):=ns.zipIdx.map (Og cs (yL cs))
noncomputable def bU:PSp where
 run:=λx Q _=>∃(cs:LJ) (h:LS),x=[.d (.list (cs.map Jy)),.d (.list (h.map Jx))]/\h.length<=100/\Q (.lst (((KR cs h).map xJ).map T.d)) []
noncomputable def Ip(cs:LJ)(ns:LS)(ps:List (Str×Int×Int×Int))(o4 o5 o6 o7:Option Sl):kA:=[bD (.list (cs.map Jy)),bD (.list (ns.map Jx)),oW (.lst ((ps.map xJ).map T.d)),bD (.int (yL cs)),o4,o5,o6,o7]
theorem RZ(cs:LJ):0<yL cs:=by have a:=ZA (cs:=cs) (k:=904) (m:=2) (by decide);have:=(TC (l:=[(4:Int),100]) (d:=0) a.1 a.2).2;show 0<gI _ _ _;rcases QL.mp this with e|e;rw[e];decide;rw[QJ.mp e];decide
theorem Uk(b:Bool):-(2 ^ 64)<Bk b/\Bk b<2 ^ 64:=by cases b<;>decide
theorem S9{α:Type}{l:List α}{p:α×Nat}(h:p∈l.zipIdx i):p.1∈l/\p.2<i+l.length:=by obtain⟨z,y,x⟩:=List.mem_zipIdx h;exact⟨x▸wk _,y⟩
theorem mh(X:Ψ.sp "_law_draw"=AB):AG Ψ ZH bU EM EJ:=by
 rintro _ Q _ ⟨cs,h,rfl,hl,q⟩;have a:=ZA (cs:=cs) (k:=904) (m:=2) (by decide);have wp:=RZ cs;refine gA [bD (.list (cs.map Jy)),bD (.list (h.map Jx)),none,none,none,none,none,none] ?_;delta ZH;simp_arith[↓xA (md:=[.xy]) X rfl rfl,↓PM,↓pB];refine⟨by omega,by omega,CC (f:=Jy) (l:=[4,100]) 0 a.1 a.2 ?_⟩;rw[n6];refine EA (Xo Jx) (λr ρ=>∃ps g v u z,ps++r.map (Og cs (yL cs))=KR cs h/\(ps.length+r.length<=100/\∀p∈r,p.2<100)/\ρ=Ip cs h ps g v u z) ?_ ?_ _ _ ⟨[],none,none,none,none,rfl,⟨by rw[List.length_zipIdx];show 0+_<=_;omega,λp s=>by have:=(S9 s).2;omega⟩,rfl⟩;rintro ρ ⟨ps,g,v,u,z,e,_,rfl⟩;have e:ps=KR cs h:=by rw[<- e];exact(qB _).symm
 subst e;delta Ip;simp_arith[↓zA];exact q;rintro⟨x,j⟩ r ρ N E ⟨ps,g,v,u,z,e,⟨W,Y⟩,rfl⟩;have W:ps.length+(r.length+1)<=100:=W;have y:j<100:=Y (x,j) QF;have b:=ZA (cs:=cs) (k:=940+(j:Int)) (m:=6) (by decide);delta Ip Xo;delta CI;simp?[↓xA (md:=[.xy]) X rfl rfl,↓PM,↓pB,↓Sc,↓pq,QD];have C:=dj y 910 rfl;have B:=dj y 920 rfl;have A:=dj y 930 rfl;have K:=dj y 940 rfl;refine⟨C.1,C.2,wp,B.1,B.2,wp,A.1,A.2,uN.ok (.inr (Uk _)),by omega,K.1,K.2,CC (f:=Jy) (l:=[1,1,1,2,2,3]) 0 b.1 b.2 ⟨by omega,by omega,E _ ⟨ps++[Og cs (yL cs) (x,j)],bD (.int (j:Int)),bD (.str x),bD (.int (cA cs (910+(j:Int)) (yL cs))),bD (.int (cA cs (920+(j:Int)) (yL cs) * Bk (decide (cA cs (930+(j:Int)) 3=0)))),?_,⟨?_,λp s=>Y p (QE _ s)⟩,?_⟩⟩⟩;rw[Qu];exact e;rw[QI];show ps.length+1+r.length<=100;omega;delta Ip;rw[QO,QO];rfl
theorem jO(cs:LJ)(ns:LS):(KR cs ns).map (λp=>p.1)=ns:=by unfold KR;rw[QS];exact List.zipIdx_map_fst 0 ns
noncomputable abbrev Ps:=List (Str×Int×Int×Int)
def Ij:Str×Int×Int×Int:=("",0,0,0)
noncomputable def PR(ps:Ps)(i:Int):Str:=(gI ps i Ij).1
noncomputable def J3(ps:Ps)(x:Str):LS:=(ps.filter λp=>!decide (p.1=x)).map λp=>p.1
noncomputable def Ef(cs:LJ)(k:Int):Int:=gI [k,2 * (k / 2),cA cs (11 * k+3) 9,100 - k] (cA cs 905 4) 0
noncomputable def Sk(cs:LJ)(k:Int):Str:=wl "abcdef" (some (cA cs (11 * k+2) 6)) none
noncomputable def uk(cs:LJ)(k:Int)(w:LS):Str:=gI w (cA cs (11 * k+1) (w.length:Int)) ""
noncomputable def jt(cs:LJ)(k:Int)(ps:Ps):LS:=(Qj (cA cs (11 * k+7) 3).toNat).map λ(j:Nat)=>PR ps (cA cs (11 * k+8+(j:Int)) (ps.length:Int))
noncomputable def pX(cs:LJ)(k:Int)(ps:Ps)(w:LS):Evt:=.see (Ef cs k) (PR ps (cA cs (11 * k) (ps.length:Int))) (uk cs k w) (Sk cs k)
noncomputable def MF(cs:LJ)(k:Int)(ps:Ps)(a m:Str):Evt:=.tell (Ef cs k) a (gI (J3 ps a) (cA cs (11 * k+6) ((J3 ps a).length:Int)) "") m (Sk cs k) (jt cs k ps)
noncomputable def Xi(cs:LJ)(k:Int)(ps:Ps)(w:LS):Option (Str×Str)->Evt
 |none=>pX cs k ps w|some (a,b)=>if cA cs (11 * k+4) 4=0 then pX cs k ps w else if 0<cA cs (11 * k+5) 3 then MF cs k ps a b else MF cs k ps (PR ps (cA cs (11 * k) (ps.length:Int))) (uk cs k w)
noncomputable def xa:Option (Str×Str)->D
 |none=>.none|some p=>pr p
def Fj(ps:Ps)(w:LS):Option (Str×Str)->Prop
 |none=>True|some (a,b)=>(∃p∈ps,p.1=a)/\b∈w
structure BdOk(ps:Ps)(w:LS):Prop where
 p2:2<=ps.length
 pl:ps.length<=11
 nd:(ps.map λp=>p.1).Nodup
 m1:1<=w.length
 ml:w.length<=10
theorem d3(h:BdOk ps w)(x:Str):0<(J3 ps x).length:=by
 have y:=h.p2;have nd:=h.nd;cases ps with
 |nil=>simp at y|cons p r=>cases r with|nil=>simp at y|cons q r=>have z:p.1≠q.1:=λe=>(Qi.mp nd).1 (show p.1∈_ from e.symm▸QF);refine WZ (a:=if p.1=x then q.1 else p.1) ?_;unfold J3;split;rename_i c;exact QU.mpr ⟨q,QZ.mpr ⟨QE _ QF,by rw[dF λe=>z (c.trans e.symm)];rfl⟩,rfl⟩;rename_i c;exact QU.mpr ⟨p,QZ.mpr ⟨QF,by rw[dF c];rfl⟩,rfl⟩
noncomputable def tL:PSp where
 run:=λh Q _=>∃(cs:LJ) (k:Int) (ps:Ps) (w:LS) (o:Option (Str×Str)),h=[.d (.list (cs.map Jy)),.d (.int k),.d (.list (ps.map xJ)),.d (.list (w.map Jx)),.d (xa o)]/\(0<=k/\k<=100)/\BdOk ps w/\Q (.d (dC (Xi cs k ps w o))) []
theorem Xn{a:D}:uE [.d a,.d b,.d c,.d d,.d e]=.d (.tuple [a,b,c,d,e]):=rfl
theorem Dr{a f g:D}:uE [.d a,.d b,.d c,.d d,.d e,.d f,.d g]=.d (.tuple [a,b,c,d,e,f,g]):=rfl
theorem Im{ds:List D}:PK .tuple [(.lst (ds.map T.d),n)] Q=Q (.d (.tuple ds)) false:=by unfold PK IB;rw[YE];show XX .tuple [.ls (ds.map T.d)] Q=_;rw[ye];exact propext ⟨λ⟨_,e,q⟩=>by rw[VA]at e;cases e;exact q,λq=>⟨_,VA _,q⟩⟩
theorem Mf:(QR "abcdef").length=6:=rfl
noncomputable def Jk(cs:LJ)(k:Int)(ps:Ps)(w:LS)(o:Option (Str×Str))(mt:Str)(o8:Option Sl)(o10 z y x h:Option Sl):kA:=[bD (.list (cs.map Jy)),bD (.int k),bD (.list (ps.map xJ)),bD (.list (w.map Jx)),bD (xa o),bD (.int (cA cs (11 * k) (ps.length:Int))),bD (.str mt),bD (.str (Sk cs k)),o8,bD (.int (Ef cs k)),o10,z,y,x,h]
theorem T9:IntMulOk 11 k:=uN.ok (.inl ⟨by decide,by decide⟩)
theorem Ud(f:Ψ.sp "_law_draw"=AB){Q:T->LT->Prop}{a mt:Str}{o8 z y x h:Option Sl}(hk:0<=k/\k<=100)(hb:BdOk ps w)(q:Q (.d (dC (MF cs k ps a mt))) []):pF Ψ RE (eZ Q) (Jk cs k ps w o mt o8 (bD (.str a)) z y x h):=by
 have C:=d3 hb a;have A:=hb.pl;have B:=hb.p2;delta Jk;delta RE;simp_arith[↓zA];rw[<- oA xJ];refine fA (λp=>T.d (xJ p)) (λ(p:Str×Int×Int×Int)=>T.d (.str p.1)) (λp=>!decide (p.1=a)) ps [] _ (λp v R u=>?_) (by show 0+ps.length<=_;omega) ?_;simp_arith[↓SK];split at u;rename_i c;rw[if_pos c];exact u;rename_i c;rw[if_neg c];exact u;rw[Qg,oA λp:Str×Int×Int×Int=>Jx p.1];have e:((ps.filter λp=>!decide (p.1=a)).map λp=>Jx p.1)=(J3 ps a).map Jx:=by unfold J3;rw[QS];rfl
 rw[e];simp_arith[↓xA (md:=[.xy]) f rfl rfl,↓PM,↓pB,QD];have Y:=ZA (cs:=cs) (k:=11 * k+6) (m:=((J3 ps a).length:Int)) (by omega);have F:=ZA (cs:=cs) (k:=11 * k+7) (m:=3) (by decide);have s:=dk hk 7 rfl;refine⟨T9,(dk hk 6 rfl).1,(dk hk 6 rfl).2,by omega,CC (α:=Str) "" Y.1 Y.2 ?_⟩;refine⟨by omega,T9,s.1,s.2,by omega,by omega,?_⟩;refine EA (λ(i:Nat)=>T.d (.int (i:Int))) (λr ρ=>∃bs h,bs++r.map (λ(j:Nat)=>PR ps (cA cs (11 * k+8+(j:Int)) (ps.length:Int)))=jt cs k ps/\(bs.length+r.length<=3/\∀j∈r,j<3)/\ρ=Jk cs k ps w o mt o8 (bD (.str a)) (bD (.list ((J3 ps a).map Jx))) (bD (.str (gI (J3 ps a) (cA cs (11 * k+6) ((J3 ps a).length:Int)) ""))) (oW (.lst ((bs.map Jx).map T.d))) h) ?_ ?_ _ _ ⟨[],h,rfl,⟨by rw[Qv];show 0+_<=3;omega,λj W=>by have:=qG.mp W;omega⟩,rfl⟩;rintro ρ ⟨bs,h,e,_,rfl⟩;have e:bs=jt cs k ps:=by rw[<- e];exact(qB _).symm
 subst e;delta Jk;simp_arith[↓Im,↓Dr];exact⟨by omega,q⟩;rintro j r ρ N K ⟨bs,h,e,⟨l,g⟩,rfl⟩;have l:bs.length+(r.length+1)<=3:=l;have E:j<3:=g j QF;have X:=ZA (cs:=cs) (k:=11 * k+8+(j:Int)) (m:=(ps.length:Int)) (by omega);delta Jk;delta mK;simp?[↓xA (md:=[.xy]) f rfl rfl,↓PM,↓pB,QD];refine⟨T9,by omega,by omega,by omega,CC Ij X.1 X.2 ?_⟩;simp_arith[↓SK,QD];refine⟨by omega,K _ ⟨bs++[PR ps (cA cs (11 * k+8+(j:Int)) (ps.length:Int))],bD (.int (j:Int)),?_,⟨?_,λp v=>g p (QE _ v)⟩,?_⟩⟩;rw[Qu];exact e;rw[QI];show bs.length+1+r.length<=3;omega;delta Jk;rw[QO,QO];rfl
theorem Ld{L:Bool->Prop}:UB .Is (.d (xa o)) (.d .none) L=L o.isNone:=by cases o<;>rfl
theorem Hk:CA (.d (xa (some p))) n (.d (.int 0)) m R=R (.d (.str p.1)):=DA (i:=0) rfl
theorem Gk:CA (.d (xa (some p))) n (.d (.int 1)) m R=R (.d (.str p.2)):=DA (i:=1) rfl
theorem Et{E:XE}{r:PT}{a:D}:eL Ψ E r Z i (.lst [.d a,.d b,.d c,.d d]) true ρ=bB Ψ E r Z (ρ.set i (bD (.list [a,b,c,d]))):=Cp (ds:=[a,b,c,d])
theorem eh(x:Ψ.sp "_law_draw"=AB):AG Ψ DJ tL UO GL:=by
 rintro _ Q _ ⟨cs,k,ps,w,o,rfl,hk,hb,q⟩;have W:=hb.pl;have K:=hb.p2;have A:=hb.m1;have h:=ZA (cs:=cs) (k:=11 * k) (m:=(ps.length:Int)) (by omega);have Y:=ZA (cs:=cs) (k:=11 * k+1) (m:=(w.length:Int)) (by omega);have B:=ZA (cs:=cs) (k:=11 * k+2) (m:=6) (by decide);have X:=ZA (cs:=cs) (k:=905) (m:=4) (by decide);refine gA [bD (.list (cs.map Jy)),bD (.int k),bD (.list (ps.map xJ)),bD (.list (w.map Jx)),bD (xa o),none,none,none,none,none,none,none,none,none,none] ?_;delta DJ;simp?[↓DQ,↓Cs,↓E1,↓xA (md:=[.xy]) x rfl rfl,↓PM,↓pB,QD,↓Uj,↓Ld];have s:=dk hk 1 rfl;have r:=dk hk 2 rfl;have j:=dk hk 3 rfl;refine⟨T9,by omega,by omega,by omega,T9,s.1,s.2,by omega,CC (α:=Str) "" Y.1 Y.2 ?_⟩;rw[Mf];refine⟨T9,r.1,r.2,by omega,uN.ok (.inl ⟨by decide,by decide⟩),T9,j.1,j.2,by omega,?_⟩;simp_arith[↓Et,↓xA (md:=[.xy]) x rfl rfl,↓PM,↓pB,↓Uj,↓Ld];refine CC (f:=Jy) (l:=[k,2 * (k / 2),cA cs (11 * k+3) 9,100 - k]) 0 X.1 X.2 ?_;cases o with|none=>simp_arith[Option.isNone_none];refine CC Ij h.1 h.2 ?_;simp_arith[↓SK,↓Xn];exact⟨by omega,q⟩|some p=>simp_arith[Option.isNone_some];have g:=dk hk 4 rfl;refine⟨T9,g.1,g.2,?_⟩;have q:Q (.d (dC (if cA cs (11 * k+4) 4=0 then pX cs k ps w else if 0<cA cs (11 * k+5) 3 then MF cs k ps p.1 p.2 else MF cs k ps (PR ps (cA cs (11 * k) (ps.length:Int))) (uk cs k w)))) []:=q;by_cases u:cA cs (11 * k+4) 4=0;rw[if_pos u]at q;rw[if_pos (dT u)];refine CC Ij h.1 h.2 ?_;simp_arith[↓SK,↓Xn];exact⟨by omega,q⟩;rw[if_neg u]at q;rw[if_neg (λz=>u (of_decide_eq_true z))];refine CC Ij h.1 h.2 ?_;simp_arith[↓SK,↓xA (md:=[.xy]) x rfl rfl,↓PM,↓pB,↓Hk,↓Gk];have v:=dk hk 5 rfl;refine⟨T9,v.1,v.2,?_⟩;by_cases y:0<cA cs (11 * k+5) 3;rw[if_pos y]at q;rw[if_pos (dT y)];exact Ud (mt:=p.2) x hk hb q;rw[if_neg y]at q;rw[if_neg (λz=>y (of_decide_eq_true z))];exact Ud (mt:=uk cs k w) x hk hb q
theorem Lc{i:Int}(x:0<=i)(h:i<(ps.length:Int)):∃p∈ps,p.1=PR ps i:=⟨_,(TC (d:=Ij) x h).2,rfl⟩
def Xk(ps:Ps)(w:LS):Evt->Prop
 | .see _ p m h=>(∃x∈ps,x.1=p)/\m∈w/\OkS h|.tell _ a b m h q=>(∃x∈ps,x.1=a)/\(∃x∈ps,x.1=b)/\m∈w/\a≠b/\OkS h/\∀y∈q,∃x∈ps,x.1=y
theorem Nf:((Qj 6).all λ(a:Nat)=>qW (wl "abcdef" (some (a:Int)) none))=true:=by decide +kernel
theorem SZ(cs:LJ)(k:Int):OkS (Sk cs k):=by have h:=ZA (cs:=cs) (k:=11 * k+2) (m:=6) (by decide);unfold Sk;obtain⟨a,e⟩:=qZ h.1;rw[e]at h ⊢;exact Qw.mp Nf a (qG.mpr (by omega))
noncomputable def x5:Evt->Str×Str
 | .see _ p m _=>(p,m)|.tell _ _ b m _ _=>(b,m)
theorem Yo(hb:BdOk ps w)(hl:Fj ps w o):Xk ps w (Xi cs k ps w o):=by
 have A:=hb.p2;have C:=hb.m1;have r:=ZA (cs:=cs) (k:=11 * k) (m:=(ps.length:Int)) (by omega);have q:=ZA (cs:=cs) (k:=11 * k+1) (m:=(w.length:Int)) (by omega);have u:=Lc r.1 r.2;have h:uk cs k w∈w:=(TC q.1 q.2).2;have v:∀a m,(∃x∈ps,x.1=a)->m∈w->Xk ps w (MF cs k ps a m):=λa m W Y=>by have B:=d3 hb a;have l:=ZA (cs:=cs) (k:=11 * k+6) (m:=((J3 ps a).length:Int)) (by omega);obtain⟨x,X,e⟩:=QU.mp (TC (d:=("":Str)) l.1 l.2).2;obtain⟨K,f⟩:=QZ.mp X;refine⟨W,⟨x,K,e⟩,Y,λz=>?_,SZ cs k,λy s=>?_⟩;rw[dT (e.trans z.symm)]at f;cases f;obtain⟨j,_,rfl⟩:=QU.mp s;have g:=ZA (cs:=cs) (k:=11 * k+8+(j:Int)) (m:=(ps.length:Int)) (by omega);exact Lc g.1 g.2
 cases o with
 |none=>exact⟨u,h,SZ cs k⟩|some p =>
  obtain⟨a,b⟩:=p;show Xk ps w (if cA cs (11 * k+4) 4=0 then pX cs k ps w else if 0<cA cs (11 * k+5) 3 then MF cs k ps a b else MF cs k ps (PR ps (cA cs (11 * k) (ps.length:Int))) (uk cs k w));split;exact⟨u,h,SZ cs k⟩;split
  ·exact v a b hl.1 hl.2
  exact v _ _ u h
theorem ga{e:Evt}(h:Xk ps w e):Fj ps w (some (x5 e)):=by
 cases e with|see t p m x=>exact⟨h.1,h.2.1⟩|tell t a b m x q=>exact⟨h.2.1,h.2.2.1⟩
theorem ZI{α:Type}(xs:List α)(a b:Option Int):(DE xs a b).Sublist xs:=(QBv _ _).trans (List.drop_sublist _ _)
theorem Ia{α:Type}{xs:List α}{b:Int}(y:0<=a)(x:a<=b)(h:b<=xs.length):(DE xs (some a) (some b)).length=(b - a).toNat:=by obtain⟨a,rfl⟩:=qZ y;obtain⟨b,rfl⟩:=qZ (QAR y x);have x:a<=b:=QBE.mp x;have h:b<=xs.length:=QBE.mp h;unfold DE;rw[HT.sIx_nat,HT.sIx_nat,wg,Wm,WV h,WV (QY x h),WV (Nat.sub_le_sub_right h a),<- Int.ofNat_sub x];rfl
theorem GS{α:Type}{xs:List α}{b:Int}(x:0<=b)(h:b<=xs.length):(DE xs none (some b)).length=b.toNat:=by obtain⟨b,rfl⟩:=qZ x;have h:b<=xs.length:=QBE.mp h;unfold DE;rw[HT.sIx_nat,HT.sIx_none,wg,Wm,WV h,Nat.sub_zero,Nat.sub_zero,WV h];rfl
theorem mV{α z:Type}{f:α->List z}{c:Nat}:∀(l:List α),(∀x∈l,(f x).length<=c)->(l.flatMap f).length<=c * l.length
 |[],_=>Qt _|x::l,h=>by have a:=h x QF;have b:=mV l λy u=>h y (QE _ u);rw[Wc,QI,QM,Nat.mul_add];omega
noncomputable def Cb(cs:LJ)(w:LS)(k j:Nat):gC:=if 0<cA cs (950+3 * (k:Int)+(j:Int)) 3 then[gI [(gI w (k:Int) "",gI w (j:Int) ""),(gI w (j:Int) "",gI w (k:Int) "")] (cA cs (960+3 * (k:Int)+(j:Int)) 2) ("","")] else[]
noncomputable def Zj(cs:LJ)(w:LS)(k:Nat):gC:=(Qj k).flatMap (Cb cs w k)
noncomputable def Zk(cs:LJ)(w:LS):gC:=(Qj w.length).flatMap (Zj cs w)
theorem FX(cs:LJ)(w:LS)(k j:Nat):(Cb cs w k j).length<=1:=by unfold Cb;split;exact QW _;exact Qt _
theorem GX(cs:LJ)(w:LS)(k:Nat):(Zj cs w k).length<=k:=by have:=mV (Qj k) λj _=>FX cs w k j;rw[Qv]at this;show(List.flatMap _ _).length<=k;omega
theorem Db(h:w.length<=10):(Zk cs w).length<=100:=by have:=mV (c:=10) (Qj w.length) λk hk=>QY (GX cs w k) (by have:=qG.mp hk;omega);rw[Qv]at this;show(List.flatMap _ _).length<=100;omega
theorem lQ{α:Type}{l:List α}{k:Nat}{d:α}(h:k<l.length):AD l (k:Int)=some (gI l (k:Int) d)/\gI l (k:Int) d∈l:=TC (QBt k) (by omega)
theorem Kj(h:p∈Zk cs w):p.1∈w/\p.2∈w:=by obtain⟨k,hk,h⟩:=wH.mp h;obtain⟨j,x,h⟩:=wH.mp h;have hk:=qG.mp hk;have x:=qG.mp x;have a:=(lQ (d:=("":Str)) hk).2;have b:=(lQ (d:=("":Str)) (show j<w.length by omega)).2;unfold Cb at h;split at h;have d:=ZA (cs:=cs) (k:=960+3 * (k:Int)+(j:Int)) (m:=2) (by decide);have g:=(TC (l:=[(gI w (k:Int) ("":Str),gI w (j:Int) ""),(gI w (j:Int) "",gI w (k:Int) "")]) (d:=("","")) d.1 d.2).2;rw[<- QJ.mp h]at g;rcases QL.mp g with g|g;rw[g];exact⟨a,b⟩;rw[QJ.mp g];exact⟨b,a⟩;cases h
noncomputable def JM(cs:LJ)(ps:Ps)(w:LS)(s:List Evt×Option (Str×Str))(k:Nat):List Evt×Option (Str×Str):=(s.1++[Xi cs (k:Int) ps w s.2],some (x5 (Xi cs (k:Int) ps w s.2)))
noncomputable def Os(cs:LJ)(ps:Ps)(w:LS):List Evt:=((Qj cs.length).foldl (JM cs ps w) ([],none)).1
theorem Cd{cs:LJ}{ps:Ps}{w:LS}(hb:BdOk ps w):∀(l:LN) (s:List Evt×Option (Str×Str)),(∀e∈s.1,Xk ps w e)->Fj ps w s.2->(∀e∈(l.foldl (JM cs ps w) s).1,Xk ps w e)/\(l.foldl (JM cs ps w) s).1.length=s.1.length+l.length
 |[],s,h,_=>⟨h,rfl⟩|k::l,s,h,h2=>by have e:=Yo (cs:=cs) (k:=(k:Int)) hb h2;obtain⟨a,b⟩:=Cd hb l (JM cs ps w s k) (λx y=>by rcases Qh.mp y with y|y;exact h x y;rw[QJ.mp y];exact e) (ga e);refine⟨a,b.trans ?_⟩;show(s.1++[_]).length+l.length=s.1.length+(l.length+1);rw[QI];show s.1.length+1+l.length=_;omega
noncomputable def Xh(cs:LJ)(most:Int):LS:=DE (FC cs) none (some (2+cA cs 906 (most - 1)))
noncomputable def PU(cs:LJ):LS:=DE (FC cs) (some 6) (some (7+cA cs 907 3))
noncomputable def i7(cs:LJ):LS:=if cA cs 908 3=0 then DE (FC cs) none (some ((PU cs).length:Int)) else PU cs
noncomputable def Cq(cs:LJ)(ps:Ps)(w:LS):Wd:=⟨ps,w,Zk cs w,Os cs ps w⟩
noncomputable def NT(ns:LJ)(most:Int):Wd:=Cq (XB 24 ns) (KR (XB 24 ns) (Xh (XB 24 ns) most)) (i7 (XB 24 ns))
theorem EW(cs:LJ):1<=(PU cs).length/\(PU cs).length<=6:=by have m:=ZA (cs:=cs) (k:=907) (m:=3) (by decide);have n:=(YF cs).2.2;unfold PU;rw[Ia (by decide) (by omega) (by rw[n];omega)];omega
theorem Tc(cs:LJ):(1<=(i7 cs).length/\(i7 cs).length<=6)/\(i7 cs).Sublist (FC cs):=by have n:=(YF cs).2.2;have m:=EW cs;unfold i7;split;rw[GS (by omega) (by rw[n];omega)];exact⟨by omega,ZI _ _ _⟩;exact⟨m,ZI _ _ _⟩
theorem ke(cs:LJ)(h:2<=most/\most<=10):BdOk (KR cs (Xh cs most)) (i7 cs):=by have n:=YF cs;have d:=ZA (cs:=cs) (k:=906) (m:=most - 1) (by omega);have e:=jO cs (Xh cs most);have l:=congrArg qw e;have c:(Xh cs most).length=(2+cA cs 906 (most - 1)).toNat:=GS (by omega) (by rw[n.2.2];omega);rw[QD,c]at l;have m:=(Tc cs).1;exact⟨by omega,by omega,by rw[e];exact(ZI _ _ _).nodup n.1,m.1,by omega⟩
theorem A5(ns:LJ):(XB 24 ns).length<=24:=sM (by decide) ns 0 [] (by decide) (QW _) (λ_=>rfl)
theorem PZ(ns:LJ)(h:2<=most/\most<=10):WOk (NT ns most):=by
 have n:=YF (XB 24 ns);have hb:=ke (XB 24 ns) h;have m:=Tc (XB 24 ns);have f:=A5 ns;have y:∀x∈i7 (XB 24 ns),OkS x:=λx j=>n.2.1 x (m.2.mem j);obtain⟨r,v⟩:=Cd (cs:=XB 24 ns) hb (Qj (XB 24 ns).length) ([],none) (λ_ z=>by cases z) trivial;rw[Qv]at v;refine⟨λp u=>?_,Db hb.ml,hb.pl,hb.nd,λp u=>?_,hb.ml,y,m.2.nodup n.1,?_,λe l=>?_⟩;obtain⟨a,b⟩:=Kj u;exact⟨y _ a,y _ b⟩;have:p.1∈Xh (XB 24 ns) most:=(jO (XB 24 ns) (Xh (XB 24 ns) most))▸QU.mpr ⟨p,u,rfl⟩;exact n.2.1 _ ((ZI _ _ _).mem this);exact QY (wv v) (by show 0+_<=60;omega);have:=r e l;cases e with|see t p m g=>exact this|tell t a b m g q=>exact this
noncomputable def IQ(cs:LJ)(most:Int)(nm:LS)(ps:Ps)(w:LS)(z o7 o8 y o10 x h:Option Sl):kA:=[bD (.list (cs.map Jy)),bD (.int most),bD (.list (nm.map Jx)),bD (.list (ps.map xJ)),bD (.list (w.map Jx)),z,o7,o8,y,o10,x,h]
noncomputable def P6(h:gC):Option Sl:=some (.own (.lst ((h.map pr).map T.d)))
noncomputable def pk(es:List Evt):Option Sl:=some (.own (.lst ((es.map dC).map T.d)))
theorem x6(ds:List D):(T.lst (ds.map T.d)).er=.list ds:=by show PyData.list (ersT (ds.map T.d))=_;rw[RA]
theorem ju{E:XE}{r:PT}{a:D}:eL Ψ E r Z i (.lst [.d a,.d b]) true ρ=bB Ψ E r Z (ρ.set i (bD (.list [a,b]))):=Cp (ds:=[a,b])
end
section
variable{Ψ:PEv}{Z:PEnds}{cs:LJ}{most:Int}{w:LS}{ps:Ps}{h:LS}{o7 o8 u o10 v y:Option Sl}
theorem Xq(e:Ψ.sp "_law_draw"=AB){x:gC}{k j:Nat}(hk:k<h.length)(b:j<h.length)(n:h.length<=10)(o:x.length<=200)(q:∀u,Z.nx (IQ cs most w ps h (P6 (x++Cb cs h k j)) (bD (.int (k:Int))) (bD (.int (j:Int))) u o10 v y)):pF Ψ IF Z (IQ cs most w ps h (P6 x) (bD (.int (k:Int))) (bD (.int (j:Int))) u o10 v y):=by
 have g:AD (h.map Jx) (k:Int)=some (.str (gI h (k:Int) "")):=by rw[YG,(lQ (d:=("":Str)) hk).1];rfl
 have i:AD (h.map Jx) (j:Int)=some (.str (gI h (j:Int) "")):=by rw[YG,(lQ (d:=("":Str)) b).1];rfl
 have d:=ZA (cs:=cs) (k:=960+3 * (k:Int)+(j:Int)) (m:=2) (by decide);have a:IntMulOk 3 (k:Int):=uN.ok (.inl ⟨by decide,by decide⟩);delta IQ P6;delta IF;simp_arith[g,i,↓ju,↓xA (md:=[.xy]) e rfl rfl,↓PM,↓pB,QD];refine⟨by omega,by omega,by omega,a,by omega,by omega,?_⟩;by_cases c:0<cA cs (950+3 * (k:Int)+(j:Int)) 3;rw[show Cb cs h k j=_ from if_pos c]at q;rw[if_pos (dT c)];refine⟨a,by omega,by omega,CC (f:=pr) (l:=[(gI h (k:Int) ("":Str),gI h (j:Int) ""),(gI h (j:Int) "",gI h (k:Int) "")]) ("","") d.1 d.2 ⟨by omega,?_⟩⟩;have q:=q (bD (.list [pr (gI h (k:Int) ("":Str),gI h (j:Int) ""),pr (gI h (j:Int) ("":Str),gI h (k:Int) "")]));unfold P6 at q;rw[QO,QO]at q;exact q;rw[show Cb cs h k j=_ from if_neg c,qB]at q;rw[if_neg (λz=>c (of_decide_eq_true z))];exact q _
theorem Vq(p:Ψ.sp "_law_draw"=AB){z:gC}{k:Nat}(hk:k<h.length)(l:h.length<=10)(X:z.length<=100)(q:∀o8 u,Z.nx (IQ cs most w ps h (P6 (z++Zj cs h k)) (bD (.int (k:Int))) o8 u o10 v y)):pF Ψ EF Z (IQ cs most w ps h (P6 z) (bD (.int (k:Int))) o8 u o10 v y):=by
 delta IQ P6;delta EF;simp_arith[qM];refine⟨by omega,by omega,?_⟩;refine EA (λ(i:Nat)=>T.d (.int (i:Int))) (λr b=>∃a o8 u,a++r.flatMap (Cb cs h k)=z++Zj cs h k/\(a.length+r.length<=200/\∀j∈r,j<h.length)/\b=IQ cs most w ps h (P6 a) (bD (.int (k:Int))) o8 u o10 v y) ?_ ?_ _ _ ⟨z,o8,u,rfl,⟨by rw[Qv];omega,λj n=>by have:=qG.mp n;omega⟩,rfl⟩;rintro b ⟨a,o8,u,e,_,rfl⟩;have e:a=z++Zj cs h k:=by rw[<- e];exact(qB _).symm
 subst e;delta IQ;simp_arith[↓zA];exact q _ _;rintro j r b N o ⟨a,o8,u,e,⟨g,f⟩,rfl⟩;have g:a.length+(r.length+1)<=200:=g;have s:=FX cs h k j;refine Xq p hk (f j QF) l (by omega) λu=>o _ ⟨a++Cb cs h k j,_,u,?_,⟨by rw[QI];omega,λx m=>f x (QE _ m)⟩,rfl⟩;rw[Qu];exact e
theorem Kq(g:Ψ.sp "_law_event"=tL){z:Option Sl}{k:Nat}{es:List Evt}{x:Option (Str×Str)}(hk:k<=100)(hb:BdOk ps h)(j:es.length<=100)(q:∀y,Z.nx (IQ cs most w ps h z (bD (.int (k:Int))) o8 u (pk (es++[Xi cs (k:Int) ps h x])) (bD (xa (some (x5 (Xi cs (k:Int) ps h x))))) y)):pF Ψ AF Z (IQ cs most w ps h z (bD (.int (k:Int))) o8 u (pk es) (bD (xa x)) y):=by
 delta IQ pk;delta AF;simp?[↓xA (md:=[]) g rfl rfl];refine⟨_,_,_,_,_,rfl,⟨by omega,by omega⟩,hb,?_⟩;generalize Xi cs (k:Int) ps h x=e at *;simp_arith[↓AQ,QD];refine⟨by omega,?_⟩;have q:=λo=>q o;unfold pk at q;rw[QO,QO]at q;cases e with|see t p m f=>simp_arith[↓AQ,VZ,↓Rb,↓OZ];refine⟨by omega,oM (show decide ((QR "see")=(QR "tell"))≠true by decide) ?_⟩;exact q _|tell t a b m f i=>simp_arith[↓AQ,VZ,↓MZ,↓LZ,↓HZ];exact⟨by omega,by omega,q _⟩
theorem Tb(Y:Ψ.sp "_law_draw"=AB)(X:Ψ.sp "_law_event"=tL){Q:T->LT->Prop}(W:cs.length<=100)(hb:BdOk ps h)(q:Q (.d (wD (Cq cs ps h))) []):pF Ψ NE (eZ Q) (IQ cs most w ps h none none none none none none none):=by
 have p:=hb.ml;delta IQ;delta NE;simp_arith[QD,qM];refine⟨by omega,by omega,by omega,?_⟩;refine EA (λ(i:Nat)=>T.d (.int (i:Int))) (λr b=>∃a o7 o8 u,a++r.flatMap (Zj cs h)=Zk cs h/\(a.length+10 * r.length<=100/\∀j∈r,j<h.length)/\b=IQ cs most w ps h (P6 a) o7 o8 u none none none) ?_ ?_ _ _ ⟨[],none,none,none,rfl,⟨by rw[Qv];show 0+_<=100;omega,λj n=>qG.mp n⟩,rfl⟩;rintro b ⟨a,o7,o8,u,e,_,rfl⟩;have e:a=Zk cs h:=by rw[<- e];exact(qB _).symm
 subst e;delta IQ;simp_arith[QD,qM];refine⟨by omega,by omega,by omega,?_⟩;refine EA (λ(i:Nat)=>T.d (.int (i:Int))) (λr b=>∃z l o7 y,(r.foldl (JM cs ps h) (z,l)).1=Os cs ps h/\(z.length+r.length<=100/\∀j∈r,j<=100)/\b=IQ cs most w ps h (P6 (Zk cs h)) o7 o8 u (pk z) (bD (xa l)) y) ?_ ?_ _ _ ⟨[],none,_,_,rfl,⟨by rw[Qv];show 0+_<=100;omega,λj n=>by have:=qG.mp n;omega⟩,rfl⟩;rintro b ⟨z,l,o7,y,e,_,rfl⟩;have e:z=Os cs ps h:=e;subst e;delta IQ P6 pk;simp_arith[↓zA];rw[x6,x6];exact⟨by omega,q⟩;rintro j r b N o ⟨z,l,o7,y,e,⟨g,f⟩,rfl⟩;have g:z.length+(r.length+1)<=100:=g;refine Kq X (f j QF) hb (by omega) λy=>o _ ⟨_,_,_,y,e,⟨?_,λx m=>f x (QE _ m)⟩,rfl⟩;rw[QI];show z.length+1+r.length<=100;omega;rintro k r b N o ⟨a,o7,o8,u,e,⟨g,f⟩,rfl⟩;have g:a.length+10 * (r.length+1)<=100:=g;have s:=f k QF;have K:=GX cs h k;refine Vq Y s p (by omega) λo8 u=>o _ ⟨a++Zj cs h k,_,o8,u,?_,⟨by rw[QI];omega,λx m=>f x (QE _ m)⟩,rfl⟩;rw[Qu];exact e
end
section
variable{Ψ:PEv}{w:Wd}{s:Stp}{k:Nat}{es:List Evt}{n m:Bool}{R:T->Prop}{L:Bool->Prop}
noncomputable def lL:PSp where
 md:=[.xy]
 run:=λy Q _=>∃(x:LJ) (h:Int),y=[.lst ((x.map Jy).map T.d),.d (.int h)]/\(2<=h/\h<=10)/\Q (.d (wD (NT x h))) []
theorem M3(y:Ψ.sp "_law_draw"=AB)(u:Ψ.sp "_law_event"=tL)(f:Ψ.sp "_law_folded"=cJ)(b:Ψ.sp "_law_names"=mL)(a:Ψ.sp "_law_people"=bU):AG Ψ BJ lL VO DL:=by rintro _ Q _ ⟨x,h,rfl,v,q⟩;have fl:=A5 x;refine gA [some (.ky (.lst ((x.map Jy).map T.d))),bD (.int h),none,none,none,none,none,none,none,none,none,none] ?_;delta BJ;simp_arith[↓xA (md:=[.xy]) f rfl rfl];refine⟨_,_,rfl,by decide,?_⟩;have q:Q (.d (wD (Cq (XB 24 x) (KR (XB 24 x) (Xh (XB 24 x) h)) (i7 (XB 24 x))))) []:=q;generalize XB 24 x=cs at *;have g:=(YF cs).2.2;have hb:=ke cs v;have i:=EW cs;simp_arith[↓xA (md:=[]) b rfl rfl];refine⟨_,rfl,?_⟩;simp?[↓xA (md:=[]) a rfl rfl,↓DQ,↓Us,↓E1,↓xA (md:=[.xy]) y rfl rfl,↓PM,↓pB,pQ];refine⟨by omega,⟨_,_,rfl,(QY ((ZI _ _ _).length_le) (by omega)),?_⟩⟩;simp_arith[↓DQ,↓Bs,↓Vs,↓E1,↓Sc,↓xA (md:=[.xy]) y rfl rfl,↓PM,↓pB,pQ,QD];by_cases c:cA cs 908 3=0;rw[if_pos (dT c)];have e:i7 cs=DE (FC cs) none (some ((PU cs).length:Int)):=if_pos c;rw[e]at q hb;exact Tb y u (by omega) hb q;rw[if_neg (λz=>c (of_decide_eq_true z))];have e:i7 cs=PU cs:=if_neg c;rw[e]at q hb;exact Tb y u (by omega) hb q
noncomputable def Sb(w:Wd)(ns:LN)(x:Str):List Pt:=((w.ps.map λp=>p.1).filter λy=>decide ((x,y)∈vH w ns)).map λy=>(x,y)
noncomputable def Sj(w:Wd)(ns:LN):List Pt:=(w.ps.map λp=>p.1).flatMap (Sb w ns)
noncomputable def N0:PSp where
 run:=λx Q _=>∃w:Wd,x=[.d (wD w)]/\WOk w/\∀h,NI w h->Q (.lst (((Sj w h).map pr).map T.d)) []
noncomputable def Zq(w:Wd)(ns:LN)(ls:List Pt)(o4:Option Sl):kA:=[bD (wD w),oW (bK (vH w ns)),bD (.list ((w.ps.map λp=>p.1).map Jx)),oW (.lst ((ls.map pr).map T.d)),o4]
theorem Nm(l:Ψ.sp "going_order"=zk)(j:Ψ.sp "wrong_among"=ID):AG Ψ ND N0 EG oF:=by
 rintro _ Q _ ⟨w,rfl,v,q⟩;have K:=v.el;have f:=v.pl;refine gA [bD (wD w),none,none,none,none] ?_;delta ND;simp?[↓RQ,↓xA (md:=[]) l rfl rfl,↓xA (md:=[.xx,.xy]) j rfl rfl,↓PB,↓Y7];refine B1 v λh z=>?_;have X:=KU z;delta U4;simp_arith[↓zA];refine⟨_,_,rfl,v,by omega,(jM z),?_⟩;simp_arith[↓SQ];rw[<- oA xJ];refine gB (λp=>T.d (xJ p)) (λ(p:Str×Int×Int×Int)=>T.d (.str p.1)) w.ps [] _ (λp W R u=>?_) (by show 0+w.ps.length<=_;omega) ?_;simp_arith[↓SK];exact u;rw[Qg,oA λp:Str×Int×Int×Int=>Jx p.1];have e:(w.ps.map λp=>Jx p.1)=(w.ps.map λp=>p.1).map Jx:=by rw[QS];rfl
 rw[e];simp_arith[↓zA];refine⟨by omega,?_⟩;rw[<- oA Jx];have Y:(w.ps.map λp=>p.1).length<=11:=by rw[QD];exact f
 refine EA (λx=>T.d (.str x)) (λr a=>∃ls b,ls++r.flatMap (Sb w h)=Sj w h/\ls.length+11 * r.length<=121/\a=Zq w h ls b) ?_ ?_ _ _ ⟨[],none,rfl,by show 0+_<=_;omega,rfl⟩;rintro a ⟨ls,b,e,_,rfl⟩;have e:ls=Sj w h:=by rw[<- e];exact(qB _).symm
 subst e;delta Zq;simp_arith[↓zA];exact q h z;rintro x r a N i ⟨ls,b,e,g,rfl⟩;have g:ls.length+11 * (r.length+1)<=121:=g;have fl:=Q8 (λy=>decide ((x,y)∈vH w h)) (w.ps.map λp=>p.1);have rl:(Sb w h x).length<=11:=by unfold Sb;rw[QD];omega
 delta Zq;delta uF;simp_arith[↓zA];rw[<- oA Jx (w.ps.map λp=>p.1)];refine fA (λy=>T.d (.str y)) (λy=>T.d (pr (x,y))) (λy=>decide ((x,y)∈vH w h)) (w.ps.map λp=>p.1) [] _ (λy Z R u=>?_) (by show 0+(w.ps.map λp=>p.1).length<=_;omega) ?_;simp_arith[↓iQ];refine⟨by omega,?_⟩;split at u;rename_i c;rw[if_pos c];exact⟨by omega,u⟩;rename_i c;rw[if_neg c];exact u;rw[Qg,oA λy=>pr (x,y)];have o:(((w.ps.map λp=>p.1).filter λy=>decide ((x,y)∈vH w h)).map λy=>pr (x,y))=(Sb w h x).map pr:=by unfold Sb;rw[QS];rfl
 rw[o,<- QO,<- QO];refine⟨by rw[QD,QD,QD,QD];omega,i _ ⟨ls++Sb w h x,bD (.str x),?_,by rw[QI];omega,rfl⟩⟩;rw[Qu];exact e
structure StK(w:Wd)(s:Stp):Prop where
 n:s.1<w.es.length
 l:s.2.2.1.length<64
 t:∀x∈s.2.2.1,x<w.es.length/\sC (lA w.es x)
 h:Mb s.2.2.2
theorem uc{w:Wd}(z:WOk w):∀(ns:LN) (g:Gs),GsOk w g->g.past.length+ns.length<=60->(∀n∈ns,n<w.es.length)->∀s∈k8 w g ns,StK w s
 |[],_,_,_,_,s,h=>by cases h|n::r,g,hg,hl,hn,s,h=>by have v:=hn n QF;have u:=dQ z hg v;have hl:g.past.length+(r.length+1)<=60:=hl;have e:(yC w g n).past.length=g.past.length+1:=QI;rcases QL.mp h with rfl|h;have a:=MH (KF w.es (xR w g n) (vH w (g.past++[n])));have fl:(KF w.es (xR w g n) (vH w (g.past++[n]))).length<=(xR w g n).length:=Q8 _ _;have b:(xR w g n).length<=(yC w g n).past.length:=u.tl;refine⟨v,?_,λx y=>u.t x (QZ.mp (a.mem_iff.mp y)).1,cX z _ _⟩;show(FY w g n).length<64;unfold FY;rw[a.length_eq];omega;exact uc z r _ u (by omega) (λx y=>hn x (QE _ y)) s h
theorem L0{w:Wd}:∀(ns:LN) (g:Gs),(k8 w g ns).length=ns.length
 |[],_=>rfl|n::r,g=>congrArg (·+1) (L0 r _)
theorem S5{ns:LN}(h:WOk w)(x:NI w ns):(FF w ns).steps.length<=60/\∀s∈(FF w ns).steps,StK w s:=by have z:=h.el;have y:=KU x;rw[fQ,L0];exact⟨by omega,uc h ns g0 (yw _) (by show 0+_<=_;omega) (jM x)⟩
noncomputable def ym(r:Ct):T:=.tup [.d (dC r.1),.d (.bool r.2.1),.lst ((r.2.2.1.map rN).map T.d),.d (.list (r.2.2.2.map pr))]
noncomputable def LO:PSp where
 run:=λx Q _=>∃w:Wd,x=[.d (wD w)]/\WOk w/\∀h,NI w h->Q (.lst (((FF w h).steps.map (dU w.es)).map ym)) []
theorem bu{ρ:kA}{i j l:Nat}{P:kA->Prop}:VX (.tp [i,j,k,l]) (.d (cc s)) ρ P=P ((((ρ.set i (bD (nD s.1))).set j (bD (.bool s.2.1))).set k (bD (.list (s.2.2.1.map nD)))).set l (bD (.list (s.2.2.2.map pr)))):=MB
theorem Yn{a b c:D}{l:LT}:uE [.d a,.d b,.lst l,.d c]=.tup [.d a,.d b,.lst l,.d c]:=rfl
theorem El{l:LN}(h:∀x∈l,x<es.length/\sC (lA es x)):Cj (l.map λn=>Yk (lA es n)):=by refine⟨1,[0,1,1,1,1,2],by decide,λr y=>?_⟩;obtain⟨n,z,rfl⟩:=QU.mp y;obtain⟨t,a,b,m,w,q,e⟩:=(h n z).2;rw[e];rfl
noncomputable def Hf(w:Wd)(l:List Stp)(o3 o4 o5 o6:Option Sl):kA:=[bD (wD w),bD (.list (w.es.map dC)),oW (.lst ((l.map (dU w.es)).map ym)),o3,o4,o5,o6]
theorem Uq{Z:PEnds}{l:List Stp}(y:StK w s)(hl:l.length<=1000)(q:Z.nx (Hf w (l++[s]) (bD (nD s.1)) (bD (.bool s.2.1)) (bD (.list (s.2.2.1.map nD))) (bD (.list (s.2.2.2.map pr))))):pF Ψ OE Z (Hf w l (bD (nD s.1)) (bD (.bool s.2.1)) (bD (.list (s.2.2.1.map nD))) (bD (.list (s.2.2.2.map pr)))):=by
 obtain⟨a,v,h,_⟩:=y;unfold Hf at q;rw[QO,QO]at q;delta Hf;delta OE;simp_arith[↓bN a];rw[<- oA nD];refine gB (λn=>T.d (nD n)) (λn=>T.d (dC (lA w.es n))) s.2.2.1 [] _ (λn z R u=>?_) (by show 0+_<=_;omega) ?_;simp_arith[↓bN (h n z).1];exact u;rw[Qg,oA λn=>dC (lA w.es n)];have e:s.2.2.1.map (λn=>dC (lA w.es n))=(s.2.2.1.map λn=>Yk (lA w.es n)).map rN:=by rw[QS];exact qK λn _=>(vd _).symm
 rw[e];refine vn (by rw[QD];exact v) (El h) λx p o=>?_;rw[cW p o];simp_arith[↓Yn];rw[QD,QD];exact⟨by omega,by omega,q⟩
theorem m9(j:Ψ.sp "gone"=RO):AG Ψ YH LO AM AJ:=by rintro _ Q _ ⟨w,rfl,g,q⟩;refine gA [bD (wD w),none,none,none,none,none,none] ?_;delta YH;simp_arith[↓RQ,↓xA (md:=[]) j rfl rfl];refine⟨by omega,?_⟩;refine⟨_,rfl,g,λf h=>?_⟩;obtain⟨a,b⟩:=S5 g h;simp_arith[↓zA];have q:=q f h;generalize (FF w f).steps=st at *;rw[<- oA cc];refine EA (λs=>T.d (cc s)) (λr x=>∃l v u z y,l++r=st/\x=Hf w l v u z y) ?_ ?_ _ _ ⟨[],none,none,none,none,rfl,rfl⟩;rintro x ⟨l,v,u,z,y,e,rfl⟩;rw[qB]at e;subst e;delta Hf;simp_arith[↓zA];exact q;rintro s r x N i ⟨l,v,u,z,y,e,rfl⟩;have hl:=congrArg qw e;rw[QI]at hl;delta Hf;rw[xj,bu];exact Uq (b s (e▸Qb _ QF)) (by omega) (i _ ⟨l++[s],_,_,_,_,by rw[Qu];exact e,rfl⟩)
theorem Vo(r:Ct):(ym r).er=.tuple [dC r.1,.bool r.2.1,.list (r.2.2.1.map rN),.list (r.2.2.2.map pr)]:=by show PyData.tuple [dC r.1,.bool r.2.1,(T.lst _).er,.list (r.2.2.2.map pr)]=_;rw[x6]
theorem Gn(x:WOk w)(h:StK w s):OP 4 ((ym (dU w.es s)).er):=by rw[Vo];refine P4 (lF (Ec (yd x (x.ev h.n)) (by decide)) (lF ⟨rfl,Qt _⟩ (lF (E9 (R4 λr y=>?_)) (lF (Ec (E9 (n:=1) (R4 λp z=>Ic (h.h p z))) (by decide)) A9))));obtain⟨n,u,rfl⟩:=QU.mp ((bJ _).mem_iff.mp y);rw[vd];exact yd x (x.ev (h.t n u).1)
theorem lq{e:Evt}:CA (.d (dC e)) n (.d (.int 1)) m R=R (.d (.int (E7 e))):=by
 cases e with|see t p h w=>exact DA (i:=1) rfl|tell t a b h w q=>exact DA (i:=1) rfl
theorem iq{h:Int->Int}:CA (.d (rN (PQ h es k))) n (.d (.int 2)) m R=R (.d (nD k)):=DA (i:=2) rfl
theorem xn{y:List (List Ky)}{Q:T->Bool->Prop}(h:y.length<64)(z:Cj y)(q:∀x:List (List Ky),x.Perm y->x.Pairwise ZZ->Q (.lst ((x.map rN).map T.d)) true):PK .sorted [(.d (.list (y.map rN)),n)] Q:=by unfold PK IB;rw[rA];exact .inr (.inr (.inr ⟨_,y,rfl,VA _,⟨h,z⟩,q⟩))
theorem Ss{ts:LT}(o:sE (.list (ersT ts)))(q:L false):UB .NotEq (.lst ts) (pA (.lst ts) true) L:=K4 o q
theorem As{ds:List D}(o:sE (.list ds))(q:L true):UB .Eq (.lst (ds.map T.d)) (.d (.list ds)) L:=by show rQ .Eq (.list (ersT (ds.map T.d))) (.list ds) L;rw[RA];exact u6 o q
noncomputable def Li(h:LJ)(t:Int):Int:=cA h (1100+t % 50) 97
theorem rh(J:Ψ.sp "_law_draw"=AB)(I:Ψ.sp "_law_world"=lL)(G:Ψ.sp "_law_walked"=LO)(Y:Ψ.sp "wrong_pairs"=N0):AG Ψ G6 BR jf V2:=by
 rintro _ Q _ ⟨z,hl,hb,rfl,q⟩;refine gA [some (.ky (.lst ((z.map Jy).map T.d))),none,none,none,none,none] ?_;have v:=PZ z (most:=6) (by decide);delta G6;simp_arith[↓xA (md:=[.xy]) I rfl rfl];refine⟨_,_,rfl,by decide,?_⟩;generalize NT z 6=w at *;have H:=v.el;simp_arith[↓RQ,↓SQ,↓GZ,↓Cf];have e:((w.es.map dC).zipIdx.map λp=>T.d (.tuple [.int (p.2:Int),p.1]))=(Qj w.es.length).map λn=>T.d (.tuple [nD n,dC (lA w.es n)]):=by apply qU;intro i;rw[QX,QX,QBL,QX,WG];by_cases c:i<w.es.length;rw[wE c,Qe c];show some (T.d (.tuple [.int (i:Int),dC w.es[i]]))=some (T.d (.tuple [nD i,dC (lA w.es i)]));unfold lA;rw[Qe c];rfl;rw[Qk (Wo c),Qk (by rw[Qv];omega)];rfl
 rw[e];refine gB (λn=>T.d (.tuple [nD n,dC (lA w.es n)])) (λn=>T.d (rN (PQ (Li z) w.es n))) (Qj w.es.length) [] _ (λn S R X=>?_) (by rw[Qv];show 0+_<=_;omega) ?_;simp_arith[↓Vj,↓lq,↓xA (md:=[.xy]) J rfl rfl,↓pB];exact⟨by omega,by omega,by omega,X⟩;rw[Qg,oA λn=>rN (PQ (Li z) w.es n)];have P:((Qj w.es.length).map λn=>rN (PQ (Li z) w.es n))=((Qj w.es.length).map (PQ (Li z) w.es)).map rN:=by rw[QS];rfl
 rw[P];simp_arith[↓zA];refine xn (by rw[QD,Qv];omega) ⟨0,[0,0],by decide,λr F=>by obtain⟨k,_,rfl⟩:=QU.mp F;rfl⟩ λZ p o=>?_;obtain⟨u,rfl,h⟩:=Zm p o;have O:(((u.map (PQ (Li z) w.es)).map rN).map T.d)=u.map λk=>T.d (rN (PQ (Li z) w.es k)):=by rw[QS,QS];rfl
 simp_arith[↓zA];rw[O];refine gB (λk=>T.d (rN (PQ (Li z) w.es k))) (λk=>T.d (dC (lA w.es k))) u [] _ (λk hk R X=>?_) (by rw[h.len];show 0+_<=_;omega) ?_;simp_arith[↓iq,↓bN (h.lt hk)];exact X;rw[Qg,oA λk=>dC (lA w.es k)];have N:(u.map λk=>dC (lA w.es k))=(wP w u).es.map dC:=by show _=(u.map (lA w.es)).map dC;rw[QS];rfl
 rw[N];have a:=Gf v h;simp_arith[↓SQ,↓GZ,↓Cf,↓xA (md:=[]) G rfl rfl];refine⟨by omega,⟨_,rfl,v,λK f=>⟨rfl,?_⟩⟩⟩;refine⟨wP w u,rfl,a,λW b=>⟨rfl,?_⟩⟩;rw[z8 h f b];have o:sE (.list (ersT (((FF w K).steps.map (dU w.es)).map ym))):=by rw[HK,QS,QS];exact jd (n:=5) (E9 (R4 λs E=>Gn v ((S5 v f).2 s E))) (by decide)
 refine Ss o ?_;simp_arith[↓xA (md:=[]) Y rfl rfl];refine⟨_,rfl,v,λB l=>?_⟩;simp_arith[↓xA (md:=[]) Y rfl rfl];refine⟨wP w u,rfl,a,λA j=>?_⟩;have M:Sj (wP w u) A=Sj w B:=by unfold Sj Sb;rw[C7 h l j];rfl
 rw[M];simp_arith[↓zA];refine As (jd (E9 (n:=1) (R4 λp h=>Ic ?_)) (by decide)) q;obtain⟨x,g,h⟩:=wH.mp h;obtain⟨y,C,rfl⟩:=QU.mp h;have nm:∀x∈w.ps.map λp=>p.1,OkS x:=λx g=>by obtain⟨p,h,rfl⟩:=QU.mp g;exact v.po p h
 exact⟨nm x g,nm y (QZ.mp C).1⟩
end
end L2.L3.K36
namespace L2.L3
open PySem PySem.Spec PyProof.Rows L2.L3.Q
section
variable{K:QA}{x:Str}{st:Stmt}
theorem hV{h:Heap}:∀(y:List Addr),(uq y h).In h
 |[],a,o,e=>nomatch e
 |b::y,a,o,e=>by
  unfold uq at e;rw[WF]at e;cases c:h.get? b with
  |none=>rw[c]at e;exact hV y a o e|some z =>
   rw[c]at e;have e:QCM a ((b,z)::uq y h)=some o:=e;rw[wj]at e;cases d:a==b with|true=>rw[d]at e;cases e;rw[beq_iff_eq.mp d];exact c|false=>rw[d]at e;exact hV y a o e
theorem Ki{q:Str}{f:Addr}{y:FuncData}{w:Value}{v:Option Addr}{z:Array (Option Value)}(hl:K.lookup f=some ⟨w,v,.func y,z⟩)(h:nk y (Wg K y.code q&&wK K (.ref f))=nk (qp x q (AC st) (fC st) (GA st) .none .none .none .none none .none .none) true):∃y,Fun K x q st f y:=by obtain⟨Y,X,s,r,p,o,n,m,l,j,i,g,e,b,a⟩:=y;unfold nk at h;injection h with h1 h2;injection h2 with h2 h3;injection h1 with b1 h1;injection h1 with b2 h1;injection h1 with b3 h1;injection h1 with b4 b5;injection h2 with c1 h2;injection h2 with c2 h2;injection h2 with c3 c4;obtain⟨u,k⟩:=Wv.mp h3;simp only at b1 b2 b3 b4 b5 c1 c2 c3 c4 u;subst b1 b2 b3 b4 b5 c1 c2 c3 c4;exact⟨_,Vi hl u k⟩
theorem K1(h:lV K x=VS x st)(y:(VS x st).isSome=true):NX K x st:=by
 have z:VS x st=some (nk (qp x x (AC st) (fC st) (GA st) .none .none .none .none none .none .none) true):=by cases st<;>first|rfl|cases y
 rw[z]at h;unfold lV at h;split at h;rename_i f hf;split at h;rename_i hl;obtain⟨u,F⟩:=Ki hl (Qs h);exact⟨f,u,hf,F⟩;cases h;cases h
theorem m8(h:XU K x=true):qm K mainGlobals x=some none:=by unfold XU at h;split at h;assumption;cases h
theorem Y1{i:Int}(h:Sf K x=some i):NM K x (.int i):=by
 unfold Sf at h;split at h;rename_i u hu;cases u with|int j t=>cases h;exact⟨_,_,hu,rfl,λ_=>.int i⟩|_=>cases h
 cases h
theorem uR:∀{us:LW}{xs:LS},us.map Ll=xs.map some->us.map MM=xs.map λy=>some (.str y)
 |[],[],_=>rfl|[],_::_,h=>by cases h|_::_,[],h=>by cases h|u::us,x::xs,h=>by
  injection h with h1 h2;rw[QV,QV,uR h2];cases u with|str z t=>cases h1;rfl|_=>cases h1
theorem vY{xs:LS}(h:Af K x=some (xs.map some))(y:xs.length<=sizeLine):NM K x (.tuple (xs.map Jx)):=by unfold Af at h;split at h;rename_i f hf;split at h;rename_i t od its n osl hl;split at h;rename_i et;subst et;injection h with h;exact EZ (its:=its.toList) hf (by simpa using hl) (uR h) y;cases h;cases h;cases h
theorem go_of(e:seen K=due):GF K tA=true:=(QAH (QAH (QAH (QAH e).2).2).2).2
end
section
variable{K:QA}{h:Heap}{mg:Str->Option Value}{T:Addr}
theorem YS(e:GF K T=true)(X:K.In h)(G:h.Ns mainGlobals mg):(∃f k w v z c,mg "going_order"=some (.ref f)/\K.lookup f=some ⟨k,w,.func v,z⟩/\v.code=.ref c/\QAt K c T=true)/\(∀y:Heap,K.In y->y.BuiltinsAt mg T)/\K.lookup T=none/\mainGlobals≠T:=by
 obtain⟨u,e⟩:=yA e;obtain⟨x,e⟩:=yA e;obtain⟨g,a⟩:=yA e;refine⟨?_,?_,QAb.mp g,bne_iff_ne.mp a⟩;split at u
 ·rename_i f hf
  split at u;rename_i k w v z hl;split at u;rename_i c hc;exact⟨f,k,w,v,z,c,WU X G hf,hl,hc,u⟩;cases u;cases u
 cases u;intro y Y;split at x;rename_i b hb;split at x;rename_i t d z hl;obtain⟨n,x⟩:=yA x;obtain⟨m,x⟩:=yA x;obtain⟨l,x⟩:=yA x;obtain⟨j,i⟩:=yA x;exact⟨b,_,WU X G hb,bne_iff_ne.mp l,bne_iff_ne.mp j,bne_iff_ne.mp i,Y _ _ hl,by rw[beq_iff_eq.mp n],by rw[beq_iff_eq.mp m],rfl⟩;cases x;cases x
theorem Yi(e:GF K T=true)(X:K.In h)(G:h.Ns mainGlobals mg):∃v c,(∀x:Heap,K.In x->∀P q,ZO mg x P q->P=T/\q=v)/\QAt K c T=true/\K.lookup T=none:=by obtain⟨⟨f,I,F,C,w,c,p,n,m,y⟩,_,l,_⟩:=YS e X G;refine⟨C.qualname++".<locals>.<lambda>",c,λx Y P q t=>?_,y,l⟩;obtain⟨M,o,B,N,A,W,Z,s,⟨L,E,_,_,_,_,_,_,_,j,_,i,g,_⟩,r⟩:=t;cases p.symm.trans A;have z:=W.symm.trans (Y _ _ n);cases z;cases Z;cases m.symm.trans s;obtain⟨J,u,_,_,_,_,_,_,_,b,_,a,k,_⟩:=QAI Y y;cases j.symm.trans b;cases i.symm.trans a;cases g.symm.trans k;exact⟨rfl,r⟩
end
theorem walk_seen{l:PySem.W.OpenLaw}{k:Nat}{q:Program}{loose:LS}{XP:(Str->Option Value)->Heap->Prop}{YP:World->Heap->Prop}{d:DefRec}{x:Str}{Fs:QA->Prop}{T:Addr}
  (hn:l.most=some 63) (C:d.params.defaults=[]) (S:Room k callerA) (hY:∀(w:World) (h:Heap),YP w h->∃K:QA,K.In h/\Fs K/\h.get? T=some (QBT #[])) (B:∀K,Fs K->GF K T=true)
  (F:∀(w:World) (mg:Str->Option Value) (p:Addr) (h:Heap) (K:QA),K.In h->Fs K->GF K T=true->h.Ns mainGlobals mg->mg d.name=some (.ref p) ->
   ∃E:FuncData,(∀(s:Shared) (u:Value),BindsTo s E ⟨[u],[]⟩ [(x,u)]) /\
    ∀y:Heap,K.In y->y.Ns mainGlobals mg->FnOk l.prog w K mg y DZ k p E [x] (lift K BR)) :
  PySem.W.WalkO q loose XP YP l.row.toRowW d [] (λf vs=>PySem.call f vs):=by
 intro w L J mg mb G Y p o pm cd doc dV kV ho hd hcd M A hg args I as j n R Z hlo;obtain rfl:dV=.none:=PySem.W.Dflts.none M C;obtain rfl:kV=.none:=PySem.W.Dflts.noKw M;obtain⟨a,vs,P,rfl,rfl,m,i,v⟩:=Att.script_of hn j Z;obtain⟨K,X,fs,Q⟩:=hY w _ Y;have N:=B K fs;obtain⟨tq,c,g1,g2,g3⟩:=Yi N X G.T.g;obtain⟨E,hb,hF⟩:=F w mg p _ K X fs N G.T.g A;refine PySem.W.enter_call (QB9 (v5 g1 ((QAI X g2).tab Q) g3 X G.T.g G.T.b G.T.builtins G.T.nolimit hg m i (QY v (by decide)) S hF hb (λH hO hS=>Rh _ H a P v (Xb n) hS) λH e O=>λz=>z) λr O hq=>?_);obtain⟨rfl,h2,h3,h4⟩:=hq;exact⟨.inl ⟨.bool true,.bool true,[],rfl,λ_=>rfl,.bool true,Att.post_true l _,λ_=>⟨List.Pairwise.nil,λ_ hm=>(nomatch hm)⟩⟩,h2,h3,h4⟩
end L2.L3
namespace L2.L3.K36
open PySem PySem.Spec PyProof.Rows L2 L2.L3 L2.L3.Q
def Vt:Nat->(LW->Prop)->Prop
 |0,p=>p []|n+1,p=>∀u,Vt n λh=>p (u::h)
theorem su:∀{n:Nat}{p:LW->Prop},Vt n p->∀us:LW,us.length=n->p us
 |0,_,h,us,e=>by rw[List.length_eq_zero_iff.mp e];exact h|_+1,_,_,[],e=>nomatch e
 |_+1,_,h,u::us,e=>su (h u) us (Nat.succ.inj e)
def cw(x q:Str)(st:Stmt)(ps:LS):Prop:=∀(kV h u:Value) (w:Option Addr) (y v:Value),Vt ps.length λz=>bindArgs (qp x q (AC st) (fC st) (GA st) .none kV h u w y v) ⟨z,[]⟩=pure (ps.zip z)
noncomputable def Tj:List (Str×D):=tT.map (λp=>(p.1,.tuple (p.2.map Jx)))++sT.map λp=>(p.1,.int p.2)
structure Cx(K:QA)(h:Heap)(mg:Str->Option Value):Prop where
 X:K.In h
 G:h.Ns mainGlobals mg
 V:∀p∈Tj,NM K p.1 p.2
 N:∀y∈nT,qm K mainGlobals y=some none
 D:∀p∈fT,NX K p.1 (top p.2)
theorem dE{α:Type}{d:α}:∀{l:List α}{i:Nat},QCU i l.length=true->l.getD i d∈l
 |[],_,h=>nomatch h
 |_::_,0,_=>.head _|_::_,_+1,h=>.tail _ (dE (Nat.blt_eq.mpr (wF (Nat.blt_eq.mp h))))
theorem zd{α:Type}{l:List (Str×α)}{p:Str×α}(nd:(l.map qu).Nodup)(h:p∈l):l.lookup p.1=some p.2:=by
 induction l with|nil=>cases h|cons a l y=>obtain⟨x,s⟩:=a;rw[QV,Qi]at nd;rw[wj];rcases QL.mp h with rfl|h;rw[beq_self_eq_true];have v:p.1∈l.map qu:=QBa h;have u:(p.1==x)=false:=beq_eq_false_iff_ne.mpr λz=>nd.1 (by rw[<- z];exact v);rw[u];exact y nd.2 h
def Mc:LS:=fT.map qu
def fx(i:Nat):Str×Nat:=fT.getD i ("",0)
noncomputable def tbl(r:List PSp):PEv:=zc (Mc.zip r) Tj
theorem vR{r:List PSp}(i:Nat)(h:QCU i Tj.length=true:=by rfl):(tbl r).va (Tj.getD i ("",.none)).1=some (Tj.getD i ("",.none)).2:=zd (xE (by kernel_rfl)) (dE h)
theorem Tl{r:List PSp}(nd:sJ ((Mc.zip r).map qu)=true)(i:Nat)(h:QCU i (Mc.zip r).length=true):(tbl r).sp ((Mc.zip r).getD i ("",jk)).1=((Mc.zip r).getD i ("",jk)).2:=by show(QCM _ _).getD jk=_;rw[zd (xE nd) (dE h)];rfl
noncomputable def nB(n:Need)(fs:LS):Bool:=n.fn.all (λx=>fs.contains x)&&((n.va.all λx=>(Tj.map qu).contains x)&&n.no.all (λx=>nT.contains x))
section
variable{P:Program}{w:World}{K:QA}{h base:Heap}{mg:Str->Option Value}{r r':List PSp}{R:PSp}{z:LS}{k:Nat}{b:PT}{n:Need}{N ps:LS}
theorem hv(C:Cx K h mg)(A:∀g∈z,cG P w K mg base (tbl r) k g)(i:Nat)(xC:sB n b N ps (top (fx i).2)=true)
  (body:∀ts Q E,R.run ts Q E->ts.length=ps.length/\bB (tbl r) (λ_=>False) b (NC R ps.length Q) (vB N R.md ts)) (l:(tbl r').sp (fx i).1=R) (hc:tJ (iB 0 R.md ps.length) b=true:=by kernel_rfl)
  (hb:cw (fx i).1 (fx i).1 (top (fx i).2) ps:=by(repeat intro _);rfl)
  (x:nB n z=true:=by kernel_rfl) (v:QCU i fT.length=true:=by rfl):cG P w K mg base (tbl r') (k+1) (fx i).1:=by
 obtain⟨p,x⟩:=yA x;obtain⟨o,m⟩:=yA x;exact P5 C.X C.G (C.D _ (dE v)) xC hc (λa b c d e f=>su (hb a b c d e f)) (λg j=>A g (DO p g j)) (jW C.X C.G C.V o) (λy u=>C.N y (DO m y u)) body l
theorem hc(A:∀g∈z,cG P w K mg base (tbl r) k g){x:Str}(Z:cG P w K mg base (tbl r) (k+1) x):∀g∈x::z,cG P w K mg base (tbl r) (k+1) g:=by intro g y;rcases QL.mp y with rfl|y;exact Z;exact(A g y).mono (wB _)
theorem hl(C:Cx K h mg)(A:∀g∈z,cG P w K mg base (tbl r) k g){x q:Str}{st:Stmt}{f:Addr}{v:FuncData}(F:Fun K x q st f v)(xC:sB n b N ps st=true)
  (body:∀ts Q E,R.run ts Q E->ts.length=ps.length/\bB (tbl r) (λ_=>False) b (NC R ps.length Q) (vB N R.md ts)) (hc:tJ (iB 0 R.md ps.length) b=true:=by kernel_rfl) (u:nB n z=true:=by kernel_rfl):FnOk P w K mg base DZ (k+1) f v ps (lift K R):=by
 obtain⟨l,u⟩:=yA u;obtain⟨j,i⟩:=yA u;exact E5 F xC hc (λg e=>A g (DO l g e)) (jW C.X C.G C.V j) (λy a=>QAQ C.X C.G (C.N y (DO i y a))) body
theorem cx_of(X:K.In h)(G:h.Ns mainGlobals mg)(e:seen K=due)(l:(fT.all λp=>(VS p.1 (top p.2)).isSome)=true)(j:(tT.all λp=>decide (p.2.length<=1000))=true):Cx K h mg:=by injection e with g e;injection e with f e;injection e with a e;injection e with v _;have g:=Wf.mp g;have f:=Wf.mp f;have a:=Wf.mp a;have v:=Wf.mp v;refine⟨X,G,λp x=>?_,λy i=>m8 (v y i),λp x=>K1 (g p x) (Qw.mp l p x)⟩;rcases Qh.mp x with x|x;obtain⟨q,u,rfl⟩:=QU.mp x;have:=of_decide_eq_true (Qw.mp j q u);exact vY (f q u) (by omega);obtain⟨q,u,rfl⟩:=QU.mp x;exact Y1 (a q u)
end
section
variable{P:Program}{w:World}{h:Heap}{mg:Str->Option Value}
noncomputable def Aj:List PSp:=[cJ,AB,mL,bU,tL,lL,zk,EO,NO,rL,dW,YK,ID,gG,AO,MO,lG,TH,OH,nF,OO,hG,PH,SO,RH,NH,SH,cU,ZK,iD,RO,LO,N0,BR]
theorem eA(i:Nat)(h:QCU i (Mc.zip Aj).length=true:=by rfl):(tbl Aj).sp ((Mc.zip Aj).getD i ("",jk)).1=((Mc.zip Aj).getD i ("",jk)).2:=Tl (by kernel_rfl) i h
theorem jw{K:QA}{x:Heap}{k:Nat}(C:Cx K h mg)(q:GF K tA=true)(v:K.In x)(m:x.Ns mainGlobals mg):cG P w K mg x (tbl Aj) (k+1) "going_order":=by obtain⟨f,M,p,⟨⟨J,I,kV,B,F,R,b,Q,i,rfl,lk,a⟩,n⟩⟩:=C.D (fx 6) (dE rfl);obtain⟨⟨O,l,j,A,e,c,g,W,Z,Y⟩,s,L,r⟩:=YS q C.X C.G;cases(WU C.X C.G p).symm.trans g;cases lk.symm.trans W;cases(show b=.ref c from Z);have z:=λy (o:nT.contains y=true)=>QAQ C.X C.G (C.N y (qF.mp o));exact Fa v m g lk a n (QAI v Y) (s x v) r (z _ (by kernel_rfl)) (z _ (by kernel_rfl)) (z _ (by kernel_rfl)) (λE hl=>by obtain⟨u,rfl⟩:=QA2.mp hl;rfl) (eA 6)
theorem all{K:QA}{v:Addr}(C:Cx K h mg)(b:GF K tA=true)(y:mg "law"=some (.ref v)) :
  ∃z:FuncData,(∀(s:Shared) (u:Value),BindsTo s z ⟨[u],[]⟩ [("_law_script",u)])/\∀x:Heap,K.In x->x.Ns mainGlobals mg->FnOk P w K mg x DZ 34 v z ["_law_script"] (lift K BR):=by
 refine Sh C.X C.G (C.D (fx 33) (dE rfl)) rfl y (eA 33) (λ_ _ _ _ _ _ e hl=>by obtain⟨u,rfl⟩:=QA2.mp hl;rfl) λx a k f z F _=>?_;have A:∀g∈([]:LS),cG P w K mg x (tbl Aj) 0 g:=nofun;have A:=hc A (hv C A 0 yT aY (eA 0));have A:=hc A (hv C A 1 dZ Z9 (eA 1));have A:=hc A (hv C A 2 XV (O3 (eA 1)) (eA 2));have A:=hc A (hv C A 3 jT (mh (eA 1)) (eA 3));have A:=hc A (hv C A 4 UV (eh (eA 1)) (eA 4));have A:=hc A (hv C A 5 VV (M3 (eA 1) (eA 4) (eA 0) (eA 2) (eA 3)) (eA 5));have A:=hc A (jw C b a k);have A:=hc A (hv C A 7 CM Yh (eA 7));have A:=hc A (hv C A 8 ZV r9 (eA 8));have A:=hc A (hv C A 9 kT P3 (eA 9));have A:=hc A (hv C A 10 zT (Om (eA 8) (eA 9) (eA 7)) (eA 10));have A:=hc A (hv C A 11 JN p9 (eA 11));have A:=hc A (hv C A 12 UM (G3 (eA 11) (eA 7)) (eA 12));have A:=hc A (hv C A 13 YN t9 (eA 13));have A:=hc A (hv C A 14 vT Jh (eA 14));have A:=hc A (hv C A 15 SS gh (eA 15));have A:=hc A (hv C A 16 BV K9 (eA 16));have A:=hc A (hv C A 17 xT (V9 (eA 16)) (eA 17));have A:=hc A (hv C A 18 AS (tY (eA 17) (eA 16) (vR 0) (vR 1)) (eA 18));have A:=hc A (hv C A 19 VI (N3 (vR 0)) (eA 19));have A:=hc A (hv C A 20 aQ (ph (vR 0)) (eA 20));have A:=hc A (hv C A 21 BM eY (eA 21));have A:=hc A (hv C A 22 XN (T3 (eA 21)) (eA 22));have A:=hc A (hv C A 23 VN Y9 (eA 23));have A:=hc A (hv C A 24 iK (A3 (eA 18) (eA 19) (eA 20) (eA 22) (eA 23) (vR 0)) (eA 24));have A:=hc A (hv C A 25 aK (n9 (eA 24)) (eA 25));have A:=hc A (hv C A 26 eK (E3 (eA 25)) (eA 26));have A:=hc A (hv C A 27 ES nh (eA 27));have A:=hc A (hv C A 28 ZN (e9 (eA 26) (eA 27)) (eA 28));have A:=hc A (hv C A 29 KN (i9 (eA 11) (eA 15) (eA 14) (eA 28)) (eA 29));have A:=hc A (hv C A 30 cb (J9 (eA 6) (eA 10) (eA 12) (eA 13) (eA 29)) (eA 30));have A:=hc A (hv C A 31 IS (m9 (eA 30)) (eA 31));have A:=hc A (hv C A 32 XM (Nm (eA 6) (eA 12)) (eA 32));exact hl C A F Si (rh (eA 1) (eA 5) (eA 31) (eA 32))
noncomputable def hk:PySem.W.Hook:=⟨HX×Option Obj,ob,λ_=>(due,some (QBT #[])),λ_ h=>∃K:QA,K.In h/\seen K=due/\h.get? tA=some (QBT #[]),λ_ _ e=>⟨_,hV _,(QAH e).1,(QAH e).2⟩,λ_ _ _ ⟨K,X,e,t⟩ k=>⟨K,X.keeps k,e,k _ _ t⟩⟩
end
end L2.L3.K36
open PySem PySem.W PyProof.Rows
set_option maxRecDepth 100000 in
set_option maxHeartbeats 0 in
theorem PySem.Challenge.cw_quoteweave_k36_whole_told_in_any_order_holds : PySem.Challenge.rw_quoteweave_k36_whole_told_in_any_order.Holds := by
 refine holds_law L2.L3.Q.ws λy=>?_;refine holds_open (q:=L2.L3.Q.qv) (loose:=[]) (Xt:=L2.L3.Q.xt) (XP:=XL L2.L3.Q.qv []) (Yf:=Hook.obs L2.L3.K36.hk) (Ya:=Hook.val L2.L3.K36.hk) (YP:=Hook.says L2.L3.K36.hk) (N:=2246) L2.L3.Q.lf (Hook.of L2.L3.K36.hk) (Hook.keeps L2.L3.K36.hk) (λs e=>xl_of s (Wv.mp e).1) XL.keeps (by rfl) (by rfl) (by rfl) (λs e=>recFacts_of (Wv.mp e).2) (by rfl) (by first|assumption|decide +kernel) (by decide +kernel) ⟨rfl,rfl,rfl,rfl,rfl,by decide +kernel⟩ ?hw ?hc
 case hw=>w_witness2
 case hc=>exact L2.L3.walk_seen (l:=Qz) (k:=34) (x:="_law_script") (Fs:=λK=>L2.L3.Q.seen K=L2.L3.Q.due) rfl rfl ⟨rfl,by decide,by decide⟩ (λw h Y=>Y) (λK e=>L2.L3.go_of e) λw u v h K X e z G m=>L2.L3.K36.all (L2.L3.K36.cx_of X G e (by kernel_rfl) (by kernel_rfl)) z m
