import PyProof.Rows.All
import Wide.All
import OpenK.AllK
import Wide.FinOn
import Lean
import PyProof.EqAt
import PyProof.EqKinds
import PyProof.TupleCall
import PySem.Challenge.RW_quoteweave_k34_until_a_time
noncomputable section
set_option Elab.async false
set_option linter.all false
set_option genInjectivity false
set_option genSizeOf false
set_option maxRecDepth 100000
set_option maxHeartbeats 4000000
open PySem.W renaming Frag->QA,kia_one->qK,nsIn->qq,fnOf->qr,keepIn->wJ,mg_of->WV,codeIn->Wi,WData->W4,codeHd_of_K->QAF,mg_none_of->QAM,methodObj->QAZ,kitx_list->QAa,codeHdIn->QAo,cellsFrom_some->QAt,instObj->QA0,lookIn->QBL,kitOne->QBM,tabObj->QBQ,kitx_tuple->QBk,kitx_dict->QBv,plainGet->QCL
open PySem renaming wpAny_bind->QC,wpAny_pure->QK,wpAny_newObj_type->Q0,sizeLine_eq->Q8,wpAny_loadPart'->qE,wpAny_call_entry->qL,mem_of_lookup->qO,wpAny_callSpecial?_slot->qR,Spec->qh,wpAny_holding->qp,wpAny_typeNameOfWhole_itemiter->qu,wpAny_mono->qw,wpAny_typeNameOfWhole_keyiter->qz,wpAny_dictEntries->wB,wpAny_setField_rec->wH,wpAny_field->wL,wpAny_truthy_bool->wP,wpAny_passesOwn->wQ,wpAny_Call_Name_kw->wq,wpAny_dictEpoch->wy,wpAny_isOneOf_itemiter->WZ,wpAny_notOrdered_dict->Wk,wpAny_attempt->W0,wpAny_execs_nil->W6,codeAny_builtin->W8,wpAny_setField->QAU,wpAny_fieldsOf->QAV,wpAny_pyIter_list->QAd,seqIndex_of->QAj,wpAny_Call_method0_late->QAk,wpAny_newList->QAl,wpAny_isInstance->QAq,wpAny_eqBool_int->QAr,wpAny_isOneOf_keyiter->QA6,wpAny_Name->QBB,wpAny_loadName_local->QBC,wpAny_newFunctionEnv->QBD,wpAny_seqItems->QBK,wpAny_newTuple->QBO,wpAny_loadName_free->QBR,wpAny_Tuple_spliced->QBS,evalArgs_none->QBT,wpAny_setItem_pairs->QBU,wpAny_Constant_int->QBh,wpAny_standAt->QBi,wpAny_handled->QBn,wpAny_pyIter_tuple->QBo,plainId_quiet->QBp,wpAny_assign_Name->QBt,slot_list_getitem->QBy,call_meets->QBz,wpAny_rule->QB1,wpAny_pyIter_slot->QB2,wpAny_pyIter_enum->QB6,codeAny_mono->QCB,wpAny_typeOf->QCC,seqIndex_neg->QCD,wpAny_pyHash_str->QCJ,wpAny_execs_cons->QCK,wpAny_of_eq->QCT,wpAny_throw->QCU,storedH_new->QCV,typeIs_str->QCa,Str->QCc
open List renaming length_map->QD,mem_cons_of_mem->QE,mem_cons_self->QF,length_append->QI,mem_singleton->QJ,mem_cons->QL,length_cons->QM,size_toArray->QN,map_append->QO,getElem?_map->QT,map_cons->QW,map_map->QY,mem_map->QZ,mem_filter->Qa,mem_append_right->Qb,getElem?_eq_none->Qe,getElem?_eq_getElem->Qf,getElem?_eq_some_iff->Qg,nil_append->Qh,mem_append->Qi,nodup_cons->Qj,range->Ql,mem_append_left->Qo,contains_iff_mem->Qt,length_range->Qu,all_eq_true->Qv,append_assoc->Qz,isEmpty_iff->Q1,nodup_nil->Q2,length_filter_le->Q3,mem_range->Q7,append_nil->qA,filter_sublist->qB,length_singleton->qF,toArray->qG,getElem?_append_right->qH,length_set->qM,mem_of_getElem?->qN,ext_getElem?->qP,getElem?_set_ne->qS,getElem?_append_left->qT,all_cons->qa,getD_eq_getElem?_getD->qe,getElem?_set_self->qf,nodup_append->qj,getElem?_range->ql,map_congr_left->qm,length_replicate->qt,getElem?_set->wC,length->wE,find?_cons->wF,getElem_mem->wG,length_nil->wO,getElem?_cons_succ->wa,getElem?_replicate->wc,length_take->wj,lookup_cons->wl,mem_flatMap->wn,any_cons->w4,set->w8,map_snd_zip->WD,not_mem_nil->WE,filter_cons->WF,filterMap_cons->WG,map_nil->WJ,map_inj_right->WW,drop_eq_nil_of_le->Wa,length_pos_of_mem->Wb,flatMap_cons->We,pairwise_map->Wg,map_inj_left->Wh,mem_iff_getElem?->Wn,length_drop->Wo,map_fst_zip->Wr,any_eq_true->Ws,getElem?_modify->Wu,forIn_cons->W5,foldl_cons->QAC,zip_cons_cons->QAL,replicate->QAQ,drop_eq_getElem_cons->QAW,pairwise_iff_getElem->QAY,length_erase_of_mem->QAe,foldl_append->QAf,getElem?_cons_zero->QAh,cons_append->QAn,length_eq_one_iff->QAx,modify_succ_cons->QAy,modify_zero_cons->QAz,of_mem_zip->QA1,map_set->QA8,filter_map->QBA,getElem?_zipIdx->QBG,mem_erase_of_ne->QBH,forIn_nil->QBN,mem_map_of_mem->QBW,mergeSort_perm->QBY,set_cons_zero->QBa,set_cons_succ->QBb,mem_filterMap->QBj,pairwise_cons->QBr,any_eq_false->QBu,take_sublist->QBw,mapM_toArray->QB4,getElem?_inj->QB7,any_map->QCG,nodup_range->QCP,lookup->QCR,map_id->QCX,getD->QCd
open Bool renaming false_ne_true->QG,and_eq_true->Qc,false_eq_true->Qq,not_eq_true'->Q9,eq_iff_iff->qD,or_eq_true->wX,not_false->WA,true_and->WM,and_eq_true_iff->Ww,not_true->Wx,false_and->QAO,false_or->QAi,and_false->QBJ,and_true->QBc,or_false->QBd,or_true->QB9,true_or->QCA
open PySem.Heap renaming get?_push_of_some->QH,get?_push_size->QU,lt_size->QX,SameBut->qW,get?_update_self->wv,ExtBut->W7,size_push->QAR,get?_update_other->QAu,get?_push_cases->QBF,size_update->QCO,IsList->QCS
open PySem.Str renaming ofString->QR
open Nat renaming le_refl->QS,le_trans->QV,ne_of_lt->Qk,lt_of_lt_of_le->Qn,zero_le->Qs,lt_irrefl->wA,le_succ->we,le_of_not_lt->wk,lt_of_succ_lt_succ->wo,ne_of_gt->wt,le_of_eq->wx,lt_succ_of_lt->w6,zero_add->WH,le_of_lt->WI,lt_of_le_of_lt->WN,min_eq_left->WX,succ_le_succ->Wp,le_add_right->QAs,lt_or_ge->QA2,lt_trans->QA3,sub_zero->QCH,lt_succ_self->QCI,blt->QCb
open False renaming elim->Qd
open Option.some renaming inj->Qm,injEq->Qp
open Array renaming length_toList->Qr,perm_iff_toList_perm->qI,getElem?_toList->ww,toList_inj->WC,getD_eq_getD_getElem?->QAD,getElem?_eq_some_iff->QAJ,getElem?_eq_none->QAw,toList_append->QBZ,forIn_toList->QBe,getD->QB3
open PySem.PyData renaming eqv->Qw,strOk->qX,canLayAll0->qk,depthAll->wW,canLay0->QAT,depth->QA4,noConfusion->QBm
open Option renaming map_some->Qx,map_none->wY,getD_some->Wq,isNone_iff_eq_none->QAX,isSome_map->QAc,getD_none->QCM
open PySem.Challenge renaming pw_quoteweave_k34_until_a_time->Qy,rw_quoteweave_k34_until_a_time->qC
open Ne renaming symm->Q4
open PySem.Heap.SameBut renaming update->Q5
open PySem.Obj renaming mapSeq->Q6,data_mapFields->WR,isFreed_of_fields->QA5,data_mapDictKeys->QBE,cls_mapFields->QB0
open PySem.Paired renaming length->qJ
open Int renaming toNat_natCast->qQ,eq_ofNat_of_zero_le->qb,emod_lt_of_pos->wI,lt_irrefl->wg,emod_nonneg->wz,le_trans->QAN,ofNat_le->QA9,natCast_nonneg->QBs,le_refl->QCY,toNat->QCe
open PySem.Builtin.SmallTypes renaming nextOf->qU
open PySem.F renaming slot_dict_itemiterator_next->qV,slot_dict_keyiterator_next->qY,slot_tuple_iterator_next->qd,args_tuple_iterator_next_1->WL,entry_tuple_iterator_next->WQ,plainAttrs_list->WU,args_dict_itemiterator_next_1->Wc,entry_dict_itemiterator_next->Wj,args_dict_keyiterator_next_1->Wm,entry_dict_keyiterator_next->Wt,slot_dict_getitem->QAS,plainAttrs_dict->QAm,slot_dict_items_iter->QAv,plain_list_iadd->QB8,slot_dict_iter->QCN
open LawfulBEq renaming eq_of_beq->qZ
open PyProof.Rows renaming subscriptTail_builtinR->qg,slot_tuple_getitem->wR,callWith_type1->wu,listUpdate_at->WS,get?_update_seq->W9,slot_tuple_getitem->QAK,seqEpoch_at->QBV,getItem_tuple->QBl,sortedAll_old->QBq,Subscript_->QBx,listItems_at->QCE,sortedAll_at->QCF
open PySem.SeqAt renaming EqAt->qi,eqv_refl->QBI
open Prod renaming fst->qy,ext->QCQ
open Lean.Parser.Tactic renaming tacticSeq->q0
open PySem.Builtin.Slice renaming slicePlaces->wK,sliceAdjust->WB,sliceApplied->QAI
open PySem.Builtin.Dict_items renaming addrOf->wM,ownsTuple->Wz
open Classical renaming byContradiction->wN
open PySem.Builtin.Tuple renaming tupleExact->wV,tupleItemsOf->QAG,tupleHashOf->QAP
open List.Pairwise renaming imp_of_mem->wZ,map->Wf
open PySem.Builtin.Str renaming occurrences->wb
open PySem.W.WData renaming weightAll->wf,weight->Wv
open PySem.Txt renaming slice->wm
open PySem.Around renaming under_plainId->w9,in1_units->QAp
open PySem.Builtin.List renaming listTooLong->WK
open PySem.Builtin.Range renaming rangeSize->WO,small->QBX
open PySem.Calls renaming spliced_cons->WP,callWith_builtin->WY,Name_function_global->QAH,spliced_nil->QAb
open Iff renaming rfl->WT
open PySem.Builtin.Dict renaming showsAll->Wl
open List.cons renaming injEq->QAA
open PySem.Builtin.Int renaming intBits->QAB
open Prod.mk renaming inj->QAE
open List.Perm renaming eq_of_pairwise->QAg,refl->QBP,of_eq->QCZ
open Array.Perm renaming refl->QA7
open PySem.SeqAt.EqAt renaming int_str->QBf,str_int->QBg
open PyProof.Rows.SortSt renaming mk'->QB5
open StateT renaming run_pure->QCW
theorem dF{p:Prop}[Decidable p](h:¬p):decide p=false:=_root_.decide_eq_false h
theorem dT{p:Prop}[Decidable p](h:p):decide p=true:=_root_.decide_eq_true h
abbrev NB:=List (PySem.Addr×PySem.Obj)
abbrev aC:=PySem.Value -> PySem.Shared -> Prop
abbrev bB:=PySem.Addr -> Prop
abbrev dC:=List (QCc×QCc)
set_option hygiene false in
local macro_rules | `(tactic| omega)=>do
 let f:=λ(s:String)=>(s.splitOn " ").toArray.map λx=>Lean.mkIdent x.toName
 let a<-(f "L2.szA L2.szB L2.szC L2.unA Nat.le_trans Nat.lt_of_le_of_lt").mapM λx=>`(q0| exact $x (by assumption) (by decide))
 let b<-(f "Nat.lt_of_lt_of_le Nat.lt_of_le_of_lt Nat.le_trans").mapM λx=>`(q0| exact $x (by assumption) (by assumption))
 let c<-(f "Nat.le_of_lt Nat.ne_of_lt Nat.ne_of_gt Nat.lt_succ_of_lt Nat.le_of_lt_succ L2.prA").mapM λx=>`(q0| exact $x (by assumption))
 let d<-(f "Nat.le_refl Nat.le_succ Nat.zero_le Nat.succ_pos").mapM λx=>`(q0| exact $x _)
 `(tactic| first|decide|assumption|exact L2.szL (by decide) $[| $a]* $[| $b]* $[| $c]* $[| $d]*|omega (config:={}) | (have:=PySem.sizeLine_eq;omega (config:={})))
set_option hygiene false in
local macro_rules
 | `(%[ $xs,*|1 ])=>do
  let mut r<-`(PX.nz)
  for x in xs.getElems.reverse do r<-`(PX.ny $x $r)
  return r
 | `(%[ $xs,*|2 ])=>do
  let mut r<-`(PT.nil)
  for x in xs.getElems.reverse do r<-`(PT.seq $x $r)
  return r
def zza:="vA Bf Ff G7 Df Gf Lf Uf F7 Cf Hf Xf jg Jf cg zg Fq xg lg Zf gg og Kf vg C7 D7 Gq kg zU yU A7 fg dg ug yg E7 yf B7 zf eg z8 vU xU Mf mq M7 Pf Rf nq Of Nf L7 Dw Lw Fw Hw Gw Cq Bq Bw Cw Rv Ov Pv Jw aw iw tw Vq yw Nw Mw bX jp yp mw lw gw fw cw bw uw xw kw zw Zq Yq Jq iq Sf Av Tv Iv oq Af sw Ru rg Lq Tj tf sf bf gf df rf mf Ck Uo Xo Re Pe De Ce Np Op Tp Hv Ip Ep Me Le m7 t7 OM He Zv Mv xo Ki vo Td Z5 pv t8 K0 Tl nv Xv Uv Jv sv um km lm Lc af Ue CB reduceIte"
def zzb:="MH FE BF TQ T.isD lockA uC lock kill iM Tg.ix fC rW EN cR isMut sV frzAt VV Sb rC.eq_1 rC.eq_2 cM.eq_1 cM.eq_2 cM.eq_3 cM.eq_4 B5 U5 X5 JI.eq_1 List.modify_succ_cons List.modify_zero_cons Option.map_some List.length_cons List.length_nil List.getElem?_cons_zero List.getElem?_cons_succ List.cons_append List.nil_append List.set_cons_zero List.set_cons_succ Nat.reduceAdd Nat.reduceSub Nat.zero_add Bool.and_true Bool.true_and Bool.not_true Bool.not_false Bool.or_true Bool.true_or Bool.or_false Bool.false_or Bool.and_false Bool.false_and if_true if_false Bool.false_eq_true true_and and_true false_implies ne_eq reduceCtorEq not_false_eq_true not_true_eq_false implies_true forall_const Int.reduceLT Int.reduceLE Int.reducePow Int.reduceNeg Nat.reducePow and_self eq_self Option.some.injEq Sl.own.injEq Sl.ky.injEq and_assoc decide_true decide_false"
set_option hygiene false in
local macro_rules | `(tactic| simp_arith [$ls,*])=>do
 let a<-(zza.splitOn " ").toArray.mapM λx=>`(Lean.Parser.Tactic.simpLemma| ↓ $(Lean.mkIdent x.toName):ident)
 let b<-(zzb.splitOn " ").toArray.mapM λx=>`(Lean.Parser.Tactic.simpLemma| $(Lean.mkIdent x.toName):ident)
 `(tactic| simp only [$ls,*,$a,*,$b,*])
set_option hygiene false in
local macro_rules | `(tactic| simp? [$ls,*])=>do
 let a<-(zza.splitOn " ").toArray.mapM λx=>`(Lean.Parser.Tactic.simpLemma| ↓ $(Lean.mkIdent x.toName):ident)
 let b<-(zzb.splitOn " ").toArray.mapM λx=>`(Lean.Parser.Tactic.simpLemma| $(Lean.mkIdent x.toName):ident)
 `(tactic| simp -implicitDefEqProofs only [$ls,*,$a,*,$b,*])
abbrev LS:=List QCc
abbrev LN:=List Nat
abbrev LJ:=List Int
abbrev LW:=List PySem.Value
namespace L2.L3.Q
open PySem PySem.W PySem.Spec PyProof.Rows
def kr(x:List Addr)(h:Heap):QA:=x.filterMap λa=>(h.get? a).map λo=>(a,o)
noncomputable abbrev br:=(Str×Str×Arguments×FuncBody×Scope)×(Addr×List (Str×Addr)×Value×Addr)×Bool
noncomputable def Zl(h:FuncData)(b:Bool):br:=((h.name,h.qualname,h.params,h.body,h.scope),(h.globals,h.closure,h.defaults,h.builtins),b)
noncomputable def UV(K:QA)(x:Str):Option br:=match qq K mainGlobals x with
 |some (some (.ref f))=>(match K.lookup f with
  |some ⟨_,_,.func fd,_⟩=>some (Zl fd (Wi K fd.code x&&wJ K (.ref f)))|_=>none)
 |_=>none
noncomputable def RS(x:Str)(st:Stmt):Option br:=match st with
 | .FunctionDef _ a b _ _ _ sc _ _ _=>some (Zl (qr x x a b sc .none .none .none .none none .none .none) true)|_=>none
def Fm:Value->Option Str
 | .str z _=>some z|_=>none
noncomputable def Hg(K:QA)(x:Str):Option (List (Option Str)):=match qq K mainGlobals x with
 |some (some (.ref f))=>(match K.lookup f with
  |some ⟨.type t,_,.seq its _,_⟩=>if t="tuple" then some (its.toList.map Fm) else none|_=>none)
 |_=>none
def Yt:Value->Option Int
 | .int i _=>some i|_=>none
def Dg(K:QA)(x:Str):Option Int:=match qq K mainGlobals x with
 |some (some u)=>Yt u|_=>none
def SU(K:QA)(x:Str):Bool:=match qq K mainGlobals x with
 |some none=>true|_=>false
noncomputable def cG(K:QA)(T:Addr):Bool:=(match qq K mainGlobals "going_order" with
 |some (some (.ref f))=>(match K.lookup f with
  |some ⟨_,_,.func fd,_⟩=>(match fd.code with
   | .ref c=>QAo K c T|_=>false)
  |_=>false)
 |_=>false)&&((match qq K mainGlobals "__builtins__" with
 |some (some (.ref b))=>(match K.lookup b with
  |some ⟨.type t,some d,.plain,_⟩=>t == "module" && (d==builtinsNs&&(b != builtinsNs&&(b != mainGlobals&&b != T)))|_=>false)
 |_=>false)&&((K.lookup T).isNone&&mainGlobals != T))
def top(i:Nat):Stmt:=Qy.main.body.getD i (.Pass ⟨0,0,0,0⟩)
noncomputable def fT:List (Str×Nat):=([("_law_folded",36),("_law_draw",32),("_law_names",33),("_law_people",34),("_law_event",35),("_law_world",37),("going_order",16),("has_against",22),("rank_of",20),("floor_of",21),("is_taken",19),("seen_among",24),("wrong_among",23),("live_among",25),("edges_of",28),("seers_of",27),("add_way",6),("add_name",5),("rooms_of",4),("points_reached",7),("lay_chain",8),("name_behind",10),("chain_from",9),("full_names",11),("apart_chains",3),("told_through",14),("ground_alone",13),("needs_of",30),("holders_in",29),("held_among",26),("gone",17),("until_time",18),("_law_back",38),("law",39)]:List (String×Nat)).map λp=>(QR p.1,p.2)
def tT:List (Str×LS):=[("BEGIN",["","begin"])]
def sT:List (Str×Int):=[("WIDE",2)]
noncomputable def nT:LS:=(["any","enumerate","int","isinstance","len","list","range","sorted","tuple"]:List String).map QR
noncomputable def qv:Program:={ Qy with main:={ Qy.main with body:=[1,2,3,4,5,6,7,8,9,10,11,13,14,16,17,18,19,20,21,22,23,24,25,26,27,28,29,30,32,33,34,35,36,37,38,39].map top } }
def tA:Addr:=84
noncomputable abbrev EX:=List (Option br)×List (Option (List (Option Str)))×List (Option Int)×List Bool×Bool
noncomputable def seen(K:Frag):EX:=(fT.map λp=>UV K p.1,tT.map λp=>Hg K p.1,sT.map λp=>Dg K p.1,nT.map (SU K),cG K tA)
noncomputable def due:EX:=(fT.map λp=>RS p.1 (top p.2),tT.map λp=>some (p.2.map some),sT.map λp=>some p.2,nT.map λ_=>true,true)
def fr(s:Shared):Frag:=kr ((Ql 240).filter λa=>a != tA) s.heap
def xt(s:Shared):Bool:=xlAt qv [] s&&recOk (RowW.records qC.row.toRowW) s
def ob(s:Shared):EX×Option Obj:=(seen (fr s),s.heap.get? tA)
theorem lf:LeftO Qy qv [] xt ob (λ_=>(due,some (tabObj #[]))) 2246:=by intro w;kernel_rfl
theorem ws:qC.wellSaid=true:=by kernel_rfl
end L2.L3.Q
namespace L2
open PySem PySem.Spec PyProof.Rows
section
variable{n m:Nat}
theorem szL(h:n<=16777216):n<=sizeLine:=by rw[Q8];exact h
theorem Tw(h:n<16777216):n<sizeLine:=by rw[Q8];exact h
theorem Aw(h:n<=m)(k:m<=16777216):n<=sizeLine:=szL (QV h k)
theorem Jx(h:n<=m)(k:m<16777216):n<sizeLine:=Tw (WN h k)
theorem sx(h:n<=m)(k:m<=16777216):0+n<=sizeLine:=by rw[WH];exact Aw h k
theorem ox{k c:Nat}(h:n+k<c)(l:m<=k):n+m<c:=WN (Nat.add_le_add_left l n) h
theorem Yx(h:m<n):n - 1<n:=by cases n with|zero=>exact(nomatch h)|succ n=>exact QCI n
end
open PySem.SeqAt
inductive NK where
 |s (x:Str)|t (xs:List NK)
noncomputable instance:DecidableEq NK:=λ_ _=>Classical.propDecidable _
mutual
def AZ(h:Heap):NK->Value->Prop
 | .s x,v=>∃t,v=.str x t|.t ks,v=>∃a y,v=.ref a/\h.IsTuple a y/\NKvs h ks y.toList
def NKvs(h:Heap):List NK->LW->Prop
 |[],vs=>vs=[]|k::ks,vs=>∃v r,vs=v::r/\AZ h k v/\NKvs h ks r
end
mutual
def u5:NK->Nat
 | .s _=>0|.t h=>nkds h+1
def nkds:List NK->Nat
 |[]=>0|k::ks=>max (u5 k) (nkds ks)
end
mutual
def As(w:World):NK->Int
 | .s x=>hashStr w x|.t h=>reduceHash (QAP (nkhs w h))
def nkhs(w:World):List NK->LJ
 |[]=>[]|k::ks=>As w k::nkhs w ks
end
mutual
def xl:NK->Nat
 | .s _=>1|.t h=>nkts h+1
def nkts:List NK->Nat
 |[]=>0|k::ks=>xl k+nkts ks
end
theorem eW{h:Heap}{a:Addr}{xs x:Array Value}(p:h.IsTuple a xs)(q:h.IsTuple a x):xs=x:=by obtain⟨o,e,_,n,d⟩:=p;obtain⟨u,y,_,v,z⟩:=q;cases e.symm.trans y;cases d.symm.trans z;rfl
mutual
theorem m5{h:Heap}:∀{k l:NK}{v:Value},AZ h k v->AZ h l v->k=l
 | .s x,.s y,v,⟨t,e⟩,⟨u,e'⟩=>by subst e;cases e';rfl|.s x,.t ls,v,⟨t,e⟩,⟨_,_,e',_⟩=>by subst e;cases e'|.t ks,.s y,v,⟨_,_,e,_⟩,⟨_,e'⟩=>by subst e;cases e'|.t ks,.t ls,v,⟨a,its,e,p,q⟩,⟨b,jts,e',p',q'⟩=>by subst e;cases e';cases eW p p';rw[nks_inj q q']
theorem nks_inj{h:Heap}:∀{ks ls:List NK}{vs:LW},NKvs h ks vs->NKvs h ls vs->ks=ls
 |[],[],_,_,_=>rfl|[],_::_,_,e,⟨_,_,e',_⟩=>by cases(show _=[] from e).symm.trans e'|_::_,[],_,⟨_,_,e',_⟩,e=>by cases(show _=[] from e).symm.trans e'|k::ks,l::ls,_,⟨v,r,e,p,q⟩,⟨v',r',e',p',q'⟩=>by cases e.symm.trans e';rw[m5 p p',nks_inj q q']
end
mutual
theorem uS{h h':Heap}(k:∀a its,h.IsTuple a its->h'.IsTuple a its):∀{x:NK}{v:Value},AZ h x v->AZ h' x v
 | .s x,v,e=>e|.t ks,v,⟨a,its,e,p,q⟩=>⟨a,its,e,k a its p,nks_keeps k q⟩
theorem nks_keeps{h h':Heap}(k:∀a its,h.IsTuple a its->h'.IsTuple a its):∀{xs:List NK}{vs:LW},NKvs h xs vs->NKvs h' xs vs
 |[],_,e=>e|x::xs,_,⟨v,r,e,p,q⟩=>⟨v,r,e,uS k p,nks_keeps k q⟩
end
section
variable{prog:Program}{w:World}{E:aC}
mutual
theorem uX:∀(k:NK) (v:Value) (A:Around) (s:Shared) (Q:Int->Shared->Prop),AZ s.heap k v->A.units+u5 k<cLine->Q (As w k) { s with toks:=s.toks+xl k }->wpAny (model prog w) A (pyHash v) Q E s
 | .s x,v,A,s,Q,⟨t,e⟩,_,q=>by subst e;exact QCJ q|.t ks,v,A,s,Q,⟨a,its,e,⟨o,ho,hc,n,hd⟩,hi⟩,h,q=>by subst e;have h:A.units+(nkds ks+1)<cLine:=h;refine PySem.W.pyHash_slot (T:="tuple") ⟨o,ho,hc⟩ F.slot_tuple_hash F.entry_tuple_hash (F.args_tuple_hash_1 _) (beq_builtin_none _) (.inr (by omega)) ?_;show wpAny _ _ (QAG (.ref a) >>= _) _ _ s;refine QC (wpAny_tupleItemsOf ho hd ?_);refine QC ?_;rw[<- QBe];refine nk_loop ks its.toList A.in1 s #[] _ hi (by rw[QAp];omega) λb hb=>?_;show wpAny _ _ (retInt (QAP b.toList)) _ _ _;rw[hb];exact QC (wpAny_mkInt (QK ⟨_,_,rfl,by rw[Nat.add_assoc];exact q⟩))
theorem nk_loop:∀(ks:List NK) (vs:LW) (A:Around) (s:Shared) (b:Array Int) (Q:Array Int->Shared->Prop),NKvs s.heap ks vs->A.units+nkds ks<cLine ->
  (∀y,y.toList=b.toList++nkhs w ks->Q y { s with toks:=s.toks+nkts ks }) ->
  wpAny (model prog w) A (forIn vs b λx r=>do let h <- pyHash x;pure PUnit.unit;pure (ForInStep.yield (r.push h))) Q E s
 |[],vs,A,s,b,Q,e,_,q=>by subst e;exact QK (q b (qA _).symm)|k::ks,vs,A,s,b,Q,⟨v,r,e,p,p'⟩,z,q=>by subst e;have z:A.units+max (u5 k) (nkds ks)<cLine:=z;rw[W5];refine QC (QC (uX k v A s _ p (by omega) ?_));refine QC (QK (QK ?_));refine nk_loop ks r A _ _ Q p' (by omega) λy hb=>?_;have e:s.toks+xl k+nkts ks=s.toks+(xl k+nkts ks):=Nat.add_assoc _ _ _;have:=q y (by rw[hb,Array.toList_push,Qz];rfl);show Q y { s with toks:=s.toks+xl k+nkts ks };rw[e];exact this
end
end
theorem Kk{ks ls:List NK}{n m:Nat}(x:n=ks.length)(y:m=ls.length):((Ql (min n m)).all (λj=>decide (ks[j]?=ls[j]?))&&n==m)=decide (NK.t ks=NK.t ls):=by subst x y;rw[qD,decide_eq_true_iff,Qc,Qv,beq_iff_eq];constructor;rintro⟨z,v⟩;congr 1;refine qP λj=>?_;by_cases u:j<ks.length;exact of_decide_eq_true (z j (Q7.mpr (by omega)));rw[Qe (by omega),Qe (by omega)];intro h;injection h with h;subst h;exact⟨λ_ _=>dT rfl,rfl⟩
theorem vQ{h:Heap}:∀{ks:List NK}{vs:LW},NKvs h ks vs->vs.length=ks.length
 |[],_,e=>by cases(show _=[] from e);rfl|_::_,_,⟨v,r,e,_,q⟩=>by rw[e,QM,QM,vQ q]
mutual
theorem Od:∀(k l:NK) (v u:Value) (A:Around) (s:Shared),AZ s.heap k v->AZ s.heap l u->A.units+u5 k<cLine->EqAt A s v u (decide (k=l))
 | .s x,.s y,v,u,A,s,⟨t,e⟩,⟨t',e'⟩,_=>by
  subst e e';have:=EqAt.str_str (A:=A) (s:=s) x t y t';have z:(x==y)=decide (NK.s x=NK.s y):=by rw[qD,decide_eq_true_iff,beq_iff_eq];exact⟨λh=>h▸rfl,λh=>by injection h⟩
  rw[<- z];exact this
 | .s x,.t ls,v,u,A,s,⟨t,e⟩,⟨b,jts,e',p,_⟩,f=>by subst e e';rw[dF λh=>by cases h];exact EqAt.str_tuple x t p (by omega)|.t ks,.s y,v,u,A,s,⟨a,its,e,p,_⟩,⟨t,e'⟩,f=>by subst e e';rw[dF λh=>by cases h];exact EqAt.tuple_str y t p (by omega)|.t ks,.t ls,v,u,A,s,⟨a,its,e,p,q⟩,⟨b,jts,e',p',q'⟩,f=>by subst e e';by_cases w:a=b;subst w;cases eW p p';rw[nks_inj q q',dT rfl];exact EqAt.same _;have f:A.units+(nkds ks+1)<cLine:=f;refine EqAt.of_refs w ?_;have i:=vQ q;have g:=vQ q';rw[Qr]at i g;rw[<- Kk i g];refine RcAt.tuples p p' (by omega) λj n m=>?_;have:=nks_eq ks ls its.toList jts.toList A.in1 s q q' (by rw[QAp];omega) j (by rw[Qr];exact n) (by rw[Qr];exact m);simpa using this
theorem nks_eq:∀(ks ls:List NK) (vs us:LW) (A:Around) (s:Shared),NKvs s.heap ks vs->NKvs s.heap ls us->A.units+nkds ks<cLine->∀j (y:j<vs.length) (x:j<us.length),EqAt A s vs[j] us[j] (decide (ks[j]?=ls[j]?))
 |[],_,vs,us,A,s,e,_,_,j,y,_=>by cases(show vs=[] from e);cases y|_::_,[],vs,us,A,s,_,e,_,j,_,x=>by cases(show us=[] from e);cases x|k::ks,l::ls,_,_,A,s,⟨v,r,e,p,q⟩,⟨v',r',e',p',q'⟩,u,j,y,x=>by
  subst e e';have u:A.units+max (u5 k) (nkds ks)<cLine:=u;cases j with|zero=>have:=Od k l v v' A s p p' (by omega);have z:decide (k=l)=decide ((k::ks)[0]?=(l::ls)[0]?):=decide_eq_decide.mpr ⟨λh=>by rw[h];rfl,λh=>Qm h⟩;rw[<- z];exact this|succ j=>exact nks_eq ks ls r r' A s q q' (by omega) j (wo y) (wo x)
end
section
variable{prog:Program}{w:World}{A:Around}{E:aC}{s:Shared}
mutual
theorem xS:∀(k:NK) (v:Value) (n:Nat) (Q:Bool->Shared->Prop),AZ s.heap k v->u5 k<=n->Q true s->wpAny (model prog w) A (eqIsQuiet n v) Q E s
 | .s x,v,n,Q,⟨t,e⟩,_,q=>by subst e;rw[eqIsQuiet_byValue _ rfl];exact QK q|.t ks,v,n,Q,⟨a,its,e,⟨o,ho,hc,m,hd⟩,hi⟩,g,q=>by
  subst e;have g:nkds ks+1<=n:=g;obtain⟨n,rfl⟩:∃m,n=m+1:=⟨n - 1,by omega⟩
  have i:s.TypeIs (.ref a) "tuple":=⟨o,ho,hc⟩
  unfold eqIsQuiet;refine QC (wpAny_specialOf i F.slot_tuple_eq.lookup ?_);show wpAny _ _ (isInstance (.ref a) (.type "tuple") >>= _) _ _ s;refine QC (QAq i isSubtype_tuple_tuple ?_);simp only[Wx,Qq,if_false];refine QC (QBK ho hd ?_);refine QC ?_;show wpAny _ _ (forIn its _ _) _ _ s;rw[<- QBe];refine wpAny_forIn_list _ (λh r z=>r.1=none/\z=s/\∀v∈h,∀Q:Bool->Shared->Prop,Q true s->wpAny (model prog w) A (eqIsQuiet n v) Q E s) _ ?_ ?_ _ _ ⟨rfl,rfl,nks_quiet ks its.toList n hi (by omega)⟩;rintro v h r z ⟨f,rfl,y⟩;refine QC (y v QF _ ?_);simp only[Wx,Qq,if_false];exact QK ⟨rfl,rfl,λu b=>y u (QE _ b)⟩;rintro⟨j,l⟩ z ⟨f,rfl,_⟩;cases(show j=none from f);exact QK q
theorem nks_quiet:∀(ks:List NK) (vs:LW) (n:Nat),NKvs s.heap ks vs->nkds ks<=n->∀v∈vs,∀Q:Bool->Shared->Prop,Q true s->wpAny (model prog w) A (eqIsQuiet n v) Q E s
 |[],vs,n,e,_,v,hv,Q,q=>by cases(show vs=[] from e);cases hv|k::ks,vs,n,⟨x,r,e,p,p'⟩,h,v,hv,Q,q=>by subst e;have h:max (u5 k) (nkds ks)<=n:=h;rcases QL.mp hv with rfl|hv;exact xS k v n Q p (by omega) q;exact nks_quiet ks r n p' (by omega) v hv Q q
end
end
section
variable{H:Hp}{a b:Addr}{o:HO}
noncomputable def xF(prog:Program)(w:World):HeapKind prog w NK where
 is:=λh k a=>AZ h k (.ref a)/\u5 k<=6
 hash:=As w
 draws:=xl
 room:=λA=>A.units+8<cLine
 inj:=λy u=>m5 y.1 u.1
 keeps:=λ{h m k a d o p q} x j l i=>⟨uS (λb f ⟨ob,e,c,n,v⟩=>⟨ob,(i.2 b λz=>by subst z;cases e.symm.trans j;cases l.symm.trans v).trans e,c,n,v⟩) x.1,x.2⟩
 pyHash:=λg hk h=>uX _ _ _ _ _ hk.1 (by have:=hk.2;omega) h
 eqBool:=λg y u h=>Od _ _ _ _ _ _ y.1 u.1 (by have:=y.2;omega) _ _ _ _ h
 quiet:=λhk h=>xS _ _ _ _ hk.1 (by have:=hk.2;omega) h
noncomputable abbrev Key:=Sum Int Str
def VO:Key->Value->Bool
 | .inl k,v=>Value.isInt k v|.inr x,v=>Value.isStrOf x v
def Jt(w:World):Key->Int
 | .inl k=>hashInt k|.inr x=>hashStr w x
theorem NA:∀{k:Key}{v:Value},VO k v=true->(∃i t,k=Sum.inl i/\v=Value.int i t)∨(∃x t,k=Sum.inr x/\v=Value.str x t)
 | .inl i,v,h=>by obtain⟨t,e⟩:=Value.isInt_shape (k:=i) (v:=v) h;exact .inl ⟨i,t,rfl,e⟩|.inr x,v,h=>by obtain⟨t,e⟩:=Value.isStrOf_shape (x:=x) (v:=v) h;exact .inr ⟨x,t,rfl,e⟩
theorem lZ(i:Int)(t:Tok):VO (.inl i) (.int i t)=true:=by simp[VO,Value.isInt]
theorem gZ(x:Str)(t:Tok):VO (.inr x) (.str x t)=true:=by simp[VO,Value.isStrOf]
theorem Ii(a b:Int):decide ((Sum.inl a:Key)=Sum.inl b)=(a==b):=by by_cases e:a=b;subst e;simp;have h:¬ (Sum.inl a:Key)=Sum.inl b:=λq=>e (Sum.inl.inj q);rw[dF h];exact(beq_eq_false_iff_ne.mpr e).symm
theorem Ti(a b:Str):decide ((Sum.inr a:Key)=Sum.inr b)=decide (a=b):=by by_cases e:a=b;subst e;simp;have h:¬ (Sum.inr a:Key)=Sum.inr b:=λq=>e (Sum.inr.inj q);rw[dF h,dF e]
theorem Ei(a:Int)(b:Str):decide ((Sum.inl a:Key)=Sum.inr b)=false:=dF (λq=>nomatch q)
theorem Ai(a:Str)(b:Int):decide ((Sum.inr a:Key)=Sum.inl b)=false:=dF (λq=>nomatch q)
noncomputable def ED(prog:Program)(w:World):PySem.KeyKind prog w Key where
 is:=VO
 hash:=Jt w
 inj:=λv a b f hb=>by
  rcases NA f with⟨i,t,rfl,rfl⟩| ⟨x,t,rfl,rfl⟩
  rcases NA hb with⟨j,u,rfl,e⟩| ⟨y,u,rfl,e⟩
  ·injection e with e1 _;rw[e1]
  exact nomatch e;rcases NA hb with⟨j,u,rfl,e⟩| ⟨y,u,rfl,e⟩
  ·exact nomatch e
  injection e with e1 _;rw[e1]
 byValue:=λk v h=>by rcases NA h with⟨i,t,rfl,rfl⟩| ⟨x,t,rfl,rfl⟩<;>rfl
 pyHash:=λhv h=>by
  rcases NA hv with⟨i,t,rfl,rfl⟩| ⟨x,t,rfl,rfl⟩
  exact wpAny_pyHash_int h;exact QCJ h
 eqBool:=λz hv h=>by
  rcases NA z with⟨i,t,rfl,rfl⟩| ⟨x,t,rfl,rfl⟩
  rcases NA hv with⟨j,u,rfl,rfl⟩| ⟨y,u,rfl,rfl⟩
  ·rw[Ii]at h;exact QAr h
  rw[Ei]at h;exact QBf i t y u _ _ _ _ h;rcases NA hv with⟨j,u,rfl,rfl⟩| ⟨y,u,rfl,rfl⟩
  ·rw[Ai]at h;exact QBg x t j u _ _ _ _ h
  rw[Ti]at h;exact wpAny_eqBool_str h
 «strs»:=λk x t v h=>by
  rcases NA h with⟨i,u,rfl,e⟩| ⟨y,u,rfl,e⟩
  exact nomatch e;injection e with e1 _;subst e1;cases v<;>rfl
theorem dS(prog:Program)(w:World)(i:Int)(t:Tok):(ED prog w).is (.inl i) (.int i t)=true:=lZ i t
theorem cS(prog:Program)(w:World)(x:Str)(t:Tok):(ED prog w).is (.inr x) (.str x t)=true:=gZ x t
set_option genInjectivity true in
inductive V where
 |non|bl (b:Bool)|int (i:Int)|str (x:Str)|byt (b:Array UInt8)|flt (b:UInt64)|ref (a:Addr)|ty (n:String)
 deriving DecidableEq
abbrev LV:=List V
noncomputable def JA:V->Value->Prop
 | .non,u=>u=Value.none|.bl b,u=>u=Value.bool b|.int i,u=>∃t,u=Value.int i t|.str x,u=>∃t,u=Value.str x t|.byt b,u=>∃t,u=Value.bytes b t|.flt b,u=>∃t,u=Value.float b t|.ref a,u=>u=Value.ref a|.ty n,u=>u=Value.type n
noncomputable abbrev lA:LV->LW->Prop:=Paired JA
theorem lA.length{xs:LV}{us:LW}(r:lA xs us):xs.length=us.length:=qJ r
theorem lA.get:∀{xs:LV}{us:LW}{i:Nat}{x:V},lA xs us->xs[i]?=some x->∃u,us[i]?=some u/\JA x u
 |_,_,_,_,.nil,e=>by simp at e|_,_,0,_,.cons r _,e=>by simp at e;subst e;exact⟨_,rfl,r⟩|_,_,i+1,x,.cons _ t,e=>by obtain⟨u,y,h⟩:=lA.get (i:=i) (x:=x) t (by simpa using e);exact⟨u,by simpa using y,h⟩
theorem lA.set{x:V}{u:Value}(r:JA x u):∀{xs:LV}{us:LW}(i:Nat),lA xs us->lA (xs.set i x) (us.set i u)
 |_,_,_,.nil=>.nil|_,_,0,.cons _ t=>.cons r t|_,_,i+1,.cons q t=>.cons q (lA.set r i t)
theorem lA.append:∀{xs h:LV}{us ws:LW},lA xs us->lA h ws->lA (xs++h) (us++ws)
 |_,_,_,_,.nil,s=>s|_,_,_,_,.cons r t,s=>.cons r (lA.append t s)
theorem lA.take:∀{xs:LV}{us:LW}(n:Nat),lA xs us->lA (xs.take n) (us.take n)
 |_,_,0,_=>.nil|_,_,_+1,.nil=>.nil|_,_,n+1,.cons r t=>.cons r (lA.take n t)
theorem lA.drop:∀{xs:LV}{us:LW}(n:Nat),lA xs us->lA (xs.drop n) (us.drop n)
 |_,_,0,r=>r|_,_,_+1,.nil=>.nil|_,_,n+1,.cons _ t=>lA.drop n t
def AT:Option V->Option Value->Prop
 |some v,some u=>JA v u|none,none=>True|_,_=>False
def KV{h:Type}:List (h×V)->List (h×Value)->Prop:=Paired λ(p:h×V) (q:h×Value)=>p.1=q.1/\JA p.2 q.2
def kV:Key->V
 | .inl i=>.int i|.inr x=>.str x
inductive HO where
 |lst (xs:LV)
 |tup (xs:LV)
 |dK (kvs:List (Key×V))|dT (ep:Nat) (kvs:List (NK×Addr×V))
 |set (S:Int->Bool) (n:Nat)
 |ins (C dx:Addr) (fs:List (Str×V))
 |own (x:Addr)
 |xd (fs:List (Str×V))
 |met (f x:Addr)
 |rng (lo hi:Int)
 |frz (o:Obj) (u:HO)
 |tbl (q:Str)
 |ext (φ:Heap->Prop)
noncomputable abbrev Hp:=Addr->Option HO
def BA(H:Hp)(a:Addr)(o:HO):Hp:=λb=>if b=a then some o else H b
theorem aA:BA H a o a=some o:=by unfold BA;rw[if_pos rfl]
theorem kA(h:b≠a):BA H a o b=H b:=by unfold BA;rw[if_neg h]
theorem V8{u:HO}:BA (BA H a o) a u=BA H a u:=by funext b;unfold BA;split<;>rfl
theorem iA(h:H a=some o)(h':H b=none):a≠b:=by intro e;subst e;rw[h]at h';cases h'
end
section
variable(P:Program)(w:World)
noncomputable def CA(H:Hp)(h:Heap)(a:Addr):HO->Prop
 | .lst k=>k.length<=sizeLine/\∃(z:LW) (n:Nat),lA k z/\h.get? a=some { cls:=.type "list",data:=.seq z.toArray n }|.tup k=>k.length<=sizeLine/\∃z:LW,lA k z/\IsTup h a z.toArray|.dK y=>y.length<=sizeLine/\(a==sysModules)=false/\∃m,KV y m/\h.DictOf (ED P w) a m|.dT W y=>y.length<=sizeLine/\(a==sysModules)=false/\∃k:List (NK×Addr×Value),
   Paired (λ(p:NK×Addr×V) (q:NK×Addr×Value)=>p.1=q.1/\p.2.1=q.2.1/\JA p.2.2 q.2.2) y k /\
   ∃o X,h.get? a=some o/\o.ExactDict/\o.data=.dict X W/\X.toList=k.map (entryOfKey (xF P w))/\(k.map (·.1)).Nodup
 | .set S n=>h.SetOf (intKind P w) a S n|.ins C e fs=>H e=some (.own a)/\fs.length<=1000/\e≠a/\h.get? a=some (QA0 C e) /\
   ∃b,h.Ns1 e b/\(∀f,AT (fs.lookup f) (b f))/\PySem.Within b (fs.map (·.1))
 | .own _=>∃o,h.get? a=some o|.xd fs=>∃b,h.Ns1 a b/\∀f,AT (fs.lookup f) (b f)|.rng Y Z=>∃t u v,h.get? a=some { cls:=.type "range",data:=.fields #[.int Y t,.int Z u,.int 1 v] }|.frz o u=>h.get? a=some o/\CA H h a u|.tbl q=>∃i,h.get? a=some { cls:=.none,data:=.fields i }/\TriplesOk i.toList/\∀j l,codeAmong j i.toList=some l->∃c,l=.ref c/\H c=some (.own a)/\h.CodeRec l q|.met f x=>h.get? a=some (QAZ (.ref f) (.ref x))|.ext g=>g h/\(∃o,h.get? a=some o)/\∀s r:Heap,g s->(∀o,s.get? a=some o->r.get? a=some o)->g r
def bL(H:Hp)(h:Heap):Prop:=∀a o,H a=some o->CA P w H h a o
end
section
variable{P:Program}{w:World}{H i:Hp}{h h':Heap}{a:Addr}{o:HO}
theorem CA.lt(x:CA P w H h a o):a<h.objs.size:=by
 cases o with|lst v=>obtain⟨_,_,_,_,e⟩:=x;exact QX e|tup v=>obtain⟨_,_,_,p⟩:=x;exact p.lt|dK z=>obtain⟨_,_,_,_,o,_,_,e,_⟩:=x;exact QX e|dT j z=>obtain⟨_,_,_,_,o,_,e,_⟩:=x;exact QX e|set S n=>obtain⟨o,_,_,_,e,_⟩:=x;exact QX e|ins C l fs=>obtain⟨_,_,_,e,_⟩:=x;exact QX e|own y=>obtain⟨_,e⟩:=x;exact QX e|xd fs=>obtain⟨_,⟨_,_,_,e,_⟩,_⟩:=x;exact QX e|rng b g=>obtain⟨_,_,_,e⟩:=x;exact QX e|frz ob u=>obtain⟨e,_⟩:=x;exact QX e|tbl q=>obtain⟨_,e,_⟩:=x;exact QX e|met f y=>exact QX (show h.get? a=some _ from x)|ext k=>obtain⟨_,⟨_,e⟩,_⟩:=x;exact QX e
theorem Paired.mapP{α z:Type}{F G:α->z->Prop}:∀{y:List α}{x:List z},Paired F y x->(∀a b,F a b->G a b)->Paired G y x
 |_,_,.nil,_=>.nil|_,_,.cons r t,f=>.cons (f _ _ r) (Paired.mapP t f)
theorem CA.stay(x:CA P w H h a o)(k:∀b u,(b=a∨H b=some (.own a))->h.get? b=some u->h'.get? b=some u)
  (K:∀b,H b=some (.own a)->i b=some (.own a)) (O:∀b xs,H b=some (.tup xs)->i b=some (.tup xs)):CA P w i h' a o:=by
 induction o with|lst xs=>obtain⟨z,m,n,r,e⟩:=x;exact⟨z,m,n,r,k _ _ (.inl rfl) e⟩|tup xs=>obtain⟨z,m,r,ob,e,c⟩:=x;exact⟨z,m,r,ob,k _ _ (.inl rfl) e,c⟩|dK W=>obtain⟨z,y,s,r,ob,j,l,e,c⟩:=x;exact⟨z,y,s,r,ob,j,l,k _ _ (.inl rfl) e,c⟩|dT l W=>obtain⟨z,y,xs,r,ob,j,e,c⟩:=x;exact⟨z,y,xs,r,ob,j,k _ _ (.inl rfl) e,c⟩|set S n=>obtain⟨ob,j,l,t,e,c⟩:=x;exact⟨ob,j,l,t,k _ _ (.inl rfl) e,c⟩|ins C R fs=>obtain⟨d,z,F,e,Z,⟨Y,j,l,J,c⟩,r⟩:=x;exact⟨K _ d,z,F,k _ _ (.inl rfl) e,Z,⟨Y,j,l,k _ _ (.inr d) J,c⟩,r⟩|own y=>obtain⟨ob,e⟩:=x;exact⟨ob,k _ _ (.inl rfl) e⟩|xd fs=>obtain⟨Z,⟨Y,j,l,e,c⟩,r⟩:=x;exact⟨Z,⟨Y,j,l,k _ _ (.inl rfl) e,c⟩,r⟩|rng N Q=>obtain⟨t,u,v,e⟩:=x;exact⟨t,u,v,k _ _ (.inl rfl) e⟩|frz ob u G=>obtain⟨e,q⟩:=x;exact⟨k _ _ (.inl rfl) e,G q⟩|tbl q=>obtain⟨E,e,t,f⟩:=x;refine⟨E,k _ _ (.inl rfl) e,t,λX L g=>?_⟩;obtain⟨c,rfl,o,c1,ob,s,B,A,I,r⟩:=f X L g;cases A;exact⟨c,rfl,K _ o,c,ob,s,B,rfl,k _ _ (.inr o) I,r⟩|met f y=>have e:h.get? a=some (QAZ (.ref f) (.ref y)):=x;show h'.get? a=some (QAZ (.ref f) (.ref y));exact k a _ (.inl rfl) e|ext M=>obtain⟨p,⟨o,e⟩,st⟩:=x;exact⟨st _ _ p λo q=>k _ _ (.inl rfl) q,⟨o,k _ _ (.inl rfl) e⟩,st⟩
theorem bL.lt(x:bL P w H h)(e:H a=some o):a<h.objs.size:=(x a o e).lt
theorem bL.fresh(x:bL P w H h)(e:h.objs.size<=a):H a=none:=by
 cases q:H a with|none=>rfl|some u=>exact absurd (Qn (x.lt q) e) (wA _)
theorem bL.kept(x:bL P w H h)(k:∀b u,h.get? b=some u->h'.get? b=some u):bL P w H h':=λa o e =>
 (x a o e).stay (λb u _ q=>k b u q) (λ_ q=>q) λ_ _ q=>q
theorem bL.laid(x:bL P w H h)(k:∀b u,h.get? b=some u->h'.get? b=some u)(z:h.objs.size<=a)(new:CA P w (BA H a o) h' a o):bL P w (BA H a o) h':=λb u e=>by have y:=x.fresh z;by_cases hb:b=a;subst hb;rw[aA]at e;cases e;exact new;rw[kA hb]at e;exact(x b u e).stay (λc v _ q=>k c v q) (λc q=>by rw[kA (iA q y)];exact q) λc f q=>by rw[kA (iA q y)];exact q
end
def Rd(H:Hp)(a:Addr)(u:HO):Prop:=H a=some u∨∃o,H a=some (.frz o u)
theorem Rd.ok{P:Program}{w:World}{H:Hp}{h:Heap}{a:Addr}{u:HO}(r:Rd H a u)(x:bL P w H h):CA P w H h a u:=by
 rcases r with r|⟨o,r⟩
 exact x a u r;obtain⟨_,q⟩:=x a _ r;exact q
noncomputable def Bl:Option HO->Prop
 |some (.lst _)=>True|some (.dK _)=>True|some (.dT _ _)=>True|some (.set _ _)=>True|some (.ins _ _ _)=>True|some (.ext _)=>True|_=>False
section
variable{P:Program}{w:World}{H:Hp}{h h':Heap}{x e:Addr}{a:HO}
theorem bL.write(ok:bL P w H h)(l:Bl (H x))(o:e=x∨H e=some (.own x))(k:∀b u,b≠e->h.get? b=some u->h'.get? b=some u)(m:∃u,h'.get? e=some u)
  (new:CA P w (BA H x a) h' x a):bL P w (BA H x a) h':=λb u q=>by
 have g:∀c y,H c=some (.own y)->c≠x:=λc y r z=>by subst z;rw[r]at l;exact l
 have i:∀c j,H c=some (.tup j)->c≠x:=λc j r z=>by subst z;rw[r]at l;exact l
 by_cases hb:b=x;subst hb;rw[aA]at q;cases q;exact new;rw[kA hb]at q;by_cases f:b=e;have n:H b=some (.own x):=by rcases o with z|z;exact absurd (f.trans z) hb;rw[f];exact z
 rw[q]at n;cases n;obtain⟨v,hv⟩:=m;exact⟨v,by rw[f];exact hv⟩;refine(ok b u q).stay (λc v hc r=>k c v ?_ r) (λc r=>by rw[kA (g c b r)];exact r) λc j r=>by rw[kA (i c j r)];exact r
 rcases hc with rfl|hc;exact f;rintro rfl;rcases o with z|z;exact g c b hc z;rw[hc]at z;cases z;exact hb rfl
end
structure Un(fs ex:List Addr)(H H':Hp)(h h':Heap):Prop where
 keep:∀b o,h.get? b=some o->H b=none->b∉fs->b∉ex->h'.get? b=some o
 slot:∀b o,h.get? b=some o->H b=none->b∈fs->b∉ex->∃sl,h'.get? b=some { o with slots:=sl }
 free:∀b o,h.get? b=some o->H b=none->b∉ex->H' b=none
 there:∀b o,h.get? b=some o->b∉ex->∃o',h'.get? b=some o'
 tups:∀b xs,H b=some (.tup xs)->H' b=some (.tup xs)
 frzs:∀b o u,H b=some (.frz o u)->H' b=some (.frz o u)
 tbls:∀b q,H b=some (.tbl q)->H' b=some (.tbl q)
section
variable{y w ex c:List Addr}{H d g:Hp}{h v f h':Heap}{a x e:Addr}{o:HO}
theorem Un.any(u:Un y ex H d h v){b:Addr}{ob:Obj}(q:h.get? b=some ob)(n:H b=none)(z:b∉ex):∃k,v.get? b=some { ob with slots:=k }:=by by_cases hb:b∈y;exact u.slot b ob q n hb z;exact⟨ob.slots,u.keep b ob q n hb z⟩
theorem Un.kept(k:∀b u,h.get? b=some u->h'.get? b=some u):Un y ex H H h h' :=
 ⟨λb ob q _ _ _=>k b ob q,λb ob q _ _ _=>⟨ob.slots,k b ob q⟩,λ_ _ _ n _=>n,λb ob q _=>⟨ob,k b ob q⟩,λ_ _ q=>q,λ_ _ _ q=>q,λ_ _ q=>q⟩
theorem Un.refl:Un y ex H H h h:=Un.kept λ_ _ q=>q
theorem Un.laid(k:∀b u,h.get? b=some u->h'.get? b=some u)(j:h.objs.size<=a)(z:H a=none):Un y ex H (BA H a o) h h' where
 keep:=λb u q _ _ _=>k b u q
 slot:=λb u q _ _ _=>⟨u.slots,k b u q⟩
 free:=λb u q n _=>by rw[kA (Qk (Qn (QX q) j))];exact n
 there:=λb u q _=>⟨u,k b u q⟩
 tups:=λb i q=>by rw[kA (iA q z)];exact q
 frzs:=λb u i q=>by rw[kA (iA q z)];exact q
 tbls:=λb l q=>by rw[kA (iA q z)];exact q
theorem Un.write(j:Bl (H x))(X:e=x∨H e=some (.own x))(k:∀b u,b≠e->h.get? b=some u->h'.get? b=some u)(m:∃u,h'.get? e=some u):Un y ex H (BA H x o) h h':=by
 have p:∀b,H b=none->b≠x:=λb n z=>by subst z;rw[n]at j;exact j
 have hb:∀b,H b=none->b≠e:=λb n z=>by subst z;rcases X with r|r;exact p b n r;rw[n]at r;cases r
 have l:∀b u,H b=some u->¬ Bl (some u)->b≠x:=λb u q nm z=>by subst z;rw[q]at j;exact nm j
 refine⟨λb u q n _ _=>k b u (hb b n) q,λb u q n _ _=>⟨u.slots,k b u (hb b n) q⟩,λb u q n _=>by rw[kA (p b n)];exact n,λb u q _=>?_,
  λb s q=>by rw[kA (l b _ q λz=>z)];exact q,λb u s q=>by rw[kA (l b _ q λz=>z)];exact q,λb Y q=>by rw[kA (l b _ q λz=>z)];exact q⟩
 by_cases i:b=e;subst i;exact m;exact⟨u,k b u i q⟩
end
section
variable{h:Heap}{b:Addr}{o:Obj}
def Oq(h:Heap)(H:Hp):List Addr:=(Ql h.objs.size).filter λa=>(H a).isSome
def ZQ(h:Heap)(H:Hp):Heap:=PySem.W.hideAll h (Oq h H)
theorem sZ(h:Heap)(H:Hp):(ZQ h H).objs.size=h.objs.size:=PySem.W.hideAll_size _ _
theorem Y6{H:Hp}(e:h.get? b=some o)(n:H b=none):(ZQ h H).get? b=some o :=
 PySem.W.hideAll_get _ e λx=>by have q:(H b).isSome=true:=(Qa.mp x).2;rw[n]at q;simp at q
theorem Ua{H:Hp}(e:(ZQ h H).get? b=some o):h.get? b=some o/\H b=none:=by
 have y:h.get? b=some o:=PySem.W.of_hideAll (Oq h H) e;refine⟨y,?_⟩;cases q:H b with|none=>rfl|some x=>have u:b∈Oq h H:=Qa.mpr ⟨Q7.mpr (QX y),by simp[q]⟩;have z:(ZQ h H).get? b=none:=PySem.W.hideAll_none (Oq h H) u;rw[z]at e;cases e
structure Mod(K:QA)(mg:Str->Option Value)(base:Heap):Prop where
 kin:K.In base
 glob:base.Ns mainGlobals mg
 blt:∃mb,base.Ns builtinsNs mb/\∀x:Str,x≠"__name__"->mb x=bootBuiltins x
 nolimit:base.NoLimit
structure Cx where
 prog:Program
 w:World
 K:QA
 mg:Str->Option Value
 base:Heap
 A:Around
 N:LS
 s₀:Shared
 H₀:Hp
 env:Env
 outer:List Env
 stack:List Env
 ex:List Addr
 fn:Str->Bool
 calm:Bool
 pn:NB
 xe:Value->Shared->Prop
def YX(l:List Env):List Addr:=l.filterMap (·.frame)
noncomputable abbrev Cx.fs(X:Cx):List Addr:=YX X.outer
def Ul(sc:Scope)(x:Str):Prop:=sc.names.lookup x=some .local∨sc.names.lookup x=some .cell∨sc.names.lookup x=some .free
def Dl(sc:Scope)(x:Str):Prop:=sc.names.lookup x=some .local∨sc.names.lookup x=some .cell
def Pu(env:Env)(h:Heap)(m:Str->Option Value)(x:Str)(u:Value):Prop :=
 (env.kindOf x=some .local/\m x=some u)∨((env.kindOf x=some .cell∨env.kindOf x=some .free)/\∃c,env.cells.lookup x=some c/\h.IsCell c (some u))
def yP(mg:Str->Option Value)(x:Heap)(P:Addr)(q:Str):Prop :=
 ∃f o y c,mg "going_order"=some (.ref f)/\x.get? f=some o/\o.data=.func y/\y.code=.ref c/\PySem.W.CodeHd x c P/\q=y.qualname++".<locals>.<lambda>"
structure Cx.Ok(X:Cx):Prop where
 mod:Mod X.K X.mg X.base
 kind:X.env.scope.kind=.function
 glob:X.env.globals=mainGlobals
 blt:X.env.builtins=builtinsNs
 above:X.s₀.heap.objs.size<=X.env.locals
 inj:∀x y c,X.env.cells.lookup x=some c->X.env.cells.lookup y=some c->x=y
 has:∀x,(X.env.kindOf x=some .cell∨X.env.kindOf x=some .free)->∃c,X.env.cells.lookup x=some c
 cab:∀x c,X.fn x=true->X.env.cells.lookup x=some c->X.s₀.heap.objs.size<=c
 hd:X.calm=true->X.A.handled=none
 frames:X.A.frames=some X.stack
 stk:X.stack=X.outer∨(X.stack=X.env::X.outer/\X.env.frame=some X.env.locals)
 exf:∀b∈X.ex,b≠X.env.locals/\∀x c,X.env.cells.lookup x=some c->c≠b
 bs:∀b o,X.base.get? b=some o->X.s₀.heap.get? b=some o/\X.H₀ b=none
 bsz:X.base.objs.size<=X.s₀.heap.objs.size
 noex:∀b o,X.base.get? b=some o->b∉X.ex
 exfs:∀b∈X.ex,b∉X.fs
 funs:X.s₀.heap.FunFrames X.base X.outer
 frf:∀b∈X.fs,X.H₀ b=none
 tb:∀P q,yP X.mg X.base P q->X.H₀ P=some (.tbl q)
structure Inv(X:Cx)(pins:NB)(σ:List (Option V))(H:Hp)(s:Shared):Prop where
 ok:X.Ok
 os:s.os=X.s₀.os
 bare:AllBare s.gens
 base:Un X.fs X.ex X.H₀ H X.s₀.heap s.heap
 loc:∃m,s.heap.Ns X.env.locals m/\∀(i:Nat) (x:Str) (v:V),X.N[i]?=some x->σ[i]?=some (some v)->Ul X.env.scope x->∃u,JA v u/\Pu X.env s.heap m x u
 cell:∀x c,X.env.cells.lookup x=some c->∃v,s.heap.IsCell c v
 free:H X.env.locals=none
 freeC:∀x c,X.env.cells.lookup x=some c->H c=none
 pin:∀p∈X.pn++pins,s.heap.get? p.1=some p.2/\H p.1=none/\p.1≠X.env.locals/\p.1∉X.fs/\∀v,p.2.data≠.cell v
 hok:bL X.prog X.w H s.heap
 len:σ.length=X.N.length
end
section
variable{X:Cx}{f:NB}{σ:List (Option V)}{H g:Hp}{s:Shared}{h':Heap}
section
variable{a:Addr}{g':Array GenState}{ch:List Addr}{i:Nat}{x:Str}{M:Model}{A:Around}{E:aC}{u:Value}{Q:Unit->Shared->Prop}
theorem Cx.Ok.nofr(ok:X.Ok){b:Addr}{o:Obj}(e:X.base.get? b=some o):b∉X.fs:=λhb=>by have:=(ok.funs.mem hb).1;rw[e]at this;cases this
theorem Inv.bs(I:Inv X f σ H s):∀b o,X.base.get? b=some o->s.heap.get? b=some o/\H b=none:=λb o e =>
 ⟨I.base.keep b o (I.ok.bs b o e).1 (I.ok.bs b o e).2 (I.ok.nofr e) (I.ok.noex b o e),I.base.free b o (I.ok.bs b o e).1 (I.ok.bs b o e).2 (I.ok.noex b o e)⟩
theorem Inv.bk(I:Inv X f σ H s):∀b o,X.base.get? b=some o->s.heap.get? b=some o:=λb o e=>(I.bs b o e).1
theorem Inv.tb(I:Inv X f σ H s):∀P q,yP X.mg X.base P q->H P=some (.tbl q):=λP q h=>I.base.tbls P q (I.ok.tb P q h)
theorem Inv.mod(I:Inv X f σ H s):Mod X.K X.mg X.base:=I.ok.mod
theorem Inv.kIn(I:Inv X f σ H s):X.K.In s.heap:=I.ok.mod.kin.keeps I.bk
theorem Inv.nolimit(I:Inv X f σ H s):s.heap.NoLimit:=I.ok.mod.nolimit.keeps I.bk
theorem Inv.lt(I:Inv X f σ H s):X.env.locals<s.heap.objs.size:=let⟨_,h,_⟩:=I.loc;h.lt
theorem Inv.sz(I:Inv X f σ H s):X.s₀.heap.objs.size<=s.heap.objs.size:=QV I.ok.above (WI I.lt)
theorem Inv.nofs(I:Inv X f σ H s)(h:s.heap.objs.size<=a):a∉X.fs:=λhb=>by obtain⟨_,o,y,_⟩:=I.ok.funs.mem hb;exact absurd (Qn (QX y) (QV I.sz h)) (wA _)
theorem Inv.cne(I:Inv X f σ H s):∀x c,X.env.cells.lookup x=some c->c≠X.env.locals:=λx c e z=>by obtain⟨v,o,w,k⟩:=I.cell x c e;obtain⟨m,⟨b,j,l,h,y,_⟩,_⟩:=I.loc;rw[z,h]at w;cases w;rw[y]at k;cases k
theorem Inv.funs(I:Inv X f σ H s):s.heap.FunFrames X.base X.outer:=by
 have all:∀(l:List Env),(∀b∈YX l,b∈X.fs)->X.s₀.heap.FunFrames X.base l->s.heap.FunFrames X.base l:=by
  intro l;induction l with|nil=>intro _ _;trivial|cons p r w=>intro v hl;obtain⟨hk,⟨L,o,h,m,j,n⟩,k⟩:=hl;have y:L∈X.fs:=v L (by unfold YX;rw[WG,h];exact QF);obtain⟨q,e⟩:=I.base.slot L o j (I.ok.frf L y) y λz=>I.ok.exfs L z y;exact⟨hk,⟨L,_,h,m,e,n⟩,w (λb hb=>v b (by unfold YX;rw[WG,h];exact QE _ hb)) k⟩
 exact all X.outer (λ_ hb=>hb) I.ok.funs
theorem Inv.stack(I:Inv X f σ H s):s.heap.FunFrames X.base X.stack:=by
 rcases I.ok.stk with e|⟨e,y⟩
 rw[e];exact I.funs;rw[e];obtain⟨m,h,_⟩:=I.loc;refine .cons (by rw[I.ok.kind];decide) y h ?_ I.funs;exact Heap.get?_none_of_le (QV I.ok.bsz I.ok.above)
theorem Inv.stkSub(I:Inv X f σ H s):∀b∈YX X.stack,b∈X.env.locals::X.fs:=λb hb=>by
 rcases I.ok.stk with e|⟨e,h⟩
 rw[e]at hb;exact QE _ hb;rw[e]at hb;unfold YX at hb;rw[WG,h]at hb;exact hb
theorem Inv.stkFree(I:Inv X f σ H s):∀b∈YX X.stack,H b=none:=λb hb=>by rcases QL.mp (I.stkSub b hb) with e|hb;rw[e];exact I.free;obtain⟨_,o,h,_⟩:=I.ok.funs.mem hb;exact I.base.free b o h (I.ok.frf b hb) λz=>I.ok.exfs b z hb
theorem Inv.step{t':Nat}{d':Drawn}(I:Inv X f σ H s)
  (j:∀b∈ch,(b∈X.ex∨X.s₀.heap.objs.size<=b)/\b≠X.env.locals/\(∀x c,X.env.cells.lookup x=some c->c≠b)/\∀p∈X.pn++f,p.1≠b)
  (keep:∀b o,b≠X.env.locals->b∉X.fs->b∉ch->s.heap.get? b=some o->H b=none->h'.get? b=some o)
  (W:∀b o,b≠X.env.locals->b∈X.fs->b∉ch->s.heap.get? b=some o->H b=none->∃R,h'.get? b=some { o with slots:=R }) (free:∀b o,b∉ch->s.heap.get? b=some o->H b=none->g b=none)
  (K:∀b o,b∉ch->s.heap.get? b=some o->∃J,h'.get? b=some J)
  (F:∀b xs,H b=some (.tup xs)->g b=some (.tup xs)) (N:∀b o u,H b=some (.frz o u)->g b=some (.frz o u)) (G:∀b O,H b=some (.tbl O)->g b=some (.tbl O))
  (ns:∀m,s.heap.Ns X.env.locals m->h'.Ns X.env.locals m) (S:bL X.prog X.w g h') (hg:AllBare g') :
  Inv X f σ g { s with heap:=h',gens:=g',drawn:=d',toks:=t' }:=by
 have L:∀b o,X.s₀.heap.get? b=some o->b≠X.env.locals:=λb o e=>Qk (Qn (QX e) I.ok.above);have Z:∀b o,X.s₀.heap.get? b=some o->b∉X.ex->b∉ch:=λb o e h hb=>by rcases(j b hb).1 with z|z;exact h z;exact absurd (Qn (QX e) z) (wA _)
 have Y:∀x c,X.env.cells.lookup x=some c->∀v,s.heap.IsCell c v->h'.IsCell c v:=λx c e v ⟨o,C,hd⟩=>by have y:c∉ch:=λz=>(j c z).2.2.1 x c e rfl;by_cases hc:c∈X.fs;obtain⟨R,q⟩:=W c o (I.cne x c e) hc y C (I.freeC x c e);exact⟨_,q,hd⟩;exact⟨o,keep c o (I.cne x c e) hc y C (I.freeC x c e),hd⟩
 refine⟨I.ok,I.os,hg,⟨λb o e n hb h=>?_,λb o e n hb h=>?_,λb o e n h=>?_,λb o e h=>?_,λb xs e=>F b xs (I.base.tups b xs e),λb o xs e=>N b o xs (I.base.frzs b o xs e),λb O e=>?_⟩,?_,λx c e=>?_,?_,λx c e=>?_,λp hp=>?_,S,I.len⟩;exact keep b o (L b o e) hb (Z b o e h) (I.base.keep b o e n hb h) (I.base.free b o e n h);obtain⟨R,B⟩:=I.base.slot b o e n hb h;obtain⟨P,e2⟩:=W b _ (L b o e) hb (Z b o e h) B (I.base.free b o e n h);exact⟨P,e2⟩;obtain⟨J,B⟩:=I.base.there b o e h;exact free b J (Z b o e h) B (I.base.free b o e n h);obtain⟨J,B⟩:=I.base.there b o e h;exact K b J (Z b o e h) B;exact G b _ (I.base.tbls b O e);obtain⟨m,hn,hl⟩:=I.loc;refine⟨m,ns m hn,λi x v B e2 e3=>?_⟩;obtain⟨u,r,l⟩:=hl i x v B e2 e3;refine⟨u,r,?_⟩;rcases l with l|⟨k,c,e,z⟩
 exact .inl l;exact .inr ⟨k,c,e,Y x c e _ z⟩;obtain⟨v,z⟩:=I.cell x c e;exact⟨v,Y x c e v z⟩;obtain⟨m,⟨o,_,_,C,_⟩,_⟩:=I.loc;exact free _ o (λz=>(j _ z).2.1 rfl) C I.free;obtain⟨v,o,C,hd⟩:=I.cell x c e;exact free c o (λz=>(j c z).2.2.1 x c e rfl) C (I.freeC x c e);obtain⟨e,n,ne,nf,d⟩:=I.pin p hp;have y:p.1∉ch:=λz=>(j p.1 z).2.2.2 p hp rfl;exact⟨keep p.1 p.2 ne nf y e n,free p.1 p.2 y e n,ne,nf,d⟩
theorem Inv.un{t':Nat}(I:Inv X f σ H s)(u:Un X.fs [] H g s.heap h')(y:bL X.prog X.w g h'):Inv X f σ g { s with heap:=h',toks:=t' }:=by obtain⟨m,⟨o,K,B,j,r⟩,_⟩:=id I.loc;obtain⟨Y,q⟩:=u.any j I.free (by simp);exact I.step (g':=s.gens) (d':=s.drawn) (ch:=[]) (λ_ z=>nomatch z) (λb o _ hb _ e n=>u.keep b o e n hb (by simp)) (λb o _ hb _ e n=>u.slot b o e n hb (by simp)) (λb o _ e n=>u.free b o e n (by simp)) (λb o _ e=>u.there b o e (by simp)) u.tups u.frzs u.tbls (λW p=>by obtain⟨Z,v,k,h,l⟩:=p;rw[j]at h;cases h;exact⟨_,v,k,q,l⟩) y I.bare
theorem Inv.call{t':Nat}{d':Drawn}(I:Inv X f σ H s)(u:Un (YX X.stack) ch H g s.heap h')(v:bL X.prog X.w g h')(W:AllBare g')
  (y:∀b∈ch,(b∈X.ex∨X.s₀.heap.objs.size<=b)/\b≠X.env.locals/\(∀x c,X.env.cells.lookup x=some c->c≠b)/\∀p∈X.pn++f,p.1≠b) :
  Inv X f σ g { s with heap:=h',gens:=g',drawn:=d',toks:=t' }:=by
 obtain⟨m,⟨o,F,G,q,r⟩,_⟩:=id I.loc;obtain⟨K,k⟩:=u.any q I.free λz=>(y _ z).2.1 rfl;exact I.step (ch:=ch) y (λb o k hb hc e n=>u.keep b o e n (λz=>(QL.mp (I.stkSub b z)).elim k hb) hc) (λb o _ _ hc e n=>u.any e n hc) (λb o hc e n=>u.free b o e n hc) (λb o hc e=>u.there b o e hc) u.tups u.frzs u.tbls (λC Z=>by obtain⟨B,j,l,h,Y⟩:=Z;rw[q]at h;cases h;exact⟨_,j,l,k,Y⟩) v W
theorem Inv.turned{t':Nat}{it:Addr}(I:Inv X f σ H s)(k:∀b o,b≠it->s.heap.get? b=some o->h'.get? b=some o)(j:H it=none)(y:it≠X.env.locals)
  (W:it∈X.ex∨X.s₀.heap.objs.size<=it) (Z:∀x c,X.env.cells.lookup x=some c->c≠it) (Y:∀p∈X.pn++f,p.1≠it):Inv X f σ H { s with heap:=h',toks:=t' }:=by
 have h:∀b u,H b=some u->b≠it:=λb u e z=>by rw[z,j]at e;cases e
 refine I.step (g':=s.gens) (d':=s.drawn) (ch:=[it]) (λb hb=>?_) (λb o _ _ hc e _=>k b o (λz=>hc (by simp[z])) e) (λb o _ _ hc e _=>⟨o.slots,k b o (λz=>hc (by simp[z])) e⟩) (λ_ _ _ _ n=>n)
  (λb o hc e=>⟨o,k b o (λz=>hc (by simp[z])) e⟩) (λ_ _ e=>e) (λ_ _ _ e=>e) (λ_ _ e=>e) (λm l=>?_) (λb u e=>?_) I.bare
 have e:b=it:=by simpa using hb
 subst e;exact⟨W,y,Z,Y⟩;obtain⟨o,K,B,w,r⟩:=l;exact⟨o,K,B,k _ o (Q4 y) w,r⟩;refine(I.hok b u e).stay (λc v hc q=>k c v ?_ q) (λ_ q=>q) λ_ _ q=>q;rcases hc with z|z;rw[z];exact h b u e;exact h c _ z
theorem Inv.tok(I:Inv X f σ H s)(t:Nat):Inv X f σ H { s with toks:=t }:=I.un (h':=s.heap) (t':=t) Un.refl I.hok
theorem Inv.kept{t':Nat}(I:Inv X f σ H s)(k:∀b u,s.heap.get? b=some u->h'.get? b=some u):Inv X f σ H { s with heap:=h',toks:=t' }:=I.un (Un.kept k) (I.hok.kept k)
theorem Inv.laid{o:HO}{t':Nat}(I:Inv X f σ H s)(k:∀b u,s.heap.get? b=some u->h'.get? b=some u)(h:s.heap.objs.size<=a)(new:CA X.prog X.w (BA H a o) h' a o) :
  Inv X f σ (BA H a o) { s with heap:=h',toks:=t' }:=I.un (Un.laid k h (I.hok.fresh h)) (I.hok.laid k h new)
theorem Inv.write{x e:Addr}{o:HO}{t':Nat}(I:Inv X f σ H s)(y:Bl (H x))(z:e=x∨H e=some (.own x))(k:∀b u,b≠e->s.heap.get? b=some u->h'.get? b=some u)(h:∃u,h'.get? e=some u)
  (new:CA X.prog X.w (BA H x o) h' x o):Inv X f σ (BA H x o) { s with heap:=h',toks:=t' }:=I.un (Un.write y z k h) (I.hok.write y z k h new)
theorem Inv.pins_of{y:NB}(I:Inv X f σ H s)(h:∀p∈y,s.heap.get? p.1=some p.2/\H p.1=none/\p.1≠X.env.locals/\p.1∉X.fs/\∀v,p.2.data≠.cell v):Inv X y σ H s :=
 ⟨I.ok,I.os,I.bare,I.base,I.loc,I.cell,I.free,I.freeC,λp w=>(Qi.mp w).elim (λz=>I.pin p (Qo _ z)) (h p),I.hok,I.len⟩
theorem jS{N:LS}(h:N.Nodup){j:Nat}(a:N[i]?=some x)(b:N[j]?=some x):i=j:=by obtain⟨w,z⟩:=Qg.mp a;obtain⟨v,y⟩:=Qg.mp b;exact(List.getElem_inj h).mp (z.trans y.symm)
theorem yO{v:V}(I:Inv X f σ H s)(hN:X.N.Nodup)(O:X.N[i]?=some x)(W:Dl X.env.scope x)(r:JA v u)
  (h:∀s',Inv X f (σ.set i (some v)) H s'->(∃a,qW a s.heap s'.heap/\(a=X.env.locals∨X.env.cells.lookup x=some a))->Q () s') (hf:X.fn x=true∨X.env.scope.names.lookup x=some .local):wpAny M A (storeName X.env x u) Q E s:=by
 obtain⟨m,hn,hl⟩:=id I.loc;have P:(X.env.scope.kind==.class||(X.env.scope.kind==.module&&X.env.locals != X.env.globals))=false:=by rw[I.ok.kind];rfl
 have C:i<σ.length:=by rw[I.len];exact(Qg.mp O).1
 have cne:=I.cne;have Y:∀{a:Addr}{h':Heap},(∃o,s.heap.get? a=some o/\H a=none)->qW a s.heap h'->bL X.prog X.w H h':=λ{a h'} ha l b ob e=>by obtain⟨_,_,K⟩:=ha;refine(I.hok b ob e).stay (λc w' hc q=>(l.2 c ?_).trans q) (λ_ q=>q) λ_ _ q=>q;rintro rfl;rcases hc with rfl|hc;rw[K]at e;cases e;rw[K]at hc;cases hc
 rcases W with hk|hk;refine wpAny_storeName_local hk hn (λh' hn' l=>?_) P;obtain⟨oL,_,_,hoL,_⟩:=id hn;refine h _ ⟨I.ok,I.os,I.bare,⟨λb o e n hb W=>?_,λb o e n hb W=>?_,I.base.free,λb o e W=>?_,I.base.tups,I.base.frzs,I.base.tbls⟩,⟨_,hn',λj y v' Z B e3=>?_⟩,λy c e=>?_,I.free,I.freeC,λp hp=>?_,Y ⟨oL,hoL,I.free⟩ l,by simpa using I.len⟩ ⟨_,l,.inl rfl⟩;exact(l.2 b (Qk (Qn (QX e) I.ok.above))).trans (I.base.keep b o e n hb W);obtain⟨sl,Z⟩:=I.base.slot b o e n hb W;exact⟨sl,(l.2 b (Qk (Qn (QX e) I.ok.above))).trans Z⟩;obtain⟨o',Z⟩:=I.base.there b o e W;exact⟨o',(l.2 b (Qk (Qn (QX e) I.ok.above))).trans Z⟩;by_cases F:j=i
 ·subst F
  rw[O]at Z;cases Z;rw[qf C]at B;cases B;exact⟨u,r,.inl ⟨hk,by simp⟩⟩
 rw[qS (Q4 F)]at B;obtain⟨u',r',q⟩:=hl j y v' Z B e3;refine⟨u',r',?_⟩;rcases q with⟨k,e⟩| ⟨k,c,e,z⟩
 refine .inl ⟨k,?_⟩;have:y≠x:=λe=>F (jS hN Z (e▸O));simp[this,e];exact .inr ⟨k,c,e,z.sameBut l (cne y c e)⟩;obtain⟨w',z⟩:=I.cell y c e;exact⟨w',z.sameBut l (cne y c e)⟩;obtain⟨e,n,ne,nf,d⟩:=I.pin p hp;exact⟨(l.2 p.1 ne).trans e,n,ne,nf,d⟩;have G:X.fn x=true:=by rcases hf with z|z;exact z;rw[z]at hk;cases hk
 obtain⟨c,hc⟩:=I.ok.has x (.inl hk);obtain⟨w',z⟩:=I.cell x c hc;refine wpAny_storeName_cell I.ok.kind hk hc z (λh' S l=>?_);obtain⟨oc,L,J⟩:=id z;refine h { s with heap:=h' } ⟨I.ok,I.os,I.bare,⟨λb o e n hb W=>?_,λb o e n hb W=>?_,I.base.free,λb o e W=>?_,I.base.tups,I.base.frzs,I.base.tbls⟩,⟨m,hn.sameBut l (Q4 (cne x c hc)),λj y v' Z B e3=>?_⟩,λy c' e=>?_,I.free,I.freeC,λp hp=>?_,Y ⟨oc,L,I.freeC x c hc⟩ l,by simpa using I.len⟩ ⟨c,l,.inr hc⟩;exact(l.2 b (Qk (Qn (QX e) (I.ok.cab x c G hc)))).trans (I.base.keep b o e n hb W);obtain⟨sl,Z⟩:=I.base.slot b o e n hb W;exact⟨sl,(l.2 b (Qk (Qn (QX e) (I.ok.cab x c G hc)))).trans Z⟩;obtain⟨o',Z⟩:=I.base.there b o e W;exact⟨o',(l.2 b (Qk (Qn (QX e) (I.ok.cab x c G hc)))).trans Z⟩;by_cases F:j=i
 ·subst F
  rw[O]at Z;cases Z;rw[qf C]at B;cases B;exact⟨u,r,.inr ⟨.inl hk,c,hc,S⟩⟩
 rw[qS (Q4 F)]at B;obtain⟨u',r',q⟩:=hl j y v' Z B e3;refine⟨u',r',?_⟩;rcases q with q|⟨k,c',e,z'⟩
 exact .inl q;refine .inr ⟨k,c',e,z'.sameBut l ?_⟩;rintro rfl;exact F (jS hN Z (I.ok.inj _ _ _ e hc▸O));by_cases R:c'=c
 ·subst R;exact⟨_,S⟩
 obtain⟨w2,z2⟩:=I.cell y c' e;exact⟨w2,z2.sameBut l R⟩;obtain⟨e,n,ne,nf,d⟩:=I.pin p hp;refine⟨(l.2 p.1 ?_).trans e,n,ne,nf,d⟩;intro q;rw[q,L]at e;have q':oc=p.2:=Qm e;exact d w' (by rw[<- q'];exact J)
theorem tR{v:V}(I:Inv X f σ H s)(k:X.N.Nodup)(z:X.N[i]?=some x)(y:Dl X.env.scope x)(r:JA v u)
  (h:∀s',Inv X f (σ.set i (some v)) H s'->Q () s') (w:X.fn x=true∨X.env.scope.names.lookup x=some .local):wpAny M A (storeName X.env x u) Q E s :=
 yO I k z y r (λs' b _=>h s' b) w
theorem Inv.call'{s':Shared}(I:Inv X f σ H s)(v:s'.os=s.os)(u:Un (YX X.stack) ch H g s.heap s'.heap)(h:bL X.prog X.w g s'.heap)(k:AllBare s'.gens)
  (y:∀b∈ch,(b∈X.ex∨X.s₀.heap.objs.size<=b)/\b≠X.env.locals/\(∀x c,X.env.cells.lookup x=some c->c≠b)/\∀p∈X.pn++f,p.1≠b):Inv X f σ g s':=by
 obtain⟨h',g',d',t',z⟩:=s';have e:z=s.os:=v;subst e;exact I.call (g':=g') (t':=t') (d':=d') u h k y
end
end
noncomputable abbrev XK:=Value->Option Addr->Hp->Prop
noncomputable abbrev St:=List (Option V)
noncomputable abbrev VK:=V->Hp->Prop
noncomputable abbrev TE:=St->Hp->VK->Prop
noncomputable abbrev TT:=St->Hp->(Bool->Hp->Prop)->Prop
noncomputable abbrev TA:=St->Hp->(LV->Hp->Prop)->Prop
structure Ends where
 nx:St->Hp->Prop
 rt:VK
 bk:St->Hp->Prop:=λ_ _=>False
 ct:St->Hp->Prop:=λ_ _=>False
noncomputable abbrev TS:=Ends->St->Hp->Prop
def EP(X:Cx)(h:NB)(σ:St)(Q:VK)(u:Value)(s':Shared):Prop:=∃v x,Inv X h σ x s'/\JA v u/\Q v x
def TP(X:Cx)(h:NB)(σ:St)(Q:Bool->Hp->Prop)(b:Bool)(s':Shared):Prop:=∃x,Inv X h σ x s'/\Q b x
def AP(X:Cx)(h:NB)(σ:St)(Q:LV->Hp->Prop)(us:LW)(s':Shared):Prop:=∃x y,Inv X h σ y s'/\lA x us/\Q x y
def SP(X:Cx)(x:NB)(D:Ends)(f:Flow)(s':Shared):Prop :=
 match f with
 | .next=>∃h y,Inv X x h y s'/\D.nx h y|.brk=>∃h y,Inv X x h y s'/\D.bk h y|.cont=>∃h y,Inv X x h y s'/\D.ct h y|.ret u=>∃v h y,Inv X x h y s'/\JA v u/\D.rt v y
def PE(X:Cx)(e:Expr)(t:TE):Prop :=
 ∀(h:NB) (s:Shared) (x:St) (H:Hp) (Q:VK),Inv X h x H s->t x H Q->wpAny (model X.prog X.w) X.A (eval e X.env) (EP X h x Q) X.xe s
def PT(X:Cx)(e:Expr)(t:TT):Prop :=
 ∀(h:NB) (s:Shared) (x:St) (H:Hp) (Q:Bool->Hp->Prop),Inv X h x H s->t x H Q->wpAny (model X.prog X.w) X.A (isTrue e X.env (eval e X.env)) (TP X h x Q) X.xe s
def PW(X:Cx)(e:Expr)(t:TT):Prop :=
 ∀(x:Sem Value) (h:NB) (s:Shared) (y:St) (H:Hp) (Q:Bool->Hp->Prop),Inv X h y H s->t y H Q->wpAny (model X.prog X.w) X.A (isTrue e X.env x) (TP X h y Q) X.xe s
theorem PW.pt{X:Cx}{e:Expr}{t:TT}(h:PW X e t):PT X e t:=h _
def PA(X:Cx)(es:List Expr)(t:TA):Prop :=
 ∀(y:Pos) (h:NB) (s:Shared) (x:St) (H:Hp) (Q:LV->Hp->Prop),Inv X h x H s->t x H Q->wpAny (model X.prog X.w) X.A (spliced (backTo y (starEach es X.env))) (AP X h x Q) X.xe s
def PS(X:Cx)(st:Stmt)(t:TS):Prop :=
 ∀(h:NB) (s:Shared) (x:St) (H:Hp) (D:Ends),Inv X h x H s->t D x H->wpAny (model X.prog X.w) X.A (exec st X.env) (SP X h D) X.xe s
def gW(X:Cx)(st:List Stmt)(t:TS):Prop :=
 ∀(h:NB) (s:Shared) (x:St) (H:Hp) (D:Ends),Inv X h x H s->t D x H->wpAny (model X.prog X.w) X.A (execs st X.env) (SP X h D) X.xe s
theorem OB{α:Type}{t:Sem α}{Q y:α->Shared->Prop}{M:Model}{A:Around}{E:aC}{s:Shared}(h:wpAny M A t Q E s)(z:∀a s,Q a s->y a s):wpAny M A t y E s:=qw h z λ_ _ x=>x
section
variable{X:Cx}
section
variable{z:NB}{s:Shared}{σ:St}{H:Hp}{x:Str}{pos:Pos}{E Q:aC}{u:Value}
theorem bin{a b:Expr}{ta d:TE}(r:PE X a ta)(hb:PE X b d){R:V->V->Hp->Prop}(I:Inv X z σ H s)(h:ta σ H λx j=>d σ j λy k=>R x y k)
  {α:Type}{Q:α->Shared->Prop}{f:Value->Value->Sem α}
  (q:∀v u i x y k,Inv X z σ k i->JA x v->JA y u->R x y k->wpAny (model X.prog X.w) X.A (f v u) Q X.xe i) :
  wpAny (model X.prog X.w) X.A (eval a X.env) (λv g=>wpAny (model X.prog X.w) X.A (eval b X.env) (λu e=>wpAny (model X.prog X.w) X.A (f v u) Q X.xe e) X.xe g) X.xe s:=by
 refine OB (r z s σ H _ I h) λv l ⟨x,j,Z,n,p⟩=>?_;refine OB (hb z l σ j _ Z p) λu i ⟨y,k,Y,m,o⟩=>?_;exact q v u i x y k Y n m o
def Lr(i:Nat):TE:=λσ H Q=>∃v,σ[i]?=some (some v)/\Q v H
def tC(v:V):TE:=λ_ H Q=>Q v H
theorem BU{i:Nat}(f:X.N[i]?=some x)(hv:Ul X.env.scope x)(w:(x==("__debug__":Str))=false:=by decide)(k:(x==("__classdict__":Str))=false:=by decide):PE X (.Name x pos) (Lr i):=by
 intro z s σ H Q I h;obtain⟨v,e,h⟩:=h;obtain⟨m,a,hl⟩:=I.loc;obtain⟨u,r,l⟩:=hl i x v f e hv;have fin:EP X z σ Q u s:=⟨v,H,I,r,h⟩
 rcases l with⟨hk,b⟩| ⟨hk,c,hc,y⟩
 exact QBB (QBC I.ok.kind hk a b fin) w;rcases hk with hk|hk
 ·exact QBB (wpAny_loadName_cell I.ok.kind hk hc y fin) w
 exact QBB (QBR I.ok.kind hk hc y fin k) w
theorem j4{i j pos}:PE X (.Constant (.int i) j pos) (tC (.int i)):=λ_ _ _ H _ I h=>QBh ⟨.int i,H,I.tok _,⟨_,rfl⟩,h⟩
theorem Kd{b j pos}:PE X (.Constant (.bool b) j pos) (tC (.bl b)):=λ_ _ _ H _ I h=>Constant_bool ⟨.bl b,H,I,rfl,h⟩
theorem A3{j pos}:PE X (.Constant .none j pos) (tC .non):=λ_ _ _ H _ I h=>Constant_none ⟨.non,H,I,rfl,h⟩
theorem Bh{x j pos}:PE X (.Constant (.str x) j pos) (tC (.str x)):=λ_ _ _ H _ I h=>Calls.Constant_str ⟨.str x,H,I.tok _,⟨_,rfl⟩,h⟩
def Gl(X:Cx)(x:Str):Prop:=X.env.kindOf x=some .globalImplicit
theorem pQ(I:Inv X z σ H s)(v:Gl X x)(y:X.mg x=some u)(h:Q u s)
  (k:(x==("__debug__":Str))=false:=by decide):wpAny (model X.prog X.w) X.A (eval (.Name x pos) X.env) Q E s :=
 QAH I.ok.kind v (Calls.loadGlobal_global (by rw[I.ok.glob];exact I.mod.glob.keeps I.bk) y h) k
theorem FH(I:Inv X z σ H s)(k:Gl X x)(v:X.mg x=none)(hv:bootBuiltins x=some u)(h:Q u s)
  (y:x≠"__name__":=by decide) (a:(x==("__debug__":Str))=false:=by decide):wpAny (model X.prog X.w) X.A (eval (.Name x pos) X.env) Q E s:=by
 obtain⟨f,e,b⟩:=I.mod.blt;exact QAH I.ok.kind k (Calls.loadGlobal_builtin (by rw[I.ok.glob];exact I.mod.glob.keeps I.bk) v (by rw[I.ok.blt];exact e.keeps I.bk) ((b x y).trans hv) h) a
theorem V9{v:V}(w:Gl X x)(y:X.mg x=some u)(r:JA v u)(k:(x==("__debug__":Str))=false:=by decide):PE X (.Name x pos) (tC v) :=
 λ_ _ _ H _ I h=>pQ I w y ⟨v,H,I,r,h⟩ k
theorem F9{v:V}(k:Gl X x)(w:X.mg x=none)(hv:bootBuiltins x=some u)(r:JA v u)(y:x≠"__name__":=by decide)(a:(x==("__debug__":Str))=false:=by decide):PE X (.Name x pos) (tC v) :=
 λ_ _ _ H _ I h=>FH I k w hv ⟨v,H,I,r,h⟩ y a
end
variable{a b:Expr}{ta d:TE}{pos:Pos}
variable{g n:TT}{k:List Expr}
def Js(t u:TT):TT:=λh H Q=>t h H λc x=>if c=true then u h x Q else Q false x
def Pw(t u:TT):TT:=λh H Q=>t h H λc x=>if c=true then Q true x else u h x Q
def Sr(t:TT):TT:=λh H Q=>t h H λc x=>Q (!c) x
theorem g9(z:PT X a g):PW X (.BoolOp .And [a] pos) g:=by
 intro u x s y H Q I h;refine isTrue_and (OB (z x s y H Q I h) λc v e=>?_);cases c with|true=>exact isTrue_and_nil e|false=>exact e
theorem mh(z:PT X a g):PW X (.BoolOp .Or [a] pos) g:=by
 intro u x s y H Q I h;refine isTrue_or (OB (z x s y H Q I h) λc v e=>?_);cases c with|false=>exact isTrue_or_nil e|true=>exact e
theorem K3(f:PT X a g)(hb:PW X (.BoolOp .And (b::k) pos) n):PW X (.BoolOp .And (a::b::k) pos) (Js g n):=by
 intro w x s y H Q I h;refine isTrue_and (OB (f x s y H _ I h) λc e ⟨v,u,z⟩=>?_);cases c with|true=>exact hb w x e y v Q u z|false=>exact⟨v,u,z⟩
theorem td(f:PT X a g)(hb:PW X (.BoolOp .Or (b::k) pos) n):PW X (.BoolOp .Or (a::b::k) pos) (Pw g n):=by
 intro w x s y H Q I h;refine isTrue_or (OB (f x s y H _ I h) λc e ⟨v,u,z⟩=>?_);cases c with|true=>exact⟨v,u,z⟩|false=>exact hb w x e y v Q u z
theorem nh(z:PT X a g):PT X (.UnaryOp .Not a pos) (Sr g):=by intro x s y H Q I h;exact isTrue_not (z x s y H (λc u=>Q (!c) u) I h)
def Um(ta d:TE):TE:=λh H Q=>ta h H λx y=>∃c,x=.bl c/\if c=true then d h y Q else Q (.bl false) y
def Rr(ta d:TE):TE:=λh H Q=>ta h H λx y=>∃c,x=.bl c/\if c=true then Q (.bl true) y else d h y Q
theorem T3{op}{t:TE}(h:PE X a t):PE X (.BoolOp op [a] pos) t:=λx s y H Q I z=>BoolOp_one (h x s y H Q I z)
theorem v4(j:PE X a ta)(hb:PE X (.BoolOp .And (b::k) pos) d):PE X (.BoolOp .And (a::b::k) pos) (Um ta d):=by
 intro y s u H Q I h;refine BoolOp_and (OB (j y s u H _ I h) λv f ⟨x,e,w,i,z⟩=>?_);obtain⟨c,rfl,z⟩:=z;cases i;refine wP ?_;cases c with|true=>exact hb y f u e Q w z|false=>exact⟨.bl false,e,w,rfl,z⟩
theorem Zd(j:PE X a ta)(hb:PE X (.BoolOp .Or (b::k) pos) d):PE X (.BoolOp .Or (a::b::k) pos) (Rr ta d):=by
 intro y s u H Q I h;refine BoolOp_or (OB (j y s u H _ I h) λv f ⟨x,e,w,i,z⟩=>?_);obtain⟨c,rfl,z⟩:=z;cases i;refine wP ?_;cases c with|false=>exact hb y f u e Q w z|true=>exact⟨.bl true,e,w,rfl,z⟩
end
def FC(K:QA)(H:Hp)(a:Addr)(xs:LV):Prop :=
 Rd H a (.lst xs) ∨
  ∃(o:Obj) (h:Array Value) (n:Nat),K.lookup a=some o/\o.cls=.type "list"/\o.dict=none/\o.data=.seq h n/\h.size<=sizeLine/\lA xs h.toList
def xD(K:QA)(H:Hp)(a:Addr)(xs:LV):Prop :=
 Rd H a (.tup xs) ∨
  ∃(o:Obj) (h:Array Value) (n:Nat),K.lookup a=some o/\o.cls=.type "tuple"/\o.data=.seq h n/\h.size<=sizeLine/\lA xs h.toList
noncomputable def jN:Value->Option V
 | .none=>some .non|.bool b=>some (.bl b)|.int i _=>some (.int i)|.str x _=>some (.str x)|.bytes b _=>some (.byt b)|.float b _=>some (.flt b)|.ref a=>some (.ref a)|.type n=>some (.ty n)|_=>none
theorem JA.abs{x:V}{u:Value}(r:JA x u):jN u=some x:=by
 cases x with|non=>cases r;rfl|bl _=>cases r;rfl|int _=>obtain⟨t,rfl⟩:=r;rfl|str _=>obtain⟨t,rfl⟩:=r;rfl|byt _=>obtain⟨t,rfl⟩:=r;rfl|flt _=>obtain⟨t,rfl⟩:=r;rfl|ref _=>cases r;rfl|ty _=>cases r;rfl
theorem JA.inj{x y:V}{u:Value}(r:JA x u)(q:JA y u):x=y:=Qm (r.abs.symm.trans q.abs)
theorem lA.inj:∀{xs h:LV}{us:LW},lA xs us->lA h us->xs=h
 |_,_,_,.nil,.nil=>rfl|_,_,_,.cons r t,.cons r' t'=>by rw[r.inj r',lA.inj t t']
section
variable{X:Cx}{x:NB}{σ:St}{H:Hp}{s:Shared}{a:Addr}{xs y:LV}
theorem FC.of{K:QA}(h:H a=some (.lst xs)):FC K H a xs:=.inl (.inl h)
theorem xD.of{K:QA}(h:H a=some (.tup xs)):xD K H a xs:=.inl (.inl h)
theorem Inv.list(I:Inv X x σ H s)(h:FC X.K H a xs):∃its:LW,lA xs its/\PlainL s.heap a its.toArray/\xs.length<=sizeLine:=by
 rcases h with h|⟨o,its,n,hk,hc,v,u,w,r⟩
 obtain⟨z,its,n,r,e⟩:=h.ok I.hok;exact⟨its,r,⟨_,n,e,rfl,rfl,rfl⟩,z⟩;refine⟨its.toList,r,⟨o,n,I.kIn a o hk,hc,v,by simpa using u⟩,?_⟩;have e:=r.length;simp only[Qr]at e;omega
theorem Inv.tuple(I:Inv X x σ H s)(h:xD X.K H a xs):∃its:LW,lA xs its/\IsTup s.heap a its.toArray/\xs.length<=sizeLine:=by
 rcases h with h|⟨o,its,n,hk,hc,u,v,r⟩
 obtain⟨z,its,r,p⟩:=h.ok I.hok;exact⟨its,r,p,z⟩;refine⟨its.toList,r,⟨o,I.kIn a o hk,hc,n,by simpa using u⟩,?_⟩;have e:=r.length;simp only[Qr]at e;omega
theorem Inv.list_inj(I:Inv X x σ H s)(h:FC X.K H a xs)(h':FC X.K H a y):xs=y:=by
 obtain⟨u,r,⟨o,n,e,_,_,d⟩,_⟩:=I.list h;obtain⟨z,k,⟨b,f,v,_,_,w⟩,_⟩:=I.list h';rw[e]at v;cases v;rw[d]at w;injection w with d1 _;have:u=z:=by simpa using congrArg Array.toList d1
 subst this;exact r.inj k
theorem Inv.tuple_inj(I:Inv X x σ H s)(h:xD X.K H a xs)(h':xD X.K H a y):xs=y:=by
 obtain⟨u,r,⟨o,e,_,n,d⟩,_⟩:=I.tuple h;obtain⟨z,k,⟨b,v,_,f,w⟩,_⟩:=I.tuple h';rw[e]at v;cases v;rw[d]at w;injection w with d1 _;have:u=z:=by simpa using congrArg Array.toList d1
 subst this;exact r.inj k
end
noncomputable abbrev Cx.wish(X:Cx)(E:aC):Cx:={ X with xe:=E }
noncomputable abbrev Cx.nox(X:Cx):Cx:=X.wish λ_ _=>False
theorem Cx.Ok.wish{X:Cx}(ok:X.Ok)(E:aC):(X.wish E).Ok :=
 ⟨ok.mod,ok.kind,ok.glob,ok.blt,ok.above,ok.inj,ok.has,ok.cab,ok.hd,ok.frames,ok.stk,ok.exf,ok.bs,ok.bsz,ok.noex,ok.exfs,ok.funs,ok.frf,ok.tb⟩
theorem Cx.Ok.unwish{X:Cx}{E:aC}(ok:(X.wish E).Ok):X.Ok :=
 ⟨ok.mod,ok.kind,ok.glob,ok.blt,ok.above,ok.inj,ok.has,ok.cab,ok.hd,ok.frames,ok.stk,ok.exf,ok.bs,ok.bsz,ok.noex,ok.exfs,ok.funs,ok.frf,ok.tb⟩
section
variable{X:Cx}{x:NB}{σ:St}{H:Hp}{s:Shared}{E:aC}
theorem Inv.wish(I:Inv X x σ H s)(E:aC):Inv (X.wish E) x σ H s:=⟨I.ok.wish E,I.os,I.bare,I.base,I.loc,I.cell,I.free,I.freeC,I.pin,I.hok,I.len⟩
theorem Inv.unwish(I:Inv (X.wish E) x σ H s):Inv X x σ H s:=⟨I.ok.unwish,I.os,I.bare,I.base,I.loc,I.cell,I.free,I.freeC,I.pin,I.hok,I.len⟩
theorem SP.unwish{D:Ends}{f:Flow}{s':Shared}(h:SP (X.wish E) x D f s'):SP X x D f s':=by
 cases f with|next=>obtain⟨y,z,I,q⟩:=h;exact⟨y,z,I.unwish,q⟩|brk=>obtain⟨y,z,I,q⟩:=h;exact⟨y,z,I.unwish,q⟩|cont=>obtain⟨y,z,I,q⟩:=h;exact⟨y,z,I.unwish,q⟩|ret u=>obtain⟨v,y,z,I,r,q⟩:=h;exact⟨v,y,z,I.unwish,r,q⟩
theorem gW.nox{st:List Stmt}{t:TS}(h:gW X.nox st t):gW X st t:=λx s σ H D I y =>
 qw (h x s σ H D (I.wish _) y) (λ_ _ q=>q.unwish) λ_ _ z=>Qd z
end
section
variable{X:Cx}{st:Stmt}{y:List Stmt}{t u:TS}{e:Expr}{te:TE}{pos:Pos}
def Km:TS:=λD h H=>D.nx h H
def Nr(t u:TS):TS:=λD h H=>t { D with nx:=u D } h H
theorem m9:gW X [] Km:=λ_ _ x H _ I h=>W6 ⟨x,H,I,h⟩
theorem V3(b:PS X st t)(a:gW X y u):gW X (st::y) (Nr t u):=by
 intro x s w H D I h;refine QCK (OB (b x s w H { D with nx:=u D } I h) λf k q=>?_);cases f with|next=>obtain⟨z,i,g,q⟩:=q;exact a x k z i D g q|ret v=>exact q|brk=>exact q|cont=>exact q
theorem OW(w:PS X st t):gW X [st] t:=by
 intro x s z H D I h;refine QCK (OB (w x s z H D I h) λf k q=>?_);cases f with|next=>exact W6 q|ret v=>exact q|brk=>exact q|cont=>exact q
theorem Inv.quiet{h:NB}{σ:St}{H:Hp}{s:Shared}(I:Inv X h σ H s):interactive X.env=false:=by simp[interactive,I.ok.kind]
def Vm(te:TE):TS:=λD h H=>te h H λ_ x=>D.nx h x
theorem SW(b:PE X e te)(a:swapsWith e none pos.line X.env=pure false:=by rfl):PS X (.Expr e pos) (Vm te):=by intro z s w H D I h;exact wpAny_Expr_any (OB (b z s w H _ I h) λv i ⟨x,g,f,j,k⟩=>⟨w,g,f,k⟩) I.quiet a
def Pr(te:TE):TS:=λD h H=>te h H D.rt
theorem B3(b:PE X e te):PS X (.Return (some e) pos) (Pr te):=by intro z s w H D I h;exact wpAny_Return_some (OB (b z s w H _ I h) λv i ⟨x,g,f,k,a⟩=>⟨x,w,g,f,k,a⟩)
def Er(c:TT)(t u:TS):TS:=λD h H=>c h H λb x=>if b=true then t D h x else u D h x
theorem Yn{c:Expr}{a b:List Stmt}{tc:TT}(hc:PT X c tc)(g:gW X a t)(hb:gW X b u):PS X (.If c a b pos) (Er tc t u):=by
 intro x s z H D I h;refine wpAny_If (OB (hc x s z H _ I h) λd v ⟨f,k,w⟩=>?_);cases d with|true=>exact g x v z f D k w|false=>exact hb x v z f D k w
end
noncomputable abbrev TG:=V->St->Hp->(St->Hp->Prop)->Prop
noncomputable abbrev Lu:=LV->St->Hp->(St->Hp->Prop)->Prop
def PG(X:Cx)(h:Expr)(t:TG):Prop :=
 ∀(x:NB) (s:Shared) (z:St) (H:Hp) (v:V) (u:Value) (Q:St->Hp->Prop),Inv X x z H s->JA v u->t v z H Q ->
  wpAny (model X.prog X.w) X.A (assign h X.env u) (λ_ a=>∃y k,Inv X x y k a/\Q y k) X.xe s
def jw(X:Cx)(ts:List Expr)(t:Lu):Prop :=
 ∀(h:NB) (s:Shared) (y:St) (H:Hp) (z:LV) (u:LW) (Q:St->Hp->Prop),Inv X h y H s->lA z u->t z y H Q ->
  wpAny (model X.prog X.w) X.A (assignInOrder ((assignEach ts X.env).map (·.2)) u) (λ_ k=>∃x v,Inv X h x v k/\Q x v) X.xe s
noncomputable abbrev Fk:=V->V->V->Hp->(Hp->Prop)->Prop
def Vc(X:Cx)(t:Fk):Prop :=
 ∀(h:NB) (s:Shared) (x:St) (H:Hp) (o i v:V) (y z u:Value) (Q:Hp->Prop),Inv X h x H s->JA o y->JA i z->JA v u->t o i v H Q ->
  wpAny (model X.prog X.w) X.A (setItem y z u) (λ_ a=>∃k,Inv X h x k a/\Q k) X.xe s
section
variable{X:Cx}{pos:Pos}
section
variable{i:Nat}{x:Str}{e:Expr}{te:TE}
def eX(i:Nat):TG:=λv h H Q=>Q (h.set i (some v)) H
theorem EW(a:X.N.Nodup)(w:X.N[i]?=some x)(z:Dl X.env.scope x)(k:X.fn x=true∨X.env.scope.names.lookup x=some .local):PG X (.Name x pos) (eX i):=by intro y s f H v u Q I r h;exact QBt (tR I a w z r (λg b=>⟨_,H,b,h⟩) k)
def xu(K:QA)(n:Nat)(t:Lu):TG:=λv y H Q=>∃a h,v=.ref a/\xD K H a h/\h.length=n/\t h y H Q
theorem Kh{es:List Expr}{k:Nat}{t:Lu}{n:Nat}(hc:X.calm=true)(h:jw X es t)
  (Y:(assignEach es X.env).length=n:=by rfl) (w:(assignEach es X.env).findIdx? (·.1)=none:=by rfl):PG X (.Tuple es k pos) (xu X.K n t):=by
 intro y s f H v u Q I r z;obtain⟨a,j,W,q,hl,z⟩:=z;subst W;cases r;obtain⟨l,g,p,B⟩:=I.tuple q;refine assign_Tuple_tuple (I.ok.hd hc) p (by simp[Y,<- hl,g.length]) w λZ m=>?_;have A:Inv X y f H { s with heap:=Z }:=I.kept (t':=s.toks) λb o e=>m b o (Qk (QX e)) e;exact h y _ f H j _ Q A (by simpa using g) z
def bu(y z:TE)(t:Fk):TG:=λv h H Q=>y h H λo k=>z h k λi w=>t o i v w λu=>Q h u
theorem Vh{o i:Expr}{b f:TE}{t:Fk}(Z:PE X o b)(W:PE X i f)(Y:Vc X t)
  (K:∀v,assign (.Subscript o i pos) X.env v=(do
   let w <- holding [v] (eval o X.env)
   let k <- holding [v,w] (eval i X.env)
   standAt pos
   holding [v,w,k] (setItem w k v)
   release [v,w,k] []):=by intro _;rfl):PG X (.Subscript o i pos) (bu b f t):=by
 intro z s a H v u Q I r h;rw[K];refine QC (qp (OB (Z z s a H _ I h) λw j ⟨x,G,C,m,q⟩=>?_));refine QC (qp (OB (W z j a G _ C q) λk g ⟨y,F,B,l,p⟩=>?_));refine QC (QBi (QC (qp (OB (Y z g a F x y v w k u _ B m l r p) λ_ J ⟨E,A,n⟩=>?_))));exact wpAny_release ⟨a,E,A,n⟩
def Mg(te:TE)(g:TG):TS:=λD h H=>te h H λx y=>g x h y D.nx
theorem eh{z:Expr}{g:TG}(l:PE X e te)(j:PG X z g)(f:swapsWithSole [z] e pos.line X.env=pure false:=by rfl)(b:swappedStores [z] e X.env=pure none:=by rfl)
  (m:(assignEach [z] X.env).map (·.2)=[assign z X.env]:=by rfl):PS X (.Assign [z] e pos) (Mg te g):=by
 intro y s u H D I h;refine wpAny_Assign_stores (OB (l y s u H _ I h) λv w ⟨x,o,n,k,a⟩=>?_) f b;rw[m];exact OB (j y w u o x v _ n k a) λ_ p q=>q
theorem oh{pos':Pos}(l:X.N.Nodup)(f:X.N[i]?=some x)(a:Dl X.env.scope x)(j:PE X e te)(b:swapsWith e (some (.Name x pos')) pos.line X.env=pure false:=by rfl)(g:X.fn x=true∨X.env.scope.names.lookup x=some .local) :
  PS X (.Assign [.Name x pos'] e pos) (Mg te (eX i)):=by
 intro z s u H D I h;refine wpAny_Assign_Name (OB (j z s u H _ I h) λv q ⟨y,o,n,w,k⟩=>?_) b;exact tR n l f a w (λp m=>⟨_,o,m,k⟩) g
end
end
section
variable{X:Cx}{pos:Pos}
noncomputable def B1(c:TT)(tb:TS):TS:=λD h H=>∃W:Nat->St->Hp->Prop,(∃m,W m h H)/\∀m h H,W m h H ->
 c h H λb z=>if b=true then ∃N:St->Hp->Prop,(∀x u,N x u->∃y,y < m/\W y x u)/\tb { D with nx:=N,ct:=N,bk:=D.nx } h z else D.nx h z
theorem U3{c:Expr}{body:List Stmt}{tc:TT}{tb:TS}(p:PassesOwn (model X.prog X.w) X.A X.env X.xe)(hc:PT X c tc)(hb:gW X body tb):PS X (.While c body [] pos) (B1 tc tb):=by
 intro y s B H D I h;obtain⟨W,⟨L,E⟩,k⟩:=h;refine wpAny_While (codeAny_whileLoop (λn J=>∃u K,Inv X y u K J/\W n u K) ?_ L ⟨B,H,I,E⟩);rintro n G ⟨z,Z,M,C⟩;refine wQ p (OB (hc y G z Z _ M (k n z Z C)) λb F ⟨Y,r,g⟩=>?_);cases b with
 |true =>
  obtain⟨N,q,g⟩:=g;rw[if_pos rfl];refine wQ p (OB (hb y F z Y _ r g) λf O e=>?_);cases f with|next=>obtain⟨x,a,o,j⟩:=e;obtain⟨l,m,i⟩:=q x a j;exact⟨l,m,x,a,o,i⟩|cont=>obtain⟨x,a,o,j⟩:=e;obtain⟨l,m,i⟩:=q x a j;exact⟨l,m,x,a,o,i⟩|brk=>exact e|ret v=>exact e
 |false=>rw[if_neg QG];exact W6 ⟨z,Y,r,g⟩
end
section
variable{s:Shared}{y:Expr}{P:Program}{w:World}{K:QA}
structure It where
 go:Nat->Hp->Prop
 yld:Nat->Hp->V->Hp->Prop
 stop:Nat->Hp->Prop
def nJ(X:Cx)(h:NB)(H:Hp)(b:Addr):Prop :=
 H b=none/\b≠X.env.locals/\b∉X.fs/\(b∈X.ex∨X.s₀.heap.objs.size<=b)/\(∀x c,X.env.cells.lookup x=some c->c≠b)/\∀p∈X.pn++h,p.1≠b
theorem Inv.fpOk{X:Cx}{h:NB}{σ:St}{H u:Hp}{b:Addr}(I:Inv X h σ H s)(hb:s.heap.objs.size<=b)(a:u b=none):nJ X h u b:=by refine⟨a,wt (Qn I.lt hb),I.nofs hb,.inr (QV I.sz hb),λx c e z=>?_,λp k z=>?_⟩;obtain⟨v,q⟩:=I.cell x c e;exact absurd (Qn q.lt (by rw[z];exact hb)) (wA _);exact absurd (Qn (QX (I.pin p k).1) (by rw[z];exact hb)) (wA _)
structure Turn0(P:Program)(w:World)(K:QA)(y:Expr)(J:It)(fp:List Addr)(it:Addr)(tn:Nat->Heap->Prop):Prop where
 mem:it∈fp
 obj:∀i h,tn i h->∀b∈fp,∃o,h.get? b=some o/\∀v,o.data≠.cell v
 keep:∀i h h',tn i h->(∀b∈fp,∀o,h.get? b=some o->h'.get? b=some o)->tn i h'
 item:∀(X:Cx),X.prog=P->X.w=w->X.K=K->X.calm=true->∀(i:Nat) (pins:NB) (s:Shared) (σ:St) (H:Hp) (E:aC),Inv X pins σ H s->(∀b∈fp,nJ X pins H b)->tn i s.heap->J.go i H ->
  wpAny (model P w) X.A (pyNext (.ref it)) (λr s1=>∃u,r=some u /\
   wpAny (model P w) X.A (letOwnedTupleGo y (.ref it) u) (λ_ s2=>∃x H',Inv X pins σ H' s2/\JA x u/\J.yld i H x H'/\tn (i+1) s2.heap/\∀b∈fp,H' b=none) E s1) E s
 done:∀(X:Cx),X.prog=P->X.w=w->X.K=K->X.calm=true->∀(i:Nat) (pins:NB) (s:Shared) (σ:St) (H:Hp) (E:aC),Inv X pins σ H s->(∀b∈fp,nJ X pins H b)->tn i s.heap->J.stop i H ->
  wpAny (model P w) X.A (pyNext (.ref it)) (λr s1=>r=none/\Inv X pins σ H s1) E s
structure Turn(P:Program)(w:World)(K:QA)(y:Expr)(J:It)(fp:List Addr)(it:Addr)(tn:Nat->Heap->Prop):Prop extends Turn0 P w K y J fp it tn where
 self:∀(A:Around) (i:Nat) (s:Shared) (Q:aC) (E:aC),tn i s.heap->Q (.ref it) s->wpAny (model P w) A (pyIter (.ref it)) Q E s
noncomputable abbrev TI:=St->Hp->(It->Hp->Prop)->Prop
def Nu(X:Cx)(h:NB)(σ:St)(y:Expr)(R:It->Hp->Prop)(x:Value)(u:Shared):Prop :=
 ∃(it:Addr) (v:List Addr) (tn:Nat->Heap->Prop) (J:It) (z:Hp),x=.ref it/\Inv X h σ z u/\Turn X.prog X.w X.K y J v it tn/\tn 0 u.heap/\(∀b∈v,nJ X h z b)/\R J z
def PI(X:Cx)(y x:Expr)(u:TI):Prop :=
 ∀(h:NB) (s:Shared) (z:St) (H:Hp) (R:It->Hp->Prop),Inv X h z H s->u z H R ->
  wpAny (model X.prog X.w) X.A (eval x X.env) (λv k=>wpAny (model X.prog X.w) X.A (pyIter v) (Nu X h z y R) X.xe k) X.xe s
def Mu(X:Cx)(h:NB)(σ:St)(y:Expr)(R:It->Hp->Prop)(x:Value)(u:Shared):Prop :=
 ∃(it:Addr) (v:List Addr) (tn:Nat->Heap->Prop) (J:It) (z:Hp),x=.ref it/\Inv X h σ z u/\Turn0 X.prog X.w X.K y J v it tn/\tn 0 u.heap/\(∀b∈v,nJ X h z b)/\R J z
def ur(X:Cx)(y x:Expr)(u:TI):Prop :=
 ∀(h:NB) (s:Shared) (z:St) (H:Hp) (R:It->Hp->Prop),Inv X h z H s->u z H R ->
  wpAny (model X.prog X.w) X.A (eval x X.env) (λv k=>wpAny (model X.prog X.w) X.A (pyIter v) (Mu X h z y R) X.xe k) X.xe s
theorem PI.to0{X:Cx}{z:Expr}{k:TI}(h:PI X y z k):ur X y z k:=λu s a H R I q =>
 qw (h u s a H R I q) (λv m f=>qw f (λb l ⟨it,g,tn,J,j,e,i,T,r⟩=>⟨it,g,tn,J,j,e,i,T.toTurn0,r⟩) λ_ _ x=>x) λ_ _ x=>x
theorem go_of{M:Model}{A:Around}{E:aC}{it:Addr}{u:Value}{o:Obj}{n:String}{vs:Array Value}{Q:Unit->Shared->Prop}(z:s.heap.get? it=some o)(hc:o.cls=.type n)(k:o.data=.fields vs)
    (v:["enumerate","zip","dict_itemiterator","dict_reverseitemiterator","odict_iterator","itertools.zip_longest","itertools.pairwise"].contains n=false) (x:Q () s):wpAny M A (letOwnedTupleGo y (.ref it) u) Q E s:=by
  unfold letOwnedTupleGo;cases y<;>first
    |exact QK x
    | (cases u<;>first
        |exact QK x
        | (refine QC (wpAny_load z ?_)
           rw[hc,k];show wpAny M A (if(["enumerate","zip","dict_itemiterator","dict_reverseitemiterator","odict_iterator","itertools.zip_longest","itertools.pairwise"].contains n&&vs[0]?==some (rawInt _))=true then _ else _) Q E s;rw[if_neg (by intro h;rw[v,QAO]at h;cases h)];exact QK x))
noncomputable def Kw(K:QA)(a:Addr):It :=
 ⟨λi H=>∃h x,FC K H a h/\h[i]?=some x,λi H x z=>z=H/\∀h,FC K H a h->h[i]?=some x,λi H=>∃h,FC K H a h/\h.length<=i⟩
noncomputable def Yw(K:QA)(a:Addr):It :=
 ⟨λi H=>∃h x,xD K H a h/\h[i]?=some x,λi H x z=>z=H/\∀h,xD K H a h->h[i]?=some x,λi H=>∃h,xD K H a h/\h.length<=i⟩
def vv(h:Int)(n:Nat):It:=⟨λi _=>i<n,λi H x z=>z=H/\x=.int (h+i),λi _=>n<=i⟩
theorem bY(a it:Addr):Turn P w K y (Kw K a) [it] it (λi h=>h.IsListIter it a i) where
 mem:=by simp
 obj:=λi h st b hb=>by
  have e:b=it:=by simpa using hb
  subst e;obtain⟨o,e,c,d⟩:=st;exact⟨o,e,λv z=>by rw[d]at z;cases z⟩
 keep:=λi h m st k=>st.at λo e=>k it (by simp) o e
 item:=by intro X W Y A hc i f s L H E I l st Z;subst W Y A;obtain⟨M,x,j,r⟩:=Z;obtain⟨q,n,p,Q⟩:=I.list j;obtain⟨u,S,O⟩:=n.get r;obtain⟨J,G,f2,F,C,B⟩:=l it (by simp);refine wpAny_pyNext_list_item st p.isList (x:=u) (by simpa using S) λm g N=>?_;have I1:Inv X f L H { s with heap:=m }:=I.turned (t':=s.toks) (λb o hb e=>(N.2 b hb).trans e) J G F C B;obtain⟨o,e,c,d⟩:=id g;exact⟨u,rfl,go_of (s:={ s with heap:=m }) e c d (by decide) ⟨x,H,I1,O,⟨rfl,λys R=>by rw[I.list_inj R j];exact r⟩,g,λb hb=>(l b hb).1⟩⟩
 done:=by intro X W Y A hc i f s L H E I l st Z;subst W Y A;obtain⟨M,j,r⟩:=Z;obtain⟨q,n,p,Q⟩:=I.list j;obtain⟨J,G,f2,F,C,B⟩:=l it (by simp);have hl:=n.length;exact wpAny_pyNext_list_end (I.ok.hd hc) st p.isList (by simp;omega) λm eb=>⟨rfl,I.turned (t':=s.toks) (λb o hb e=>eb b o hb e) J G F C B⟩
 self:=λ_ _ _ _ _ st h=>wpAny_pyIter_listiter st h
theorem rU(a it:Addr):Turn P w K y (Yw K a) [it] it (λi h=>h.IsTupleIter it a i) where
 mem:=by simp
 obj:=λi h st b hb=>by
  have e:b=it:=by simpa using hb
  subst e;obtain⟨o,e,c,d⟩:=st;exact⟨o,e,λv z=>by rw[d]at z;cases z⟩
 keep:=λi h n st k=>st.at λo e=>k it (by simp) o e
 item:=by intro X W Y A hc i f s L H E I m st Z;subst W Y A;obtain⟨M,x,l,r⟩:=Z;obtain⟨g,q,p,Q⟩:=I.tuple l;obtain⟨u,S,O⟩:=q.get r;obtain⟨J,G,f2,F,C,B⟩:=m it (by simp);refine wpAny_pyNext_tuple_item st (show s.heap.IsTuple a g.toArray from p) (x:=u) (by simpa using S) λn j N=>?_;have I1:Inv X f L H { s with heap:=n }:=I.turned (t':=s.toks) (λb o hb e=>(N.2 b hb).trans e) J G F C B;obtain⟨o,e,c,d⟩:=id j;exact⟨u,rfl,go_of (s:={ s with heap:=n }) e c d (by decide) ⟨x,H,I1,O,⟨rfl,λys R=>by rw[I.tuple_inj R l];exact r⟩,j,λb hb=>(m b hb).1⟩⟩
 done:=by intro X W Y A hc i f s L H E I m st Z;subst W Y A;obtain⟨M,l,r⟩:=Z;obtain⟨g,q,p,Q⟩:=I.tuple l;obtain⟨J,G,f2,F,C,B⟩:=m it (by simp);have hl:=q.length;exact wpAny_pyNext_tuple_end (I.ok.hd hc) st (show s.heap.IsTuple a g.toArray from p) (by simp;omega) λn eb=>⟨rfl,I.turned (t':=s.toks) (λb o hb e=>eb b o hb e) J G F C B⟩
 self:=λ_ _ _ _ _ st h=>wpAny_pyIter_tupleiter st h
theorem sU(it:Addr)(a:Int)(n:Nat):Turn P w K y (vv a n) [it] it (λi h=>IsRangeIter h it (a+(i:Nat) * 1) ((n:Int) - (i:Nat)) 1) where
 mem:=by simp
 obj:=λi h st b hb=>by
  have e:b=it:=by simpa using hb
  subst e;exact⟨_,st,λv z=>by have F:Data.fields _=Data.cell v:=z;cases F⟩
 keep:=λi h g st k=>k it (by simp) _ st
 item:=by intro X m j p hc i x s B H E I f st l;subst m j p;obtain⟨A,Z,J,Y,r,q⟩:=f it (by simp);have W:=Walks.range (prog:=X.prog) (w:=X.w) (I.ok.hd hc) it a 1 n;refine W.item i s _ _ l st λv g C hv u G=>?_;obtain⟨t,rfl⟩:=hv;have M:Inv X x B H { s with heap:=g,toks:=C }:=I.turned (λb o hb e=>G b o (by simpa using hb) e) A Z Y r q;refine⟨_,rfl,go_of (s:={ s with heap:=g,toks:=C }) (n:="range_iterator") u rfl rfl (by decide) ⟨.int (a+i),H,M,⟨t,?_⟩,⟨rfl,rfl⟩,u,λb hb=>(f b hb).1⟩⟩;rw[Int.mul_one]
 done:=by intro X m j p hc i x s B H E I f st l;subst m j p;obtain⟨A,Z,J,Y,r,q⟩:=f it (by simp);exact wpAny_pyNext_range_end (I.ok.hd hc) st (by have:n<=i:=l;omega) λg L=>⟨rfl,I.turned (t':=s.toks) (λb o hb e=>L b o hb e) A Z Y r q⟩
 self:=λ_ _ _ _ _ st h=>wpAny_pyIter_rangeiter st h
end
section
variable{X:Cx}{a:Expr}
section
variable{y:NB}{σ:St}{H:Hp}{s:Shared}{k:List Addr}{h:Heap}
theorem J3{R:It->Hp->Prop}{E:aC}{x z:Int}{t u v:Tok}{f:Nat}(I:Inv X y σ H s)(m:-(2 ^ 62)<=x)(l:x<2 ^ 62)(j:-(2 ^ 62)<=z)(i:z<2 ^ 62)
  (q:R (vv x (z - x).toNat) H):wpAny (model X.prog X.w) X.A (pyIter (.ref s.heap.objs.size)) (Nu X y σ a R) E { s with heap:=s.heap.push { cls:=.type "range",data:=.fields #[.int x t,.int z u,.int 1 v] },toks:=f }:=by
 refine wpAny_pyIter_range (IsRange.new ..) (small_one m l j i) ?_;have g:Inv X y σ H { s with heap:=s.heap.push { cls:=.type "range",data:=.fields #[.int x t,.int z u,.int 1 v] },toks:=f }:=I.kept λb o e=>QH _ e;refine⟨(s.heap.push { cls:=.type "range",data:=.fields #[.int x t,.int z u,.int 1 v] }).objs.size,[(s.heap.push { cls:=.type "range",data:=.fields #[.int x t,.int z u,.int 1 v] }).objs.size],_,_,H,rfl,
  g.kept (t':=f) λb o e=>QH _ e,sU _ x (z - x).toNat,?_,λb hb=>?_,q⟩
 have p:x+((0:Nat):Int) * 1=x:=by simp
 have n:(((z - x).toNat:Nat):Int) - ((0:Nat):Int)=WO x z 1:=by rw[rangeSize_one];split<;>omega
 show IsRangeIter _ _ (x+((0:Nat):Int) * 1) ((((z - x).toNat:Nat):Int) - ((0:Nat):Int)) 1;rw[p,n];exact QU _ rfl;have e:b=(s.heap.push { cls:=.type "range",data:=.fields #[.int x t,.int z u,.int 1 v] }).objs.size:=by simpa using hb
 subst e;exact g.fpOk (QS _) (g.hok.fresh (QS _))
noncomputable def Ir(b:TI)(g:TG)(tb:TS):TS:=λD σ H=>b σ H λJ f=>∃W:Nat->Nat->St->Hp->Prop,(∃m,W 0 m σ f)/\∀i m σ H,W i m σ H ->
 (J.stop i H/\D.nx σ H)∨(J.go i H/\∃N:St->Hp->Prop,(∀z u,N z u->∃w,w < m/\W (i+1) w z u)/\∀x u,J.yld i H x u->g x σ u λv e=>tb { D with nx:=N,ct:=N,bk:=D.nx } v e)
def yM(k:List Addr)(h:Heap):NB:=k.filterMap λb=>(h.get? b).map λo=>(b,o)
theorem uF{b:Addr}{o:Obj}(hb:b∈k)(e:h.get? b=some o):(b,o)∈yM k h:=QBj.mpr ⟨b,hb,by rw[e];rfl⟩
theorem OY{p:Addr×Obj}(x:p∈yM k h):p.1∈k/\h.get? p.1=some p.2:=by
 obtain⟨b,hb,e⟩:=QBj.mp x;cases q:h.get? b with|none=>rw[q]at e;cases e|some o=>rw[q]at e;have z:(b,o)=p:=Qm e;subst z;exact⟨hb,q⟩
theorem Inv.pinned(I:Inv X y σ H s)(f:∀b∈k,nJ X y H b)(w:∀b∈k,∃o,s.heap.get? b=some o/\∀v,o.data≠.cell v):Inv X (y++yM k s.heap) σ H s :=
 I.pins_of λp u=>(Qi.mp u).elim (λz=>I.pin p (Qb _ z)) λz=>by obtain⟨hb,e⟩:=OY z;obtain⟨j,i,g,_⟩:=f p.1 hb;obtain⟨o,x,d⟩:=w p.1 hb;rw[e]at x;cases x;exact⟨e,j,i,g,d⟩
theorem Inv.unpinned{x:NB}(I:Inv X (y++x) σ H s):Inv X y σ H s:=I.pins_of λp z=>I.pin p (Qb _ (Qo _ z))
theorem ph{q:Expr}{body:List Stmt}{wi:TI}{g:TG}{tb:TS}{pos:Pos}(O:PassesOwn (model X.prog X.w) X.A X.env X.xe)(hc:X.calm=true)(hi:ur X a q wi)(hg:PG X a g)(hb:gW X body tb)
  (hs:∀x,foldedSetIterable q X.env x=pure x:=by intro _;rfl):PS X (.For a q body [] pos) (Ir wi g tb):=by
 intro y s σ H D I h;refine wpAny_For (OB (hi y s σ H _ I h) λv s1 h1=>OB h1 λitv s2 h2=>?_) hs;obtain⟨it,k,tn,J,H2,e,I2,T,S,f2,W,⟨m0,w0⟩,F⟩:=h2;subst e;have p:∀{B:Hp},(∀b∈k,B b=none)->∀b∈k,nJ X y B b:=λhn b hb=>⟨hn b hb,(f2 b hb).2⟩
 refine codeAny_forLoop_any (λn s'=>∃i l B,Inv X y l B s'/\tn i s'.heap/\(∀b∈k,B b=none)/\W i n l B) ?_ m0 ⟨0,σ,H2,I2,S,λb hb=>(f2 b hb).1,w0⟩;rintro n s3 ⟨i,j,Q,I3,L,P,w3⟩;rcases F i n j Q w3 with⟨G,qn⟩| ⟨go,N,hN,step⟩
 refine wQ O (OB (T.done X rfl rfl rfl hc i y s3 j Q X.xe I3 (p P) L G) λr s4 ⟨hr,I4⟩=>?_);subst hr;exact W6 ⟨j,Q,I4,qn⟩;refine wQ O (OB (T.item X rfl rfl rfl hc i y s3 j Q X.xe I3 (p P) L go) λr s4 ⟨u,hr,h4⟩=>?_);subst hr;refine wQ O (OB h4 λ_ s5 ⟨x,H5,I5,r5,y5,E,fr5⟩=>?_);have I5':=I5.pinned (p fr5) (T.obj _ _ E);refine wQ O (OB (hg _ s5 j H5 x u _ I5' r5 (step x H5 y5)) λ_ s6 ⟨R,H6,I6,q6⟩=>?_);refine wQ O (OB (hb _ s6 R H6 _ I6 q6) λf s7 C=>?_);have Y:∀{z:St}{K:Hp},Inv X (y++yM k s5.heap) z K s7->N z K->∃m,m<n/\∃i l B,Inv X y l B s7/\tn i s7.heap/\(∀b∈k,B b=none)/\W i m l B:=λ{z K} Z M=>by obtain⟨m',hm,w7⟩:=hN z K M;refine⟨m',hm,i+1,z,K,Z.unpinned,T.keep _ _ _ E λb hb o e=>(Z.pin (b,o) (Qb _ (Qb _ (uF hb e)))).1,λb hb=>?_,w7⟩;obtain⟨o,e,d⟩:=T.obj _ _ E b hb;exact(Z.pin (b,o) (Qb _ (Qb _ (uF hb e)))).2.1
 cases f with|next=>obtain⟨z,K,Z,M⟩:=C;exact Y Z M|cont=>obtain⟨z,K,Z,M⟩:=C;exact Y Z M|brk=>obtain⟨z,K,Z,C⟩:=C;exact⟨z,K,Z.unpinned,C⟩|ret v=>obtain⟨x7,z,K,Z,r7,C⟩:=C;exact⟨x7,z,K,Z.unpinned,r7,C⟩
end
end
noncomputable abbrev R2:=V->V->Hp->VK->Prop
def AE(X:Cx)(f:Value->Value->Sem Value)(r:R2):Prop :=
 ∀(h:NB) (s:Shared) (z:St) (H:Hp) (x y:V) (v u:Value) (Q:VK),Inv X h z H s->JA x v->JA y u->r x y H Q ->
  wpAny (model X.prog X.w) X.A (f v u) (EP X h z Q) X.xe s
def oC(X:Cx)(f:Value)(r:LV->Hp->VK->Prop):Prop :=
 ∀(h:NB) (s:Shared) (x:St) (H:Hp) (y:LV) (z:LW) (Q:VK),Inv X h x H s->lA y z->r y H Q ->
  wpAny (model X.prog X.w) X.A (call f z) (EP X h x Q) X.xe s
def Hu(X:Cx)(r:V->Hp->(Bool->Hp->Prop)->Prop):Prop :=
 ∀(h:NB) (s:Shared) (y:St) (H:Hp) (x:V) (v:Value) (Q:Bool->Hp->Prop),Inv X h y H s->JA x v->r x H Q ->
  wpAny (model X.prog X.w) X.A (truthy v) (TP X h y Q) X.xe s
def Ym(r:R2)(ta tb:TE):TE:=λh H Q=>ta h H λx u=>tb h u λy z=>r x y z Q
def rI(C:Int->Int->Prop)(g:Int->Int->V):R2:=λx y H Q=>∃i j,x=.int i/\y=.int j/\C i j/\Q (g i j) H
def d9(g:Int->Int->V):R2:=λx y H Q=>∃i j,x=.int i/\y=.int j/\Q (g i j) H
section
variable{X:Cx}{a b c:Expr}{ta z tc:TE}{pos:Pos}
section
variable{f:Value->Value->Sem Value}{g:Int->Int->Int}
theorem binT(Z:PE X a ta)(hb:PE X b z){k:NB}{s:Shared}{σ:St}{H:Hp}{R:V->V->Hp->Prop}(I:Inv X k σ H s)
  (h:ta σ H λx m=>z σ m λy e=>R x y e) {Q:aC}
  (Y:∀v u l x y e,Inv X k σ e l->JA x v->JA y u->R x y e->wpAny (model X.prog X.w) X.A (f v u) Q X.xe l) :
  wpAny (model X.prog X.w) X.A (eval a X.env) (λv j=>wpAny (model X.prog X.w) X.A (eval b X.env) (λu i=>wpAny (model X.prog X.w) X.A (f v u) Q X.xe i) X.xe j) X.xe s:=by
 refine OB (Z k s σ H _ I h) λv n ⟨x,m,K,p,r⟩=>?_;refine OB (hb k n σ m _ K r) λu l ⟨y,e,W,o,q⟩=>?_;exact Y v u l x y e W p o q
theorem Zn{k:Operator}{r:R2}(m:AE X (binaryOp k) r)(n:PE X a ta)(hb:PE X b z):PE X (.BinOp a k b pos) (Ym r ta z):=by intro w s e H Q I h;exact wpAny_BinOp (binT n hb I h λv u i x y p o l j q=>m w i e p x y v u Q o l j q)
theorem jx{C:Int->Int->Prop}
  (k:∀(i j:Int) (t u:Tok) (s:Shared) (Q:aC) (E:aC),C i j->Q (.int (g i j) s.toks) { s with toks:=s.toks+1 }->wpAny (model X.prog X.w) X.A (f (.int i t) (.int j u)) Q E s) :
  AE X f (rI C λi j=>.int (g i j)):=by
 intro e s o H x y v u Q I n m h;obtain⟨i,j,rfl,rfl,hc,q⟩:=h;obtain⟨t,rfl⟩:=n;obtain⟨l,rfl⟩:=m;exact k i j t l s _ _ hc ⟨.int (g i j),H,I.tok _,⟨_,rfl⟩,q⟩
theorem Hn
  (k:∀(i j:Int) (t u:Tok) (s:Shared) (Q:aC) (E:aC),Q (.int (g i j) s.toks) { s with toks:=s.toks+1 }->wpAny (model X.prog X.w) X.A (f (.int i t) (.int j u)) Q E s) :
  AE X f (d9 λi j=>.int (g i j)):=by
 intro e s o H x y v u Q I n m h;obtain⟨i,j,rfl,rfl,q⟩:=h;obtain⟨t,rfl⟩:=n;obtain⟨l,rfl⟩:=m;exact k i j t l s _ _ ⟨.int (g i j),H,I.tok _,⟨_,rfl⟩,q⟩
theorem O9{g:Int->Int->Bool}
  (k:∀(i j:Int) (t u:Tok) (s:Shared) (Q:aC) (E:aC),Q (.bool (g i j)) s->wpAny (model X.prog X.w) X.A (f (.int i t) (.int j u)) Q E s) :
  AE X f (d9 λi j=>.bl (g i j)):=by
 intro e s o H x y v u Q I n m h;obtain⟨i,j,rfl,rfl,q⟩:=h;obtain⟨t,rfl⟩:=n;obtain⟨l,rfl⟩:=m;exact k i j t l s _ _ ⟨.bl (g i j),H,I,rfl,q⟩
def pN(i j:Int):Prop:=(-(2 ^ 64)<i/\i<2 ^ 64)∨(-(2 ^ 64)<j/\j<2 ^ 64)
theorem pN.ok{i j:Int}(h:pN i j):IntMulOk i j:=by
 rcases h with⟨y,x⟩| ⟨y,x⟩
 exact .of_left (intBits_le_64 y x);exact .of_right (intBits_le_64 y x)
theorem op_add:AE X (binaryOp .Add) (d9 λi j=>.int (i+j)):=Hn λ_ _ _ _ _ _ _ q=>add_int q
theorem op_sub:AE X (binaryOp .Sub) (d9 λi j=>.int (i - j)):=Hn λ_ _ _ _ _ _ _ q=>sub_int q
theorem op_mod:AE X (binaryOp .Mod) (rI (λ_ j=>0<j) λi j=>.int (i % j)):=jx λi j _ _ _ _ _ hc q=>by have h:(0:Int)<j:=hc;exact mod_int' (by omega) (by rw[Int.fmod_eq_emod_of_nonneg i (by omega)];exact q)
end
end
noncomputable def A8:V->V->Bool
 | .non,.non=>true | .non,.int _=>true | .int _,.non=>true | .non,.bl _=>true | .bl _,.non=>true | .non,.str _=>true | .str _,.non=>true
 | .int _,.int _=>true | .bl _,.bl _=>true | .str _,.str _=>true | .byt _,.byt _=>true
 | .int _,.str _=>true | .str _,.int _=>true | .bl _,.str _=>true | .str _,.bl _=>true
 |_,_=>false
def rEq:R2:=λx y H Q=>A8 x y=true/\Q (.bl (decide (x=y))) H
def Ew:R2:=λx y H Q=>A8 x y=true/\Q (.bl (!decide (x=y))) H
theorem GX{i j:Int}:decide (V.int i=V.int j)=(i==j):=by rw[qD];simp
theorem A6{i j:Bool}:decide (V.bl i=V.bl j)=(i==j):=by rw[qD];simp
theorem FX{i j:Str}:decide (V.str i=V.str j)=(i==j):=by rw[qD];simp
theorem HX{i j:Array UInt8}:decide (V.byt i=V.byt j)=(i.toList==j.toList):=by rw[qD];cases i;cases j;simp
section
variable{X:Cx}{a b c:Expr}{ta g tc:TE}{pos:Pos}
section
variable{r:R2}{d:CmpOp}{us:LW}
theorem sA{h:NB}{σ:St}{H:Hp}{s:Shared}{Q:VK}{k x:Bool}(I:Inv X h σ H s)(q:Q (.bl k) H)(e:k=x):EP X h σ Q (.bool x) s:=by subst e;exact⟨.bl k,H,I,rfl,q⟩
theorem op_eq:AE X (compareOp .Eq) rEq:=by
 intro f s l H x y v u Q I e z h;obtain⟨k,q⟩:=h;cases x with
 |non =>
  cases e;cases y with|non=>cases z;exact PySem.EqNone.eq_none_none (sA I q (by simp))|bl j=>cases z;exact PySem.EqNone.eq_none_bool (sA I q (by simp))|int j=>obtain⟨w,rfl⟩:=z;exact PySem.EqNone.eq_none_int (sA I q (by simp))|str j=>obtain⟨w,rfl⟩:=z;exact PySem.EqNone.eq_none_str (sA I q (by simp))|_=>exact absurd (show false=true from k) QG
 |bl i =>
  cases e;cases y with|non=>cases z;exact PySem.EqNone.eq_bool_none (sA I q (by simp))|bl j=>cases z;exact eq_bool (sA I q A6)|str j=>obtain⟨w,rfl⟩:=z;exact PySem.EqMixed.eq_bool_str (sA I q (by simp))|_=>exact absurd (show false=true from k) QG
 |int i =>
  obtain⟨t,rfl⟩:=e;cases y with|non=>cases z;exact PySem.EqNone.eq_int_none (sA I q (by simp))|int j=>obtain⟨w,rfl⟩:=z;exact eq_int (sA I q GX)|str j=>obtain⟨w,rfl⟩:=z;exact PySem.EqMixed.eq_int_str (sA I q (by simp))|_=>exact absurd (show false=true from k) QG
 |str i =>
  obtain⟨t,rfl⟩:=e;cases y with|non=>cases z;exact PySem.EqNone.eq_str_none (sA I q (by simp))|bl j=>cases z;exact PySem.EqMixed.eq_str_bool (sA I q (by simp))|int j=>obtain⟨w,rfl⟩:=z;exact PySem.EqMixed.eq_str_int (sA I q (by simp))|str j=>obtain⟨w,rfl⟩:=z;exact eq_str (sA I q FX)|_=>exact absurd (show false=true from k) QG
 |byt i =>
  obtain⟨t,rfl⟩:=e;cases y with|byt j=>obtain⟨w,rfl⟩:=z;exact PySem.W.eq_bytes (sA I q HX)|_=>exact absurd (show false=true from k) QG
 |_=>cases y<;>exact absurd (show false=true from k) QG
theorem op_ne:AE X (compareOp .NotEq) Ew:=by
 intro f s l H x y v u Q I e z h;obtain⟨k,q⟩:=h;cases x with
 |non =>
  cases e;cases y with|non=>cases z;exact PySem.EqNone.ne_none_none (sA I q (by simp))|bl j=>cases z;exact PySem.EqNone.ne_none_bool (sA I q (by simp))|int j=>obtain⟨w,rfl⟩:=z;exact PySem.EqNone.ne_none_int (sA I q (by simp))|str j=>obtain⟨w,rfl⟩:=z;exact PySem.EqNone.ne_none_str (sA I q (by simp))|_=>exact absurd (show false=true from k) QG
 |bl i =>
  cases e;cases y with|non=>cases z;exact PySem.EqNone.ne_bool_none (sA I q (by simp))|bl j=>cases z;exact ne_bool (sA I q (congrArg not A6))|str j=>obtain⟨w,rfl⟩:=z;exact PySem.EqMixed.ne_bool_str (sA I q (by simp))|_=>exact absurd (show false=true from k) QG
 |int i =>
  obtain⟨t,rfl⟩:=e;cases y with|non=>cases z;exact PySem.EqNone.ne_int_none (sA I q (by simp))|int j=>obtain⟨w,rfl⟩:=z;exact ne_int (sA I q (congrArg not GX))|str j=>obtain⟨w,rfl⟩:=z;exact PySem.EqMixed.ne_int_str (sA I q (by simp))|_=>exact absurd (show false=true from k) QG
 |str i =>
  obtain⟨t,rfl⟩:=e;cases y with|non=>cases z;exact PySem.EqNone.ne_str_none (sA I q (by simp))|bl j=>cases z;exact PySem.EqMixed.ne_str_bool (sA I q (by simp))|int j=>obtain⟨w,rfl⟩:=z;exact PySem.EqMixed.ne_str_int (sA I q (by simp))|str j=>obtain⟨w,rfl⟩:=z;exact ne_str (sA I q (congrArg not FX))|_=>exact absurd (show false=true from k) QG
 |byt i =>
  obtain⟨t,rfl⟩:=e;cases y with|byt j=>obtain⟨w,rfl⟩:=z;exact PySem.W.ne_bytes (sA I q (congrArg not HX))|_=>exact absurd (show false=true from k) QG
 |_=>cases y<;>exact absurd (show false=true from k) QG
theorem op_lt:AE X (compareOp .Lt) (d9 λi j=>.bl (decide (i<j))):=O9 λ_ _ _ _ _ _ _ q=>lt_int q
theorem op_le:AE X (compareOp .LtE) (d9 λi j=>.bl (decide (i<=j))):=O9 λ_ _ _ _ _ _ _ q=>le_int q
theorem op_gt:AE X (compareOp .Gt) (d9 λi j=>.bl (decide (j<i))):=O9 λ_ _ _ _ _ _ _ q=>gt_int q
theorem op_ge:AE X (compareOp .GtE) (d9 λi j=>.bl (decide (j<=i))):=O9 λ_ _ _ _ _ _ _ q=>ge_int q
theorem FY:AE X (compareOp .In) (λx y H Q=>∃i j,x=.str i/\y=.str j/\Q (.bl (!(wb j i 0 j.length 1).isEmpty)) H):=by intro z s e H x y v u Q I k w h;obtain⟨i,j,rfl,rfl,q⟩:=h;obtain⟨t,rfl⟩:=k;obtain⟨f,rfl⟩:=w;exact in_str (sA I q rfl)
theorem Nh:AE X (compareOp .Is) (λx y H Q=>y=.non/\Q (.bl (decide (x=.non))) H):=by
 intro w s e H x y v u Q I z k h;obtain⟨rfl,q⟩:=h;cases k;refine is_none_gen (sA I q ?_);cases x<;>first
  | (cases z;rfl)
  | (obtain⟨t,rfl⟩:=z;rfl)
theorem M9:AE X (compareOp .IsNot) (λx y H Q=>y=.non/\Q (.bl (!decide (x=.non))) H):=by
 intro w s e H x y v u Q I z k h;obtain⟨rfl,q⟩:=h;cases k;refine isnot_none_gen (sA I q ?_);cases x<;>first
  | (cases z;rfl)
  | (obtain⟨t,rfl⟩:=z;rfl)
theorem GP:AE X (compareOp .NotIn) (λx y H Q=>∃i j,x=.str i/\y=.str j/\Q (.bl (!(!(wb j i 0 j.length 1).isEmpty))) H):=by intro z s e H x y v u Q I k w h;obtain⟨i,j,rfl,rfl,q⟩:=h;obtain⟨t,rfl⟩:=k;obtain⟨f,rfl⟩:=w;exact notIn_str (sA I q rfl)
theorem AE.or{f:Value->Value->Sem Value}{i:R2}(h:AE X f r)(h':AE X f i):AE X f (λx y H Q=>r x y H Q∨i x y H Q):=by intro z s w H x y v u Q I e k q;rcases q with q|q;exact h z s w H x y v u Q I e k q;exact h' z s w H x y v u Q I e k q
theorem C9(i:AE X (compareOp d) r)(l:PE X a ta)(hb:PE X b g)(j:behindInMarks d b=false):PE X (.Compare a [d] [b] pos) (Ym r ta g):=by intro z s w H Q I h;exact wpAny_Compare1 (binT l hb I h λv u k x y n m f e q=>i z k w n x y v u Q m f e q) j
def im(t:TE):TT:=λh H Q=>t h H λx y=>∃k,x=.bl k/\Q k y
theorem l9(Y:AE X (compareOp d) r)(W:PE X a ta)(hb:PE X b g)(Z:behindInMarks d b=false):PT X (.Compare a [d] [b] pos) (im (Ym r ta g)):=by
 intro w s f H Q I h;refine wpAny_isTrue_Compare1 (OB (W w s f H _ I h) λv j ⟨x,F,B,n,q⟩=>OB (hb w j f F _ B q) λu i ⟨y,E,A,m,p⟩ =>
  OB (Y w i f E x y v u _ A n m p) λc G ⟨z,C,K,l,k,e,o⟩=>?_) Z
 subst e;cases l;exact wP ⟨C,K,o⟩
def Dk(K:QA)(x:V)(H:Hp)(k:Bool):Prop :=
 match x with
 | .non=>k=false|.bl b=>k=b|.int i=>k=(i != 0)|.str y=>y.length<=sizeLine/\k=((y.length:Int) != 0)|.byt y=>y.size<=sizeLine/\k=((y.size:Int) != 0)|.ref p=>(∃h,FC K H p h/\k=!h.isEmpty)∨(∃h,xD K H p h/\k=!h.isEmpty)∨∃z,H p=some (.dK z)/\k=!z.isEmpty|_=>False
theorem tV{h:Type}{kvs:List (h×V)}{vs:List (h×Value)}(r:KV kvs vs):(!vs.isEmpty)=!kvs.isEmpty:=by cases r<;>rfl
theorem ZM{xs:LV}{its:LW}(r:lA xs its):(!its.toArray.isEmpty)=!xs.isEmpty:=by cases r<;>simp
theorem DH:(sizeLine:Nat)<2 ^ 63:=by rw[Q8];decide
theorem V1:Hu X (λx H Q=>∃k,Dk X.K x H k/\Q k H):=by
 intro A s F H x v Q I l h;obtain⟨k,e,q⟩:=h;have hl:=DH;have G:sizeLine=16777216:=Q8;cases x with
 |non=>cases l;have z:k=false:=e;subst z;exact truthy_none ⟨H,I,q⟩|bl b=>cases l;have z:k=b:=e;subst z;exact wP ⟨H,I,q⟩|int i=>obtain⟨t,rfl⟩:=l;have z:k=(i != 0):=e;subst z;exact PySem.P.truthy_int ⟨H,I,q⟩|str y=>obtain⟨t,rfl⟩:=l;obtain⟨C,z⟩:y.length<=sizeLine/\k=((y.length:Int) != 0):=e;subst z;exact PySem.P.truthy_str (by omega) ⟨H,I.tok _,q⟩|byt y=>obtain⟨t,rfl⟩:=l;obtain⟨C,z⟩:y.size<=sizeLine/\k=((y.size:Int) != 0):=e;subst z;exact PySem.W.truthy_bytes (by omega) ⟨H,I.tok _,q⟩|ref p =>
  cases l;have z:(∃j,FC X.K H p j/\k=!j.isEmpty)∨(∃j,xD X.K H p j/\k=!j.isEmpty)∨∃u,H p=some (.dK u)/\k=!u.isEmpty:=e;rcases z with⟨j,n,z⟩| ⟨j,n,z⟩| ⟨u,n,z⟩
  subst z;obtain⟨Z,r,Y,B⟩:=I.list n;have f:=r.length;exact wpAny_truthy_list Y.isList (by simp only[QN];omega) ⟨H,I.tok _,by rw[ZM r];exact q⟩;subst z;obtain⟨Z,r,Y,B⟩:=I.tuple n;have f:=r.length;exact truthy_tuple Y (by simp only[QN];omega) ⟨H,I.tok _,by rw[ZM r];exact q⟩;subst z;obtain⟨B,E,o,r,m⟩:u.length<=sizeLine/\(p==sysModules)=false/\∃o,KV u o/\s.heap.DictOf (ED X.prog X.w) p o:=I.hok p _ n;have f:u.length=o.length:=qJ r;exact wpAny_truthy_dict E m (by omega) ⟨H,I.tok _,by rw[tV r];exact q⟩
 |_=>exact(show False from e).elim
theorem DU:AE X (binaryOp .Add) (λx y H Q=>∃i j,x=.str i/\y=.str j/\i.length+j.length<=sizeLine/\Q (.str (i++j)) H):=by intro z s l H x y v u Q I e k h;obtain⟨i,j,rfl,rfl,f,q⟩:=h;obtain⟨t,rfl⟩:=e;obtain⟨w,rfl⟩:=k;exact add_str (λw m=>⟨.str (i++j),H,I.tok _,⟨_,rfl⟩,q⟩) f
theorem vH{x:V}(r:lA [x] us):∃u,us=[u]/\JA x u:=by
 cases r with|cons y h=>cases h;exact⟨_,rfl,y⟩
theorem Nc{x y:V}(r:lA [x,y] us):∃u h,us=[u,h]/\JA x u/\JA y h:=by
 cases r with
 |cons k w =>
  cases w with|cons v z=>cases z;exact⟨_,_,rfl,k,v⟩
theorem DZ:oC X (.type "int") (λxs H Q=>(∃i,xs=[.int i]/\Q (.int i) H)∨∃k,xs=[.bl k]/\Q (.int (if k then 1 else 0)) H):=by
 intro x s z H xs us Q I r h;rcases h with⟨i,rfl,q⟩| ⟨k,rfl,q⟩
 obtain⟨u,rfl,t,rfl⟩:=vH r;exact call_int_int ⟨.int i,H,I,⟨_,rfl⟩,q⟩;obtain⟨u,rfl,y⟩:=vH r;cases y;exact call_int_bool ⟨.int (if k then 1 else 0),H,I.tok _,⟨_,rfl⟩,q⟩
end
end
section
variable{h:Heap}{u:Addr}{v:Str->Option Value}
structure ObjM(h:Heap)(x u C:Addr)(v:Str->Option Value):Prop where
 obj:h.get? x=some (QA0 C u)
 ns:h.Ns1 u v
 ne:u≠x
theorem uZ(n:h.Ns1 u v):∃w,h.get? u=some w/\∀name,QBL name w=some (v name):=by
 obtain⟨o,k,l,f,i,hk,_,g⟩:=n;refine⟨o,f,λname=>?_⟩;have e:=g name;unfold nsFind findBy at e;rw[<- Array.find?_toList]at e;unfold QBL;rw[i];dsimp only;split;rename_i y q;rw[q]at e;exact congrArg some e;rename_i q;rw[q]at e;have a:k.toList.any (·.refKey)=false:=by rw[QBu];intro y b;obtain⟨z,t,x⟩:=hk y (Array.mem_toList_iff.mp b);simp[DictEntry.refKey,x]
 have j:¬ k.toList.any (·.refKey)=true:=by rw[a];exact QG
 rw[if_neg j];exact congrArg some e
theorem ObjM.look{x C:Addr}(I:ObjM h x u C v):∃y,PySem.W.InstAt h x (QA0 C u) C (some y)/\∀name,QBL name y=some (v name) :=
 let⟨y,z,hl⟩:=uZ I.ns
 ⟨y,⟨I.obj,rfl,rfl,z⟩,hl⟩
end
section
variable{P:Program}{w:World}{H v:Hp}{h h':Heap}{a C y:Addr}{x u:List (Str×V)}
theorem Yb(b:bL P w H h)(e:H a=some (.ins C y x)):∃k,ObjM h a y C k/\(∀f,AT (x.lookup f) (k f))/\PySem.Within k (x.map (·.1))/\x.length<=1000/\H y=some (.own a):=by
 obtain⟨d,z,g,ob,k,n,r,q⟩:=(show CA P w H h a (.ins C y x) from b a _ e)
 exact⟨k,⟨ob,n,g⟩,r,q,z,d⟩
end
structure Cls(K:QA)(C:Addr):Prop where
 pg:QCL K C Str.empty=true
 hd:PySem.W.hasDictIn K C=true
 po:PySem.W.plainOver K C=true
 sa:PySem.W.findIn K (.ref C) "__setattr__"=some (some (.builtin "object.__setattr__"))
theorem Cls.get{K:QA}{C:Addr}(c:Cls K C)(f:Str):QCL K C f=true:=c.pg
section
variable{X:Cx}{v:NB}{σ:St}{H:Hp}{s:Shared}{A:Around}{E:aC}{Q:aC}{c:Value}{b:Bool}
inductive TyOf(K:QA)(H:Hp):V->Value->Prop where
 |non:TyOf K H .non (.type "NoneType")
 |bl (x:Bool):TyOf K H (.bl x) (.type "bool")
 |int (i:Int):TyOf K H (.int i) (.type "int")
 |str (x:Str):TyOf K H (.str x) (.type "str")
 |flt (x:UInt64):TyOf K H (.flt x) (.type "float")
 |lst {a:Addr}{xs:LV}(e:H a=some (.lst xs)):TyOf K H (.ref a) (.type "list")
 |frz {a:Addr}{o:Obj}{xs:LV}(e:H a=some (.frz o (.lst xs))):TyOf K H (.ref a) (.type "list")
 |tup {a:Addr}{xs:LV}(e:H a=some (.tup xs)):TyOf K H (.ref a) (.type "tuple")
 |dK {a:Addr}{kvs:List (Key×V)}(e:H a=some (.dK kvs)):TyOf K H (.ref a) (.type "dict")
 |dT {a:Addr}{ep:Nat}{kvs:List (NK×Addr×V)}(e:H a=some (.dT ep kvs)):TyOf K H (.ref a) (.type "dict")
 |ins {a C dx:Addr}{fs:List (Str×V)}(e:H a=some (.ins C dx fs)) (cl:Cls K C) (ha:PySem.W.findIn K (.ref C) "__class__"=some (some (.builtin "object.__class__")))
   (hn:PySem.W.specialIn K (.builtin "object.__class__") "__get__"=some (some (.builtin "getset_descriptor.__get__"))) (htk:PySem.W.takesIn K (.builtin "object.__class__")=some true)
   (hm:PySem.W.mroIn K C (.type "object")=some true):TyOf K H (.ref a) (.ref C)
theorem mZ{x:V}{u t:Value}(I:Inv X v σ H s)(k:JA x u)(ty:TyOf X.K H x t)(e:QBM X.K t c=some b)(h:∀B,Q (.bool b) { s with toks:=B }) :
  wpAny (model X.prog X.w) A (call (.builtin "isinstance") [u,c]) Q E s:=by
 cases ty with
 |non=>cases(show u=Value.none from k);exact qK PySem.W.kitx_none I.kIn True.intro e (λz=>nomatch z) h
 |bl y=>cases(show u=Value.bool y from k);exact qK PySem.W.kitx_bool I.kIn True.intro e (λz=>nomatch z) h
 |int i=>obtain⟨t,q⟩:=(show ∃t,u=Value.int i t from k);cases q;exact qK PySem.W.kitx_int I.kIn True.intro e (λz=>nomatch z) h
 |str y=>obtain⟨t,q⟩:=(show ∃t,u=Value.str y t from k);cases q;exact qK PySem.W.kitx_str I.kIn True.intro e (λz=>nomatch z) h
 |flt y=>obtain⟨t,q⟩:=(show ∃t,u=Value.float y t from k);cases q;exact qK PySem.W.kitx_float I.kIn True.intro e (λz=>nomatch z) h
 |@lst a l f =>
  cases(show u=Value.ref a from k);obtain⟨_,_,n,_,g⟩:=(show CA X.prog X.w H s.heap a (.lst l) from I.hok a _ f)
  exact qK QAa I.kIn ⟨_,g,rfl⟩ e (λz=>nomatch z) h
 |@frz a ob l f =>
  cases(show u=Value.ref a from k);obtain⟨_,_,_,n,_,g⟩:=(show CA X.prog X.w H s.heap a (.frz ob (.lst l)) from I.hok a _ f)
  exact qK QAa I.kIn ⟨_,g,rfl⟩ e (λz=>nomatch z) h
 |@tup a l f =>
  cases(show u=Value.ref a from k);obtain⟨_,_,_,p⟩:=(show CA X.prog X.w H s.heap a (.tup l) from I.hok a _ f)
  obtain⟨o,g,m,_⟩:=p;exact qK QBk I.kIn ⟨o,g,m⟩ e (λz=>nomatch z) h
 |@dK a j f =>
  cases(show u=Value.ref a from k);obtain⟨_,_,N,_,p⟩:=(show CA X.prog X.w H s.heap a (.dK j) from I.hok a _ f)
  obtain⟨o,M,Y,g,m,_⟩:=p;exact qK QBv I.kIn ⟨o,g,m.1⟩ e (λz=>nomatch z) h
 |@dT a Y j f =>
  cases(show u=Value.ref a from k);obtain⟨_,_,l,_,o,M,g,m,_⟩:=(show CA X.prog X.w H s.heap a (.dT Y j) from I.hok a _ f)
  exact qK QBv I.kIn ⟨o,g,m.1⟩ e (λz=>nomatch z) h
 |@ins a C S fs f Z L F r G=>cases(show u=Value.ref a from k);obtain⟨R,O,_⟩:=Yb I.hok f;obtain⟨P,J,_⟩:=O.look;exact qK (PySem.W.kitx_own (Z.get _) Z.hd L F r G) I.kIn J e (λz=>nomatch z) h
end
section
variable{k:Nat}{A:Around}
structure Room(k:Nat)(A:Around):Prop where
 hd:A.handled=none
 dp:A.depth+3 * k+5<recursionLimit
 un:A.units+16 * k+200<cLine
theorem Room.mono{j:Nat}(r:Room k A)(h:j<=k):Room j A:=⟨r.hd,by have:=r.dp;omega,by have:=r.un;omega⟩
theorem Room.deeper(r:Room (k+1) A)(env:Env):Room k (A.deeper env) :=
 ⟨r.hd,by have:=r.dp;show A.depth+1+3 * k+5<_;omega,by have:=r.un;show A.units+3+16 * k+200<_;omega⟩
theorem Room.depth(r:Room k A):A.depth<recursionLimit:=by have:=r.dp;omega
def Zm:TA:=λ_ H Q=>Q [] H
def Xm(ta:TE)(z:TA):TA:=λh H Q=>ta h H λx v=>z h v λy u=>Q (x::y) u
end
section
variable{X:Cx}{e:Expr}{es:List Expr}{te:TE}{t:TA}{pos:Pos}
theorem BP:PA X [] Zm:=λ_ _ _ _ H Q I h=>QAb ⟨[],H,I,.nil,h⟩
theorem sI(j:PE X e te)(i:PA X es t)(g:starEach (e::es) X.env=(false,eval e X.env)::starEach es X.env:=by rfl):PA X (e::es) (Xm te t):=by intro pos y s z H Q I h;rw[g];show wpAny _ _ (spliced ((false,eval e X.env)::backTo pos (starEach es X.env))) _ _ s;refine WP (OB (j y s z H _ I h) λu w ⟨x,o,m,a,f⟩=>?_);exact OB (i pos y w z o _ m f) λp q ⟨v,n,l,k,b⟩=>⟨x::v,n,l,.cons a k,b⟩
def Mr(t:TA):TE:=λy H Q=>t y H λh x=>h.length<=sizeLine/\∀p,x p=none->Q (.ref p) (BA x p (.tup h))
def Ar(t:TA):TE:=λy H Q=>t y H λh x=>h.length<=sizeLine/\∀p,x p=none->Q (.ref p) (BA x p (.lst h))
theorem Uh{x1}(h:PA X es t):PE X (.Tuple es x1 pos) (Mr t):=by intro x s k H Q I g;refine QBS (OB (h pos x s k H _ I g) λf y ⟨a,w,v,r,z,q⟩=>⟨by rw[<- r.length];exact z,?_⟩);have i:w y.heap.objs.size=none:=v.hok.fresh (QS _);refine⟨.ref y.heap.objs.size,BA w y.heap.objs.size (.tup a),v.laid (t':=y.toks) (λb u e=>QH _ e) (QS _) ?_,rfl,q _ i⟩;exact⟨z,f,r,⟨_,QU _ rfl,rfl,_,rfl⟩⟩
theorem Ch(h:PA X es t):PE X (.List es pos) (Ar t):=by intro x s k H Q I g;refine wpAny_List_spliced (OB (h pos x s k H _ I g) λf y ⟨a,w,v,r,z,q⟩=>⟨by rw[<- r.length];exact z,?_⟩);have i:w y.heap.objs.size=none:=v.hok.fresh (QS _);refine⟨.ref y.heap.objs.size,BA w y.heap.objs.size (.lst a),v.laid (t':=y.toks) (λb u e=>QH _ e) (QS _) ?_,rfl,q _ i⟩;exact⟨z,f,0,r,QU _ rfl⟩
end
noncomputable abbrev Sp:=LV->Hp->VK->XK->Prop
noncomputable abbrev y8:=List Env->Hp->Shared->XK->Value->Shared->Prop
structure Env0(P:Program)(w:World)(K:QA)(mg:Str->Option Value)(base:Heap)(A:Around)(outer:List Env)(s:Shared)(H:Hp):Prop where
 frames:A.frames=some outer
 mod:Mod K mg base
 bs:∀b o,base.get? b=some o->s.heap.get? b=some o/\H b=none
 bsz:base.objs.size<=s.heap.objs.size
 funs:s.heap.FunFrames base outer
 frf:∀b∈YX outer,H b=none
 tb:∀P q,yP mg base P q->H P=some (.tbl q)
 hok:bL P w H s.heap
 bare:AllBare s.gens
def CE(outer:List Env)(P:Program)(w:World)(H:Hp)(s:Shared)(Q:VK)(u:Value)(s':Shared):Prop :=
 ∃v h,s'.os=s.os/\AllBare s'.gens/\Un (YX outer) [] H h s.heap s'.heap/\bL P w h s'.heap/\JA v u/\Q v h
def CR(h:y8)(outer:List Env)(P:Program)(w:World)(H:Hp)(s:Shared)(Q:VK)(E:XK)(r:Result)(s':Shared):Prop :=
 match r with
 | .ok (.ret u)=>CE outer P w H s Q u s'|.ok _=>False|.error e=>h outer H s E e s'
structure FnOk(P:Program)(w:World)(K:QA)(mg:Str->Option Value)(base:Heap)(CX:y8)(k:Nat)(f:Addr)(fd:FuncData)(ps:LS)(sp:Sp):Prop where
 len:∀vs H Q E,sp vs H Q E->vs.length=ps.length
 run:∀(A:Around) (outer:List Env) (s:Shared) (H:Hp) (args:Args) (us:LW) (vs:LV) (Q:VK) (E:XK),Room k A->Env0 P w K mg base A outer s H->BindsTo s fd args (ps.zip us)->lA vs us->sp vs H Q E ->
  codeAny (model P w) A (.call (.ref f) args) (CR CX outer P w H s Q E) s
theorem FnOk.mono{P:Program}{w:World}{K:QA}{mg:Str->Option Value}{x:Heap}{a:y8}{j k:Nat}{f:Addr}{v:FuncData}{u:LS}{z:Sp}(F:FnOk P w K mg x a j f v u z)(h:j<=k) :
  FnOk P w K mg x a k f v u z:=⟨F.len,λA y s H args e b Q E g=>F.run A y s H args e b Q E (g.mono h)⟩
section
variable{X:Cx}{x:NB}{σ:St}{H:Hp}{s s':Shared}
theorem Inv.env0(I:Inv X x σ H s):Env0 X.prog X.w X.K X.mg X.base X.A X.stack s H :=
 ⟨I.ok.frames,I.ok.mod,I.bs,QV I.ok.bsz I.sz,I.stack,I.stkFree,I.tb,I.hok,I.bare⟩
theorem Inv.after{Q:VK}{u:Value}(I:Inv X x σ H s)(h:CE X.stack X.prog X.w H s Q u s'):EP X x σ Q u s':=by obtain⟨v,f,a,bare,un,k,r,q⟩:=h;obtain⟨e,g,d,t,y⟩:=s';obtain rfl:y=s.os:=a;exact⟨v,f,I.call (h':=e) (g':=g) (d':=d) (t':=t) (ch:=[]) un k bare (λb z=>absurd z (by simp)),r,q⟩
end
def Tc(z:Sp)(h:LV)(E:XK)(t:TA):TE:=λx H Q=>t x H λy u=>z (y++h) u Q E
def oJ(K:QA)(y:FuncData)(x:LS)(ds:LW):Prop :=
 ∀(s:Shared) (h:LW),K.In s.heap->(h++ds).length=x.length->BindsTo s y ⟨h,[]⟩ (x.zip (h++ds))
theorem oJ.all{K:QA}{y:FuncData}{x:LS}(h:∀us:LW,us.length=x.length->bindArgs y ⟨us,[]⟩=pure (x.zip us)):oJ K y x []:=λs us _ hl=>by rw[qA]at hl ⊢;exact .of_eq (h us hl)
def zN(z:y8)(X:Cx)(E:XK):Prop:=∀(h:NB) (y:St) (H:Hp) (s:Shared) (e:Value) (x:Shared),Inv X h y H s->z X.stack H s E e x->X.xe e x
section
variable{X:Cx}{b:y8}{k:Nat}{f C:Addr}{a:FuncData}{z:LS}{v:Sp}{y:LV}{ds:LW}{E:XK}{x m:Str}{p pos apos:Pos}{e o:Expr}{es:List Expr}{ta:TE}{t:TA}
theorem j3{g:NB}{σ:St}{H:Hp}{s:Shared}{Q:VK}{us:LW}{vs:LV}(F:FnOk X.prog X.w X.K X.mg X.base b k f a z v)(q:Room k X.A)(hb:oJ X.K a z ds)(Y:lA y ds)(n:zN b X E)
  (I:Inv X g σ H s) (r:lA vs us) (h:v (vs++y) H Q E):wpAny (model X.prog X.w) X.A (call (.ref f) us) (EP X g σ Q) X.xe s:=by
 have j:lA (vs++y) (us++ds):=r.append Y;have hl:(us++ds).length=z.length:=by rw[<- j.length];exact F.len _ _ _ _ h
 refine wpAny_call (QCB (F.run X.A X.stack s H ⟨us,[]⟩ (us++ds) (vs++y) Q E q I.env0 (hb s us I.kIn hl) j h) λr l i=>?_);cases r with
 |error e=>exact n g σ H s e l I i|ok fl =>
  cases fl with|ret u=>exact I.after i|next=>exact Qd i|brk=>exact Qd i|cont=>exact Qd i
theorem D9(F:FnOk X.prog X.w X.K X.mg X.base b k f a z v)(Y:Room k X.A)(B:Gl X x)(Z:X.mg x=some (.ref f))(hk:wJ X.K (.ref f)=true)(hb:oJ X.K a z ds)(J:lA y ds)(n:zN b X E)
  (L:PA X (e::es) t) (i:(x==("__debug__":Str))=false:=by decide) (G:starEach (e::es) X.env=(false,eval e X.env)::starEach es X.env:=by rfl) (g:(backTo pos (starEach es X.env)).any (·.1)=false:=by rfl) :
  PE X (.Call (.Name x p) (e::es) [] pos) (Tc v y E t):=by
 intro u s l H Q I h;refine wq (pQ I B Z ?_ i);refine PySem.W.callWith_K (h₀:=X.base) I.ok.mod.kin hk (OB (L pos u s l H _ I h) λN O ⟨M,P,j,r,q⟩=>⟨j.kIn,?_⟩) G g;exact j3 F Y hb J n j r q
theorem y4(F:FnOk X.prog X.w X.K X.mg X.base b k f a z v)(j:Room k X.A)(n:Gl X x)(l:X.mg x=some (.ref f))(hk:wJ X.K (.ref f)=true)(hb:oJ X.K a z ds)(q:lA y ds)(i:zN b X E)
  (u:(x==("__debug__":Str))=false:=by decide):PE X (.Call (.Name x p) [] [] pos) (Tc v y E Zm):=by
 intro g s r H Q I h;refine wq (pQ I n l ?_ u);exact PySem.W.callWith_K0 I.kIn hk (j3 (us:=[]) F j hb q i I .nil h)
end
section
variable{X:Cx}{c:y8}{k:Nat}{f C:Addr}{b:FuncData}{v ks:LS}{u:Sp}{E:XK}{x m:Str}{p pos apos h:Pos}{e o:Expr}{es:List Expr}{y:List Keyword}{te ta:TE}{t z:TA}{w:Option Str}
variable{g:LW->LW->LW}{a:LV->LV->LV}
end
section
variable{l:y8}{P:Program}{w:World}{mg:Str->Option Value}{base:Heap}{j:LS}{g:Str}{d:Scope}{f:Addr}
structure FnScope(N P:LS)(sc:Scope):Prop where
 kind:sc.kind=.function
 co:sc.isCoroutine=false
 gen:sc.isGenerator=false
 nd:N.Nodup
 pre:N.take P.length=P
 par:∀x∈P,sc.names.lookup x=some .local∨sc.names.lookup x=some .cell
 nofree:∀y∈sc.names,y.2≠.free
theorem OO{y:Str->Option NameKind}{x:Str}:∀{binds:List (Str×Value)}{m:Str->Option Value},(∀v,(x,v)∉binds)->bindL y binds m x=m x
 |[],_,_=>rfl|(n,v)::r,m,h=>by
  unfold bindL;rw[OO λw z=>h w (QE _ z)];split;have:x≠n:=by rintro rfl;exact h v QF
  simp[this];rfl
theorem SO{y:Str->Option NameKind}{x:Str}:∀{binds:List (Str×Value)}{m:Str->Option Value},(∀v,(x,v)∉binds)->bindC y binds m x=m x
 |[],_,_=>rfl|(n,v)::r,m,h=>by
  unfold bindC;rw[SO λw z=>h w (QE _ z)];split;rfl;have:x≠n:=by rintro rfl;exact h v QF
  simp[this]
theorem RO{y:Str->Option NameKind}{x:Str}{v:Value}:∀{P:LS}{vs:LW}{i:Nat}{m:Str->Option Value},P.Nodup->P[i]?=some x->vs[i]?=some v->y x=some .local ->
  bindL y (P.zip vs) m x=some v
 |[],_,_,_,_,h,_,_=>by simp at h|_::_,[],_,_,_,_,h,_=>by simp at h|p::P,w::vs,0,m,nd,h1,h2,hk=>by simp at h1 h2;subst h1;subst h2;show bindL y ((p,w)::P.zip vs) m p=_;unfold bindL;rw[OO λv hv=>(Qj.mp nd).1 (QA1 hv).1,if_pos hk];simp|p::P,w::vs,i+1,m,nd,h1,h2,hk=>by show bindL y ((p,w)::P.zip vs) m x=_;unfold bindL;exact RO (i:=i) (Qj.mp nd).2 (by simpa using h1) (by simpa using h2) hk
theorem AO{y:Str->Option NameKind}{x:Str}{v:Value}:∀{P:LS}{vs:LW}{i:Nat}{m:Str->Option Value},P.Nodup->P[i]?=some x->vs[i]?=some v->y x≠some .local ->
  bindC y (P.zip vs) m x=some v
 |[],_,_,_,_,h,_,_=>by simp at h|_::_,[],_,_,_,_,h,_=>by simp at h|p::P,w::vs,0,m,nd,h1,h2,hk=>by simp at h1 h2;subst h1;subst h2;show bindC y ((p,w)::P.zip vs) m p=_;unfold bindC;rw[SO λv hv=>(Qj.mp nd).1 (QA1 hv).1,if_neg hk];simp|p::P,w::vs,i+1,m,nd,h1,h2,hk=>by show bindC y ((p,w)::P.zip vs) m x=_;unfold bindC;exact AO (i:=i) (Qj.mp nd).2 (by simpa using h1) (by simpa using h2) hk
def mD(N:LS)(vs:LV):St:=vs.map some++QAQ (N.length - vs.length) none
noncomputable def MV(l:y8)(P:Program)(w:World)(K:QA)(mg:Str->Option Value)(base:Heap)(N:LS)(g:Str)(d:Scope)(f:Addr)(x:Value)(A:Around)(outer:List Env)(s:Shared)(H:Hp)(E:XK):Cx where
 prog:=P
 w:=w
 K:=K
 mg:=mg
 base:=base
 A:=A.deeper (envOfC g d s.heap.objs.size f x)
 N:=N
 s₀:=s
 H₀:=H
 env:=envOfC g d s.heap.objs.size f x
 outer:=outer
 stack:=envOfC g d s.heap.objs.size f x::outer
 ex:=[]
 calm:=true
 fn:=λ_=>true
 pn:=[]
 xe:=λe y=>wpAny (model P w) (A.deeper (envOfC g d s.heap.objs.size f x)) (leaving (envOfC g d s.heap.objs.size f x) e) (λ_ h=>l outer H s E e h) (λz h=>l outer H s E z h) y
theorem gT{sc:Scope}{n:Nat}{x:Str}(h:sc.names.lookup x=some .cell):∃c,(cellsFrom n sc.names []).lookup x=some c:=by have q:=QAt sc.names n [] (.inl h);exact Option.isSome_iff_exists.mp q
theorem oZ{K:QA}{N:LS}{F:Value}{A:Around}{outer:List Env}{s G:Shared}{H:Hp}{E:XK}{us:LW}{vs:LV}
  (S:FnScope N j d) (M:A.handled=none) (o:Env0 P w K mg base A outer s H) (hl:vs.length=j.length) (r:lA vs us)
  (x:InCallC s s.heap.objs.size (bindL (envOfC g d s.heap.objs.size f F).kindOf (j.zip us) λ_=>none) (cellsFrom (s.heap.objs.size+1) d.names []) (bindC (envOfC g d s.heap.objs.size f F).kindOf (j.zip us) λ_=>none) G) :
  Inv (MV l P w K mg base N g d f F A outer s H E) [] (mD N vs) H G:=by
 have L:j.length<=N.length:=by have:=congrArg wE S.pre;rw[wj]at this;omega
 obtain⟨C,Q,rfl,hk⟩:=x.done;have X:∀b:Addr,b∉(MV l P w K mg base N g d f F A outer s H E).ex:=λb z=>absurd (show b∈([]:List Addr) from z) (by simp);refine⟨⟨o.mod,S.kind,rfl,rfl,QS _,λy z c C m=>?_,λy Y=>?_,λy c _ h=>?_,λ_=>M,Around.frames_deeper o.frames,.inr ⟨rfl,rfl⟩,λb z=>absurd z (X b),o.bs,o.bsz,λb _ _=>X b,λb z=>absurd z (X b),o.funs,o.frf,o.tb⟩,
  rfl,o.bare,Un.kept hk,⟨_,x.toInCall.ns,λi y v C m R=>?_⟩,λy c h=>⟨_,x.cell y c h⟩,o.hok.fresh (QS _),λy c h=>?_,λp W=>absurd (show p∈([]:NB) from W) (by simp),o.hok.kept hk,?_⟩
 exact name_of_addr x.apart (qO C) (qO m);have Y:d.names.lookup y=some .cell∨d.names.lookup y=some .free:=Y;rcases Y with Y|Y;exact gT Y;exact absurd rfl (S.nofree _ (qO Y));exact WI (x.above y c (qO h));have B:i<vs.length:=by unfold mD at m;by_cases B:i<vs.length;exact B;rw[qH (by simpa using B)]at m;rw[wc]at m;split at m<;>cases m
 have O:vs[i]?=some v:=by
  unfold mD at m;rw[qT (by simpa using B),QT]at m;cases e:vs[i]? with|none=>rw[e]at m;cases m|some a=>rw[e]at m;cases m;rfl
 obtain⟨u,I,J⟩:=r.get O;have W:j[i]?=some y:=by rw[<- S.pre,List.getElem?_take_of_lt (by omega)];exact C
 have Z:j.Nodup:=by rw[<- S.pre];exact S.nd.sublist (QBw _ _)
 refine⟨u,J,?_⟩;rcases S.par y (qN W) with k|k;exact .inl ⟨k,RO Z W I k⟩;obtain⟨c,e⟩:=gT (n:=s.heap.objs.size+1) k;refine .inr ⟨.inl k,c,e,?_⟩;have q:=x.cell y c e;rw[AO Z W I (by show d.names.lookup y≠_;rw[k];decide)]at q;exact q;exact o.hok.fresh (WI (x.above y c (qO h)));unfold mD;show _=N.length;rw[QI,QD,qt];omega
theorem ae{K:QA}{k:Nat}{name:Str}{z:Arguments}{body:List Stmt}{dV kV B pm h ct oc:Value}{an od:Option Addr}
  {L:Array (Option Value)}{N:LS}{C:Sp}(lk:K.lookup f=some ⟨oc,od,.func (qr name g z body d dV kV B pm an h ct),L⟩) (R:Wi K h g=true) (S:FnScope N j d)
  (len:∀vs H Q E,C vs H Q E->vs.length=j.length)
  (p:∀(A:Around) (outer:List Env) (s:Shared) (H:Hp) (vs:LV) (Q:VK) (E:XK),Room k (A.deeper (envOfC g d s.heap.objs.size f h))->C vs H Q E ->
   ∃t,gW (MV l P w K mg base N g d f h A outer s H E) body t/\t { nx:=λ_ i=>Q .non i,rt:=Q } (mD N vs) H) :
  FnOk P w K mg base l (k+1) f (qr name g z body d dV kV B pm an h ct) j C:=by
 refine⟨len,λA outer s H args us vs Q E O Z hb r Y=>?_⟩;have hl:=len _ _ _ _ Y;have KX:K.In s.heap:=Z.mod.kin.keeps λb o e=>(Z.bs b o e).1;have M:s.heap.NoLimit:=Z.mod.nolimit.keeps λb o e=>(Z.bs b o e).1;have m:∀y∈j.zip us,d.names.lookup y.1=some .local∨(d.names.lookup y.1=some .cell/\((cellsFrom (s.heap.objs.size+1) d.names []).lookup y.1).isSome=true):=λ⟨n,v⟩ hy=>by rcases S.par n (QA1 hy).1 with q|q;exact .inl q;exact .inr ⟨q,QAt _ _ _ (.inl q)⟩
 refine codeAny_call_function O.depth (KX _ _ lk) rfl S.co S.gen rfl (PySem.W.codeRec_of KX R) (hb _ _ _ _ ?_);refine wpAny_newFunctionEnv_cells S.kind m λenv he s1 x=>?_;subst he;refine⟨M.keeps x.toInCall.keep,codeAny_func ?_⟩;obtain⟨t,ht,hq⟩:=p A outer s H vs Q E (O.deeper _) Y;have I:Inv (MV l P w K mg base N g d f h A outer s H E) [] (mD N vs) H s1:=oZ S O.hd Z hl r x;refine qw (ht [] s1 (mD N vs) H _ I hq) (λfl F X=>?_) λe F X=>X;have fin:∀{a:St}{i:Hp}{v:V}{u:Value},Inv (MV l P w K mg base N g d f h A outer s H E) [] a i F->JA v u->Q v i->CE outer P w H s Q u F :=
  λ{a i v u} J G q=>⟨v,i,J.os,J.bare,J.base,J.hok,G,q⟩
 cases fl with|ret u=>obtain⟨v,a,i,J,G,q⟩:=X;exact fin J G q|next=>obtain⟨a,i,J,q⟩:=X;exact fin (v:=V.non) (u:=Value.none) J rfl q|brk=>obtain⟨_,_,_,q⟩:=X;exact Qd q|cont=>obtain⟨_,_,_,q⟩:=X;exact Qd q
end
section
variable{X:Cx}{x:Str}{p pos:Pos}{e:Expr}{es:List Expr}{t:TA}{y T:String}{r:LV->Hp->VK->Prop}
def Vv(r:LV->Hp->VK->Prop)(t:TA):TE:=λh H Q=>t h H λz u=>r z u Q
theorem zM(hc:oC X (.builtin y) r)(l:Gl X x)(j:X.mg x=none)(hv:bootBuiltins x=some (.builtin y))(n:PA X (e::es) t)(i:x≠"__name__":=by decide)(v:(x==("__debug__":Str))=false:=by decide)
  (m:starEach (e::es) X.env=(false,eval e X.env)::starEach es X.env:=by rfl) (u:(backTo pos (starEach es X.env)).any (·.1)=false:=by rfl):PE X (.Call (.Name x p) (e::es) [] pos) (Vv r t):=by
 intro z s w H Q I h;refine wq (FH I l j hv ?_ i v);exact PyProof.Rows.callWith_builtin1 (OB (n pos z s w H _ I h) λa b ⟨k,q,o,f,g⟩=>hc z b w q k a Q o f g) m u
theorem CY(hc:oC X (.type T) r)(l:Gl X x)(j:X.mg x=none)(hv:bootBuiltins x=some (.type T))(n:PA X (e::es) t)(i:x≠"__name__":=by decide)(v:(x==("__debug__":Str))=false:=by decide)
  (m:starEach (e::es) X.env=(false,eval e X.env)::starEach es X.env:=by rfl) (u:(backTo pos (starEach es X.env)).any (·.1)=false:=by rfl):PE X (.Call (.Name x p) (e::es) [] pos) (Vv r t):=by
 intro z s w H Q I h;refine wq (FH I l j hv ?_ i v);exact wu (OB (n pos z s w H _ I h) λa b ⟨k,q,o,f,g⟩=>hc z b w q k a Q o f g) m u
end
end L2
namespace HT
open PySem PyProof.Rows
section
open PySem.SeqAt
open PySem.AutoSeq1 (wpAny_loadPart')
open PySem.MeetsSeq PySem.MeetsSeq2 PySem.MeetsSeq3
end
section
variable{prog:Program}{w:World}{A:Around}{E:aC}{s:Shared}
section
variable{sl:Addr}{a u:Value}{y z:Option Int}
def sIx(n d:Nat):Option Int->Nat
 |none=>d|some v=>if v<0 then(v+(n:Int)).toNat else min v.toNat n
theorem sIx_none(n d:Nat):sIx n d none=d:=rfl
theorem sIx_nat(n d k:Nat):sIx n d (some (k:Int))=min k n:=by show(if(k:Int)<0 then((k:Int)+(n:Int)).toNat else min (k:Int).toNat n)=min k n;rw[if_neg (by omega),qQ]
theorem xh(n d:Nat)(h:d<=n)(o:Option Int):sIx n d o<=n:=by
 cases o with|none=>exact h|some v=>show(if v<0 then(v+(n:Int)).toNat else min v.toNat n)<=n;by_cases hv:v<0;rw[if_pos hv];omega;rw[if_neg hv];exact Nat.min_le_right _ _
theorem MX(v:Int)(n d:Nat):(if v<0 then max (v+(n:Int)) 0 else min v (n:Int))=((sIx n d (some v):Nat):Int):=by show(if v<0 then max (v+(n:Int)) 0 else min v (n:Int))=(((if v<0 then(v+(n:Int)).toNat else min v.toNat n):Nat):Int);by_cases hv:v<0;simp only[if_pos hv];omega;simp only[if_neg hv];omega
theorem dW(y z:Option Int)(n:Nat):WB y z 1 (n:Int)=(((sIx n 0 y:Nat):Int),((sIx n n z:Nat):Int)):=by
 have h:¬ ((1:Int)<0):=by omega
 unfold WB;simp only[h,if_false];refine QCQ ?_ ?_;cases y with|none=>rfl|some v=>exact MX v n 0
 cases z with|none=>rfl|some v=>exact MX v n n
theorem XU(i j:Nat):wK (i:Int) (j:Int) 1=j - i:=by
 unfold wK;have h:(1:Int) > 0:=by omega
 simp only[h,if_true,Int.ediv_one];split<;>omega
theorem BL{v:Value}{o:Option Int}{Q:Option Int->Shared->Prop}(p:IsPart v o)(h:Q o s):wpAny (model prog w) A (Builtin.Slice.slicePartIndex v) Q E s:=by
 cases p with|none=>exact slicePart_none h|int i t=>exact slicePart_int h
theorem ZJ{n:Nat}{Q:Int×Int×Nat->Shared->Prop}(f:s.heap.IsSliceOf sl a u .none)(e:IsPart a y)(b:IsPart u z)
  (h:Q (((sIx n 0 y:Nat):Int),1,sIx n n z - sIx n 0 y) s):wpAny (model prog w) A (QAI (.ref sl) (pure (n:Int))) Q E s:=by
 obtain⟨i,v,g,k⟩:=id f;unfold QAI Builtin.Slice.sliceFields;refine QC (QC (wL v k (x:=a) rfl (QC (wL v k (x:=u) rfl (QC (wL v k (x:=.none) rfl (QK ?_)))))));refine QC (slicePart_none ?_);show wpAny _ _ (if((1:Int)==0)=true then _ else _) _ _ s;rw[if_neg (by decide)];refine QC (BL e (QC (BL b (QC (QK ?_)))));show wpAny _ _ (match WB y z 1 (n:Int) with | (y,z)=>pure (y,(1:Int),wK y z 1)) _ _ s;rw[dW y z n];show wpAny _ _ (pure (((sIx n 0 y:Nat):Int),(1:Int),wK ((sIx n 0 y:Nat):Int) ((sIx n n z:Nat):Int) 1)) _ _ s;rw[XU];exact QK h
theorem O3(xs:Array Value)(i k:Nat):((Ql k).filterMap λ(m:Nat)=>xs[((i:Int)+(m:Int) * 1).toNat]?).toArray=((xs.toList.drop i).take k).toArray:=by
 have e:(λ(m:Nat)=>xs[((i:Int)+(m:Int) * 1).toNat]?)=λm=>xs[i+m]?:=by
  funext m;have:((i:Int)+(m:Int) * 1).toNat=i+m:=by omega
  rw[this]
 rw[e];have:=pick_run xs i k;rw[List.filterMap_map]at this;have h:((λx=>xs[x]?)∘λx=>i+x)=λm=>xs[i+m]?:=rfl;rw[h]at this;rw[this]
theorem getItem_tuple_cut{t:Addr}{x:Array Value}{Q:aC}(k:IsTup s.heap t x)(i:s.heap.IsSliceOf sl a u .none)(l:IsPart a y)(j:IsPart u z)
  (o:¬ (sIx x.size 0 y=0/\sIx x.size x.size z=x.size))
  (h:Q (.ref s.heap.objs.size) { s with heap:=s.heap.push { cls:=.type "tuple",data:=.seq ((x.toList.drop (sIx x.size 0 y)).take (sIx x.size x.size z - sIx x.size 0 y)).toArray } })
  (hsz:x.size<=sizeLine):wpAny (model prog w) A (getItem (.ref t) (.ref sl)) Q E s:=by
 have v:sizeOk (.seq ((x.toList.drop (sIx x.size 0 y)).take (sIx x.size x.size z - sIx x.size 0 y)).toArray):=by show((x.toList.drop (sIx x.size 0 y)).take (sIx x.size x.size z - sIx x.size 0 y)).toArray.size<=sizeLine;rw[QN,wj,Wo,Qr];omega
 have Y:sIx x.size x.size z<=x.size:=xh _ _ (QS _) z;obtain⟨n,b,f,p⟩:=id i;have g:s.TypeIs (.ref sl) "slice":=⟨n,b,f⟩
 unfold getItem
 try with_reducible refine qp ?_
 first|refine QC (QK ?_)|skip
 refine QC (wpAny_sequenceKey k.typeIs (by decide) ?_);refine QC (qR (name:=QR "__getitem__") k.typeIs wR
  (qL wR k.typeIs entry_tuple_getitem ?_ (args_tuple_getitem _ _)))
 show wpAny _ _ (QAG (.ref t) >>= _) _ _ s;refine QC (tupleItemsOf_ k ?_);refine QC (QCC g ?_);rw[if_pos (by decide)];refine QC (ZJ i l j ?_);have e:¬ ((((sIx x.size 0 y:Nat):Int)==0&&(1:Int)==1&&(sIx x.size x.size z - sIx x.size 0 y)==x.size)=true):=by intro q;rw[Qc,Qc]at q;have X:((sIx x.size 0 y:Nat):Int)=0:=qZ q.1.1;have r:sIx x.size x.size z - sIx x.size 0 y=x.size:=qZ q.2;exact o ⟨by omega,by omega⟩
 show wpAny _ _ (if(((sIx x.size 0 y:Nat):Int)==0&&(1:Int)==1&&(sIx x.size x.size z - sIx x.size 0 y)==x.size)=true then _ else _) _ _ s;rw[if_neg e,O3];first
  |exact QC (m:=wV _) (Q0 (QK ⟨_,rfl,QK h⟩) v)
  |exact QC (m:=wV _) (Q0 (QC (QK (QK ⟨_,rfl,QK h⟩))) v)
  |exact QC (QC (m:=wV _) (Q0 (QK (QK ⟨_,rfl,QK h⟩)) v))
  |exact QC (QC (m:=wV _) (Q0 (QK ⟨_,rfl,QK h⟩) v))
end
end
end HT
namespace L2
open PySem PySem.Spec PyProof.Rows
noncomputable abbrev TO:=St->Hp->(Option Int->Hp->Prop)->Prop
def PO(X:Cx)(e:Option Expr)(t:TO):Prop :=
 ∀(h:NB) (s:Shared) (x:St) (H:Hp) (Q:Option Int->Hp->Prop),Inv X h x H s->t x H Q ->
  wpAny (model X.prog X.w) X.A (evalPart e X.env) (λu z=>∃o y,Inv X h x y z/\IsPart u o/\Q o y) X.xe s
def F8:TO:=λ_ H Q=>Q none H
def Jm(t:TE):TO:=λh H Q=>t h H λx y=>∃i,x=.int i/\Q (some i) y
theorem aV{ns:LJ}:∀{us:LW},lA (ns.map V.int) us->IntsAre us ns:=by
 induction ns with
 |nil=>intro us r;rw[WJ]at r;cases r;exact .nil|cons n ns y =>
  intro us r;rw[QW]at r;cases r with|cons x h=>obtain⟨t,e⟩:=x;subst e;exact .cons n t (y h)
section
variable{X:Cx}{e:Expr}{te:TE}{y z:Option Expr}{k c:TO}{pos p2:Pos}
theorem t9:PO X none F8:=by intro x s u H Q I h;rw[evalPart_none];exact QK ⟨none,H,I,.none,h⟩
theorem r9(h:PE X e te):PO X (some e) (Jm te):=by intro v s w H Q I f;rw[evalPart_some];refine OB (h v s w H _ I f) λu l ⟨x,j,g,a,b⟩=>?_;obtain⟨i,rfl,q⟩:=b;obtain⟨t,rfl⟩:=a;exact⟨some i,j,g,.int i t,q⟩
def Vf(X:Cx)(r:V->Option Int->Option Int->Hp->VK->Prop):Prop :=
 ∀(h:NB) (s:Shared) (u:St) (H:Hp) (x:V) (v b a:Value) (y z:Option Int) (f:Addr) (Q:VK),Inv X h u H s->JA x v->s.heap.IsSliceOf f b a .none->IsPart b y->IsPart a z->r x y z H Q ->
  ∃T id,typeLookup (.type T) "__getitem__"=pure (some (.builtin id))/\s.TypeIs v T/\wpAny (model X.prog X.w) X.A (getItem v (.ref f)) (EP X h u Q) X.xe s
theorem Vf.or{r i:V->Option Int->Option Int->Hp->VK->Prop}(h:Vf X r)(h':Vf X i):Vf X (λx y z H Q=>r x y z H Q∨i x y z H Q):=by intro u s w H x v b a y z f Q I g m l j q;rcases q with q|q;exact h u s w H x v b a y z f Q I g m l j q;exact h' u s w H x v b a y z f Q I g m l j q
noncomputable def Ow(r:V->Option Int->Option Int->Hp->VK->Prop)(te:TE)(k c:TO):TE:=λh H Q=>te h H λx a=>k h a λl w=>c h w λu v=>r x l u v Q
theorem R3{r:V->Option Int->Option Int->Hp->VK->Prop}(F:Vf X r)(J:PE X e te)(hl:PO X y k)(C:PO X z c):PE X (.Subscript e (.Slice y z none p2) pos) (Ow r te k c):=by intro a s g H Q I h;refine QBx (OB (J a s g H _ I h) λv o ⟨x,S,P,p,W⟩=>?_);refine wpAny_Slice (OB (hl a o g S _ P W) λj n ⟨l,R,O,B,Z⟩=>OB (C a n g R _ O Z) λi f ⟨u,m,N,K,Y⟩=>?_);rw[evalPart_none];refine QK ?_;have M:Inv X a g m { f with heap:=f.heap.push { cls:=.type "slice",data:=.fields #[j,i,.none] } }:=N.kept (t':=f.toks) λb ob q=>QH _ q;obtain⟨T,id,L,E,G⟩:=F a { f with heap:=f.heap.push { cls:=.type "slice",data:=.fields #[j,i,.none] } } g m x v j i l u f.heap.objs.size Q M p (Heap.IsSliceOf.new ..) B K Y;show wpAny (model X.prog X.w) X.A (subscriptTail e (.Slice y z none p2) v (.ref f.heap.objs.size)) (EP X a g Q) X.xe { f with heap:=f.heap.push { cls:=.type "slice",data:=.fields #[j,i,.none] } };exact tail_any (ops:=[.ref f.heap.objs.size,v]) E L G (by with_unfolding_all rfl)
noncomputable def vT(xs:LV)(y z:Option Int):LV:=(xs.drop (HT.sIx xs.length 0 y)).take (HT.sIx xs.length xs.length z - HT.sIx xs.length 0 y)
theorem ZK(xs:LV)(y z:Option Int):(vT xs y z).length<=xs.length:=by unfold vT;rw[wj,Wo];omega
def Im(K:QA):V->Option Int->Option Int->Hp->VK->Prop:=λx y z H Q=>∃a h,x=.ref a/\xD K H a h /\
 ¬ (HT.sIx h.length 0 y=0/\HT.sIx h.length h.length z=h.length)/\∀p,H p=none->Q (.ref p) (BA H p (.tup (vT h y z)))
theorem jh:Vf X (Im X.K):=by
 intro g s W H x v B A y z C Q I l Z n m h;obtain⟨a,w,rfl,p,Y,q⟩:=h;cases l;obtain⟨f,r,j,i⟩:=I.tuple p;have u:f.toArray.size=w.length:=by rw[QN];exact r.length.symm
 refine⟨"tuple",_,wR.lookup,j.typeIs,?_⟩;refine HT.getItem_tuple_cut j Z n m (by rw[u];exact Y) ?_ (by rw[u];exact i);rw[u];refine⟨.ref s.heap.objs.size,_,I.laid (t':=s.toks) (o:=.tup (vT w y z)) (λb ob q=>QH _ q) (QS _) ?_,rfl,q _ (I.hok.fresh (QS _))⟩;exact⟨QV (ZK w y z) i,_,(r.drop (HT.sIx w.length 0 y)).take (HT.sIx w.length w.length z - HT.sIx w.length 0 y),IsTup.new _ _⟩
end
noncomputable def dU(n:Nat)(i:Int):Option Nat:=if 0<=i then(if i<n then some i.toNat else none) else if -(n:Int)<=i then some (i+n).toNat else none
def pE{α:Type}(xs:List α)(i:Int):Option α:=(dU xs.length i).bind λj=>xs[j]?
theorem aQ{n:Nat}{i:Int}{j:Nat}(h:dU n i=some j):seqIndex? i n=some j/\j<n/\-(n:Int)<=i/\i<n:=by unfold dU at h;by_cases y:0<=i;rw[if_pos y]at h;by_cases x:i<n;rw[if_pos x]at h;have e:i.toNat=j:=Qm h;exact⟨by rw[QAj y x,e],by omega,by omega,x⟩;rw[if_neg x]at h;cases h;rw[if_neg y]at h;by_cases x:-(n:Int)<=i;rw[if_pos x]at h;have e:(i+n).toNat=j:=Qm h;exact⟨by rw[QCD (by omega) x,e],by omega,x,by omega⟩;rw[if_neg x]at h;cases h
theorem OQ{α:Type}{xs:List α}{i:Int}{v:α}(h:pE xs i=some v):∃j,seqIndex? i xs.length=some j/\xs[j]?=some v/\j<xs.length/\-(xs.length:Int)<=i/\i<xs.length:=by
 unfold pE at h;cases e:dU xs.length i with|none=>rw[e]at h;cases h|some j=>rw[e]at h;obtain⟨u,z,y,x⟩:=aQ e;exact⟨j,u,h,z,y,x⟩
theorem yE{α:Type}{xs:List α}{j:Nat}{v:α}(h:xs[j]?=some v):pE xs (j:Int)=some v:=by
 have x:j<xs.length:=(Qg.mp h).1;have e:dU xs.length (j:Int)=some j:=by unfold dU;rw[if_pos (by omega),if_pos (by omega)];simp
 unfold pE;rw[e];exact h
def jY(b:Expr):Prop:=∀o i,subscripted b false o i=operate [o,i] (getItem o i)
def S7(X:Cx)(r:R2):Prop :=
 ∀(k h:Expr) (z:NB) (s:Shared) (a:St) (H:Hp) (x y:V) (v u:Value) (Q:VK),Inv X z a H s->JA x v->JA y u->r x y H Q ->
  subscripted h false v u=operate [v,u] (getItem v u)->wpAny (model X.prog X.w) X.A (subscriptTail k h v u) (EP X z a Q) X.xe s
def l8(X:Cx)(id:String)(r:V->LV->Hp->VK->Prop):Prop :=
 ∀(h:NB) (s:Shared) (y:St) (H:Hp) (x:V) (z:LV) (v:Value) (u:LW) (Q:VK),Inv X h y H s->JA x v->lA z u->r x z H Q ->
  wpAny (model X.prog X.w) X.A (call (.builtin id) (v::u)) (EP X h y Q) X.xe s
section
variable{X:Cx}{a b:Expr}{ta Y:TE}{pos:Pos}
section
variable{d:NB}{s:Shared}{x:V}{u v:Value}
theorem S7.or{r g:R2}(h:S7 X r)(h':S7 X g):S7 X (λx y H Q=>r x y H Q∨g x y H Q):=by intro z w d s k H x y v u Q I f e q i;rcases q with q|q;exact h z w d s k H x y v u Q I f e q i;exact h' z w d s k H x y v u Q I f e q i
theorem l8.or{g:String}{r e:V->LV->Hp->VK->Prop}(h:l8 X g r)(h':l8 X g e):l8 X g (λx xs H Q=>r x xs H Q∨e x xs H Q):=by intro d s y H x xs v z Q I w k q;rcases q with q|q;exact h d s y H x xs v z Q I w k q;exact h' d s y H x xs v z Q I w k q
theorem Vn{r:R2}(g:S7 X r)(i:PE X a ta)(hb:PE X b Y)(f:jY b):PE X (.Subscript a b pos) (Ym r ta Y):=by intro d s z H Q I h;exact QBx (binT i hb I h λv u w x y l j e k q=>g a b d w z l x y v u Q j e k q (f _ _))
def gn(K:QA):R2:=λx y H Q=>∃p h i v,x=.ref p/\y=.int i/\FC K H p h/\pE h i=some v/\Q v H
def bn(K:QA):R2:=λx y H Q=>∃p h i v,x=.ref p/\y=.int i/\xD K H p h/\pE h i=some v/\Q v H
noncomputable def dn:R2:=λx y H Q=>∃z i c,x=.str z/\y=.int i/\z.length<=sizeLine/\pE z.cps.toList i=some c/\Q (.str ⟨#[c]⟩) H
theorem xb:S7 X (gn X.K):=by
 intro e f d s o H x y v u Q I E C h Z;obtain⟨p,N,i,z,rfl,rfl,F,G,q⟩:=h;cases E;obtain⟨t,rfl⟩:=C;obtain⟨m,r,l,O⟩:=I.list F;obtain⟨j,k,M,R,L,J⟩:=OQ G;obtain⟨w,A,g⟩:=r.get M;have hl:=r.length;have P:=DH;have fin:EP X d o Q w s:=⟨z,H,I,g,q⟩
 by_cases W:0<=i;have n:i.toNat=j:=by rw[QAj W J]at k;exact Qm k
 exact item_listR l.isList W (by omega) (by rw[n];simpa using A) fin Z;have n:(i+(m.toArray.size:Int)).toNat=j:=by rw[QCD (by omega) L]at k;rw[QN,<- hl];exact Qm k
 exact qg (x:=w) l.isList.typeIs QBy.lookup
  (wpAny_getItem_list_neg (Q:=λr B=>r=w/\EP X d o Q r B) l.isList (by omega) (by rw[QN]<;>omega) (by omega) (by rw[n];simpa using A) ⟨rfl,fin⟩) Z
theorem jj:S7 X (bn X.K):=by
 intro k e d s g H x y v u Q I o n h W;obtain⟨p,G,i,z,rfl,rfl,A,B,q⟩:=h;cases o;obtain⟨t,rfl⟩:=n;obtain⟨Z,r,l,J⟩:=I.tuple A;obtain⟨j,E,C,O,N,M⟩:=OQ B;obtain⟨w,F,f⟩:=r.get C;have hl:=r.length;have L:=DH;have fin:EP X d g Q w s:=⟨z,H,I,f,q⟩
 exact qg (x:=w) l.typeIs QAK.lookup
  (QBl (j:=j) (Q:=λr m=>r=w/\EP X d g Q r m) l (by omega) (by omega) (by rw[QN,<- hl];exact E) (by simpa using F) ⟨rfl,fin⟩) W
theorem yj:S7 X dn:=by
 intro w k d s W H x y v u Q I g f h l;obtain⟨z,i,c,rfl,rfl,A,m,q⟩:=h;obtain⟨t,rfl⟩:=g;obtain⟨K,rfl⟩:=f;obtain⟨j,e,p,C,o,n⟩:=OQ m;have hl:z.cps.toList.length=z.length:=by simp[Str.length]
 rw[hl]at e o n;have B:=DH;exact tail_any (QCa s z t) slot_str_getitem.lookup (getItem_str (c:=c) (by have Z:decide (i < -(2 ^ 63:Int))=false:=dF (by omega);have r:decide (i ≥ 2 ^ 63)=false:=dF (by omega);rw[Z,r,QBd]) (by rw[e];simpa using p) ⟨.str ⟨#[c]⟩,H,I.tok _,⟨_,rfl⟩,q⟩) l
def Iw(K:QA):R2:=λx y H Q=>gn K x y H Q∨bn K x y H Q∨dn x y H Q
theorem zj:S7 X (Iw X.K):=xb.or (jj.or yj)
theorem fV(its:LW)(n j:Nat)(u:Value):Q6 (·.setIfInBounds j u) { cls:=.type "list",data:=.seq its.toArray n }={ cls:=.type "list",data:=.seq (its.set j u).toArray n }:=by simp[Q6]
theorem Inv.lst{d:NB}{σ:St}{H:Hp}{s:Shared}{p:Addr}{xs:LV}(I:Inv X d σ H s)(h:H p=some (.lst xs)) :
  ∃(its:LW) (n:Nat),lA xs its/\s.heap.get? p=some { cls:=.type "list",data:=.seq its.toArray n }/\xs.length<=sizeLine:=by
 obtain⟨z,its,n,r,e⟩:=I.hok p _ h;exact⟨its,n,r,e,z⟩
theorem Inv.lstUpd{σ:St}{H:Hp}{p:Addr}{xs y:LV}{its its':LW}{n z:Nat}{f:Obj->Obj}(I:Inv X d σ H s)(h:H p=some (.lst xs))
  (g:s.heap.get? p=some { cls:=.type "list",data:=.seq its.toArray n }) (w:f { cls:=.type "list",data:=.seq its.toArray n }={ cls:=.type "list",data:=.seq its'.toArray z }) (r:lA y its') (k:y.length<=sizeLine) (t:Nat) :
  Inv X d σ (BA H p (.lst y)) { s with heap:=s.heap.update p f,toks:=t }:=by
 have e:(s.heap.update p f).get? p=some { cls:=.type "list",data:=.seq its'.toArray z }:=by rw[wv f g (by rw[w]<;>rfl),w]
 refine I.write (x:=p) (e:=p) (by rw[h];trivial) (.inl rfl) (λb u hb q=>(QAu _ _ (Q4 hb)).trans q) ⟨_,e⟩ ?_;exact⟨k,its',z,r,e⟩
def yn:V->V->V->Hp->(Hp->Prop)->Prop:=λo i v H Q=>∃p h k j,o=.ref p/\i=.int k/\H p=some (.lst h)/\dU h.length k=some j/\Q (BA H p (.lst (h.set j v)))
theorem U2:Vc X yn:=by
 intro d s Z H o i v G J u Q I B C A h;obtain⟨p,K,k,j,rfl,rfl,e,F,q⟩:=h;cases B;obtain⟨t,rfl⟩:=C;obtain⟨y,n,r,w,E⟩:=I.lst e;obtain⟨z,M,g,f⟩:=aQ F;have hl:=r.length;have L:=DH;have m:Inv X d Z (BA H p (.lst (K.set j v))) { s with heap:=s.heap.update p (Q6 (·.setIfInBounds j u)) } :=
  I.lstUpd e w (fV y n j u) (r.set A j) (by rw[qM];exact E) s.toks
 by_cases l:0<=k;have hk:k.toNat=j:=by rw[QAj l f]at z;exact Qm z
 exact PySem.W.ki_setAt w l (by omega) (by rw[QN,<- hl];exact f) (by rw[hk];exact⟨_,m,q⟩);have hk:(k+(y.toArray.size:Int)).toNat=j:=by rw[QCD (by omega) g]at z;rw[QN,<- hl];exact Qm z
 exact PySem.W.ki_setBack w (by omega) (by rw[QN,<- hl];exact g) (by omega) (by rw[hk];exact⟨_,m,q⟩)
theorem pP(y z:Option Int)(n:Nat):(sliceBounds y z none n).1=((HT.sIx n 0 y:Nat):Int)/\(sliceBounds y z none n).2.1=((HT.sIx n n z:Nat):Int)/\(sliceBounds y z none n).2.2=1:=by
 refine⟨?_,?_,rfl⟩;cases y with|none=>simp[sliceBounds,HT.sIx]|some i=>simp only[sliceBounds,HT.sIx,QCM,show(1:Int) > 0 by decide,if_true];by_cases h:i<0;simp only[h,if_true]<;>omega;simp only[h,if_false]<;>omega
 cases z with|none=>simp[sliceBounds,HT.sIx]|some i=>simp only[sliceBounds,HT.sIx,QCM,show(1:Int) > 0 by decide,if_true];by_cases h:i<0;simp only[h,if_true]<;>omega;simp only[h,if_false]<;>omega
theorem aN(its:LW)(h y:Option Int):slicePick its.toArray h y none=((its.drop (HT.sIx its.length 0 h)).take (HT.sIx its.length its.length y - HT.sIx its.length 0 h)).toArray:=by obtain⟨k,w,z⟩:=pP h y its.toArray.size;unfold slicePick;rw[k,w,z];simp only[sliceRange_one,pick_run,QN]<;>rfl
def jn(K:QA):V->Option Int->Option Int->Hp->VK->Prop:=λx y z H Q=>∃a h,x=.ref a/\FC K H a h/\∀p,H p=none->Q (.ref p) (BA H p (.lst (vT h y z)))
theorem S8:Vf X (jn X.K):=by intro d s p H x v W Z w k A Q I f n i g h;obtain⟨a,y,rfl,m,q⟩:=h;cases f;obtain⟨j,r,e,l⟩:=I.list m;have z:=r.length;refine⟨"list",_,QBy.lookup,e.isList.typeIs,?_⟩;refine wpAny_getItem_list_slice e.isList n i g .none (by simp) ?_ (by rw[QN]<;>omega);rw[aN,<- z];refine⟨.ref s.heap.objs.size,_,I.laid (t':=s.toks) (o:=.lst (vT y w k)) (λb ob q=>QH _ q) (QS _) ?_,rfl,q _ (I.hok.fresh (QS _))⟩;exact⟨QV (ZK y w k) l,_,0,(r.drop (HT.sIx y.length 0 w)).take (HT.sIx y.length y.length k - HT.sIx y.length 0 w),QU _ rfl⟩
def dG:V->Bool
 | .non=>true|.bl _=>true|.int _=>true|.str _=>true|_=>false
noncomputable def Pb:V->V->Bool
 | .non,.non=>true|.bl a,.bl b=>a==b|.bl a,.int b=>(if a then 1 else 0)==b|.int a,.bl b=>a==(if b then 1 else 0)|.int a,.int b=>a==b|.str a,.str b=>a==b|_,_=>false
theorem Jj{A:Around}{y:V}(w:JA y u)(h:JA x v)(k:dG y=true)(fx:dG x=true):qi A s u v (Pb y x):=by
 cases y with
 |non =>
  cases w;cases x with|non=>cases h;exact qi.same _|bl b=>cases h;exact qi.none_bool b|int b=>obtain⟨t,rfl⟩:=h;exact qi.none_int b t|str b=>obtain⟨t,rfl⟩:=h;exact qi.none_str b t|_=>exact absurd (show false=true from fx) QG
 |bl a =>
  cases w;cases x with|non=>cases h;exact qi.bool_none a|bl b=>cases h;exact qi.bool_bool a b|int b=>obtain⟨t,rfl⟩:=h;exact qi.bool_int a b t|str b=>obtain⟨t,rfl⟩:=h;exact qi.bool_str a b t|_=>exact absurd (show false=true from fx) QG
 |int a =>
  obtain⟨z,rfl⟩:=w;cases x with|non=>cases h;exact qi.int_none a z|bl b=>cases h;exact qi.int_bool a z b|int b=>obtain⟨t,rfl⟩:=h;exact qi.int_int a z b t|str b=>obtain⟨t,rfl⟩:=h;exact QBf a z b t|_=>exact absurd (show false=true from fx) QG
 |str a =>
  obtain⟨z,rfl⟩:=w;cases x with|non=>cases h;exact qi.str_none a z|bl b=>cases h;exact qi.str_bool a z b|int b=>obtain⟨t,rfl⟩:=h;exact QBg a z b t|str b=>obtain⟨t,rfl⟩:=h;exact qi.str_str a z b t|_=>exact absurd (show false=true from fx) QG
 |_=>exact absurd (show false=true from k) QG
noncomputable def GV(x:V)(u:Value):Bool:=match u with
 | .none=>Pb .non x|.bool b=>Pb (.bl b) x|.int i _=>Pb (.int i) x|.str z _=>Pb (.str z) x|_=>false
theorem O6{y:V}(r:JA y u)(f:dG y=true):GV x u=Pb y x:=by
 cases y with|non=>cases r;rfl|bl b=>cases r;rfl|int i=>obtain⟨t,rfl⟩:=r;rfl|str z=>obtain⟨t,rfl⟩:=r;rfl|_=>exact absurd (show false=true from f) QG
theorem vJ{x:V}:∀{xs:LV}{us:LW},lA xs us->xs.all dG=true->us.any (GV x)=xs.any λy=>Pb y x
 |_,_,.nil,_=>rfl|y::xs,u::us,.cons r t,f=>by rw[qa,Qc]at f;rw[w4,w4,O6 r f.1,vJ t f.2]
theorem kG{A:Around}{s:Shared}{x:V}{v:Value}(z:JA x v)(fx:dG x=true):∀{xs:LV}{us:LW},lA xs us->xs.all dG=true->∀u∈us,qi A s u v (GV x u)
 |_,_,.nil,_=>λu h=>by cases h|y::xs,u::us,.cons r t,f=>λw h=>by rw[qa,Qc]at f;rcases QL.mp h with rfl|h;rw[O6 r f.1];exact Jj r z f.1 fx;exact kG z fx t f.2 w h
def inV(x:V)(xs:LV):Bool:=xs.any λy=>Pb y x
noncomputable def Os(K:QA)(neg:Bool):R2:=λx y H Q=>∃p h,y=.ref p/\(FC K H p h∨xD K H p h)/\dG x=true/\h.all dG=true/\Q (.bl (if neg then !inV x h else inV x h)) H
theorem GY:AE X (compareOp .In) (Os X.K false):=by intro d s l H x y v u Q I g i h;obtain⟨p,m,rfl,k,fx,fs,q⟩:=h;cases i;rcases k with k|k;obtain⟨z,r,e,j⟩:=I.list k;refine SeqAt.in_listAt (GV x) e.isList (λw f=>kG g fx r fs w (by simpa using f)) ⟨.bl _,H,I,rfl,?_⟩;rw[show z.toArray.any (GV x)=z.any (GV x) by simp,vJ r fs];exact q;obtain⟨z,r,e,j⟩:=I.tuple k;refine SeqAt.in_tupleAt (GV x) e (λw f=>kG g fx r fs w (by simpa using f)) ⟨.bl _,H,I,rfl,?_⟩;rw[show z.toArray.any (GV x)=z.any (GV x) by simp,vJ r fs];exact q
theorem HP:AE X (compareOp .NotIn) (Os X.K true):=by intro d s l H x y v u Q I g i h;obtain⟨p,m,rfl,k,fx,fs,q⟩:=h;cases i;rcases k with k|k;obtain⟨z,r,e,j⟩:=I.list k;refine SeqAt.notIn_listAt (GV x) e.isList (λw f=>kG g fx r fs w (by simpa using f)) ⟨.bl _,H,I,rfl,?_⟩;rw[show z.toArray.any (GV x)=z.any (GV x) by simp,vJ r fs];exact q;obtain⟨z,r,e,j⟩:=I.tuple k;refine SeqAt.notIn_tupleAt (GV x) e (λw f=>kG g fx r fs w (by simpa using f)) ⟨.bl _,H,I,rfl,?_⟩;rw[show z.toArray.any (GV x)=z.any (GV x) by simp,vJ r fs];exact q
theorem II:oC X (.builtin "len") (λxs H Q=>∃p z,xs=[.ref p]/\(FC X.K H p z∨xD X.K H p z)/\Q (.int z.length) H):=by intro d s j H xs l Q I r h;obtain⟨p,z,rfl,w,q⟩:=h;obtain⟨u,rfl,g⟩:=vH r;cases g;have m:=DH;rcases w with w|w;obtain⟨f,k,e,i⟩:=I.list w;have y:=k.length;exact Calls.call_len_list e.isList (by simp only[QN]<;>omega) ⟨.int z.length,H,I.tok _,⟨s.toks+1,by rw[QN,y]⟩,q⟩;obtain⟨f,k,e,i⟩:=I.tuple w;have y:=k.length;exact len_tuple e (by simp only[QN]<;>omega) ⟨.int z.length,H,I.tok _,⟨s.toks+1,by rw[QN,y]⟩,q⟩
theorem LQ:oC X (.builtin "len") (λxs H Q=>∃z,xs=[.str z]/\z.length<=sizeLine/\Q (.int z.length) H):=by intro d s y H xs w Q I r h;obtain⟨z,rfl,k,q⟩:=h;obtain⟨u,rfl,t,rfl⟩:=vH r;have e:=DH;exact len_str (by omega) ⟨.int z.length,H,I.tok _,⟨_,rfl⟩,q⟩
theorem oC.or{f:Value}{r k:LV->Hp->VK->Prop}(h:oC X f r)(h':oC X f k):oC X f (λxs H Q=>r xs H Q∨k xs H Q):=by intro d s y H xs z Q I w q;rcases q with q|q;exact h d s y H xs z Q I w q;exact h' d s y H xs z Q I w q
theorem HQ:oC X (.type "list") (λxs H Q=>∃p k,xs=[.ref p]/\(FC X.K H p k∨xD X.K H p k)/\∀l,H l=none->Q (.ref l) (BA H l (.lst k))):=by
 intro d s E H xs G Q I r h;obtain⟨p,k,rfl,m,q⟩:=h;obtain⟨u,rfl,F⟩:=vH r;cases F;have fin:∀(y:LW),lA k y->k.length<=sizeLine->∀(z:Heap) (g:Nat),(∀b C,s.heap.get? b=some C->z.get? b=some C) ->
   z.get? s.heap.objs.size=some { cls:=.type "list",dict:=none,data:=.seq y.toArray g,slots:=#[] }->EP X d E Q (.ref s.heap.objs.size) { s with heap:=z }:=λy f j z g i e =>
  ⟨.ref s.heap.objs.size,_,I.laid (t':=s.toks) i (QS _) (show CA X.prog X.w _ z _ (.lst k) from⟨j,y,g,f,e⟩),rfl,q _ (I.hok.fresh (QS _))⟩
 rcases m with m|m;obtain⟨y,f,W,j⟩:=I.list m;have Z:=f.length;obtain⟨o,A,hc,n,B⟩:=W.isList;exact call_list_seq p (.inl rfl) A hc B (λz g i e=>fin y f j z g i e) (by simp only[QN]<;>omega);obtain⟨y,f,W,j⟩:=I.tuple m;have Z:=f.length;obtain⟨o,A,hc,n,B⟩:=W;exact call_list_seq p (.inr rfl) A hc B (λz g i e=>fin y f j z g i e) (by simp only[QN]<;>omega)
theorem RN:oC X (.type "tuple") (λxs H Q=>∃p z,xs=[.ref p]/\((FC X.K H p z/\∀l,H l=none->Q (.ref l) (BA H l (.tup z)))∨(xD X.K H p z/\Q (.ref p) H))):=by
 intro d s j H xs C Q I r h;obtain⟨p,z,rfl,h⟩:=h;obtain⟨u,rfl,W⟩:=vH r;cases W;rcases h with⟨i,q⟩| ⟨i,q⟩
 obtain⟨y,f,g,m⟩:=I.list i;have n:=f.length;refine call_tuple_list g.isList (λk A=>?_) (by simp only[QN]<;>omega);have Z:Inv X d j H { s with heap:=k }:=I.kept (t':=s.toks) A;have B:Inv X d j (BA H k.objs.size (.tup z)) { s with heap:=k.push { cls:=.type "tuple",data:=.seq y.toArray } } :=
  Z.laid (t':=s.toks) (λb o e=>QH _ e) (QS _) (show CA X.prog X.w _ _ _ (.tup z) from⟨m,y,f,IsTup.new _ _⟩)
 exact⟨.ref k.objs.size,_,B,rfl,q _ (Z.hok.fresh (QS _))⟩;obtain⟨y,f,g,m⟩:=I.tuple i;exact call_tuple_same g ⟨.ref p,H,I,rfl,q⟩
def uY(K:QA)(T:String)(x:V)(H:Hp):Prop:=match x with
 | .str _=>T="str"|.int _=>T="int"|.ref p=>(T="list"/\∃y,FC K H p y)∨(T="tuple"/\∃o,K.lookup p=some o/\o.cls=.type "tuple"/\o.dict=none) ∨
   (T="dict"/\((∃h,H p=some (.dK h))∨∃z h,H p=some (.dT z h)))∨(T="set"/\∃S n,H p=some (.set S n))
 |_=>False
theorem J1{σ:St}{H:Hp}{T:String}(I:Inv X d σ H s)(r:JA x v)(ty:uY X.K T x H) :
  s.TypeIs v T/\∀a,v=.ref a->∃ob,s.heap.get? a=some ob/\ob.dict=none:=by
 cases x with
 |str z=>obtain⟨t,rfl⟩:=r;cases(show T="str" from ty);exact⟨QCa s z t,λ_ e=>nomatch e⟩
 |int i=>obtain⟨t,rfl⟩:=r;cases(show T="int" from ty);exact⟨typeIs_int s i t,λ_ e=>nomatch e⟩
 |ref p =>
  cases r;rcases ty with⟨rfl,l,j⟩| ⟨rfl,o,hk,hc,w⟩| ⟨rfl,hk⟩| ⟨rfl,S,n,hk⟩
  obtain⟨g,_,f,_⟩:=I.list j;refine⟨f.isList.typeIs,λa e=>?_⟩;cases e;obtain⟨o,n,e,c,w,_⟩:=f;exact⟨o,e,w⟩;refine⟨⟨o,I.kIn p o hk,hc⟩,λa e=>?_⟩;cases e;exact⟨o,I.kIn _ o hk,w⟩;have z:∃o,s.heap.get? p=some o/\o.ExactDict:=by
   rcases hk with⟨y,hk⟩| ⟨m,y,hk⟩
   obtain⟨_,_,_,_,o,_,_,e,h,_⟩:=I.hok p _ hk;exact⟨o,e,h⟩;obtain⟨_,_,_,_,o,_,e,h,_⟩:=I.hok p _ hk;exact⟨o,e,h⟩
  obtain⟨o,e,h⟩:=z;refine⟨⟨o,e,h.1⟩,λa k=>?_⟩;cases k;exact⟨o,e,h.2.1⟩;obtain⟨o,_,_,_,e,h,_⟩:=I.hok p _ hk;refine⟨⟨o,e,h.1⟩,λa k=>?_⟩;cases k;exact⟨o,e,h.2.1⟩
 |_=>exact Qd ty
def js(K:QA)(T:String)(r:V->LV->Hp->VK->Prop)(m:TE):TE:=λy H Q=>m y H λx h=>uY K T x h/\r x [] h Q
noncomputable def Sw(K:QA)(T:String)(r:V->LV->Hp->VK->Prop)(m:TE)(t:TA):TE:=λh H Q=>m h H λx y=>uY K T x y/\t h y λz w=>r x z w Q
end
variable{o e:Expr}{es:List Expr}{m:TE}{t:TA}{name:Str}{apos cpos:Pos}{T g:String}{r:V->LV->Hp->VK->Prop}
theorem Fh(p:PlainAttrs T)(w:Slot T name g)(k:typeOf (.builtin g)=pure (.type "method_descriptor"))(Z:l8 X g r)(q:PE X o m)
  (u:attributeBase o name X.env (eval o X.env)=eval o X.env:=by rfl) (z:(apos.endLine==cpos.line)=true:=by rfl):PE X (.Call (.Attribute o name apos) [] [] cpos) (js X.K T r m):=by
 intro y s f H Q I h;refine QAk u z (OB (q y s f H _ I h) λv l ⟨x,B,j,i,ty,n⟩=>?_);obtain⟨A,W⟩:=J1 j i ty;exact⟨T,g,p,w,k,A,W,WY rfl (QBT (Z y l f B x [] v [] Q j i .nil n))⟩
theorem Xn(F:PlainAttrs T)(k:Slot T name g)(j:typeOf (.builtin g)=pure (.type "method_descriptor"))(L:l8 X g r)(J:PE X o m)(M:PA X (e::es) t)
  (w:attributeBase o name X.env (eval o X.env)=eval o X.env:=by rfl)
  (f:((backTo cpos (starEach (e::es) X.env)).all (λx=>!x.1)&&(backToKw cpos (keywordEach [] X.env)).all (λx=>x.1.isSome)
   && decide ((e::es).length+([]:List Keyword).length+(if([]:List Keyword).isEmpty then 0 else 1)<30))=true:=by rfl)
  (u:(apos.endLine==cpos.line)=true:=by rfl) (G:starEach (e::es) X.env=(false,eval e X.env)::starEach es X.env:=by rfl) (z:(backTo cpos (starEach es X.env)).any (·.1)=false:=by rfl) :
  PE X (.Call (.Attribute o name apos) (e::es) [] cpos) (Sw X.K T r m t):=by
 intro y s i H Q I h;refine wpAny_Call_method_late w f u rfl (OB (J y s i H _ I h) λv A ⟨x,S,p,l,ty,E⟩=>?_);obtain⟨O,N⟩:=J1 p l ty;refine⟨T,g,F,k,j,O,N,?_⟩;have n:=M cpos y A i S _ p E;rw[G]at n ⊢;refine WY (by show(false||(backTo cpos (starEach es X.env)).any (·.1))=false;rw[z]<;>rfl) (Calls.evalArgs_plain ?_);exact OB n λZ W ⟨q,R,P,B,C⟩=>L y W i R x q v Z Q P l B C
end
def Ou(X:Cx)(id:String)(r:V->LV->Hp->VK->Prop):Prop :=
 ∀(h:NB) (s:Shared) (y:St) (H:Hp) (x:V) (z:LV) (v:Value) (u:LW) (Q:VK),Inv X h y H s->JA x v->lA z u->r x z H Q ->
  wpAny (model X.prog X.w) X.A (call (.builtin id) (v::u)) (EP X h y Q) X.xe s
theorem lA.one:∀{x:V}{us:LW},lA [x] us->∃u,us=[u]/\JA x u
 |_,_,.cons r .nil=>⟨_,rfl,r⟩
theorem lA.eraseIdx:∀{xs:LV}{us:LW}(i:Nat),lA xs us->lA (xs.eraseIdx i) (us.eraseIdx i)
 |_,_,_,.nil=>.nil|_,_,0,.cons _ t=>t|_,_,i+1,.cons r t=>.cons r (lA.eraseIdx i t)
theorem ZO{α:Type}:∀(l:List α) (i:Nat),(l.eraseIdx i).length<=l.length
 |[],_=>QS _|_::_,0=>we _|_::r,i+1=>Wp (ZO r i)
section
variable{X:Cx}{y:NB}{σ:St}{H:Hp}{s:Shared}{l b:Addr}{xs v w:LV}
theorem Inv.lset{its its':LW}{n:Nat}{f:Array Value->Array Value}{t':Nat}(I:Inv X y σ H s)(a:H l=some (.lst xs))
  (e:s.heap.get? l=some { cls:=.type "list",data:=.seq its.toArray n }) (k:f its.toArray=its'.toArray) (hv:lA v its') (h:v.length<=sizeLine) :
  Inv X y σ (BA H l (.lst v)) { s with heap:=s.heap.update l (Q6 f),toks:=t' }:=by
 have q:=PySem.IsL.update e f;rw[k]at q;refine I.write (x:=l) (e:=l) (by rw[a];exact trivial) (.inl rfl) (λg u hb z=>(QAu s.heap (Q6 f) (Q4 hb)).trans z) ⟨_,q⟩ ?_;exact⟨h,its',_,hv,q⟩
theorem Inv.lnew{its:LW}{t':Nat}(I:Inv X y σ H s)(hv:lA v its)(h:v.length<=sizeLine) :
  Inv X y σ (BA H s.heap.objs.size (.lst v)) { s with heap:=s.heap.push { cls:=.type "list",data:=.seq its.toArray },toks:=t' } :=
 I.laid (λ_ _ q=>QH _ q) (QS _) ⟨h,its,0,hv,QU _ rfl⟩
theorem Inv.fresh(I:Inv X y σ H s):H s.heap.objs.size=none:=I.hok.fresh (QS _)
theorem Inv.lstM(I:Inv X y σ H s)(h:H l=some (.lst xs)):xs.length<=sizeLine/\∃(its:LW) (n:Nat),lA xs its/\xs.length=its.length/\s.heap.get? l=some { cls:=.type "list",data:=.seq its.toArray n }:=by obtain⟨z,its,n,r,e⟩:=I.hok l _ h;exact⟨z,its,n,r,r.length,e⟩
theorem k5{n:Nat}(h:n<=sizeLine):WK n=false:=by unfold WK;exact dF (by omega)
end
section
variable{X:Cx}
def eP:V->LV->Hp->VK->Prop:=λx z H Q=>∃l h y,x=.ref l/\z=[y]/\H l=some (.lst h)/\h.length<sizeLine/\Q .non (BA H l (.lst (h++[y])))
theorem yZ:Ou X "list.append" eP:=by intro k s i H x m v o Q I b f h;obtain⟨l,j,y,rfl,rfl,a,p,q⟩:=h;cases b;obtain⟨u,rfl,g⟩:=f.one;obtain⟨z,w,n,r,hl,e⟩:=I.lstM a;refine QBz F.slot_list_append ⟨_,e,rfl⟩ F.entry_list_append (F.args_list_append_2 _ _) (PySem.list_append l w.toArray n u (by rw[QN];omega)) ⟨e,?_⟩;refine⟨.non,_,I.lset (its':=w++[u]) a e (by simp) (r.append (.cons g .nil)) ?_,rfl,q⟩;rw[QI,qF];omega
def f9:V->LV->Hp->VK->Prop:=λx z H Q=>∃l b y h,x=.ref l/\z=[.ref b]/\H l=some (.lst y)/\H b=some (.lst h)/\y.length+h.length<=sizeLine/\Q .non (BA H l (.lst (y++h)))
theorem jZ:Ou X "list.extend" f9:=by
 intro f s K H x E v G Q I i j h;obtain⟨l,b,C,A,rfl,rfl,g,Z,J,q⟩:=h;cases i;obtain⟨u,rfl,m⟩:=j.one;cases m;obtain⟨z,w,n,r,hl,e⟩:=I.lstM g;obtain⟨B,y,p,o,Y,W⟩:=I.lstM Z;have a:w.toArray.size+y.toArray.size<=sizeLine:=by rw[QN,QN];omega
 have k:¬ (!w.toArray.isEmpty&&WK (w.toArray.size+y.toArray.size))=true:=by rw[k5 a,QBJ];exact QG
 refine QBz F.slot_list_extend ⟨_,e,rfl⟩ F.entry_list_extend (F.args_list_extend_2 _ _)
  (AutoSeq1.list_extend_list_list_0 l w.toArray n b y.toArray p k (by rw[QN];omega) (by omega)) ⟨e,W,?_⟩
 refine⟨.non,_,I.lset (its':=w++y) g e (by simp) (r.append o) ?_,rfl,q⟩;rw[QI];omega
def gh:V->LV->Hp->VK->Prop:=λx z H Q=>∃l h i k y,x=.ref l/\z=[.int i]/\H l=some (.lst h)/\-(2 ^ 63)<=i/\i<2 ^ 63/\seqIndex? i h.length=some k/\h[k]?=some y/\Q y (BA H l (.lst (h.eraseIdx k)))
theorem C5:Ou X "list.pop" gh:=by
 intro f s A H x B v C Q I m o h;obtain⟨l,j,i,k,y,rfl,rfl,g,K,W,hk,Y,q⟩:=h;cases m;obtain⟨u,rfl,p⟩:=o.one;obtain⟨t,rfl⟩:=p;obtain⟨z,a,n,r,hl,e⟩:=I.lstM g;obtain⟨w,Z,b⟩:=r.get Y;refine QBz F.slot_list_pop ⟨_,e,rfl⟩ F.entry_list_pop (F.args_list_pop_2 _ _)
  (MeetsSeq.list_pop_at l a.toArray n i t k w (fitsIndex_both K W) (by rw[QN,<- hl];exact hk) (by rw[<- ww];exact Z) (by rw[QN];omega)) ⟨e,?_⟩
 refine⟨y,_,I.lset (its':=a.eraseIdx k) g e ?_ (r.eraseIdx k) ?_,b,q⟩;show a.toArray.eraseIdxIfInBounds k=(a.eraseIdx k).toArray;rw[List.eraseIdxIfInBounds_toArray];have:=ZO j k;omega
end
end L2
namespace Att
open PySem PySem.W PySem.Calls PyProof.Rows
theorem GK{P:Params}{h:Heap}:∀(ns:LJ) (vs:LW),WellAll P h vs (ns.map WData.int)->IntsAre vs ns:=by
 intro ns;induction ns with
 |nil=>intro vs w;rw[WJ]at w;cases w;exact .nil|cons n ns x =>
  intro vs w;rw[QW]at w;cases w with|cons a b=>cases a;exact .cons _ _ (x _ b)
theorem script_of{l:OpenLaw}{n:Nat}(j:l.most=some n){P:Params}{h:Heap}{args:List WData}{x:LW}
  (y:l.row.toRowW.claim.pre args=true) (k:WellAll P h x args) :
  ∃a vs ns,x=[Value.ref a]/\args=[WData.list (ns.map WData.int)]/\h.get? a=some { cls:=.type "list",data:=.seq vs.toArray }/\IntsAre vs ns/\ns.length<=n:=by
 have b:WShape.hasAll [] args [.list .int]=true:=(pre_splitW y).1;have hc:l.pre.holds [] { args:=args }=true:=(pre_splitW y).2;obtain⟨d,r,rfl,p,o⟩:=hasAllW_cons b;obtain rfl:=hasAllW_nil o;obtain⟨s,rfl,m⟩:=hasW_list p;obtain⟨ns,rfl⟩:=items_int m;have z:ns.length<=n:=by
  unfold OpenLaw.pre at hc;have w:(WTm.not (.lt (.lit (.int (n:Int))) (.len (.arg 0)))).holds [] { args:=[.list (ns.map .int)] }=true:=by have w:=(holds_andW hc).1;rw[j]at w;exact w
  have v:=condW_of w (w_not (w_lt w_lit (w_len_list (w_arg rfl))));rw[QD]at v;refine wk λq=>?_;have g:(n:Int)<((ns.length:Nat):Int):=by omega
  first
   | (rw[dT g]at v;exact absurd v (by decide))
   | (simp at v;omega)
 cases k with
 |cons f e =>
  cases e;cases f with|list i u=>exact⟨_,_,ns,rfl,rfl,i,GK ns _ u,z⟩
theorem post_true(l:OpenLaw)(args:List WData):l.row.toRowW.claim.post args (.bool true) args=true :=
 postW_of (r:=l.row.toRowW) (X:=(true==true))
  (show WShape.has [] (.bool true) .bool=true by first|rfl|decide|simp[WShape.has,WShape.arms,WShape.armsAll])
  (show(WTm.eq .res (.lit (.bool true))).value [] { args:=args,res:=some (.bool true),after:=args }=some (.bool (true==true)) from w_eq_bool (w_res rfl) w_lit) rfl
end Att
namespace L2
open PySem PySem.Spec PyProof.Rows
theorem IN:∀{vs:LW}{ns:LJ},IntsAre vs ns->lA (ns.map V.int) vs
 |_,_,.nil=>.nil|_,_,.cons n t h=>.cons ⟨t,rfl⟩ (IN h)
def aq(H:Hp):Prop:=∀b,H b=none∨(∃o h,H b=some (.frz o (.lst h)))∨∃q,H b=some (.tbl q)
theorem N5{P:Program}{w:World}{K:QA}{mg mb:Str->Option Value}{CX:y8}{k:Nat}{fa a:Addr}{fd:FuncData}{x:Str}{sp:Sp}{y:Shared}{vs:LW}{ns:LJ}{T c:Addr}{X:Str}(hT:∀f:Heap,K.In f->∀P q,yP mg f P q->P=T/\q=X)(j:y.heap.TableAt c T #[])(hKT:K.lookup T=none)
  (KX:K.In y.heap) (Q:y.heap.Ns mainGlobals mg) (hb:y.heap.Ns builtinsNs mb) (hbb:∀x:Str,x≠"__name__"->mb x=bootBuiltins x) (R:y.heap.NoLimit) (hg:y.gens=#[])
  (J:y.heap.get? a=some { cls:=.type "list",data:=.seq vs.toArray }) (hi:IntsAre vs ns) (hl:ns.length<=sizeLine) (hr:Room k callerA)
  (F:∀f:Heap,K.In f->f.Ns mainGlobals mg->FnOk P w K mg f CX k fa fd [x] sp) (B:∀(s:Shared) (u:Value),BindsTo s fd ⟨[u],[]⟩ [(x,u)])
  (hsp:∀H:Hp,aq H->FC K H a (ns.map V.int)->sp [.ref a] H (λv _=>v=.bl true) λ_ _ _=>False)
  (hCX:∀H e s',CX [] H y (λ_ _ _=>False) e s'->False) :
  codeAny (model P w) callerA (.call (.ref fa) ⟨[.ref a],[]⟩) (λr s'=>r=.ok (.ret (.bool true))/\OldK y.heap s'.heap/\s'.os=y.os/\AllBare s'.gens) y:=by
 have rv:=IN hi;have O:=hi.length;have W:∀H:Hp,aq H->FC K H a (ns.map V.int)->bL P w H y.heap->(∀b,H b≠none->b=a∨b=T)->(H a≠none->K.lookup a=none)->H T=some (.tbl X) ->
   codeAny (model P w) callerA (.call (.ref fa) ⟨[.ref a],[]⟩) (λr s'=>r=.ok (.ret (.bool true))/\OldK y.heap s'.heap/\s'.os=y.os/\AllBare s'.gens) y:=by
  intro H hO hS A hA hK hP;have l:∀{b:Addr}{o:Obj},y.heap.get? b=some o->H b=none->(ZQ y.heap H).get? b=some o:=λe n=>Y6 e n;have noA:∀{b:Addr}{o:Obj}{L:Array DictEntry}{M:Nat},y.heap.get? b=some o->o.data=.dict L M->H b=none:=λ{b o L M} e d=>by
   cases q:H b with|none=>rfl|some u=>rcases hA b (by rw[q];simp) with e'|e';subst e';rw[J]at e;cases e;have d':Data.seq vs.toArray _=Data.dict L M:=d;cases d';subst e';rw[j.2]at e;cases e;have d':Data.fields #[]=Data.dict L M:=d;cases d'
  have Y:∀{b:Addr}{m:Str->Option Value},y.heap.Ns b m->(ZQ y.heap H).Ns b m:=λ{b m} ⟨o,L,M,e,d,r⟩=>⟨o,L,M,l e (noA e d),d,r⟩
  have G:K.In (ZQ y.heap H):=λb o e=>l (KX b o e) (by
   cases q:H b with|none=>rfl|some u=>rcases hA b (by rw[q];simp) with e'|e';subst e';rw[hK (by rw[q];simp)]at e;cases e;subst e';rw[hKT]at e;cases e)
  have hM:Mod K mg (ZQ y.heap H):=⟨G,Y Q,⟨mb,Y hb,hbb⟩,let⟨mc,h1,h2⟩:=R;⟨mc,Y h1,h2⟩⟩
  have e0:Env0 P w K mg (ZQ y.heap H) callerA [] y H:=⟨rfl,hM,λb o e=>Ua e,wx (sZ _ _),trivial,λb hb=>absurd (show b∈([]:List Addr) from hb) (by simp),λP q t=>(by obtain⟨rfl,rfl⟩:=hT _ G P q t;exact hP),A,.of_eq hg⟩
  refine QCB ((F _ G (Y Q)).run callerA [] y H ⟨[.ref a],[]⟩ [.ref a] [.ref a] _ _ hr e0 (B y (.ref a)) (.cons rfl .nil) (hsp H hO hS)) λr s' h=>?_;cases r with
  |error e=>exact(hCX H e s' h).elim|ok fl =>
   cases fl with
   |next=>exact Qd h|brk=>exact Qd h|cont=>exact Qd h|ret u =>
    obtain⟨v,H',os,bare,un,Z,r',q⟩:=h;have q':v=.bl true:=q;subst q';obtain rfl:u=Value.bool true:=r';have nx:∀b,b∉YX []:=λb z=>absurd (show b∈([]:List Addr) from z) (by simp);refine⟨rfl,⟨λb o e=>?_,λb o e=>un.there b o e (by simp)⟩,os,bare⟩;rcases hO b with z|⟨ob,xs,z⟩| ⟨tq',z⟩
    exact .inl (un.keep b o e z (nx b) (by simp));obtain⟨S,_⟩:=A b _ z;obtain⟨e2,_⟩:=Z b _ (un.frzs b ob _ z);rw[e]at S;cases S;exact .inl e2;have hb:b=T:=by rcases hA b (by rw[z];simp) with rfl|h;obtain⟨ps,S,_⟩:=A b _ z;rw[J]at S;cases S;exact h
    subst hb;obtain⟨ps,e2,_⟩:=Z b _ (un.tbls b _ z);have e0:=e.symm.trans j.2;cases e0;exact .inr (.inl ⟨j.isCodeTable,rfl,#[],ps,rfl,by simpa using e2⟩)
 have aT:a≠T:=λz=>by have e:=j.2;rw[<- z,J]at e;cases e
 have N:∀H:Hp,CA P w H y.heap T (.tbl X):=λH=>⟨#[],j.2,trivial,λpos cv g=>by cases g⟩
 cases hk:K.lookup a with
 |some o =>
  have e:=KX a o hk;rw[J]at e;cases e;refine W (λb=>if b=T then some (.tbl X) else none) (λb=>?_) (.inr ⟨_,vs.toArray,_,hk,rfl,rfl,rfl,by rw[QN,O];exact hl,by simpa using rv⟩) (λb u z=>?_) (λb z=>?_) (λz=>absurd (if_neg aT) z) (if_pos rfl);by_cases hb:b=T
  ·exact .inr (.inr ⟨_,if_pos hb⟩)
  exact .inl (if_neg hb);by_cases hb:b=T
  ·have p:=(if_pos hb).symm.trans z
   cases p;subst hb;exact N _
  have p:=(if_neg hb).symm.trans z;cases p;by_cases hb:b=T
  ·exact .inr hb
  exact absurd (if_neg hb) z
 |none =>
  have C:∀b,b=T->(if b=T then some (.tbl X) else if b=a then some (.frz { cls:=.type "list",data:=.seq vs.toArray } (.lst (ns.map V.int))) else none:Option HO)=some (.tbl X):=λb h=>if_pos h;have I:∀b,b=a->(if b=T then some (.tbl X) else if b=a then some (.frz { cls:=.type "list",data:=.seq vs.toArray } (.lst (ns.map V.int))) else none:Option HO)=some (.frz { cls:=.type "list",data:=.seq vs.toArray } (.lst (ns.map V.int))):=λb h=>(if_neg (h▸aT)).trans (if_pos h);have E:∀b,b≠T->b≠a->(if b=T then some (.tbl X) else if b=a then some (.frz { cls:=.type "list",data:=.seq vs.toArray } (.lst (ns.map V.int))) else none:Option HO)=none:=λb h h2=>(if_neg h).trans (if_neg h2);refine W (λb=>if b=T then some (.tbl X) else if b=a then some (.frz { cls:=.type "list",data:=.seq vs.toArray } (.lst (ns.map V.int))) else none) (λb=>?_) (.inl (.inr ⟨{ cls:=.type "list",data:=.seq vs.toArray },I a rfl⟩)) (λb u z=>?_) (λb z=>?_) (λ_=>hk) (C T rfl);by_cases hb:b=T
  ·exact .inr (.inr ⟨_,C b hb⟩)
  by_cases i:b=a
  ·exact .inr (.inl ⟨_,_,I b i⟩)
  exact .inl (E b hb i);by_cases hb:b=T
  ·have p:=(C b hb).symm.trans z
   cases p;subst hb;exact N _
  by_cases i:b=a
  ·have p:=(I b i).symm.trans z
   cases p;subst i;exact⟨J,by rw[QD];exact hl,vs,_,rv,J⟩
  have p:=(E b hb i).symm.trans z;cases p;by_cases hb:b=T
  ·exact .inr hb
  by_cases i:b=a
  ·exact .inl i
  exact absurd (E b hb i) z
noncomputable def vD(s:Stmt):Arguments:=match s with
 | .FunctionDef _ a _ _ _ _ _ _ _ _=>a|_=>{ posonlyargs:=[],args:=[],vararg:=none,kwonlyargs:=[],kw_defaults:=[],kwarg:=none,defaults:=[] }
def nC(s:Stmt):List Stmt:=match s with
 | .FunctionDef _ _ b _ _ _ _ _ _ _=>b|_=>[]
noncomputable def HA(s:Stmt):Scope:=match s with
 | .FunctionDef _ _ _ _ _ _ sc _ _ _=>sc|_=>{ kind:=.function,names:=[],isGenerator:=false,isCoroutine:=false }
noncomputable abbrev j0:y8:=λ_ _ _ _ _ _=>False
noncomputable abbrev E0:XK:=λ_ _ _=>False
theorem Bn{X:Cx}:zN j0 X E0:=λ_ _ _ _ _ _ _ h=>h.elim
structure Fun(K:QA)(x qual:Str)(st:Stmt)(f:Addr)(fd:FuncData):Prop where
 ex:∃(oc:Value) (od:Option Addr) (kV doc pm:Value) (an:Option Addr) (cdv ct:Value) (osl:Array (Option Value)),
  fd=qr x qual (vD st) (nC st) (HA st) .none kV doc pm an cdv ct/\K.lookup f=some ⟨oc,od,.func fd,osl⟩/\Wi K cdv qual=true
 kp:wJ K (.ref f)=true
section
variable{P:Program}{w:World}{K:QA}{mg:Str->Option Value}{base:Heap}
section
variable{x y:Str}{st:Stmt}{f:Addr}{u:FuncData}{z:LS}
theorem Fun.ok{N:LS}{k:Nat}{b:Sp}(F:Fun K x y st f u)(S:FnScope N z (HA st))(len:∀vs H Q E,b vs H Q E->vs.length=z.length)
  (a:∀(v:Value) (A:Around) (outer:List Env) (s:Shared) (H:Hp) (vs:LV) (Q:VK) (E:XK),Room k (A.deeper (envOfC y (HA st) s.heap.objs.size f v))->b vs H Q E ->
   ∃t,gW (MV j0 P w K mg base N y (HA st) f v A outer s H E).nox (nC st) t/\t { nx:=λ_ m=>Q .non m,rt:=Q } (mD N vs) H):FnOk P w K mg base j0 (k+1) f u z b:=by
 obtain⟨p,o,kV,l,n,X,v,r,i,rfl,lk,g⟩:=F.ex;refine ae lk g S len λA outer s H vs Q E j e=>?_;obtain⟨t,h,q⟩:=a v A outer s H vs Q E j e;exact⟨t,h.nox,q⟩
theorem Fun.binds(F:Fun K x y st f u)
  (h:∀(kV v a:Value) (b:Option Addr) (k ct:Value) (us:LW),us.length=z.length->bindArgs (qr x y (vD st) (nC st) (HA st) .none kV v a b k ct) ⟨us,[]⟩=pure (z.zip us)):oJ K u z []:=by
 obtain⟨j,i,kV,v,a,b,k,ct,e,rfl,lk,g⟩:=F.ex;exact .all (h kV v a b k ct)
theorem rj{i:Value}{g e:Option Addr}{a:Array (Option Value)}{kV v b h ct:Value}(l:K.lookup f=some ⟨i,g,.func (qr x y (vD st) (nC st) (HA st) .none kV v b e h ct),a⟩)
  (c:Wi K h y=true) (k:wJ K (.ref f)=true):Fun K x y st f (qr x y (vD st) (nC st) (HA st) .none kV v b e h ct):=⟨⟨i,g,kV,v,b,e,h,ct,a,rfl,l,c⟩,k⟩
end
end
def Same(H h:Hp):Prop:=∀b o,H b=some o->h b=some o
theorem Same.refl(H:Hp):Same H H:=λ_ _ h=>h
theorem Same.trans{H y x:Hp}(a:Same H y)(b:Same y x):Same H x:=λc o h=>b c o (a c o h)
theorem Same.free{H x:Hp}(e:Same H x){l:Addr}(h:x l=Option.none):H l=Option.none:=by
 cases q:H l with|none=>rfl|some o=>rw[e l o q]at h;cases h
theorem Same.seq{K:QA}{H x:Hp}{a:Addr}{xs:LV}(e:Same H x)(h:FC K H a xs):FC K x a xs:=by rcases h with(h|⟨o,h⟩)|h;exact .inl (.inl (e _ _ h));exact .inl (.inr ⟨o,e _ _ h⟩);exact .inr h
noncomputable def CN(env:Env):List (Str×NameKind)->List (Str×Addr)->List (Str×Addr)
 |[],cs=>cs|(n,k)::r,cs=>CN env r (if k==.free then(n,(env.cells.lookup n).getD 0)::cs else cs)
theorem RV{u:Scope}{env:Env}(h:∀y∈u.names,y.2=.free->∃c,env.cells.lookup y.1=some c):closureFor u env=pure (CN env u.names []):=by
 have key:∀(l:List (Str×NameKind)) (v:List (Str×Addr)),(∀y∈l,y.2=.free->∃c,env.cells.lookup y.1=some c) ->
   (forIn l v λ(x:Str×NameKind) (r:List (Str×Addr))=>(if(x.2==NameKind.free)=true then(do let c <- cellOf env x.1;pure (ForInStep.yield ((x.1,c)::r))) else pure (ForInStep.yield r):Sem (ForInStep (List (Str×Addr)))))=pure (CN env l v):=by
  intro l;induction l with
  |nil=>intro v _;rfl|cons y l a =>
   intro v hl;obtain⟨n,k⟩:=y;rw[W5];by_cases hk:k=.free;subst hk;obtain⟨c,hc⟩:=hl (n,.free) QF rfl;have hc:env.cells.lookup n=some c:=hc;simp only[beq_self_eq_true,if_true,cellOf,hc,pure_bind,CN,Wq];exact a _ λz w=>hl z (QE _ w);have hb:(k==NameKind.free)=false:=by simpa using hk
   simp only[hb,Qq,if_false,pure_bind,CN];exact a _ λz w=>hl z (QE _ w)
 have e:=key u.names [] h;unfold closureFor;exact(congrArg (· >>= pure) e).trans (pure_bind _ _)
theorem FO{env:Env}{x:Str}{c:Addr}:∀(l:List (Str×NameKind)) (cs:List (Str×Addr)),(∀y∈l,y.2=.free->∃c,env.cells.lookup y.1=some c)->(∀c,cs.lookup x=some c->env.cells.lookup x=some c) ->
  (CN env l cs).lookup x=some c->env.cells.lookup x=some c
 |[],cs,_,hc,h=>hc c h|(n,k)::r,cs,hl,hc,h=>by
  refine FO r _ (λz a=>hl z (QE _ a)) (λd u=>?_) h;by_cases hk:k=.free;subst hk;obtain⟨e,v⟩:=hl (n,.free) QF rfl;have v:env.cells.lookup n=some e:=v;simp only[beq_self_eq_true,if_true,v,Wq,wl]at u;cases w:x==n with|true=>rw[w]at u;cases u;rw[qZ w];exact v|false=>rw[w]at u;exact hc d u
  have hb:(k==NameKind.free)=false:=by simpa using hk
  simp only[hb,Qq,if_false]at u;exact hc d u
theorem GM{env:Env}{x:Str}:∀(l:List (Str×NameKind)) (cs:List (Str×Addr)),((∃c,cs.lookup x=some c)∨(x,NameKind.free)∈l)->∃c,(CN env l cs).lookup x=some c
 |[],cs,h=>by rcases h with h|h;exact h;cases h
 | (n,k)::r,cs,h=>by
  refine GM r _ ?_;rcases h with⟨c,h⟩| h;refine .inl ?_;split;rw[wl];split;exact⟨_,rfl⟩;exact⟨c,h⟩;exact⟨c,h⟩;rcases QL.mp h with h|h
  ·cases h
   refine .inl ?_;simp
  exact .inr h
def KB:List Bool->Nat->LS->LS
 |b::m,j,x::N=>(if b then⟨#[46,j]⟩ else x)::KB m (j+1) N|_,_,N=>N
def HC:List Bool->St->St
 |b::m,v::σ=>(if b then none else v)::HC m σ|_,σ=>σ
theorem MJ:∀(m:List Bool) (σ:St),(HC m σ).length=σ.length
 |[],σ=>by unfold HC;rfl|_::_,[]=>by unfold HC;rfl|b::m,v::σ=>by unfold HC;rw[QM,QM,MJ m σ]
theorem BO:∀(m:List Bool) (j:Nat) (N:LS),(KB m j N).length=N.length
 |[],_,N=>by unfold KB;rfl|_::_,_,[]=>by unfold KB;rfl|b::m,j,x::N=>by unfold KB;rw[QM,QM,BO m (j+1) N]
theorem rM:∀(m:List Bool) (j:Nat) (N:LS) (σ:St) (i:Nat) (v:V),(HC m σ)[i]?=some (some v)->σ[i]?=some (some v)/\(KB m j N)[i]?=N[i]?
 |[],_,N,σ,i,v,h=>by unfold HC at h;unfold KB;exact⟨h,rfl⟩|_::_,_,N,[],i,v,h=>by unfold HC at h;simp at h|b::m,j,[],w::σ,i,v,h=>by
  unfold HC at h;cases i with
  |zero =>
   cases b with|true=>simp at h|false=>simp at h;subst h;exact⟨by simp,by unfold KB;rfl⟩
  |succ i=>have q:=(rM m (j+1) [] σ i v (by simpa using h)).1;exact⟨by simpa using q,by unfold KB;rfl⟩
 |b::m,j,x::N,w::σ,0,v,h=>by
  unfold HC at h;cases b with|true=>simp at h|false=>simp at h;subst h;exact⟨by simp,by unfold KB;simp⟩
 |b::m,j,x::N,w::σ,i+1,v,h=>by unfold HC at h;have q:=rM m (j+1) N σ i v (by simpa using h);unfold KB;exact⟨by simpa using q.1,by simpa using q.2⟩
noncomputable def ML(h sc:Scope):Scope :=
  { h with names:=h.names.map λ(n,k)=>if(k==.free&&sc.kind==.function&&sc.names.lookup n==some .cell) then(n,.cell) else(n,k) }
theorem BC(sc:Scope)(x:Str):∀(l:List (Str×NameKind)),
  (l.map λ(n,k)=>if(k==NameKind.free&&sc.kind==.function&&sc.names.lookup n==some .cell) then(n,NameKind.cell) else(n,k)).lookup x =
   (l.lookup x).map λk=>if(k==NameKind.free&&sc.kind==.function&&sc.names.lookup x==some .cell) then NameKind.cell else k
 |[]=>rfl|(n,k)::r=>by
  rw[QW];have e:(if(k==NameKind.free&&sc.kind==.function&&sc.names.lookup n==some .cell)=true then(n,NameKind.cell) else(n,k)) =
    (n,if(k==NameKind.free&&sc.kind==.function&&sc.names.lookup n==some .cell)=true then NameKind.cell else k):=by split<;>rfl
  show QCR x ((if(k==NameKind.free&&sc.kind==.function&&sc.names.lookup n==some .cell)=true then(n,NameKind.cell) else(n,k))::_)=_;rw[e,wl,wl];cases h:x==n with|true=>rw[qZ h];simp|false=>exact BC sc x r
structure CompSt(N:LS)(sc scope:Scope)(tgs:LS)(mask:List Bool):Prop where
 kind:scope.kind=.function
 nocell:∀y∈scope.names,y.2≠.cell
 names:∀y∈scope.names,y.2=.local->scope.names.lookup y.1=some .local
 free:∀y∈scope.names,y.2=.free->sc.names.lookup y.1=some .cell∨sc.names.lookup y.1=some .free
 loc:∀y∈scope.names,y.2=.local->y.1∈tgs∨y.1=(".0":Str)
 nd:(tgs++KB mask 0 N).Nodup
 no0:(".0":Str)∉tgs++KB mask 0 N
noncomputable def LA(X:Cx)(h:Scope)(y:LS)(x:List Bool)(s:Shared)(H:Hp)(ex:List Addr):Cx :=
  { X with N:=y++KB x 0 X.N,s₀:=s,H₀:=H,env:=compEnvC h (CN X.env h.names []) s.heap.objs.size X.env,outer:=X.stack,stack:=X.stack,ex:=ex,fn:=λ_=>false,pn:=[],xe:=λ_ _=>False }
def NI(k:Nat)(h:List Bool)(σ:St):St:=QAQ k none++HC h σ
section
variable{X:Cx}{f:NB}{σ:St}{H:Hp}{s:Shared}{w:Scope}{d:LS}{a:List Bool}{ex:List Addr}
theorem CompSt.cells(C:CompSt X.N X.env.scope w d a)(ok:X.Ok):∀y∈w.names,y.2=.free->∃c,X.env.cells.lookup y.1=some c:=λy h x =>
 ok.has y.1 (C.free y h x)
theorem CompSt.kindCF(C:CompSt X.N X.env.scope w d a){x:Str}(h:(relabel w X.env).names.lookup x=some .cell∨(relabel w X.env).names.lookup x=some .free):(x,NameKind.free)∈w.names:=by
 have e:=BC X.env.scope x w.names;have u:(relabel w X.env).names.lookup x=(w.names.lookup x).map λk=>if(k==NameKind.free&&X.env.scope.kind==.function&&X.env.scope.names.lookup x==some .cell) then NameKind.cell else k:=e
 rw[u]at h;cases q:w.names.lookup x with
 |none=>rw[q]at h;simp at h|some k =>
  have y:=qO q;have z:=C.nocell _ y;cases k with|free=>exact y|cell=>exact absurd rfl z|«local»=>rw[q]at h;simp at h|_=>rw[q]at h;simp at h
theorem NV(I:Inv X f σ H s)(C:CompSt X.N X.env.scope w d a)(n:∀b∈ex,nJ X f H b/\b<s.heap.objs.size){h':Heap}{t':Nat}
  (hn:h'.Ns s.heap.objs.size (λ_=>none)) (hs:qW s.heap.objs.size (s.heap.push { cls:=.type "dict",data:=.dict #[] }) h') :
  Inv (LA X w d a s H ex) [] (NI d.length a σ) H { s with heap:=h',toks:=t' }:=by
 have kept:∀b u,s.heap.get? b=some u->h'.get? b=some u:=λb u e=>hs.extBut b u (Qk (QX e)) (QH _ e);have look:∀x c,(CN X.env w.names []).lookup x=some c->X.env.cells.lookup x=some c:=λx c e=>FO w.names [] (C.cells I.ok) (λc z=>by simp at z) e;have nofs:∀b∈ex,b∉YX X.stack:=λb hb z=>by obtain⟨⟨_,f1,f2,_⟩,_⟩:=n b hb;rcases QL.mp (I.stkSub b z) with e|e;exact f1 e;exact f2 e
 refine⟨⟨I.ok.mod,C.kind,I.ok.glob,I.ok.blt,QS _,λx y c E j=>I.ok.inj x y c (look x c E) (look y c j),λx hx=>?_,λx c hf _=>absurd (show false=true from hf) QG,I.ok.hd,I.ok.frames,.inl rfl,λb hb=>?_,I.bs,QV I.ok.bsz I.sz,λb o e hb=>?_,nofs,I.stack,I.stkFree,I.tb⟩,
  rfl,I.bare,Un.kept kept,⟨_,hn,λi x v E j h3=>?_⟩,λx c h=>?_,I.hok.fresh (QS _),λx c h=>I.freeC x c (look x c h),λp hp=>absurd (show p∈([]:NB) from hp) (by simp),I.hok.kept kept,?_⟩
 exact GM w.names [] (.inr (C.kindCF hx));obtain⟨⟨_,_,_,_,f4,_⟩,lt⟩:=n b hb;exact⟨Qk lt,λx c e=>f4 x c (look x c e)⟩;obtain⟨⟨_,_,_,f3,_⟩,_⟩:=n b hb;rcases f3 with z|z;exact I.ok.noex b o e z;exact absurd (Qn (QX (I.ok.bs b o e).1) z) (wA _)
 ·
  have hi:d.length<=i:=by rcases QA2 i d.length with z|z;unfold NI at j;rw[qT (by simpa using z),wc]at j;split at j<;>cases j;exact z
  have Z:(KB a 0 X.N)[i - d.length]?=some x:=by have:(d++KB a 0 X.N)[i]?=some x:=E;rw[qH hi]at this;exact this
  have O:(HC a σ)[i - d.length]?=some (some v):=by unfold NI at j;rw[qH (by simpa using hi)]at j;simpa using j
  obtain⟨g1,g2⟩:=rM a 0 X.N σ _ v O;rw[g2]at Z;have A:x∈d++KB a 0 X.N:=qN (show(d++KB a 0 X.N)[i]?=some x from E);have K:x∉d:=λz=>by have nd:=C.nd;rw[qj]at nd;exact nd.2.2 x z x (qN (by rw[g2];exact Z)) rfl
  have g:(x,NameKind.free)∈w.names:=by
   rcases h3 with z|z|z;exfalso;have e:(relabel w X.env).names.lookup x=some .local:=z;have Q:=BC X.env.scope x w.names;have P:(relabel w X.env).names.lookup x=(w.names.lookup x).map λk=>if(k==NameKind.free&&X.env.scope.kind==.function&&X.env.scope.names.lookup x==some .cell) then NameKind.cell else k:=Q
   rw[P]at e;cases q:w.names.lookup x with
   |none=>rw[q]at e;cases e|some k =>
    rw[q]at e;have L:=qO q;have G:k=.local:=by
     cases k with|«local»=>rfl|free=>simp at e;split at e<;>cases e|_=>simp at e
    subst G;rcases C.loc _ L rfl with z|z;exact K z;exact C.no0 (z▸A)
   exact C.kindCF (.inl z);exact C.kindCF (.inr z)
  obtain⟨m,hnm,hl⟩:=I.loc;have F:Ul X.env.scope x:=.inr (C.free _ g rfl);obtain⟨u,r,l⟩:=hl _ x v Z g1 F;refine⟨u,r,?_⟩;rcases l with⟨k,_⟩| ⟨_,c,hc,Y⟩
  exfalso;have S:X.env.scope.names.lookup x=some .local:=k;rcases C.free _ g rfl with z|z;have W:X.env.scope.names.lookup x=some .cell:=z;rw[S]at W;cases W;have W:X.env.scope.names.lookup x=some .free:=z;rw[S]at W;cases W;obtain⟨R,B⟩:=GM (env:=X.env) w.names [] (.inr g);have:R=c:=by have:=look x R B;rw[hc]at this;exact(Qm this).symm
  subst this;refine .inr ⟨?_,R,B,?_⟩;rcases h3 with z|z|z
  ·exfalso
   have e:(relabel w X.env).names.lookup x=some .local:=z;have Q:=BC X.env.scope x w.names;have P:(relabel w X.env).names.lookup x=(w.names.lookup x).map λk=>if(k==NameKind.free&&X.env.scope.kind==.function&&X.env.scope.names.lookup x==some .cell) then NameKind.cell else k:=Q
   rw[P]at e;cases q:w.names.lookup x with
   |none=>rw[q]at e;cases e|some k =>
    rw[q]at e;have L:=qO q;have G:k=.local:=by
     cases k with|«local»=>rfl|free=>simp at e;split at e<;>cases e|_=>simp at e
    subst G;rcases C.loc _ L rfl with z|z;exact K z;exact C.no0 (z▸A)
  exact .inl z;exact .inr z;obtain⟨o,J,M⟩:=Y;exact⟨o,kept _ _ J,M⟩
 obtain⟨v,o,J,M⟩:=I.cell x c (look x c h);exact⟨v,o,kept _ _ J,M⟩;show(NI d.length a σ).length=(d++KB a 0 X.N).length;unfold NI;rw[QI,QI,qt,MJ,BO,I.len]
end
section
variable{X:Cx}{h:NB}{σ a:St}{H k:Hp}{s s':Shared}{x:Scope}{d:LS}{w:List Bool}{ex:List Addr}{D:Addr}{y:LV}{its:LW}
theorem OV(I:Inv X h σ H s)(l:∀b∈ex,nJ X h H b/\b<s.heap.objs.size)(W:D∈ex)(J:Inv (LA X x d w s H ex) [] a k s')(f:k D=none)(hv:lA y its)(B:y.length<=sizeLine)
  (hl:s'.heap.PlainList D its.toArray) {g:Heap}(C:qW s.heap.objs.size s'.heap g):Inv X h σ (BA k D (.lst y)) { s' with heap:=g }:=by
 have un:Un (YX X.stack) ex H k s.heap s'.heap:=J.base;have j:∀b o,s.heap.get? b=some o->b≠s.heap.objs.size:=λb o e=>Qk (QX e);have E:=l D W;have Z:k s.heap.objs.size=none:=J.free;have N:D≠s.heap.objs.size:=Qk E.2;have m:∀b u,b≠s.heap.objs.size->s'.heap.get? b=some u->g.get? b=some u:=λb u A e=>C.extBut b u A e;refine I.call' (s':={ s' with heap:=g }) (ch:=ex) J.os ⟨λb o e n hb i=>?_,λb o e n hb i=>?_,λb o e n i=>?_,λb o e i=>?_,λb p e=>?_,λb o u e=>?_,λb r e=>?_⟩ ?_ J.bare λb hb=>?_;exact m b o (j b o e) (un.keep b o e n hb i);obtain⟨K,q⟩:=un.slot b o e n hb i;exact⟨K,m b _ (j b o e) q⟩;have q:=un.free b o e n i;rw[kA (λ(z:b=D)=>i (by rw[z];exact W))];exact q;obtain⟨Y,q⟩:=un.there b o e i;exact⟨Y,m b Y (j b o e) q⟩;rw[kA (iA (un.tups b p e) f)];exact un.tups b p e;rw[kA (iA (un.frzs b o u e) f)];exact un.frzs b o u e;rw[kA (iA (un.tbls b r e) f)];exact un.tbls b r e;intro b u e;by_cases hb:b=D;subst hb;rw[aA]at e;cases e;obtain⟨n,q⟩:=hl;exact⟨B,its,n,hv,m _ _ N q⟩;rw[kA hb]at e;refine(J.hok b u e).stay (λc v hc q=>m c v ?_ q) (λc q=>?_) λc p q=>?_;rintro rfl;rcases hc with z|z;subst z;rw[Z]at e;cases e;rw[Z]at z;cases z;rw[kA (iA q f)];exact q;rw[kA (iA q f)];exact q;obtain⟨⟨P,M,O,L,G,F⟩,_⟩:=l b hb;exact⟨L,M,G,F⟩
end
section
variable{X:Cx}{s:Shared}{V Z K:Expr}{U:List Expr}{d:Scope}{pos:Pos}{B:TI}{g:TG}{tc:TT}{te:TE}{Y:LS}{j:List Bool}{l:NB}
def pq(X:Cx)(U:List Expr)(t:TT):Prop:=∀(l:NB) (s:Shared) (h:St) (H:Hp) (Q:Bool->Hp->Prop),Inv X l h H s->t h H Q ->
 wpAny (model X.prog X.w) X.A (forIn U true λc r=>if r=true then do let ok <- isTrue c X.env (eval c X.env);pure (ForInStep.yield ok) else pure (ForInStep.yield r)) (TP X l h Q) X.xe s
theorem AW:pq X [] (λ_ H Q=>Q true H):=λl s x H Q I h=>by rw[QBN];exact QK ⟨H,I,h⟩
theorem TW{c:Expr}{t:TT}(hc:PT X c t):pq X [c] t:=λl s x H Q I h=>by rw[W5];simp only[if_true];refine QC (QC (OB (hc l s x H Q I h) λb y q=>QK ?_));dsimp only;rw[QBN];exact QK q
theorem yH{prog:Program}{w:World}{A:Around}{R:Result->Shared->Prop}{y:Expr}{it q:Value}{env:Env}(I:Nat->Shared->Prop)
  (W:∀n s,I n s->wpAny (model prog w) A (pyNext it) (λr k=>match r with
   |none=>R (.ok .next) k|some v=>wpAny (model prog w) A (letOwnedTupleGo y it v) (λ_ u=>wpAny (model prog w) A (assign y env v) (λ_ f =>
     wpAny (model prog w) A (forIn U true λc r=>if r=true then do let ok <- isTrue c env (eval c env);pure (ForInStep.yield ok) else pure (ForInStep.yield r)) (λok z =>
      if ok=true then wpAny (model prog w) A (eval V env) (λx e =>
       wpAny (model prog w) A (call (.builtin "list.append") [q,x]) (λ_ b=>∃m,m<n/\I m b) (λ_ _=>False) e) (λ_ _=>False) z
      else ∃m,m<n/\I m z) (λ_ _=>False) f) (λ_ _=>False) u) (λ_ _=>False) k) (λ_ _=>False) s)
  (n:Nat) (h:I n s) :
  codeAny (model prog w) A (.compLoop (.ListComp V [⟨y,Z,U,0⟩] d pos) 0 it q env) R s:=by
 refine codeAny_loop rfl I (λn s G=>?_) n h;show wpAny _ A ((compTurn (.ListComp V [⟨y,Z,U,0⟩] d pos) 0 it q env).onRaise (λx=>do noteFrame x env;theTreesLotGoes x)) _ _ s;refine wpAny_noted ?_;rw[compTurn_list];refine QC (QBi (QC (qw (W n s G) (λr k o=>?_) λ_ _ a=>a.elim)));cases r with
 |none=>exact QK o|some v =>
  refine QC (qw o (λ_ u p=>?_) λ_ _ a=>a.elim);refine QC (qw p (λ_ f F=>QC (qw F (λok z i=>?_) λ_ _ a=>a.elim)) λ_ _ a=>a.elim);cases ok with|false=>exact QK ⟨rfl,i⟩|true=>exact QC (QC (qw i (λx e E=>QC (qw E (λ_ b C=>QK (QK ⟨rfl,C⟩)) λ_ _ a=>a.elim)) λ_ _ a=>a.elim))
noncomputable def C1(B:TI)(g:TG)(tc:TT)(te:TE)(k:Nat)(j:List Bool):TE:=λa H Q=>B a H λJ q=>∃W:Nat->Nat->LV->St->Hp->Prop,(∃m,W 0 m [] (NI k j a) q) /\
 ∀i m h v u,W i m h v u->(J.stop i u/\h.length<=sizeLine/\∀p,u p=none->Q (.ref p) (BA u p (.lst h))) ∨
  (J.go i u/\∀x f,J.yld i u x f->g x v f λz o=>tc z o λb e=>if b=true then te z e λy n=>h.length<sizeLine/\∃w,w < m/\W (i+1) w (h++[y]) z n else ∃w,w < m/\W (i+1) w h z e)
def Dq(X:Cx)(l:NB)(H:Hp)(s:Shared)(C:Addr):Prop :=
 H C=none/\C≠X.env.locals/\X.s₀.heap.objs.size<=C/\(∀x c,X.env.cells.lookup x=some c->c≠C)/\(∀p∈X.pn++l,p.1≠C)/\∃m,s.heap.Ns C m
theorem xT{pos':Pos}{use:Option (Value->Sem Unit)}(hc:X.calm=true)(hi:PI X K Z B)(C:CompSt X.N X.env.scope d Y j)
  (inner:∀s H ex,PG (LA X d Y j s H ex) K g/\pq (LA X d Y j s H ex) U tc/\PE (LA X d Y j s H ex) V te)
  (hs:∀x,foldedSetIterable Z X.env x=pure x) {σ:St}{H:Hp}{Q:VK}{QQ:aC}(I:Inv X l σ H s) (h:C1 B g tc te Y.length j σ H Q)
  (fin:∀(D:Addr) (f:Hp) (s6:Shared) (F:Addr),Inv X l σ f s6->Dq X l f s6 F->Q (.ref D) f->compPost (model X.prog X.w) X.A X.xe use QQ (.ref D) F (.ok .next) s6) :
  wpAny (model X.prog X.w) X.A (comprehension (.ListComp V [⟨K,Z,U,0⟩] d pos) d X.env pos' (newList []) false (eval Z X.env) use) QQ X.xe s:=by
 refine wpAny_comprehension_free (use:=use) rfl hs (RV (C.cells I.ok)) C.kind C.names (OB (hi l s σ H _ I h) λv s1 h1=>OB h1 λitv s2 h2=>?_);obtain⟨it,a,tn,J,E,e,I2,T,st2,f2,W,⟨m0,w0⟩,turn⟩:=h2;subst e;refine Q0 ?_;have I3:Inv X l σ E { s2 with heap:=s2.heap.push { cls:=.type "list",data:=.seq ([]:LW).toArray } }:=I2.kept (t':=s2.toks) λb o e=>QH _ e;generalize hS:({ s2 with heap:=s2.heap.push { cls:=.type "list",data:=.seq ([]:LW).toArray } }:Shared)=s3 at I3;have sz3:s3.heap.objs.size=s2.heap.objs.size+1:=by rw[<- hS];exact QAR ..
 have lst3:s3.heap.PlainList s2.heap.objs.size ([]:LW).toArray:=⟨0,by rw[<- hS];exact QU _ rfl⟩
 have old3:∀b o,s2.heap.get? b=some o->s3.heap.get? b=some o:=λb o e=>by rw[<- hS];exact QH _ e
 generalize hDd:s2.heap.objs.size=D at sz3 lst3;have fD:nJ X l E D:=by rw[<- hDd];exact I2.fpOk (QS _) (I2.hok.fresh (QS _))
 have fpl:∀b∈a,b<D:=λb hb=>by obtain⟨o,e,_⟩:=T.obj _ _ st2 b hb;rw[<- hDd];exact QX e
 have hex:∀b∈D::a,nJ X l E b/\b<s3.heap.objs.size:=λb hb=>by rcases QL.mp hb with z|z;subst z;exact⟨fD,by rw[sz3];exact QCI _⟩;exact⟨f2 b z,by rw[sz3];exact w6 (fpl b z)⟩
 refine QBD C.nocell (by intro y hy;simp at hy) (λh' hn hsb=>?_) C.kind;have J0:Inv (LA X d Y j s3 E (D::a)) [] (NI Y.length j σ) E { s3 with heap:=h',toks:=s3.toks+([]:List (Str×Value)).length }:=NV I3 C hex hn hsb;have kept:∀b u,s3.heap.get? b=some u->h'.get? b=some u:=λb u e=>hsb.extBut b u (Qk (QX e)) (QH _ e);obtain⟨pg,pf,pl⟩:=inner s3 E (D::a);have loop:∀s4:Shared,s4={ s3 with heap:=h',toks:=s3.toks+([]:List (Str×Value)).length } ->
   codeAny (model X.prog X.w) X.A (.compLoop (.ListComp V [⟨K,Z,U,0⟩] d pos) 0 (.ref it) (.ref D) (compEnvC d (CN X.env d.names []) s3.heap.objs.size X.env))
    (compPost (model X.prog X.w) X.A X.xe use QQ (.ref D) s3.heap.objs.size) s4:=by
  rintro s4 rfl;have exok:∀{f:Hp},(∀b∈D::a,f b=none)->∀(pp:NB),(∀p∈pp,p.1∉a)->∀b∈a,nJ (LA X d Y j s3 E (D::a)) pp f b:=λ{f} hn pp hpp b hb=>by have g:=J0.ok.exf b (QE _ hb);exact⟨hn b (QE _ hb),g.1,J0.ok.exfs b (QE _ hb),.inl (QE _ hb),g.2,λp G z=>hpp p (by simpa[LA]using G) (z▸hb)⟩
  have DX:=J0.ok.exf D QF;have Dfp:D∉a:=λz=>wA _ (fpl D z);refine yH (λn M=>∃i m f L k,Inv (LA X d Y j s3 E (D::a)) [] m f M/\tn i M.heap/\(∀b∈D::a,f b=none)/\lA L k/\M.heap.PlainList D k.toArray/\W i n L m f) ?_ m0
   ⟨0,_,E,[],[],J0,T.keep _ _ _ (T.keep _ _ _ st2 λb hb o e=>old3 b o e) λb hb o e=>kept b o e,λb hb=>((hex b hb).1).1,.nil,lst3.at λo e=>kept _ _ e,w0⟩
  rintro n s5 ⟨i,P,H5,L,k,I5,st5,fr5,va5,ls5,w5⟩;obtain⟨R,lo⟩:=id ls5;have pinD:∀{m:St}{f:Hp}{M:Shared},Inv (LA X d Y j s3 E (D::a)) [] m f M->(∀b∈D::a,f b=none)->M.heap.get? D=some { cls:=.type "list",dict:=none,data:=.seq k.toArray R } ->
    Inv (LA X d Y j s3 E (D::a)) [(D,{ cls:=.type "list",dict:=none,data:=.seq k.toArray R })] m f M:=λ{m f M} I' fr' e' =>
   I'.pins_of λp G=>by
    have e:p=(D,{ cls:=.type "list",dict:=none,data:=.seq k.toArray R }):=by simpa using G
    subst e;exact⟨e',fr' D QF,DX.1,J0.ok.exfs D QF,λv z=>by cases z⟩
  have S:∀p∈[(D,({ cls:=.type "list",dict:=none,data:=.seq k.toArray R }:Obj))],p.1∉a:=λp G=>by
   have e:p=(D,{ cls:=.type "list",dict:=none,data:=.seq k.toArray R }):=by simpa using G
   subst e;exact Dfp
  have I5':=pinD I5 fr5 lo;rcases turn i n L P H5 w5 with⟨stop,hz,qn⟩| ⟨go,step⟩
  refine OB (T.done (LA X d Y j s3 E (D::a)) rfl rfl rfl hc i _ s5 P H5 (λ_ _=>False) I5' (exok fr5 _ S) st5 stop) λr s6 ⟨hr,I6⟩=>?_;subst hr;obtain⟨m6,hn6,_⟩:=I6.loc;have l6:s6.heap.PlainList D k.toArray:=⟨R,(I6.pin _ (Qb _ (QJ.mpr rfl))).1⟩
  have I6':Inv (LA X d Y j s3 E (D::a)) [] P H5 s6:=I6.pins_of λp G=>by simp at G
  have Iout:Inv X l σ (BA H5 D (.lst L)) s6:=OV I3 hex QF I6' (fr5 D QF) va5 hz l6 (qW.refl _ _);have lC:H5 s3.heap.objs.size=none:=I6'.free;refine fin D _ s6 s3.heap.objs.size Iout ⟨?_,wt I3.lt,I3.sz,λx c e z=>?_,λp G z=>?_,m6,hn6⟩ (qn D (fr5 D QF));rw[kA (λ(z:s3.heap.objs.size=D)=>absurd (hex D QF).2 (by rw[z];exact wA _))];exact lC;obtain⟨v,q⟩:=I3.cell x c e;exact absurd q.lt (by rw[z];exact wA _);exact absurd (QX (I3.pin p G).1) (by rw[z];exact wA _);refine OB (T.item (LA X d Y j s3 E (D::a)) rfl rfl rfl hc i _ s5 P H5 (λ_ _=>False) I5' (exok fr5 _ S) st5 go) λr s6 ⟨u,hr,h6⟩=>?_;subst hr;refine OB h6 λ_ s7 ⟨x,H7,I7,r7,y7,st7,fr7⟩=>?_;have hD7:=(I7.pin _ (Qb _ (QJ.mpr rfl)))
  have fr7':∀b∈D::a,H7 b=none:=λb hb=>by rcases QL.mp hb with z|z;subst z;exact hD7.2.1;exact fr7 b z
  have I7':=I7.pinned (exok fr7' _ S) (T.obj _ _ st7);have bk:∀{m:St}{f:Hp}{M:Shared},Inv (LA X d Y j s3 E (D::a)) ([(D,{ cls:=.type "list",dict:=none,data:=.seq k.toArray R })]++yM a s7.heap) m f M ->
    M.heap.get? D=some { cls:=.type "list",dict:=none,data:=.seq k.toArray R }/\tn (i+1) M.heap/\(∀b∈D::a,f b=none):=λ{m f M} I'=>by
   have hD:=I'.pin (D,{ cls:=.type "list",dict:=none,data:=.seq k.toArray R }) (Qb _ (Qo _ (QJ.mpr rfl)));refine⟨hD.1,T.keep _ _ _ st7 λb hb o e=>(I'.pin (b,o) (Qb _ (Qb _ (uF hb e)))).1,λb hb=>?_⟩;rcases QL.mp hb with z|z;subst z;exact hD.2.1;obtain⟨o,e,_⟩:=T.obj _ _ st7 b z;exact(I'.pin (b,o) (Qb _ (Qb _ (uF z e)))).2.1
  refine OB (pg _ s7 P H7 x u _ I7' r7 (step x H7 y7)) λ_ s8 ⟨O,H8,I8,q8⟩=>?_;refine OB (pf _ s8 O H8 _ I8 q8) λok s9 ⟨H9,I9,q9⟩=>?_;cases ok with
  |false=>obtain⟨m',hm,w'⟩:=q9;obtain⟨b1,b2,b3⟩:=bk I9;exact⟨m',hm,i+1,O,H9,L,k,I9.pins_of λp G=>by simp at G,b2,b3,va5,⟨R,b1⟩,w'⟩|true =>
   refine OB (pl _ s9 O H9 _ I9 q9) λy s10 ⟨yv,H10,I10,r10,hz,m',hm,w'⟩=>?_;obtain⟨b1,b2,b3⟩:=bk I10;have hlen:=va5.length;refine wpAny_list_append_plain (hsz:=by rw[QN];omega) (show s10.heap.PlainList D k.toArray from⟨R,b1⟩) λh11 hl11 hs11=>?_;refine⟨m',hm,i+1,O,H10,L++[yv],k++[y],?_,T.keep _ _ _ b2 λb hb o e=>(hs11.2 b (λz=>Dfp (z▸hb))).trans e,b3,va5.append (.cons r10 .nil),by simpa using hl11,w'⟩;have I10':Inv (LA X d Y j s3 E (D::a)) [] O H10 s10:=I10.pins_of λp G=>by simp at G
   exact I10'.turned (t':=s10.toks) (λb o hb e=>(hs11.2 b hb).trans e) (b3 D QF) DX.1 (.inl QF) DX.2 λp G=>by simp[LA]at G
 refine codeAny_compStart_list (loop _ rfl) (T.self X.A 0 _ _ _ (T.keep _ _ _ (T.keep _ _ _ st2 λb hb o e=>old3 b o e) λb hb o e=>kept b o e) (loop _ rfl))
theorem KM{σ:St}{H:Hp}{F:Addr}(I:Inv X l σ H s)(f:Dq X l H s F){h':Heap}(h:qW F s.heap h'):Inv X l σ H { s with heap:=h' }:=by obtain⟨v,u,z,y,x,_⟩:=f;exact I.turned (t':=s.toks) (λb o hb e=>(h.2 b hb).trans e) v u (.inr z) y x
theorem B9(hc:X.calm=true)(w:PI X K Z B)(C:CompSt X.N X.env.scope d Y j)
  (y:∀s H ex,PG (LA X d Y j s H ex) K g/\pq (LA X d Y j s H ex) U tc/\PE (LA X d Y j s H ex) V te)
  (u:∀x,foldedSetIterable Z X.env x=pure x:=by intro _;rfl):PE X (.ListComp V [⟨K,Z,U,0⟩] d pos) (C1 B g tc te Y.length j):=by
 intro l s b H Q I h;rw[eval_ListComp];refine xT hc w C y u I h λD a e F k f q=>?_;obtain⟨m,v⟩:=f.2.2.2.2.2;exact⟨m,v,λi z=>⟨.ref D,a,KM k f z,rfl,q⟩⟩
theorem n9{cpos u:Pos}{i:Nat}{x:Str}(hc:X.calm=true)(S:X.N.Nodup)(n:X.N[i]?=some x)(p:X.env.scope.names.lookup x=some .local)
  (Q:PI X K Z B) (C:CompSt X.N X.env.scope d Y j)
  (y:∀s H ex,PG (LA X d Y j s H ex) K g/\pq (LA X d Y j s H ex) U tc/\PE (LA X d Y j s H ex) V te)
  (M:∀x,foldedSetIterable Z X.env x=pure x) (k:swapsWith (.ListComp V [⟨K,Z,U,0⟩] d cpos) (some (.Name x u)) pos.line X.env=pure true) :
  PS X (.Assign [.Name x u] (.ListComp V [⟨K,Z,U,0⟩] d cpos) pos) (Mg (C1 B g tc te Y.length j) (eX i)):=by
 intro l s σ H D0 I h;rw[exec_Assign_Name_used _ _ _ _ k];refine QC (QBi (QC ?_));show wpAny _ X.A (do let _ <- comprehension (.ListComp V [⟨K,Z,U,0⟩] d cpos) d X.env _ (newList []) false (eval Z X.env) (some (assign (.Name x u) X.env))) _ _ s;refine QC (qw (xT (use:=some (assign (.Name x u) X.env)) (QQ:=λ_ o=>SP X l D0 .next o) hc Q C y M I h λD H' J F I6 f q=>?_) (λ_ o O=>QK (QK O)) λ_ _ e=>e);show wpAny _ X.A (assign (.Name x u) X.env (.ref D)) _ _ J;refine QBt (yO I6 S n (.inl p) (v:=.ref D) rfl (λG I7 ⟨a,E,R⟩=>?_) (.inr p));obtain⟨f0,W,f2,r,f4,m,P⟩:=f;have L:F≠a:=by rcases R with z|z;rw[z];exact W;exact λe=>r x a z e.symm
 have w:G.heap.Ns F m:=P.sameBut E L;exact⟨m,w,λh' b=>⟨_,H',KM I7 ⟨f0,W,f2,r,f4,m,w⟩ b,q⟩⟩
end
end L2
namespace L2.L3
open PySem PySem.Spec PyProof.Rows
noncomputable def Jn(K:QA):R2:=λx y H Q=>match x,y with
 | .int i,.int j=>Q (.int (i+j)) H|.str a,.str b=>a.length+b.length<=sizeLine/\Q (.str (a++b)) H|.ref a,.ref b=>∃z h,FC K H a z/\FC K H b h/\z.length+h.length<=sizeLine/\∀p,H p=none->Q (.ref p) (BA H p (.lst (z++h)))|_,_=>False
def Em:R2:=λx y H Q=>match x,y with
 | .int i,.int j=>Q (.int (i - j)) H|_,_=>False
def BJ(x:Str)(n:Int):Str:=Txt.mul x n
noncomputable def zn(K:QA):R2:=λx y H Q=>match x,y with
 | .int i,.int j=>IntMulOk i j/\Q (.int (i * j)) H|.str a,.int k=>(-(2 ^ 31)<=k/\k<2 ^ 31/\a.length * k.toNat<=sizeLine)/\Q (.str (BJ a k)) H|_,_=>False
def ud:R2:=λx y H Q=>match x,y with
 | .int i,.int j=>(0<j/\j<2 ^ 200)/\Q (.int (i / j)) H|_,_=>False
def vn:R2:=λx y H Q=>match x,y with
 | .int i,.int j=>0<j/\Q (.int (i % j)) H|_,_=>False
section
variable{X:Cx}
theorem op_add:AE X (binaryOp .Add) (Jn X.K):=by
 intro w s n H x y v u Q I g f h;cases x with
 |int i =>
  cases y with|int j=>exact _root_.L2.op_add w s n H _ _ v u Q I g f ⟨i,j,rfl,rfl,h⟩|_=>exact Qd h
 |str a =>
  cases y with|str b=>exact DU w s n H _ _ v u Q I g f ⟨a,b,rfl,rfl,h.1,h.2⟩|_=>exact Qd h
 |ref a =>
  cases y with
  |ref b =>
   obtain⟨xs,ys,N,M,hz,q⟩:=h;cases g;cases f;obtain⟨k,r,⟨⟨S,R,A,G⟩,L,W,E,d1,p⟩,z1⟩:=I.list N;obtain⟨z,Y,⟨⟨B,l,m,e⟩,J,Z,C,d2,o⟩,z2⟩:=I.list M;simp only at E p C o;subst E p C o;have hl:=r.length;have O:=Y.length;refine concat_meets ⟨_,W,rfl⟩ ⟨_,Z,rfl⟩ noFill_list_add seq_list_add PySem.F.slot_list_add PySem.F.entry_list_add (PySem.F.args_list_add_2 _ _) (list_addW a b k.toArray z.toArray L J R l G e (by simp;omega)) ⟨W,Z,?_⟩;have P:k.toArray++z.toArray=(k++z).toArray:=by simp
   rw[P];exact⟨.ref _,_,I.lnew (t':=s.toks) (r.append Y) (by rw[QI];omega),rfl,q _ I.fresh⟩
  |_=>exact Qd h
 |_=>exact Qd h
theorem op_sub:AE X (binaryOp .Sub) Em:=by
 intro z s w H x y v u Q I a k h;cases x with
 |int i =>
  cases y with|int j=>exact _root_.L2.op_sub z s w H _ _ v u Q I a k ⟨i,j,rfl,rfl,h⟩|_=>exact Qd h
 |_=>exact Qd h
theorem N9:AE X (binaryOp .FloorDiv) ud:=by
 intro z s a H x y v u Q I k w h;cases x with
 |int i =>
  cases y with
  |int j =>
   obtain⟨t,rfl⟩:=k;obtain⟨b,rfl⟩:=w;obtain⟨⟨f,e⟩,q⟩:=h;refine floordiv_int (by omega) ?_ (.inl (PyProof.noPylong_of_log2 ?_));rw[Int.fdiv_eq_ediv_of_nonneg i (by omega)];exact⟨.int _,H,I.tok _,⟨_,rfl⟩,q⟩;have:j.natAbs<2 ^ 200:=by omega
   have:=(Nat.log2_lt (show j.natAbs≠0 by omega)).mpr this;omega
  |_=>exact Qd h
 |_=>exact Qd h
theorem op_mod:AE X (binaryOp .Mod) vn:=by
 intro z s w H x y v u Q I a k h;cases x with
 |int i =>
  cases y with|int j=>exact _root_.L2.op_mod z s w H _ _ v u Q I a k ⟨i,j,rfl,rfl,h.1,h.2⟩|_=>exact Qd h
 |_=>exact Qd h
theorem Mh:AE X (binaryOp .Mult) (zn X.K):=by
 intro g s n H x y v u Q I f w h;cases x with
 |int i =>
  cases y with|int j=>obtain⟨t,rfl⟩:=f;obtain⟨z,rfl⟩:=w;exact mul_int ⟨.int _,H,I.tok _,⟨_,rfl⟩,h.2⟩ h.1|_=>exact Qd h
 |str a =>
  cases y with
  |int k =>
   obtain⟨t,rfl⟩:=f;obtain⟨z,rfl⟩:=w;obtain⟨⟨Y,r,p⟩,q⟩:=h;refine SB.mul ⟨?_,λ_ _=>?_,λ_ _=>?_⟩ λz o=>⟨.str (BJ a k),H,I.tok _,⟨_,rfl⟩,q⟩
   have m:decide (k < -(2 ^ 63:Int))=false:=dF (by omega);have l:decide (k ≥ 2 ^ 63)=false:=dF (by omega);rw[m,l];rfl;have e:(a.length:Int) * k=((a.length * k.toNat:Nat):Int):=by rw[Int.natCast_mul,Int.toNat_of_nonneg (by omega)]
   have:=Int.le_ediv_of_mul_le (a:=(a.length:Int)) (b:=2 ^ 63 - 1) (c:=k) (by omega) (by rw[e];omega);omega;unfold Builtin.Str.tooLong;exact dF (by omega)
  |_=>exact Qd h
 |_=>exact Qd h
end
end L2.L3
namespace L2
open PySem PySem.Spec PyProof.Rows
section
variable{x:Type}[DecidableEq x]
section
variable{p:x×V}{r kvs:List (x×V)}{vs:List (x×Value)}{u:Value}
def eL(kvs:List (x×V))(k:x):Option V:=(kvs.find? λh=>decide (h.1=k)).map (·.2)
noncomputable def VU(kvs:List (x×V))(k:x)(v:V):List (x×V) :=
 if(kvs.any λh=>decide (h.1=k))=true then kvs.map (λh=>if h.1=k then(h.1,v) else h) else kvs++[(k,v)]
theorem tL{k:x}(e:p.1=k):eL (p::r) k=some p.2:=by simp[eL,wF,e]
theorem aL{k:x}(e:¬ p.1=k):eL (p::r) k=eL r k:=by simp[eL,wF,e]
theorem dR(k:x):∀kvs:List (x×V),(kvs.any λh=>decide (h.1=k))=(eL kvs k).isSome
 |[]=>rfl|p::r=>by rw[w4];by_cases e:p.1=k;simp only[tL e,dT e,QCA,Option.isSome_some];rw[aL e,dF e,QAi];exact dR k r
theorem sS(kvs:List (x×V))(k:x)(v:V):(VU kvs k v).length<=kvs.length+1:=by unfold VU;split;rw[QD];omega;rw[QI,QM,wO];omega
theorem AT.isSome_eq{o:Option V}{u:Option Value}(r:AT o u):o.isSome=u.isSome:=by
 cases o with
 |none=>cases u with|none=>rfl|some _=>exact(show False from r).elim
 |some _=>cases u with|none=>exact(show False from r).elim|some _=>rfl
theorem KV.val(r:KV kvs vs)(k:x):AT (eL kvs k) (valueAt vs k):=by
 unfold KV at r;induction r with
 |nil=>exact True.intro|@cons p q g y h t a =>
  obtain⟨w,f⟩:=h;by_cases e:p.1=k;have v:q.1=k:=w.symm.trans e;have b:valueAt (q::y) k=some q.2:=by simp[valueAt,wF,v]
  rw[tL e,b];exact f;have v:¬ q.1=k:=λz=>e (w.trans z);have b:valueAt (q::y) k=valueAt y k:=by simp[valueAt,wF,v]
  rw[aL e,b];exact a
theorem KV.any(r:KV kvs vs)(k:x):(kvs.any λy=>decide (y.1=k))=vs.any λy=>decide (y.1=k):=by
 unfold KV at r;induction r with|nil=>rfl|cons h t z=>rw[w4,w4,z,h.1]
theorem KV.repl(r:KV kvs vs)(k:x){y:V}(a:JA y u) :
  KV (kvs.map λv=>if v.1=k then(v.1,y) else v) (vs.map λv=>if v.1=k then(v.1,u) else v):=by
 unfold KV at r ⊢;induction r with|nil=>exact .nil|@cons p q i g h t b=>rw[QW,QW];refine .cons ?_ b;obtain⟨w,f⟩:=h;by_cases e:p.1=k;rw[if_pos e,if_pos (w.symm.trans e)];exact⟨w,a⟩;rw[if_neg e,if_neg (λz=>e (w.trans z))];exact⟨w,f⟩
theorem KV.put(r:KV kvs vs)(k:x){y:V}(h:JA y u):KV (VU kvs k y) (stored vs k u):=by unfold VU stored;rw[r.any k];by_cases e:(vs.any λz=>decide (z.1=k))=true;rw[if_pos e,if_pos e];exact r.repl k h;rw[if_neg e,if_neg e];exact Paired.snoc r ⟨rfl,h⟩
theorem KV.length(r:KV kvs vs):kvs.length=vs.length:=qJ r
end
end
theorem JM{P:Program}{w:World}{k:Key}{u:Value}(r:JA (kV k) u):(ED P w).is k u=true:=by
 cases k with|inl i=>obtain⟨t,e⟩:=(show ∃t,u=Value.int i t from r);subst e;exact dS P w i t|inr x=>obtain⟨t,e⟩:=(show ∃t,u=Value.str x t from r);subst e;exact cS P w x t
end L2
namespace L2.L3
open PySem PySem.Spec PyProof.Rows
section
variable{r kvs:List KE}{xs:List (NK×Addr×Value)}
noncomputable abbrev KE:=NK×Addr×V
def jH(kvs:List KE)(k:NK):Option V:=(kvs.find? λp=>decide (p.1=k)).map (·.2.2)
noncomputable def OL(kvs:List KE)(k:NK)(b:Addr)(v:V):List KE :=
 if(jH kvs k).isSome=true then kvs.map (λp=>if p.1=k then(p.1,p.2.1,v) else p) else kvs++[(k,b,v)]
noncomputable abbrev KD:List KE->List (NK×Addr×Value)->Prop:=Paired λ(p:NK×Addr×V) (q:NK×Addr×Value)=>p.1=q.1/\p.2.1=q.2.1/\JA p.2.2 q.2.2
theorem gR{p:KE}{k:NK}(e:p.1=k):jH (p::r) k=some p.2.2:=by simp[jH,wF,e]
theorem lR{p:KE}{k:NK}(e:¬ p.1=k):jH (p::r) k=jH r k:=by simp[jH,wF,e]
theorem KD.val(r:KD kvs xs)(k:NK):AT (jH kvs k) ((atKey xs k).map (·.2)):=by
 induction r with
 |nil=>exact True.intro|@cons p q a x h t v =>
  obtain⟨u,_,w⟩:=h;by_cases e:p.1=k;have y:q.1=k:=u.symm.trans e;have b:atKey (q::x) k=some q.2:=by simp[atKey,wF,y]
  rw[gR e,b];exact w;have y:¬ q.1=k:=λz=>e (u.trans z);have b:atKey (q::x) k=atKey x k:=by simp[atKey,wF,y]
  rw[lR e,b];exact v
theorem KD.put(r:KD kvs xs)(k:NK)(b:Addr){y:V}{u:Value}(v:JA y u):KD (OL kvs k b y) (storedH xs k b u):=by
 have e:(jH kvs k).isSome=(atKey xs k).isSome:=by rw[(r.val k).isSome_eq,QAc]
 unfold OL storedH;rw[e];by_cases q:(atKey xs k).isSome=true;rw[if_pos q,if_pos q];clear e q;induction r with|nil=>exact .nil|@cons p q i g h t a=>rw[QW,QW];refine .cons ?_ a;obtain⟨x,w,f⟩:=h;unfold putAt;by_cases e:p.1=k;rw[if_pos e,if_pos (x.symm.trans e)];exact⟨x,w,v⟩;rw[if_neg e,if_neg (λz=>e (x.trans z))];exact⟨x,w,f⟩
 rw[if_neg q,if_neg q];exact Paired.snoc r ⟨rfl,rfl,v⟩
theorem tS(kvs:List KE)(k:NK)(b:Addr)(v:V):(OL kvs k b v).length<=kvs.length+1:=by unfold OL;split;rw[QD];omega;rw[QI,QM,wO];omega
end
mutual
def Lk(K:QA)(H:Hp):NK->V->Prop
 | .s x,v=>v=.str x|.t ks,v=>∃a h,v=.ref a/\xD K H a h/\KyVs K H ks h
def KyVs(K:QA)(H:Hp):List NK->LV->Prop
 |[],xs=>xs=[]|k::ks,xs=>∃x r,xs=x::r/\Lk K H k x/\KyVs K H ks r
end
def SN(K:QA)(H:Hp)(b:Addr)(k:NK):Prop:=Lk K H k (.ref b)/\u5 k<=6
theorem eI{P:Program}{w:World}{A:Around}(h:A.units+60<cLine):(xF P w).room A.in1:=by show A.in1.units+8<cLine;rw[QAp];omega
def VG(K:QA)(H:Hp)(kvs:List KE):Prop:=∀p∈kvs,SN K H p.2.1 p.1
theorem Inv.big{X:Cx}{x:NB}{σ:St}{H:Hp}{s:Shared}(I:Inv X x σ H s):sysModules<s.heap.objs.size:=by have h:mainGlobals<s.heap.objs.size:=(I.mod.glob.keeps I.bk).lt;exact QA3 (by decide) h
section
variable{X:Cx}{y:NB}{σ:St}{H:Hp}{s:Shared}{a b:Addr}
mutual
theorem Oo(I:Inv X y σ H s):∀{k:NK}{x:V}{u:Value},Lk X.K H k x->JA x u->AZ s.heap k u
 | .s z,x,u,e,r=>by cases(show x=.str z from e);exact r|.t ks,x,u,⟨a,xs,e,q,p⟩,r=>by subst e;cases r;obtain⟨h,v,⟨o,g,f,n,w⟩,_⟩:=I.tuple q;exact⟨a,h.toArray,rfl,⟨o,g,f,n,w⟩,by simpa using ky_vs I p v⟩
theorem ky_vs(I:Inv X y σ H s):∀{ks:List NK}{xs:LV}{us:LW},KyVs X.K H ks xs->lA xs us->NKvs s.heap ks us
 |[],xs,us,e,r=>by cases(show xs=[] from e);cases r;rfl|k::ks,xs,us,⟨x,r,e,p,q⟩,rv=>by
  subst e;cases rv with|cons h t=>exact⟨_,_,rfl,Oo I p h,ky_vs I q t⟩
end
theorem YS{k:NK}(I:Inv X pins σ H s)(h:SN X.K H b k):(xF X.prog X.w).is s.heap k b:=⟨Oo I h.1 rfl,h.2⟩
theorem YK{ep:Nat}{kvs:List KE}(I:Inv X pins σ H s)(e:H a=some (.dT ep kvs))(hk:VG X.K H kvs):kvs.length<=sizeLine/\(a==sysModules)=false/\∃xs,KD kvs xs/\s.heap.DictOfH (xF X.prog X.w) a xs:=by
 obtain⟨z,y,xs,r,o,l,j,i,g,k,v⟩:=(show CA X.prog X.w H s.heap a (.dT ep kvs) from I.hok a _ e)
 refine⟨z,y,xs,r,o,l,ep,j,i,g,k,?_,v⟩;clear k v z e;induction r with
 |nil=>intro x h;exact nomatch h
 |@cons p q n m u t b=>intro x h;rcases QL.mp h with e|h;subst e;rw[<- u.1,<- u.2.1];exact YS I (hk p QF);exact b (λp f=>hk p (QE _ f)) x h
theorem yT{kvs:List (Key×V)}(I:Inv X pins σ H s)(e:H a=some (.dK kvs)):kvs.length<=sizeLine/\(a==sysModules)=false/\∃vs,KV kvs vs/\s.heap.DictOf (ED X.prog X.w) a vs :=
 show CA X.prog X.w H s.heap a (.dK kvs) from I.hok a _ e
end
theorem E6{X:Cx}{h:NB}{σ:St}{H:Hp}{s:Shared}{a:Addr}{ep:Nat}(I:Inv X h σ H s)(e:H a=some (.dT ep [])):(a==sysModules)=false/\s.heap.DictOf (ED X.prog X.w) a []:=by
 obtain⟨z,y,g,r,o,f,b,k,v,u,i⟩:=(show CA X.prog X.w H s.heap a (.dT ep []) from I.hok a _ e)
 cases r;have x:f=#[]:=by apply WC.mp;simpa using u
 subst x;exact⟨y,o,#[],ep,b,k,v,λe x=>by simp at x,.nil,Q2⟩
def kD:Key->PyData
 | .inl i=>.int i|.inr x=>.str x
mutual
def tD:NK->PyData
 | .s x=>.str x|.t h=>.tuple (tDs h)
def tDs:List NK->List PyData
 |[]=>[]|k::ks=>tD k::tDs ks
end
theorem z6{a b:Key}(e:kD a=kD b):a=b:=by
 cases a with
 |inl i=>cases b with|inl j=>injection e with e;rw[e]|inr y=>exact nomatch (show PyData.int i=PyData.str y from e)
 |inr x=>cases b with
  |inl j=>exact nomatch (show PyData.str x=PyData.int j from e)
  |inr y=>injection e with e;rw[e]
mutual
theorem iU:∀{a b:NK},tD a=tD b->a=b
 | .s x,.s y,e=>by rw[PyData.str.inj e]|.s x,.t l,e=>QBm e|.t k,.s y,e=>QBm e|.t k,.t l,e=>by rw[tDs_inj (PyData.tuple.inj e)]
theorem tDs_inj:∀{a b:List NK},tDs a=tDs b->a=b
 |[],[],_=>rfl|[],_::_,e=>(nomatch e)
 |_::_,[],e=>(nomatch e)
 |x::xs,y::ys,e=>by have e:tD x::tDs xs=tD y::tDs ys:=e;injection e with e1 e2;rw[iU e1,tDs_inj e2]
end
def uK(K:QA)(H:Hp)(b:Bool)(o:HO)(ks:List PyData)(vs:LV):Prop:=match b with
 |true=>∃x,∃h:List KE,o=.dT x h/\ks=h.map (λp=>tD p.1)/\vs=h.map (·.2.2)/\VG K H h/\(h.map (·.1)).Nodup|false=>(∃h:List (Key×V),h≠[]/\o=.dK h/\ks=h.map (λp=>kD p.1)/\vs=h.map (·.2)/\(h.map (·.1)).Nodup)∨∃x,o=.dT x []/\ks=[]/\vs=[]
theorem uK.len{K:QA}{H:Hp}{b:Bool}{o:HO}{ks:List PyData}{vs:LV}(h:uK K H b o ks vs):ks.length=vs.length:=by
 cases b with|true=>obtain⟨y,x,_,rfl,rfl,_⟩:=h;simp|false=>rcases h with⟨x,_,_,rfl,rfl,_⟩| ⟨_,_,rfl,rfl⟩<;>simp
def jR(K:QA)(H:Hp)(a:Addr)(y:V)(r:Option V):Prop:=match y with
 | .str z=>(∃h,H a=some (.dK h)/\r=eL h (.inr z))∨∃x,H a=some (.dT x [])/\r=none|.ref b=>∃x h k,H a=some (.dT x h)/\VG K H h/\SN K H b k/\r=jH h k|_=>False
def Rk(K:QA)(H:Hp)(a:Addr)(y v:V)(Q:Hp->Prop):Prop:=match y with
 | .str z=>(∃h,H a=some (.dK h)/\h.length<sizeLine/\Q (BA H a (.dK (VU h (.inr z) v))))∨∃u,H a=some (.dT u [])/\Q (BA H a (.dK [(.inr z,v)]))|.ref b=>∃u h k,H a=some (.dT u h)/\VG K H h/\SN K H b k/\h.length<sizeLine/\∀x,Q (BA H a (.dT x (OL h k b v)))|_=>False
theorem fO{v:V}{o:Option Value}(r:AT (some v) o):∃w,o=some w/\JA v w:=by
 cases o with|none=>exact(show False from r).elim|some w=>exact⟨w,rfl,r⟩
section
variable{X:Cx}
section
variable{c:NB}{s:Shared}{σ:St}{H:Hp}{a:Addr}{u:Value}{o:Option V}{h':Heap}{pos:Pos}
theorem ub(P:X.A.units+66<cLine):S7 X (λx y H Q=>∃a v,x=.ref a/\jR X.K H a y (some v)/\Q v H):=by
 intro n Y c s σ H x y v u Q I J C h E;obtain⟨a,r,rfl,g,q⟩:=h;cases J;cases y with
 |str z =>
  rcases g with⟨W,e,l⟩| ⟨N,e,l⟩
  rotate_left
  cases l;obtain⟨_,M,G,f,m⟩:=yT I e;obtain⟨i,B,w⟩:=fO (v:=r) (o:=valueAt G (.inr z)) (by rw[l];exact f.val _);exact qg (x:=i) m.typeIs QAS.lookup
   (wpAny_getItem_of (Q:=λr Z=>r=i/\EP X c σ Q r Z) (JM (k:=.inr z) C) m.mapOf B ⟨rfl,r,H,I.tok _,w,q⟩) E
 |ref b =>
  obtain⟨N,W,k,e,hk,O,l⟩:=g;cases C;obtain⟨_,M,F,f,m⟩:=YK I e hk;obtain⟨i,B,w⟩:=fO (v:=r) (o:=(atKey F k).map (·.2)) (by rw[l];exact f.val _);obtain⟨p,L,j⟩:=Option.map_eq_some_iff.mp B;refine qg (x:=i) m.typeIs QAS.lookup
   (wpAny_getItem_heap (Q:=λr Z=>r=i/\EP X c σ Q r Z) (eI (by omega)) (YS I O) m L ?_) E
  exact⟨j,r,H,I.tok _,by rw[j];exact w,q⟩
 |_=>exact Qd g
theorem Kb(r:X.A.units+66<cLine){y:V}{Q:VK}(I:Inv X c σ H s)(f:JA y u)(g:jR X.K H a y o)(q:Q (.bl o.isSome) H) :
  wpAny (model X.prog X.w) X.A (compareOp .In u (.ref a)) (EP X c σ Q) X.xe s:=by
 cases y with
 |str z =>
  rcases g with⟨i,e,l⟩| ⟨j,e,l⟩
  rotate_left
  subst l;obtain⟨x,v⟩:=E6 I e;exact wpAny_in_of (JM (k:=.inr z) f) x v.mapOf ⟨.bl false,H,I.tok _,rfl,q⟩;obtain⟨_,x,p,h,v⟩:=yT I e;refine wpAny_in_of (JM (k:=.inr z) f) x v.mapOf ⟨.bl o.isSome,H,I.tok _,?_,q⟩;rw[<- (h.val (.inr z)).isSome_eq,<- l];rfl
 |ref b=>obtain⟨j,i,k,e,hk,m,l⟩:=g;cases f;obtain⟨_,x,n,h,v⟩:=YK I e hk;refine wpAny_in_heap (eI (by omega)) (YS I m) x v ⟨.bl o.isSome,H,I.tok _,?_,q⟩;have q:=(h.val k).isSome_eq;rw[QAc]at q;rw[<- q,<- l];rfl|_=>exact Qd g
theorem RU(r:X.A.units+66<cLine){y:V}{Q:VK}(I:Inv X c σ H s)(f:JA y u)(g:jR X.K H a y o)(q:Q (.bl (!o.isSome)) H) :
  wpAny (model X.prog X.w) X.A (compareOp .NotIn u (.ref a)) (EP X c σ Q) X.xe s:=by
 cases y with
 |str z =>
  rcases g with⟨i,e,l⟩| ⟨j,e,l⟩
  rotate_left
  subst l;obtain⟨x,v⟩:=E6 I e;exact wpAny_notIn_of (JM (k:=.inr z) f) x v.mapOf ⟨.bl true,H,I.tok _,rfl,q⟩;obtain⟨_,x,p,h,v⟩:=yT I e;refine wpAny_notIn_of (JM (k:=.inr z) f) x v.mapOf ⟨.bl (!o.isSome),H,I.tok _,?_,q⟩;rw[<- (h.val (.inr z)).isSome_eq,<- l];rfl
 |ref b=>obtain⟨j,i,k,e,hk,m,l⟩:=g;cases f;obtain⟨_,x,n,h,v⟩:=YK I e hk;refine wpAny_notIn_heap (eI (by omega)) (YS I m) x v ⟨.bl (!o.isSome),H,I.tok _,?_,q⟩;have q:=(h.val k).isSome_eq;rw[QAc]at q;rw[<- q,<- l];rfl|_=>exact Qd g
theorem DQ{t':Nat}{ob:HO}(I:Inv X c σ H s)(h:Bl (H a))(y:qW a s.heap h')(v:∃q,h'.get? a=some q)(new:CA X.prog X.w (BA H a ob) h' a ob) :
  Inv X c σ (BA H a ob) { s with heap:=h',toks:=t' } :=
 I.write (x:=a) (e:=a) h (.inl rfl) (λb q hb z=>(y.2 b hb).trans z) v new
theorem FM{t':Nat}{kvs:List KE}{xs:List (NK×Addr×Value)}(I:Inv X c σ H s)(y:Bl (H a))(k:(a==sysModules)=false)(z:kvs.length<=sizeLine)(h:KD kvs xs)
  (j:h'.DictOfH (xF X.prog X.w) a xs) (v:qW a s.heap h'):∃ep,Inv X c σ (BA H a (.dT ep kvs)) { s with heap:=h',toks:=t' }:=by
 obtain⟨q,i,ep,x,g,f,e,_,b⟩:=j;exact⟨ep,DQ I y v ⟨q,x⟩ ⟨z,k,xs,h,q,i,x,g,f,e,b⟩⟩
def setD(K:QA)(o y v:V)(H:Hp)(Q:Hp->Prop):Prop:=match o with
 | .ref a=>Rk K H a y v Q|_=>False
theorem ZR(M:X.A.units+66<cLine):Vc X (setD X.K):=by
 intro c s σ H o y v J L u Q I W n m h;cases o with
 |ref a =>
  cases W;cases y with
  |str z =>
   rcases h with⟨f,e,l,q⟩| ⟨B,e,q⟩
   rotate_left
   obtain⟨i,j⟩:=E6 I e;refine QBU (hsz:=Qs _) (JM (k:=.inr z) n) j λh' x g=>⟨_,?_,q⟩
   have Y:∃q,h'.get? a=some q:=let⟨q,_,_,r,_⟩:=x;⟨q,r⟩
   exact DQ I (by rw[e];exact True.intro) g Y ⟨by simp;decide,i,_,.cons ⟨rfl,m⟩ .nil,x⟩;obtain⟨p,i,G,w,j⟩:=yT I e;have hl:(VU f (.inr z) v).length<=sizeLine:=by have:=sS f (.inr z) v;omega
   refine QBU (hsz:=by rw[<- w.length];exact p) (JM (k:=.inr z) n) j λh' x g=>⟨_,?_,q⟩
   have Y:∃q,h'.get? a=some q:=let⟨q,_,_,r,_⟩:=x;⟨q,r⟩
   exact DQ I (by rw[e];exact True.intro) g Y ⟨hl,i,_,w.put _ m,x⟩
  |ref b =>
   obtain⟨B,f,k,e,hk,C,l,q⟩:=h;cases n;obtain⟨p,i,F,w,j⟩:=YK I e hk;have hl:(OL f k b v).length<=sizeLine:=by have:=tS f k b v;omega
   refine wpAny_setItem_heap (hsz:=by rw[<- qJ w];exact p) (eI (by omega)) (YS I C) j λh' x g=>?_;obtain⟨Z,E⟩:=FM (t':=_) I (by rw[e];exact True.intro) i hl (w.put k b m) x g;exact⟨_,E,q Z⟩
  |_=>exact Qd h
 |_=>exact Qd h
theorem Be{P:Program}{w:World}(h:Heap)(hb:sysModules<h.objs.size):CA P w H (h.push { cls:=.type "dict",data:=.dict #[] }) h.objs.size (.dT 0 []) :=
 ⟨Qs _,beq_eq_false_iff_ne.mpr (Q4 (Qk hb)),[],.nil,_,#[],QU _ rfl,⟨rfl,rfl,rfl⟩,rfl,rfl,Q2⟩
theorem U9:PE X (.Dict [] [] pos) (λ_ H Q=>∀p,H p=none->Q (.ref p) (BA H p (.dT 0 []))):=λc s σ H Q I h =>
 wpAny_Dict_empty ⟨.ref s.heap.objs.size,_,I.laid (a:=s.heap.objs.size) (o:=.dT 0 []) (t':=s.toks) (λ_ _ q=>QH _ q) (QS _) (Be s.heap (Inv.big I)),rfl,h _ (I.hok.fresh (QS _))⟩
theorem X9(hu:X.A.units+66<cLine){k v:Expr}{l j:TE}(hk:PE X k l)(hv:PE X v j) :
  PE X (.Dict [some k] [v] pos) (λσ H Q=>∀p,H p=none->l σ (BA H p (.dT 0 [])) λy i=>j σ i λv h=>h p=some (.dT 0 [])/\∃b ks,y=.ref b/\SN X.K h b ks/\∀ep,Q (.ref p) (BA h p (.dT ep [(ks,b,v)]))):=by
 intro c s σ H Q I q;have E:=I.hok.fresh (QS s.heap.objs.size);have N:=I.laid (a:=s.heap.objs.size) (o:=.dT 0 []) (h':=s.heap.push { cls:=.type "dict",data:=.dict #[] }) (t':=s.toks) (λ_ _ q=>QH _ q) (QS _) (Be s.heap (Inv.big I));refine wpAny_Dict_any rfl rfl (by simp) (by simp) (pairTrees_cons_walk (OB (hk c _ σ _ _ N (q _ E)) λu n ⟨y,i,M,Y,W⟩=>OB (hv c n σ i _ M W) λm R ⟨z,h,g,r,e,b,ks,G,J,Z⟩=>pairTrees_nil_walk ?_));subst G;cases Y;obtain⟨S,F,P,x,L⟩:=YK g e (λp C=>nomatch C);cases x;show wpAny _ _ (forIn [(Value.ref b,m)] PUnit.unit _) _ _ _;rw[W5];refine QC (QC (wpAny_dictSet_heap (hsz:=Qs _) (show X.A.units+8<cLine by omega) (YS g J) L λh' f B=>QK ?_));show wpAny _ _ (forIn ([]:List (Value×Value)) _ _) _ _ _;rw[QBN];obtain⟨w,O⟩:=FM (t':=_) (kvs:=[(ks,b,z)]) g (by rw[e];exact True.intro) F (by simp;decide) (.cons ⟨rfl,rfl,r⟩ .nil) f B;exact QK ⟨.ref _,_,O,rfl,Z w⟩
end
end
mutual
inductive Rep(K:QA)(H:Hp):V->PyData->Prop where
 |non:Rep K H .non .none
 |bl (b:Bool):Rep K H (.bl b) (.bool b)
 |int (i:Int):Rep K H (.int i) (.int i)
 |str (x:Str):Rep K H (.str x) (.str x)
 |lst {a:Addr}{xs:LV}{ds:List PyData}:FC K H a xs->Reps K H xs ds->Rep K H (.ref a) (.list ds)
 |tup {a:Addr}{xs:LV}{ds:List PyData}:xD K H a xs->Reps K H xs ds->Rep K H (.ref a) (.tuple ds)
 |dct {b:Bool}{a:Addr}{o:HO}{ks:List PyData}{xs:LV}{ds:List PyData}:H a=some o->uK K H b o ks xs->Reps K H xs ds->Rep K H (.ref a) (.dict (ks.zip ds))
inductive Reps(K:QA)(H:Hp):LV->List PyData->Prop where
 |nil:Reps K H [] []
 |cons {x:V}{d:PyData}{xs:LV}{ds:List PyData}:Rep K H x d->Reps K H xs ds->Reps K H (x::xs) (d::ds)
end
section
variable{K:QA}{H:Hp}{R:LV->List PyData->Prop}{xs:LV}{ds:List PyData}
theorem Rep.both{P:V->PyData->Prop}(z:P .non .none)(v:∀b,P (.bl b) (.bool b))(int:∀i,P (.int i) (.int i))(str:∀x,P (.str x) (.str x))
    (lst:∀{a:Addr}{xs:LV}{ds:List PyData},FC K H a xs->Reps K H xs ds->R xs ds->P (.ref a) (.list ds))
    (tup:∀{a:Addr}{xs:LV}{ds:List PyData},xD K H a xs->Reps K H xs ds->R xs ds->P (.ref a) (.tuple ds))
    (dct:∀{b:Bool}{a:Addr}{o:HO}{ks:List PyData}{xs:LV}{ds:List PyData},H a=some o->uK K H b o ks xs->Reps K H xs ds->R xs ds->P (.ref a) (.dict (ks.zip ds)))
    (u:R [] []) (y:∀{x:V}{d:PyData}{xs:LV}{ds:List PyData},Rep K H x d->Reps K H xs ds->P x d->R xs ds->R (x::xs) (d::ds)) :
    (∀{x:V}{d:PyData},Rep K H x d->P x d)/\∀{xs:LV}{ds:List PyData},Reps K H xs ds->R xs ds :=
  ⟨λh=>Rep.rec (motive_1:=λx d _=>P x d) (motive_2:=λx d _=>R x d) z v int str @lst @tup @dct u @y h,
   λh=>Reps.rec (motive_1:=λx d _=>P x d) (motive_2:=λx d _=>R x d) z v int str @lst @tup @dct u @y h⟩
theorem Reps.ind(z:R [] [])(y:∀{x:V}{d:PyData}{xs:LV}{ds:List PyData},Rep K H x d->R xs ds->R (x::xs) (d::ds))(h:Reps K H xs ds):R xs ds :=
 (Rep.both (P:=λ_ _=>True) trivial (λ_=>trivial) (λ_=>trivial) (λ_=>trivial) (λ_ _ _=>trivial) (λ_ _ _=>trivial) (λ_ _ _ _=>trivial) z λh _ _ r=>y h r).2 h
theorem Reps.length(h:Reps K H xs ds):xs.length=ds.length:=Reps.ind (R:=λxs ds=>xs.length=ds.length) rfl (λ_ e=>congrArg Nat.succ e) h
end
section
variable{X:Cx}{y:NB}{σ:St}{H:Hp}{s:Shared}
mutual
theorem vS{h:Heap}:∀{k:NK}{u:Value},AZ h k u->∃z,Reads h u (tD k) z
 | .s x,u,⟨t,e⟩=>by subst e;exact⟨_,.str x t⟩|.t ks,u,⟨a,its,e,⟨o,e1,c,n,d⟩,q⟩=>by subst e;obtain⟨z,v⟩:=nks_reads q;exact⟨_,.tuple e1 c d v⟩
theorem nks_reads{h:Heap}:∀{ks:List NK}{us:LW},NKvs h ks us->∃x,ReadsAll h us (tDs ks) x
 |[],us,e=>by cases(show us=[] from e);exact⟨_,.nil⟩|k::ks,us,⟨v,r,e,p,q⟩=>by subst e;obtain⟨x,u⟩:=vS p;obtain⟨bs,z⟩:=nks_reads q;exact⟨_,.cons u z⟩
end
section
variable{kvs:List (Key×V)}{xs:List (NK×Addr×Value)}{vs:List (Key×Value)}
theorem d3(I:Inv X pins σ H s){kvs:List KE}(r:KD kvs xs)(hk:VG X.K H kvs):∃z,ReadsAll s.heap (xs.map λx=>.ref x.2.1) (kvs.map λp=>tD p.1) z:=by
 induction r with|nil=>exact⟨_,.nil⟩|@cons p x _ _ h t u=>obtain⟨z,q⟩:=u λp v=>hk p (QE _ v);obtain⟨bs,y⟩:=vS (YS I (hk p QF)).1;rw[h.2.1]at y;exact⟨_,.cons y q⟩
theorem HR{P:Program}{w:World}{es:List DictEntry}(hk:KV kvs vs)(u:Pairs (ED P w) es vs):(∃v,ReadsAll s.heap (es.map (·.key)) (kvs.map λp=>kD p.1) v)/\es.map (·.val)=vs.map (·.2):=by
 unfold KV at hk;induction hk generalizing es with
 |nil=>cases u;exact⟨⟨_,.nil⟩,rfl⟩|cons h t e =>
  cases u with
  |cons a b c =>
   obtain⟨⟨v,q⟩,k⟩:=e c;refine⟨?_,by rw[QW,QW,k,b]⟩;rw[QW,QW];rw[<- h.1]at a;rcases NA a with⟨i,t,z,y⟩| ⟨x,t,z,y⟩
   rw[z,y];exact⟨_,.cons (.int i t) q⟩;rw[z,y];exact⟨_,.cons (.str x t) q⟩
theorem K8{kvs:List KE}(r:KD kvs xs):lA (kvs.map (·.2.2)) (xs.map (·.2.2)):=by
 induction r with|nil=>exact .nil|cons h _ x=>exact .cons h.2.2 x
theorem Z8(r:KV kvs vs):lA (kvs.map (·.2)) (vs.map (·.2)):=by
 induction r with|nil=>exact .nil|cons h _ x=>exact .cons h.2 x
theorem KZ(I:Inv X pins σ H s){b:Bool}{a:Addr}{o:HO}{ks:List PyData}{xs:LV}(h:H a=some o)(q:uK X.K H b o ks xs):∃ob es ep us,s.heap.get? a=some ob/\ob.cls=.type "dict"/\ob.dict=none/\ob.data=.dict es ep/\(a==sysModules)=false /\
  (∃j,ReadsAll s.heap (es.toList.map (·.key)) ks j)/\lA xs us/\es.toList.map (·.val)=us:=by
 cases b with
 |true=>obtain⟨e,kvs,rfl,rfl,rfl,hk,_⟩:=q;obtain⟨_,v,f,x,ob,es,ep,k,y,w,u,_⟩:=YK I h hk;refine⟨ob,es,ep,_,k,y.1,y.2.1,w,v,?_,K8 x,?_⟩;rw[u,QY];exact d3 I x hk;rw[u,QY];rfl|false =>
  rcases q with⟨kvs,_,rfl,rfl,rfl,_⟩| ⟨e,rfl,rfl,rfl⟩
  rotate_left
  obtain⟨_,v,f,x,ob,es,ep,k,y,w,u,_⟩:=YK I h λ_ z=>nomatch z;cases x;exact⟨ob,es,ep,[],k,y.1,y.2.1,w,v,⟨_,by rw[u];exact .nil⟩,.nil,by rw[u];rfl⟩;obtain⟨_,v,vs,x,ob,es,ep,k,y,w,_,u,_⟩:=yT I h;obtain⟨i,g⟩:=HR (s:=s) x u;exact⟨ob,es,ep,_,k,y.1,y.2.1,w,v,i,Z8 x,g⟩
theorem Rep.reads2(I:Inv X pins σ H s):(∀{x:V}{d:PyData},Rep X.K H x d->∀u,JA x u->∃y,Reads s.heap u d y)/\∀{xs:LV}{ds:List PyData},Reps X.K H xs ds->∀us,lA xs us->∃y,ReadsAll s.heap us ds y:=by
 refine Rep.both (P:=λx d=>∀u,JA x u->∃y,Reads s.heap u d y) (R:=λxs ds=>∀us,lA xs us->∃y,ReadsAll s.heap us ds y) (λu r=>?_) (λb u r=>?_) (λi u r=>?_) (λx u r=>?_) (λh q v u r=>?_) (λh q v u r=>?_) (λ{b a o w xs ds} h q r v u l=>?_) (λus r=>?_) λ_ _ p m us r=>?_;cases r;exact⟨_,.none⟩;cases r;exact⟨_,.bool b⟩;obtain⟨t,rfl⟩:=r;exact⟨_,.int i t⟩;obtain⟨t,rfl⟩:=r;exact⟨_,.str x t⟩;cases r;obtain⟨g,k,⟨o,n,e,c,_,d⟩,_⟩:=I.list h;obtain⟨y,z⟩:=v _ k;exact⟨_,.list e c d (by simpa using z)⟩;cases r;obtain⟨g,k,⟨o,e,c,n,d⟩,_⟩:=I.tuple h;obtain⟨y,z⟩:=v _ k;exact⟨_,.tuple e c d (by simpa using z)⟩;cases l;obtain⟨ob,L,M,us,C,B,J,A,G,⟨y,W⟩,Z,Y⟩:=KZ I h q;obtain⟨bs,f⟩:=v _ Z;have hl:w.length=ds.length:=by rw[q.len,Reps.length r]
 have F:(w.zip ds).map (λx=>x.1)=w:=Wr (wx hl);have E:(w.zip ds).map (λx=>x.2)=ds:=WD (wx hl.symm);exact⟨_,.dict C B A (by rw[F];exact W) (by rw[E,Y];exact f)⟩;cases r;exact⟨_,.nil⟩;cases r with|cons r j=>obtain⟨y,z⟩:=p _ r;obtain⟨bs,f⟩:=m _ j;exact⟨_,.cons z f⟩
theorem Rep.reads(I:Inv X pins σ H s){x:V}{d:PyData}{u:Value}(h:Rep X.K H x d)(r:JA x u):∃y,Reads s.heap u d y:=(Rep.reads2 I).1 h u r
def vF(d:PyData):Prop:=d.canLay0=true/\d.depth<=64
noncomputable def rEq(K:QA)(neg:Bool):R2:=λx y H Q=>match x,y with
 | .int i,.int j=>Q (.bl (if neg then !decide (i=j) else decide (i=j))) H|.str a,.str b=>Q (.bl (if neg then !decide (a=b) else decide (a=b))) H|.bl a,.bl b=>Q (.bl (if neg then !decide (a=b) else decide (a=b))) H|x,y=>∃z h,Rep K H x z/\Rep K H y h/\vF z/\vF h/\Q (.bl (if neg then !PyData.eqv z h else Qw z h)) H
theorem op_eq(C:X.A.units+64<cLine):AE X (compareOp .Eq) (rEq X.K false):=by
 intro z s g H x y v u Q I o n h;have k:(∃f e,Rep X.K H x f/\Rep X.K H y e/\vF f/\vF e/\Q (.bl (if false=true then !PyData.eqv f e else Qw f e)) H)->wpAny (model X.prog X.w) X.A (compareOp .Eq v u) (EP X z g Q) X.xe s:=by rintro⟨f,e,m,l,⟨Z,B⟩,⟨Y,W⟩,q⟩;obtain⟨E,r⟩:=m.reads I o;obtain⟨bs,p⟩:=l.reads I n;exact SeqAt.compareEq_reads r p Z Y (by omega) ⟨.bl _,H,I,rfl,q⟩
 have sc:A8 x y=true->Q (.bl (decide (x=y))) H->wpAny (model X.prog X.w) X.A (compareOp .Eq v u) (EP X z g Q) X.xe s:=λm l=>_root_.L2.op_eq z s g H x y v u Q I o n ⟨m,l⟩;cases x with
 |int i =>
  cases y with|int j=>exact sc rfl (by simpa[rEq]using h)|_=>exact k h
 |str a =>
  cases y with|str b=>exact sc rfl (by simpa[rEq]using h)|_=>exact k h
 |bl a =>
  cases y with|bl b=>exact sc rfl (by simpa[rEq]using h)|_=>exact k h
 |_=>exact k h
theorem op_ne(C:X.A.units+64<cLine):AE X (compareOp .NotEq) (rEq X.K true):=by
 intro z s g H x y v u Q I o n h;have k:(∃f e,Rep X.K H x f/\Rep X.K H y e/\vF f/\vF e/\Q (.bl (if true=true then !PyData.eqv f e else Qw f e)) H)->wpAny (model X.prog X.w) X.A (compareOp .NotEq v u) (EP X z g Q) X.xe s:=by rintro⟨f,e,m,l,⟨Z,B⟩,⟨Y,W⟩,q⟩;obtain⟨E,r⟩:=m.reads I o;obtain⟨bs,p⟩:=l.reads I n;exact SeqAt.compareNe_reads r p Z Y (by omega) ⟨.bl _,H,I,rfl,q⟩
 have sc:A8 x y=true->Q (.bl (!decide (x=y))) H->wpAny (model X.prog X.w) X.A (compareOp .NotEq v u) (EP X z g Q) X.xe s:=λm l=>_root_.L2.op_ne z s g H x y v u Q I o n ⟨m,l⟩;cases x with
 |int i =>
  cases y with|int j=>exact sc rfl (by simpa[rEq]using h)|_=>exact k h
 |str a =>
  cases y with|str b=>exact sc rfl (by simpa[rEq]using h)|_=>exact k h
 |bl a =>
  cases y with|bl b=>exact sc rfl (by simpa[rEq]using h)|_=>exact k h
 |_=>exact k h
def ZY(f:Int->Int->Bool):R2:=λx y H Q=>match x,y with
 | .int i,.int j=>Q (.bl (f i j)) H|_,_=>False
theorem FP{w:CmpOp}{f:Int->Int->Bool}(e:AE X (compareOp w) (d9 λi j=>.bl (f i j))):AE X (compareOp w) (ZY f):=by
 intro z s k H x y v u Q I b a h;cases x with
 |int i =>
  cases y with|int j=>exact e z s k H _ _ v u Q I b a ⟨i,j,rfl,rfl,h⟩|_=>exact Qd h
 |_=>exact Qd h
noncomputable def inStr(b a:Str):Bool:=match a.cps.toList with
 |[c]=>decide (c∈b.cps.toList)|_=>!(wb b a 0 b.length 1).isEmpty
theorem DS(b a:Str):inStr b a=!(wb b a 0 b.length 1).isEmpty:=by
 unfold inStr;split;rename_i c e;have x:a=⟨#[c]⟩:=by
  obtain⟨h⟩:=a;have:h=#[c]:=by apply WC.mp;simpa using e
  rw[this]
 rw[x];exact(StrLaws.found_one b c).symm;rfl
noncomputable def MR(K:QA)(neg:Bool):R2:=λx y H Q=>match y with
 | .str b=>match x with
  | .str a=>Q (.bl (if neg then !inStr b a else inStr b a)) H|_=>False
 | .ref p=>Os K neg x (.ref p) H Q∨(∃d h,Rep K H x d/\(Rep K H (.ref p) (.list h)∨Rep K H (.ref p) (.tuple h))/\vF d/\vF (.list h)/\Q (.bl (if neg then !(h.any λy=>Qw y d) else h.any λy=>Qw y d)) H)∨(∃o,jR K H p x o/\Q (.bl (if neg then !o.isSome else o.isSome)) H)|_=>False
theorem sO{ds:List PyData}(h:vF (.list ds)):qk ds=true/\wW ds<=63:=by obtain⟨x,y⟩:=h;simp only[QAT]at x;simp only[QA4]at y;exact⟨x,by omega⟩
theorem Gn(Y:X.A.units+66<cLine):AE X (compareOp .In) (MR X.K false):=by
 intro z s i H x y v u Q I e w h;cases y with
 |str b =>
  cases x with|str a=>refine FY z s i H _ _ v u Q I e w ⟨a,b,rfl,rfl,?_⟩;rw[<- DS];simpa[MR]using h|_=>exact Qd h
 |ref p =>
  rcases h with h|⟨d,Z,r,k,l,n,q⟩| ⟨o,g,q⟩
  rotate_left 2
  cases w;exact Kb Y I e g q;exact GY z s i H _ _ v u Q I e w h;obtain⟨B,j⟩:=r.reads I e;obtain⟨m,W⟩:=sO n;rcases k with k|k;obtain⟨bs,f⟩:=k.reads I w;exact SeqAt.in_list_reads f j m l.1 (by omega) ⟨.bl _,H,I,rfl,q⟩;obtain⟨bs,f⟩:=k.reads I w;exact SeqAt.in_tuple_reads f j m l.1 (by omega) ⟨.bl _,H,I,rfl,q⟩
 |_=>exact Qd h
theorem i4(Y:X.A.units+66<cLine):AE X (compareOp .NotIn) (MR X.K true):=by
 intro z s i H x y v u Q I e w h;cases y with
 |str b =>
  cases x with|str a=>refine GP z s i H _ _ v u Q I e w ⟨a,b,rfl,rfl,?_⟩;rw[<- DS];simpa[MR]using h|_=>exact Qd h
 |ref p =>
  rcases h with h|⟨d,Z,r,k,l,n,q⟩| ⟨o,g,q⟩
  rotate_left 2
  cases w;exact RU Y I e g q;exact HP z s i H _ _ v u Q I e w h;obtain⟨B,j⟩:=r.reads I e;obtain⟨m,W⟩:=sO n;rcases k with k|k;obtain⟨bs,f⟩:=k.reads I w;exact SeqAt.notIn_list_reads f j m l.1 (by omega) ⟨.bl _,H,I,rfl,q⟩;obtain⟨bs,f⟩:=k.reads I w;exact SeqAt.notIn_tuple_reads f j m l.1 (by omega) ⟨.bl _,H,I,rfl,q⟩
 |_=>exact Qd h
end
end
section
variable{X:Cx}
theorem VT:∀{bs:List Bool}{us:LW},lA (bs.map V.bl) us->∀(i:Nat) (v:Value),us[i]?=some v->∃b,bs[i]?=some b/\v=Value.bool b
 |[],_,.nil,i,v,h=>by simp at h|b::bs,_,.cons r t,0,v,h=>by simp at h;subst h;exact⟨b,by simp,r⟩|b::bs,_,.cons r t,i+1,v,h=>by obtain⟨c,y,x⟩:=VT (bs:=bs) t i v (by simpa using h);exact⟨c,by simpa using y,x⟩
theorem YY(bs:List Bool):(Ql bs.length).any (λi=>bs.getD i false)=bs.any id:=by
 rw[qD,Ws,Ws];constructor;rintro⟨i,x,e⟩;have h:i<bs.length:=by simpa using x
 exact⟨bs[i],wG h,by simpa[QCd,h]using e⟩;rintro⟨b,hb,e⟩;obtain⟨i,x,y⟩:=List.getElem_of_mem hb;exact⟨i,by simpa using x,by simp[QCd,x,y];simpa using e⟩
def on(K:QA):LV->Hp->VK->Prop:=λh H Q=>match h with
 |[.ref a]=>∃bs:List Bool,FC K H a (bs.map V.bl)/\Q (.bl (bs.any id)) H|_=>False
theorem l7(l:X.calm=true):oC X (.builtin "any") (on X.K):=by
 intro k s Z H f W Q I r h
 match f,h with
 |[.ref a],⟨bs,hq,q⟩ =>
  obtain⟨u,rfl,j⟩:=vH r;cases j;obtain⟨x,w,p,C⟩:=I.list hq;have hl:=w.length;rw[QD]at hl;refine call_any_walk (QAd p.isList ?_);have y:a<s.heap.objs.size:=by obtain⟨o,n,e,_⟩:=p;exact QX e
  refine⟨s.heap.objs.size,_,_,_,_,_,λi=>bs.getD i false,rfl,Walks.list (A:=X.A.in1) (I.ok.hd l) s.heap.objs.size a (Qk y) x.toArray,⟨⟨_,QU _ rfl,rfl,rfl⟩,?_⟩,?_,?_⟩;obtain⟨o,n,e,c,d,sq⟩:=p;exact⟨o,QH _ e,c,n,sq⟩;intro i v B F G m z;obtain⟨b,hb,rfl⟩:=VT w i v (by simpa using m);refine wP ?_;have:bs.getD i false=b:=by simp[QCd,hb]
  rw[<- this];exact z;intro E g hk;have Y:(Ql x.toArray.size).any (λi=>bs.getD i false)=bs.any id:=by rw[QN,<- hl,YY]
  rw[Y];exact⟨.bl _,H,I.kept (t':=g) (λb o e=>hk b o (by simp;exact Qk (QX e)) (QH _ e)),rfl,q⟩
def xn(K:QA):LV->Hp->VK->Prop:=λx H Q=>(∃z,x=[.str z]/\z.length<=sizeLine/\Q (.int z.length) H)∨∃a h,x=[.ref a]/\(FC K H a h∨xD K H a h)/\Q (.int h.length) H
theorem c7:oC X (.builtin "len") (xn X.K):=λx s y H z u Q I r h=>h.elim (LQ x s y H z u Q I r) (II x s y H z u Q I r)
def cV:V->Option Value
 | .ty n=>some (.type n)|.ref C=>some (.ref C)|_=>none
def Nv(K:QA)(H:Hp)(x:V)(t:Value):Prop:=(∃a h,x=.ref a/\FC K H a h/\t=.type "list")∨∃a h,x=.ref a/\xD K H a h/\t=.type "tuple"
def lh(K:QA):LV->Hp->VK->Prop:=λy H Q=>match y with
 |[x,c]=>∃t h b,(TyOf K H x t∨Nv K H x t)/\cV c=some h/\QBM K t h=some b/\Q (.bl b) H|_=>False
theorem f7:oC X (.builtin "isinstance") (lh X.K):=by
 intro m s Y H w Z Q I r h
 match w,h with
 |[x,c],⟨t,cv,b,ty,hc,hk,q⟩ =>
  obtain⟨u,k,rfl,f,v⟩:=Nc r;have e:k=cv:=by
   cases c with|ty n=>have l:k=Value.type n:=v;have j:some (Value.type n)=some cv:=hc;rw[l];exact Qm j|ref C=>have l:k=Value.ref C:=v;have j:some (Value.ref C)=some cv:=hc;rw[l];exact Qm j|_=>cases hc
  subst e;rcases ty with ty|⟨a,w,rfl,i,rfl⟩| ⟨a,w,rfl,i,rfl⟩
  exact mZ I f ty hk λy=>⟨.bl b,H,I.tok y,rfl,q⟩
  cases f;obtain⟨g,p,⟨o,n,e,c,_,d⟩,_⟩:=I.list i;exact qK QAa I.kIn ⟨o,e,c⟩ hk (λz=>nomatch z) λy=>⟨.bl b,H,I.tok y,rfl,q⟩
  cases f;obtain⟨g,p,⟨o,e,c,n,d⟩,_⟩:=I.tuple i;exact qK QBk I.kIn ⟨o,e,c⟩ hk (λz=>nomatch z) λy=>⟨.bl b,H,I.tok y,rfl,q⟩
def Ms(K:QA):V->Option Int->Option Int->Hp->VK->Prop:=λx h y H Q=>match x with
 | .str z=>z.length<=sizeLine/\Q (.str (wm z h y)) H|.ref a=>jn K (.ref a) h y H Q∨Im K (.ref a) h y H Q|_=>False
theorem yh:Vf X (Ms X.K):=by
 intro y s m H x v E C Y B b Q I p W r e h;cases x with
 |str z =>
  obtain⟨t,rfl⟩:=p;obtain⟨J,q⟩:=h;refine⟨"str",_,F.slot_str_getitem.lookup,QCa _ _ _,?_⟩;have fin:∀l u:Option (Int×Tok),l.map (·.1)=Y->u.map (·.1)=B->s.heap.IsSlice b l u none->wpAny (model X.prog X.w) X.A (getItem (.str z t) (.ref b)) (EP X y m Q) X.xe s:=λl u M L Z=>by refine wpAny_getItem_str_slice Z rfl ?_;subst M L;exact post_val_or_str ⟨QV (Txt.slice_le z _ _) J,λN k=>⟨.str (wm z _ _),H,I.tok k,⟨_,rfl⟩,q⟩⟩
  obtain⟨o,f,hc,g⟩:=W;cases r with
  |none =>
   cases e with|none=>exact fin none none rfl rfl ⟨o,f,hc,g⟩|int j n=>exact fin none (some (j,n)) rfl rfl ⟨o,f,hc,g⟩
  |int i G =>
   cases e with|none=>exact fin (some (i,G)) none rfl rfl ⟨o,f,hc,g⟩|int j n=>exact fin (some (i,G)) (some (j,n)) rfl rfl ⟨o,f,hc,g⟩
 |ref a=>rcases h with h|h;exact S8 y s m H _ v E C Y B b Q I p W r e h;exact jh y s m H _ v E C Y B b Q I p W r e h
 |_=>exact Qd h
end
section
variable{h h':Heap}{j:Addr}{z:Src}{k:Nat}{xs:Array Value}
inductive Src where
 |l (a:Addr)|t (a:Addr)
def Src.adr:Src->Addr
 | .l a=>a|.t a=>a
def zE(h:Heap)(j:Addr):Src->Nat->Prop
 | .l a,k=>h.IsListIter j a k|.t a,k=>h.IsTupleIter j a k
def GB(h:Heap):Src->Array Value->Prop
 | .l a,xs=>h.IsList a xs|.t a,xs=>h.IsTuple a xs
theorem zE.keep(x:zE h j z k)(e:∀o,h.get? j=some o->h'.get? j=some o):zE h' j z k:=by
 cases z with|l a=>obtain⟨o,u,y⟩:=x;exact⟨o,e o u,y⟩|t a=>obtain⟨o,u,y⟩:=x;exact⟨o,e o u,y⟩
theorem zE.obj(x:zE h j z k):∃o,h.get? j=some o/\∀v,o.data≠.cell v:=by
 cases z with|l a=>obtain⟨o,u,w,y⟩:=x;exact⟨o,u,λv q=>by rw[y]at q;cases q⟩|t a=>obtain⟨o,u,w,y⟩:=x;exact⟨o,u,λv q=>by rw[y]at q;cases q⟩
theorem GB.ext{b:Addr}(x:GB h z xs)(e:W7 b h h')(n:z.adr≠b):GB h' z xs:=by
 cases z with|l a=>exact QCS.extBut x e n|t a=>exact Heap.IsTuple.extBut x e n
theorem GB.lt(x:GB h z xs):z.adr<h.objs.size:=by
 cases z with|l a=>obtain⟨o,y,_⟩:=x;exact QX y|t a=>obtain⟨o,y,_⟩:=x;exact QX y
theorem zE.lt(x:zE h j z k):j<h.objs.size:=by obtain⟨o,y,_⟩:=x.obj;exact QX y
end
section
variable{prog:Program}{w:World}{A:Around}{E:aC}{s:Shared}
section
variable{j t:Addr}{k:Nat}{xs:Array Value}{x:Value}{Q:aC}{z:Src}
theorem ai(p:s.heap.IsTupleIter j t k)(pt:s.heap.IsTuple t xs)(a:xs[k]?=some x)
  (q:∀h',h'.IsTupleIter j t (k+1)->qW j s.heap h'->Q x { s with heap:=h' }):wpAny (model prog w) A (qU (.ref j)) Q E s:=by
 obtain⟨ob,y,b,h⟩:=id p;obtain⟨e,v,_,f,u⟩:=pt;unfold qU;refine QC (qR (name:=QR "__next__") p.typeIs qd (qL qd p.typeIs WQ ?_ (WL _)));show wpAny _ _ (field (.ref j) 0 >>= _) _ _ _;refine QC (wL y h (x:=.ref t) rfl ?_);show wpAny _ _ (if(Value.ref t==Value.none)=true then _ else _) _ _ _;rw[if_neg (show ¬ (Value.ref t==Value.none)=true from QG)];show wpAny _ _ (field (.ref j) 1 >>= _) _ _ _;refine QC (wL y h (x:=.int k 0) rfl ?_);show wpAny _ _ (seqItems? (.ref t) >>= _) _ _ _;refine QC (QBK v u ?_);simp only[qQ,a];refine QC (QAU y h (by simp) (QK ⟨x,rfl,QK (q _ ?_ (Q5 ..))⟩));refine⟨_,wv _ y (QA5 (WR h _)),(QB0 ..).trans b,?_⟩;rw[WR h];simp[rawInt]
theorem PU(u:A.handled=none)(p:s.heap.IsTupleIter j t k)(pt:s.heap.IsTuple t xs)(f:xs[k]?=none)
  (q:∀h' e,W7 j s.heap h'->(∃o,h'.get? e=some o/\o.cls=.type "StopIteration")->E (.ref e) { s with heap:=h' }):wpAny (model prog w) A (qU (.ref j)) Q E s:=by
 obtain⟨ob,y,l,h⟩:=id p;obtain⟨g,b,_,i,v⟩:=pt;unfold qU;refine QC (qR (name:=QR "__next__") p.typeIs qd (qL qd p.typeIs WQ ?_ (WL _)));show wpAny _ _ (field (.ref j) 0 >>= _) _ _ _;refine QC (wL y h (x:=.ref t) rfl ?_);show wpAny _ _ (if(Value.ref t==Value.none)=true then _ else _) _ _ _;rw[if_neg (show ¬ (Value.ref t==Value.none)=true from QG)];show wpAny _ _ (field (.ref j) 1 >>= _) _ _ _;refine QC (wL y h (x:=.int k 0) rfl ?_);show wpAny _ _ (seqItems? (.ref t) >>= _) _ _ _;refine QC (QBK b v ?_);simp only[qQ,f];refine QC (QB1 (QC (QAU y h (by simp) ?_)));refine QC (m:=newExc (.type "StopIteration") []) ?_;simp only[newExc,newTuple];refine QC (Q0 ?made (by size_fits));refine QC (m:=firstArgMember _ _) (QCT (a:=Value.none) (by first|rfl | (rw[firstArgMember];rfl)) ?arg);refine Q0 ?made2 (by size_fits);simp only[raiseNew];refine QC (QBn ?_);first|rw[show A.in1.handled=none from u]|rw[u]
 refine QC (QK (QCU (q _ _ (((Q5 ..).extBut.push _).push _) ⟨_,QU _ rfl,rfl⟩)))
theorem Fa(p:zE s.heap j z k)(pt:GB s.heap z xs)(h:xs[k]?=some x)
  (q:∀h',zE h' j z (k+1)->qW j s.heap h'->Q x { s with heap:=h' }):wpAny (model prog w) A (qU (.ref j)) Q E s:=by
 cases z with|l a=>exact wpAny_nextOf_list_item p pt h q|t a=>exact ai p pt h q
theorem T4(y:A.handled=none)(p:zE s.heap j z k)(pt:GB s.heap z xs)(h:xs[k]?=none)
  (q:∀h' e,W7 j s.heap h'->(∃o,h'.get? e=some o/\o.cls=.type "StopIteration")->E (.ref e) { s with heap:=h' }):wpAny (model prog w) A (qU (.ref j)) Q E s:=by
 cases z with|l a=>exact wpAny_nextOf_list_end y p pt h q|t a=>exact PU y p pt h q
noncomputable def Src.it:Src->Obj
 | .l a=>{ cls:=.type "list_iterator",data:=.fields #[.ref a,.int 0 0] }|.t a=>{ cls:=.type "tuple_iterator",data:=.fields #[.ref a,.int 0 0] }
theorem eR(pt:GB s.heap z xs)(q:Q (.ref s.heap.objs.size) { s with heap:=s.heap.push z.it }):wpAny (model prog w) A (pyIter (.ref z.adr)) Q E s:=by
 cases z with|l a=>exact QAd pt q|t a=>exact QBo pt q
theorem M8(h:Heap)(z:Src):zE (h.push z.it) h.objs.size z 0:=by
 cases z with|l a=>exact⟨_,QU _ rfl,rfl,rfl⟩|t a=>exact⟨_,QU _ rfl,rfl,rfl⟩
end
end
section
variable{prog:Program}{w:World}{A:Around}{E:aC}{s:Shared}
theorem vh{h h':Heap}{b:Addr}{z:Src}{xs:Array Value}(x:GB h z xs)(e:qW b h h')(n:z.adr≠b):GB h' z xs:=x.ext e.extBut n
end
section
variable{X:Cx}{w:NB}{σ:St}{H:Hp}{s:Shared}{h':Heap}
theorem _root_.L2.Inv.turnedL{t':Nat}{ch:List Addr}(I:Inv X w σ H s)(k:∀b o,b∉ch->s.heap.get? b=some o->h'.get? b=some o)(f:∀b∈ch,nJ X w H b):Inv X w σ H { s with heap:=h',toks:=t' }:=by
 have h:∀b u,H b=some u->b∉ch:=λb u e z=>by rw[(f b z).1]at e;cases e
 have a:X.env.locals∉ch:=λz=>(f _ z).2.1 rfl;refine I.step (g':=s.gens) (d':=s.drawn) (ch:=ch) (λb hb=>?_) (λb o _ _ hc e _=>k b o hc e) (λb o _ _ hc e _=>⟨o.slots,k b o hc e⟩) (λ_ _ _ _ n=>n)
  (λb o hc e=>⟨o,k b o hc e⟩) (λ_ _ e=>e) (λ_ _ _ e=>e) (λ_ _ e=>e) (λm y=>?_) (λb u e=>?_) I.bare
 obtain⟨_,l,_,j,i,g⟩:=f b hb;exact⟨j,l,i,g⟩;obtain⟨o,p,Y,x,r⟩:=y;exact⟨o,p,Y,k _ o a x,r⟩;refine(I.hok b u e).stay (λc v hc q=>k c v ?_ q) (λ_ q=>q) λ_ _ q=>q;rcases hc with z|z;rw[z];exact h b u e;exact h c _ z
def TZ(K:QA)(H:Hp):Src->LV->Prop
 | .l a,xs=>FC K H a xs|.t a,xs=>xD K H a xs
theorem _root_.L2.Inv.src(I:Inv X w σ H s){z:Src}{xs:LV}(h:TZ X.K H z xs):∃its:LW,lA xs its/\GB s.heap z its.toArray/\xs.length<=sizeLine:=by
 cases z with|l a=>obtain⟨its,x,p,y⟩:=I.list h;exact⟨its,x,p.isList,y⟩|t a=>obtain⟨its,x,p,y⟩:=I.tuple h;exact⟨its,x,p,y⟩
theorem _root_.L2.Inv.src_inj(I:Inv X w σ H s){z:Src}{xs x:LV}(h:TZ X.K H z xs)(h':TZ X.K H z x):xs=x:=by
 cases z with|l a=>exact I.list_inj h h'|t a=>exact I.tuple_inj h h'
theorem _root_.L2.Inv.pair{p:Addr}{a b:Value}{x y:V}{t':Nat}(I:Inv X w σ H s)(k:∀b u,s.heap.get? b=some u->h'.get? b=some u)(v:s.heap.objs.size<=p)(e:h'.get? p=some { cls:=.type "tuple",data:=.seq #[a,b] })(z:JA x a)(h:JA y b) :
  Inv X w σ (BA H p (.tup [x,y])) { s with heap:=h',toks:=t' } :=
 I.laid k v ⟨by rw[Q8];show 2<=_;decide,[a,b],.cons z (.cons h .nil),_,e,rfl,_,rfl⟩
end
section
variable{prog:Program}{w:World}{A:Around}{E:aC}{s:Shared}
section
variable{z d:Addr}{u:Obj}{es:Array DictEntry}{i ep:Nat}{f c:Value}{Q:Option Value->Shared->Prop}
theorem aD:Wz "dict_itemiterator"=true:=by decide +kernel
theorem DJ(l:List String)(h:(l.contains "dict_itemiterator" || l.contains "object")=false):(l.any λt=>[Value.type "dict_itemiterator",Value.type "object"].contains (.type t))=false:=by
 rw[QBu];intro t x;rw[Bool.or_eq_false_iff]at h;have v:t≠"dict_itemiterator":=λe=>by subst e;rw[Qt.mpr x]at h;cases h.1
 have y:t≠"object":=λe=>by subst e;rw[Qt.mpr x]at h;cases h.2
 simp[v,y]
theorem R4{e:DictEntry}
  (n:IsItemIter s.heap z d i es.size ep f c) (Y:s.heap.get? d=some u) (C:u.data=.dict es ep) (J:es[i]?=some e)
  (q:∀h',IsItemIterOut h' z d (i+1) es.size ep e.key e.val s.heap.objs.size->h'.get? s.heap.objs.size=some { cls:=.type "tuple",data:=.seq #[e.key,e.val] } ->
   h'.objs.size=s.heap.objs.size+1->(∀b o,b≠z->s.heap.get? b=some o->h'.get? b=some o)->Q (some (.ref s.heap.objs.size)) { s with heap:=h' }) :
  wpAny (model prog w) A (pyNext (.ref z)) Q E s:=by
 have G:s.TypeIs (.ref z) "dict_itemiterator":=⟨_,n,rfl⟩
 show wpAny _ _ (bind _ _) _ _ _;refine QC (W0 (qR G qV (qL qV G Wj ?_ (Wc _))));show wpAny _ _ (bind _ _) _ _ _;refine QC (QK (QC (QC (QC (qu G (QK (QC (QAV n rfl ?_))))))));rw[aD];show wpAny _ _ (if(Value.ref d==Value.none)=true then _ else _) _ _ _;rw[if_neg (show ¬ (Value.ref d==Value.none)=true from QG)];show wpAny _ _ (wM (.ref d) >>= _) _ _ _;refine QC (QK (QC (wB Y C ?_)));rw[if_neg (show ¬ (((es.size:Nat):Int) != ((es.size:Nat):Int))=true by simp)];refine QC (QK (QC (wy Y C ?_)));rw[if_neg (show ¬ (((ep:Nat):Int) != ((ep:Nat):Int))=true by simp)];refine QK ?_;have L:(if((i:Nat):Int)<0 then none else es[((i:Nat):Int).toNat]?)=some e:=by rw[if_neg (by omega),qQ];exact J
 simp only[L];refine QC ?_;show wpAny _ _ (typeNameOfWhole (.ref z) >>= _) _ _ _;refine QC (qu G (QK (QC (WZ G ?_))));rw[aD,if_pos rfl];rw[show(List.any _ λt=>[Value.type "dict_itemiterator",Value.type "object"].contains (.type t))=false from DJ _ (by decide +kernel),if_neg QG];refine QC (wH n (by simp) λa h X=>?_);have h:IsItemIter a z d (i+1) es.size ep f c:=h;refine QC (qp ?_);have F:({ s with heap:=a }:Shared).TypeIs (.ref z) "dict_itemiterator":=⟨_,h,rfl⟩
 show wpAny _ _ (Builtin.Dict_items.isOneOf (.ref z) _ >>= _) _ _ _;refine QC (WZ F ?_);rw[DJ _ (by decide +kernel),if_neg QG];refine QC (WZ F ?_);rw[DJ _ (by decide +kernel),if_neg QG];show wpAny _ _ (newTuple [e.key,e.val] >>= _) _ _ _;refine QC (QBO ?_);have r:a.objs.size=s.heap.objs.size:=X.1;have y:IsItemIter (a.push { cls:=.type "tuple",data:=.seq #[e.key,e.val] }) z d (i+1) es.size ep f c:=QH _ h;show wpAny _ _ (Builtin.Dict_items.ownedTupleIsFree (.ref z) >>= _) _ _ _;refine QC ?_;show wpAny _ _ (field (.ref z) 0 >>= _) _ _ _;refine QC (wL y rfl (x:=.none) rfl (QK ?_));rw[if_pos rfl];show wpAny _ _ (field (.ref z) 6 >>= _) _ _ _;refine QC (wL y rfl (x:=f) rfl ?_);refine QC (wL y rfl (x:=c) rfl ?_);refine QC (wH y (by simp) λO B m=>?_);refine QC (wH B (by simp) λN K l=>?_);refine QC (wH K (by simp) λM W j=>?_);refine QC (wH W (by simp) λI Z g=>?_);refine QC (wpAny_letGo (QK ?_));refine QK ⟨_,rfl,QK ?_⟩;have k:z<a.objs.size:=QX h;have pt:I.get? a.objs.size=some { cls:=.type "tuple",data:=.seq #[e.key,e.val] } :=
  g.extBut _ _ (wt k) (j.extBut _ _ (wt k) (l.extBut _ _ (wt k) (m.extBut _ _ (wt k) (QU _ rfl))))
 have p:I.objs.size=a.objs.size+1:=by rw[g.1,j.1,l.1,m.1,QAR]
 have v:IsItemIterOut I z d (i+1) es.size ep e.key e.val a.objs.size:=Z;rw[r]at pt p v;have:=q I v pt p λb o hb x=>g.extBut _ _ hb (j.extBut _ _ hb (l.extBut _ _ hb (m.extBut _ _ hb (QH _ (X.extBut _ _ hb x)))));show Q (some (.ref a.objs.size)) _;rw[r];exact this
theorem PP(g:A.handled=none)
  (h:IsItemIter s.heap z d i es.size ep f c) (x:s.heap.get? d=some u) (y:u.data=.dict es ep) (j:es[i]?=none)
  (q:∀h',W7 z s.heap h'->Q none { s with heap:=h' }) :
  wpAny (model prog w) A (pyNext (.ref z)) Q E s:=by
 have v:s.TypeIs (.ref z) "dict_itemiterator":=⟨_,h,rfl⟩
 show wpAny _ _ (bind _ _) _ _ _;refine QC (W0 (qR v qV (qL qV v Wj ?_ (Wc _))));show wpAny _ _ (bind _ _) _ _ _;refine QC (QK (QC (QC (QC (qu v (QK (QC (QAV h rfl ?_))))))));rw[aD];show wpAny _ _ (if(Value.ref d==Value.none)=true then _ else _) _ _ _;rw[if_neg (show ¬ (Value.ref d==Value.none)=true from QG)];show wpAny _ _ (wM (.ref d) >>= _) _ _ _;refine QC (QK (QC (wB x y ?_)));rw[if_neg (show ¬ (((es.size:Nat):Int) != ((es.size:Nat):Int))=true by simp)];refine QC (QK (QC (wy x y ?_)));rw[if_neg (show ¬ (((ep:Nat):Int) != ((ep:Nat):Int))=true by simp)];refine QK ?_;have l:(if((i:Nat):Int)<0 then none else es[((i:Nat):Int).toNat]?)=none:=by rw[if_neg (by omega),qQ];exact j
 simp only[l];refine QC ?_;show wpAny _ _ (typeNameOfWhole (.ref z) >>= _) _ _ _;refine QC (qu v (QK ?_));rw[aD,if_pos rfl];refine QC (wH h (by simp) λn e k=>?_);refine QC (m:=newExc (.type "StopIteration") []) ?_;simp only[newExc,newTuple];refine QC (Q0 ?made (by size_fits));refine QC (m:=firstArgMember _ _) (QCT (a:=Value.none) (by first|rfl | (rw[firstArgMember];rfl)) ?arg);refine Q0 ?made2 (by size_fits);simp only[raiseNew];refine QC (QBn ?_);first|rw[show A.in1.handled=none from g]|rw[g]
 refine QC (QK (QCU ?_));refine QC (QAq (T:="StopIteration") (b:=true) ⟨_,QU _ rfl,rfl⟩ (by kernel_rfl) ?_);rw[if_pos rfl];exact QK (q _ ((k.extBut.push _).push _))
theorem c6{v:Addr}{Q:aC}(hv:s.heap.IsItemsView v d)(h:s.heap.get? d=some u)(x:u.data=.dict es ep)
  (q:Q (.ref s.heap.objs.size) { s with heap:=s.heap.push { cls:=.type "dict_itemiterator",data:=.fields #[.none,.bool false,.ref d,.int 0 0,.int es.size 0,.int ep 0,.none,.none] } }) :
  wpAny (model prog w) A (pyIter (.ref v)) Q E s:=by
 have a:=Heap.IsItemsView.typeIs hv;obtain⟨c,y,b,k⟩:=id hv;refine QB2 a QAv (qL QAv a F.entry_dict_items_iter ?_ (F.args_dict_items_iter_1 _));show wpAny _ _ (bind _ _) _ _ _;refine QC (QK (QC ?_));show wpAny _ _ (bind _ _) _ _ _;refine QC (wL y k rfl (QK (QC ?_)));show wpAny _ _ (bind _ _) _ _ _;refine QC (wB h x (QC (wy h x ?_)));simp only[aD,if_true];refine Q0 (QK ⟨_,rfl,"dict_itemiterator",_,⟨_,QU _ rfl,rfl⟩,qV.lookup,q⟩) (show _<=sizeLine+2 by simp[Builtin.Dict_items.ownedTupleFields,Q8])
theorem yW{Q:aC}(h:s.heap.get? d=some u)(x:u.cls=.type "dict")(v:(d==sysModules)=false)
  (q:Q (.ref s.heap.objs.size) { s with heap:=s.heap.push { cls:=.type "dict_items",data:=.fields #[.ref d] } }):wpAny (model prog w) A (call (.builtin "dict.items") [.ref d]) Q E s:=by
 have y:s.TypeIs (.ref d) "dict":=⟨_,h,x⟩
 refine qL F.slot_dict_items y F.entry_dict_items ?_ (F.args_dict_items_1 _);show wpAny _ _ (bind _ _) _ _ _;refine QC ?_;show wpAny _ _ (bind _ _) _ _ _;refine QC (Wk y ?_);refine QK ?_;show wpAny _ _ ((if(d==sysModules)=true then _ else _) >>= _) _ _ _;rw[v,if_neg QG];exact QC (QK (QC (Q0 (QK ⟨_,rfl,q⟩) (show _<=sizeLine+2 by simp[Q8]))))
theorem kY{Y:Type}[DecidableEq Y]{h:HeapKind prog w Y}{d a:Addr}{xs:List (Y×Addr×Value)}{k:Y}{v:Value}{Q:aC}(B:h.room A)(g:h.is s.heap k a)(F:s.heap.DictOfH h d xs)(hsz:xs.length<=sizeLine)
  (I:∀p,atKey xs k=some p->Q p.2 { s with toks:=s.toks+h.draws k })
  (G:atKey xs k=none->∀h',h'.DictOfH h d (storedH xs k a v)->qW d s.heap h'->Q v { s with heap:=h',toks:=s.toks+h.draws k }) :
  wpAny (model prog w) A (dictSetDefault d (.ref a) v) Q E s:=by
 obtain⟨o,es,ep,n,hc,m,Z,X,W⟩:=id F;have J:es.size=xs.length:=by have:=congrArg wE Z;simpa using this
 unfold dictSetDefault;refine qp (QC (h.pyHash B g (QC (wpAny_dictFind_heap B g n m Z X W (λr=>?_) λj p C=>?_))));have b:=atKey_none_of_get r;have q:=not_mem_keys_of_get r;refine QC (QB1 (QC (wpAny_updateDictKeys n m (QK (G b _ ?_ (Q5 ..))) (by omega) (by simp))));refine⟨_,_,ep+1,wv _ n (Obj.isFreed_of_dict (QBE m _)),Obj.ExactDict.mapDictKeys hc _,QBE m _,?_,?_,?_⟩;rw[QCV b];simp[Z,entryOfKey];rw[QCV b];intro x l;rcases Qi.mp l with l|l;exact h.keeps (X x l) n m (Q5 ..);rw[QJ.mp l];exact h.keeps g n m (Q5 ..);rw[QCV b,QO];exact qj.mpr ⟨W,by simp,λx l y K e=>by rw[QW,WJ,QJ]at K;rw[e,K]at l;exact q l⟩;have b:=atKey_of_get W C;have L:es[j]?=some (entryOfKey h (k,p)):=by
  have:es.toList[j]?=some (entryOfKey h (k,p)):=by rw[Z,QT,C];rfl
  simpa using this
 refine QC (wB n m ?_);rw[L];exact QC (QB1 (QK (I p b)))
theorem KT{y:Type}[DecidableEq y]{h:HeapKind prog w y}{d a:Addr}{xs:List (y×Addr×Value)}{k:y}{v:Value}{Q:aC}(g:h.room A.in1)(x:h.is s.heap k a)(b:s.heap.DictOfH h d xs)(hsz:xs.length<=sizeLine)(m:(d==sysModules)=false)
  (o:∀p,atKey xs k=some p->Q p.2 { s with toks:=s.toks+h.draws k })
  (n:atKey xs k=none->∀h',h'.DictOfH h d (storedH xs k a v)->qW d s.heap h'->Q v { s with heap:=h',toks:=s.toks+h.draws k }) :
  wpAny (model prog w) A (call (.builtin "dict.setdefault") [.ref d,.ref a,v]) Q E s:=by
 have e:s.TypeIs (.ref d) "dict":=Heap.DictOfH.typeIs b;refine qL F.slot_dict_setdefault e F.entry_dict_setdefault ?_ (F.args_dict_setdefault_3 _ _ _);show wpAny _ _ (bind _ _) _ _ _;refine QC ?_;show wpAny _ _ (bind _ _) _ _ _;refine QC (Wk e ?_);refine QK ?_;show wpAny _ _ (if(d==sysModules)=true then _ else _) _ _ _;rw[m,if_neg QG];exact QC (kY g x b hsz (λp j=>QK ⟨_,rfl,o p j⟩) λl h' r q=>QK ⟨_,rfl,n l h' r q⟩)
end
end
def RK(K:QA):V->LV->Hp->VK->Prop:=λx z H Q=>∃a b v w h k,x=.ref a/\z=[.ref b,v]/\H a=some (.dT w h)/\VG K H h/\SN K H b k/\h.length<sizeLine /\
   (∀u,jH h k=some u->Q u H)/\(jH h k=none->∀y,Q v (BA H a (.dT y (OL h k b v))))
theorem IY{X:Cx}(R:X.A.units+66<cLine):l8 X "dict.setdefault" (RK X.K):=by
 intro m s L H x N v P Q I o r h;obtain⟨a,b,y,ep,f,k,rfl,rfl,e,hk,F,l,Z,Y⟩:=h;cases o;obtain⟨u,O,rfl,q,g⟩:=Nc r;cases q;obtain⟨W,n,M,w,G⟩:=YK I e hk;have hl:(OL f k b y).length<=sizeLine:=by have:=tS f k b y;omega
 refine KT (eI (by omega)) (YS I F) G (by rw[<- qJ w];exact W) n (λp C=>?_) λE S j B=>?_;have z:=w.val k;rw[C]at z;cases ev:jH f k with|none=>rw[ev]at z;exact(show False from z).elim|some u=>rw[ev]at z;exact⟨u,H,I.tok _,z,Z u ev⟩
 have z:=w.val k;rw[E]at z;cases ev:jH f k with|some u=>rw[ev]at z;exact(show False from z).elim|none=>obtain⟨i,J⟩:=FM (t':=_) I (by rw[e];exact True.intro) n hl (w.put k b g) j B;exact⟨y,_,J,g,Y ev i⟩
noncomputable def Zw(ep n:Nat)(a:Addr):It :=
  ⟨λi H=>∃h p,H a=some (.dT ep h)/\h.length=n/\h[i]?=some p,
   λi H v x=>∃q p,H q=none/\v=.ref q/\x=BA H q (.tup [.ref p.2.1,p.2.2])/\∀h,H a=some (.dT ep h)->h[i]?=some p,
   λi H=>∃h,H a=some (.dT ep h)/\h.length=n/\n<=i⟩
theorem KH{α h:Type}{R:α->h->Prop}:∀{l:List α}{m:List h}{i:Nat}{x:α},Paired R l m->l[i]?=some x->∃y,m[i]?=some y/\R x y
 |_,_,i,_,.nil,e=>by simp at e|_,_,0,_,.cons r _,e=>by simp at e;subst e;exact⟨_,rfl,r⟩|_,_,i+1,x,.cons _ t,e=>by obtain⟨y,u,z⟩:=KH (i:=i) (x:=x) t (by simpa using e);exact⟨y,by simpa using u,z⟩
theorem tU{P:Program}{w:World}{K:QA}{es:List Expr}{kk:Nat}{pp:Pos}{a it:Addr}{n ep:Nat}:Turn0 P w K (.Tuple es kk pp) (Zw ep n a) [it] it (λi h=>∃ok Y,IsItemIter h it a i n ep ok Y) where
 mem:=by simp
 obj:=λi h st b hb=>by obtain⟨ok,Y,st⟩:=st;rw[QJ]at hb;subst hb;exact⟨_,st,λv q=>by cases(show Data.fields _=Data.cell v from q)⟩
 keep:=λi h h' st k=>by obtain⟨ok,Y,st⟩:=st;exact⟨ok,Y,k it (by simp) _ st⟩
 item:=by
  intro X J C L hc i Z s σ H E I A st G;subst J C L;obtain⟨j,p,e,F,ep⟩:=G;obtain⟨ok,Y,st⟩:=st;obtain⟨z,y,xs,r,o,u,N,h2,M,B,h5⟩:=(show CA X.prog X.w H s.heap a (.dT _ j) from I.hok a _ e)
  have l:u.size=n:=by have:=congrArg wE B;rw[QD,Qr]at this;rw[this,<- qJ r,F]
  obtain⟨q,hq,rq⟩:=KH r ep;have he:u[i]?=some (entryOfKey (xF X.prog X.w) q):=by
   have:u.toList[i]?=some (entryOfKey (xF X.prog X.w) q):=by rw[B,QT,hq];rfl
   simpa using this
  subst l;refine R4 st N M he λh' b1 b3 b4 b5=>⟨_,rfl,wpAny_letOwnedTupleGo_items b1 λm c1 sb=>?_⟩
  have hp:=I.hok.fresh (QS s.heap.objs.size);have W:it<s.heap.objs.size:=QX st;have g:∀b∈[it],b<s.heap.objs.size:=λb hb=>by rw[QJ]at hb;subst hb;exact W
  have kept:∀b o,b∉[it]->s.heap.get? b=some o->m.get? b=some o:=λb o hb q=>by rw[QJ]at hb;exact(sb.2 b hb).trans (b5 b o hb q)
  have f:m.get? s.heap.objs.size=some { cls:=.type "tuple",data:=.seq #[.ref q.2.1,q.2.2] }:=(sb.2 _ (wt W)).trans b3;have I1:=I.pair (x:=.ref p.2.1) (y:=p.2.2) (h':=s.heap.push { cls:=.type "tuple",data:=.seq #[.ref q.2.1,q.2.2] }) (t':=s.toks) (λb o e=>QH _ e) (QS _) (QU _ rfl) (show Value.ref q.2.1=Value.ref p.2.1 by rw[rq.2.1]) rq.2.2;have I2:=I1.turnedL (h':=m) (t':=s.toks) (ch:=[it]) (λb o hb e=>by
   rcases QBF e with⟨q1,q2⟩| q;subst q1 q2;exact f;exact kept b o hb q) λb hb=>by
   obtain⟨f0,S,f2,R,Q,O⟩:=A b hb;exact⟨by rw[kA (Qk (g b hb))];exact f0,S,f2,R,Q,O⟩
  refine⟨.ref s.heap.objs.size,_,I2,rfl,⟨s.heap.objs.size,p,hp,rfl,rfl,λkvs' g1=>?_⟩,⟨_,_,c1⟩,λb hb=>?_⟩;rw[e]at g1;cases g1;exact ep;rw[kA (Qk (g b hb))];exact(A b hb).1
 done:=by
  intro X J C L hc i Z s σ H E I A st G;subst J C L;obtain⟨j,e,F,ep⟩:=G;obtain⟨ok,Y,st⟩:=st;obtain⟨z,y,xs,r,o,u,N,h2,M,B,h5⟩:=(show CA X.prog X.w H s.heap a (.dT _ j) from I.hok a _ e)
  have l:u.size=n:=by have:=congrArg wE B;rw[QD,Qr]at this;rw[this,<- qJ r,F]
  subst l;obtain⟨f0,S,f2,R,Q,O⟩:=A it (by simp);exact PP (I.ok.hd hc) st N M (QAw ep) λh' eb=>⟨rfl,I.turned (t':=s.toks) (λb o hb e=>eb b o hb e) f0 S R Q O⟩
section
variable{prog:Program}{w:World}{A:Around}{E:aC}{s:Shared}
section
variable{d h:Addr}{x:Obj}{es:Array DictEntry}{ep i:Nat}{Q:Option Value->Shared->Prop}
theorem HG:Wz "dict_keyiterator"=false:=by decide +kernel
theorem gb{Q:aC}(v:(d==sysModules)=false)(y:s.heap.get? d=some x)(hc:x.cls=.type "dict")(z:x.data=.dict es ep)
  (q:Q (.ref s.heap.objs.size) { s with heap:=s.heap.push { cls:=.type "dict_keyiterator",data:=.fields #[.ref d,.int 0 0,.int es.size 0,.int ep 0] } }) :
  wpAny (model prog w) A (pyIter (.ref d)) Q E s:=by
 have u:s.TypeIs (.ref d) "dict":=⟨_,y,hc⟩
 refine QB2 u QCN (qL QCN u F.entry_dict_iter ?body (F.args_dict_iter_1 _))
 case body =>
  show wpAny _ _ (bind _ _) _ _ _;refine QC ?sl
  case sl =>
   show wpAny _ _ (bind _ _) _ _ _;refine QC (Wk u (QK ?go))
   case go =>
    have e:Wl d=pure PUnit.unit:=by unfold Wl;rw[v];rfl
    show wpAny _ _ (Wl d >>= _) _ _ _;rw[e];refine QC (QK (QC (wB y z (QC (wy y z (QC (Q0 (QK ⟨_,rfl,"dict_keyiterator",_,⟨_,QU _ rfl,rfl⟩,qY.lookup,?_⟩))))))));simpa[rawInt]using q
theorem Da{e:DictEntry}
  (v:s.heap.IsKeyIter h d i es.size ep) (u:s.heap.get? d=some x) (k:x.data=.dict es ep) (g:es[i]?=some e)
  (q:∀h',h'.IsKeyIter h d (i+1) es.size ep->qW h s.heap h'->Q (some e.key) { s with heap:=h' }) :
  wpAny (model prog w) A (pyNext (.ref h)) Q E s:=by
 have a:=v.typeIs;obtain⟨l,b,f,y⟩:=id v;show wpAny _ _ (bind _ _) _ _ _;refine QC (W0 (qR a qY (qL qY a Wt ?_ (Wm _))));show wpAny _ _ (bind _ _) _ _ _;refine QC (QK (QC (QC (QC (qz a (QK (QC (QAV b y ?_))))))));rw[HG];show wpAny _ _ (if(Value.ref d==Value.none)=true then _ else _) _ _ _;rw[if_neg (show ¬ (Value.ref d==Value.none)=true from QG)];show wpAny _ _ (wM (.ref d) >>= _) _ _ _;refine QC (QK (QC (wB u k ?_)));rw[if_neg (show ¬ (((es.size:Nat):Int) != ((es.size:Nat):Int))=true by simp)];refine QC (QK (QC (wy u k ?_)));rw[if_neg (show ¬ (((ep:Nat):Int) != ((ep:Nat):Int))=true by simp)];refine QK ?_;have j:(if((i:Nat):Int)<0 then none else es[((i:Nat):Int).toNat]?)=some e:=by rw[if_neg (by omega),qQ];exact g
 simp only[j];refine QC ?_;show wpAny _ _ (typeNameOfWhole (.ref h) >>= _) _ _ _;refine QC (qz a (QK (QC (QA6 a ?_))));rw[HG];show wpAny _ _ (setField (.ref h) 1 _ >>= _) _ _ _;refine QC (QAU b y (by simp) ?_);have z:(s.heap.update h (Obj.mapFields (·.setIfInBounds 1 (rawInt ((i:Int)+1))))).IsKeyIter h d (i+1) es.size ep :=
  ⟨_,wv _ b (QA5 (WR y _)),(QB0 ..).trans f,by rw[WR y];simp[rawInt]⟩
 refine QC (qp (QC (QA6 (s:={ s with heap:=s.heap.update h (Obj.mapFields (·.setIfInBounds 1 (rawInt ((i:Int)+1)))) }) z.typeIs ?_)));show wpAny _ _ (pure e.key) _ _ _;exact QK (QK ⟨_,rfl,QK (q _ z (Q5 ..))⟩)
theorem IR(f:A.handled=none)
  (z:s.heap.IsKeyIter h d i es.size ep) (y:s.heap.get? d=some x) (v:x.data=.dict es ep) (g:es[i]?=none)
  (q:∀h',W7 h s.heap h'->Q none { s with heap:=h' }) :
  wpAny (model prog w) A (pyNext (.ref h)) Q E s:=by
 have k:=z.typeIs;obtain⟨n,e,j,u⟩:=id z;show wpAny _ _ (bind _ _) _ _ _;refine QC (W0 (qR k qY (qL qY k Wt ?_ (Wm _))));show wpAny _ _ (bind _ _) _ _ _;refine QC (QK (QC (QC (QC (qz k (QK (QC (QAV e u ?_))))))));rw[HG];show wpAny _ _ (if(Value.ref d==Value.none)=true then _ else _) _ _ _;rw[if_neg (show ¬ (Value.ref d==Value.none)=true from QG)];show wpAny _ _ (wM (.ref d) >>= _) _ _ _;refine QC (QK (QC (wB y v ?_)));rw[if_neg (show ¬ (((es.size:Nat):Int) != ((es.size:Nat):Int))=true by simp)];refine QC (QK (QC (wy y v ?_)));rw[if_neg (show ¬ (((ep:Nat):Int) != ((ep:Nat):Int))=true by simp)];refine QK ?_;have l:(if((i:Nat):Int)<0 then none else es[((i:Nat):Int).toNat]?)=none:=by rw[if_neg (by omega),qQ];exact g
 simp only[l];refine QC ?_;show wpAny _ _ (typeNameOfWhole (.ref h) >>= _) _ _ _;refine QC (qz k (QK ?_));rw[HG];show wpAny _ _ (setField (.ref h) 0 .none >>= _) _ _ _;refine QC (QAU e u (by simp) ?_);refine QC (m:=newExc (.type "StopIteration") []) ?_;simp only[newExc,newTuple];refine QC (Q0 ?made (by size_fits));refine QC (m:=firstArgMember _ _) (QCT (a:=Value.none) (by first|rfl | (rw[firstArgMember];rfl)) ?arg);refine Q0 ?made2 (by size_fits);simp only[raiseNew];refine QC (QBn ?_);first|rw[show A.in1.handled=none from f]|rw[f]
 refine QC (QK (QCU ?_));refine QC (QAq (T:="StopIteration") (b:=true) ⟨_,QU _ rfl,rfl⟩ (by kernel_rfl) ?_);rw[if_pos rfl];exact QK (q _ (((Q5 ..).extBut.push _).push _))
end
end
noncomputable def Xw(ep n:Nat)(a:Addr):It :=
  ⟨λi H=>∃h p,H a=some (.dT ep h)/\h.length=n/\h[i]?=some p,
   λi H v x=>x=H/\∀h,H a=some (.dT ep h)->∃p,h[i]?=some p/\v=.ref p.2.1,
   λi H=>∃h,H a=some (.dT ep h)/\h.length=n/\n<=i⟩
theorem cY{P:Program}{w:World}{K:QA}{S:Expr}{a it:Addr}{n ep:Nat}:Turn P w K S (Xw ep n a) [it] it (λi h=>h.IsKeyIter it a i n ep) where
 mem:=by simp
 obj:=λi h st b hb=>by obtain⟨o,e,c,d⟩:=st;rw[QJ]at hb;subst hb;exact⟨o,e,λv z=>by rw[d]at z;cases z⟩
 keep:=λi h Y st k=>st.at λo e=>k it (by simp) o e
 item:=by
  intro X B Z C hc i u s Q H E I l st A;subst B Z C;obtain⟨f,p,e,W,ep⟩:=A;obtain⟨z,y,R,r,o,x,G,h2,F,m,h5⟩:=(show CA X.prog X.w H s.heap a (.dT _ f) from I.hok a _ e)
  have g:x.size=n:=by have:=congrArg wE m;rw[QD,Qr]at this;rw[this,<- qJ r,W]
  obtain⟨q,hq,rq⟩:=KH r ep;have he:x[i]?=some (entryOfKey (xF X.prog X.w) q):=by
   have:x.toList[i]?=some (entryOfKey (xF X.prog X.w) q):=by rw[m,QT,hq];rfl
   simpa using this
  subst g;obtain⟨O,N,f2,M,L,J⟩:=l it (by simp);refine Da st G F he λY j sb=>?_;have I1:Inv X u Q H { s with heap:=Y }:=I.turned (t':=s.toks) (λb o hb e=>(sb.2 b hb).trans e) O N M L J;obtain⟨oi,ei,ci,di⟩:=id j;exact⟨_,rfl,go_of (s:={ s with heap:=Y }) ei ci di (by decide) ⟨.ref p.2.1,H,I1,show Value.ref q.2.1=Value.ref p.2.1 by rw[rq.2.1],⟨rfl,λks hk=>by rw[e]at hk;cases hk;exact⟨p,ep,rfl⟩⟩,j,λb hb=>(l b hb).1⟩⟩
 done:=by
  intro X B Z C hc i u s Q H E I l st A;subst B Z C;obtain⟨f,e,W,ep⟩:=A;obtain⟨z,y,R,r,o,x,G,h2,F,m,h5⟩:=(show CA X.prog X.w H s.heap a (.dT _ f) from I.hok a _ e)
  have g:x.size=n:=by have:=congrArg wE m;rw[QD,Qr]at this;rw[this,<- qJ r,W]
  subst g;obtain⟨O,N,f2,M,L,J⟩:=l it (by simp);exact IR (I.ok.hd hc) st G F (QAw ep) λY eb=>⟨rfl,I.turned (t':=s.toks) (λb o hb e=>eb b o hb e) O N M L J⟩
 self:=λ_ _ _ _ _ st h=>wpAny_pyIter_keyiter st h
open PySem.SeqAt
open AutoSeq1 (wpAny_loadPart')
open MeetsSeq MeetsSeq2 MeetsSeq3
noncomputable def Jl:LS->LS->Bool
 |[],[]=>false|[],_::_=>true|_::_,[]=>false|x::a,y::b=>if(x==y)=true then Jl a b else decide (x.cps.toList<y.cps.toList)
theorem fP{vs:LW}{z:LS}(h:StrsAre vs z):vs.length=z.length/\∀(i:Nat) (x:Str),z[i]?=some x->∃t:Tok,vs[i]?=some (Value.str x t):=by
 induction h with
 |nil=>exact⟨rfl,λi x e=>by simp at e⟩|cons y t _ u =>
  refine⟨by rw[QM,QM,u.1],λi x e=>?_⟩;cases i with|zero=>simp at e;subst e;exact⟨t,rfl⟩|succ i=>simp at e;simpa using u.2 i x e
theorem vZ(l b:Addr)(v x:Array Value)(n B:Nat)(L X:Option Addr)(W o:Array (Option Value))(a ts:LS)(I:StrsAre v.toList a)(G:StrsAre x.toList ts)(k:Nat) :
  ∀i:Nat,v.size - i=k->i<=v.size->i<=x.size->Meets (Builtin.«list.__eq__.loop» ⟨[.ref l,.ref b,rawInt i,rawInt 0],[]⟩)
   (λA R s=>s.heap.get? l=some { cls:=.type "list",dict:=L,data:=.seq v n,slots:=W }/\s.heap.get? b=some { cls:=.type "list",dict:=X,data:=.seq x B,slots:=o } /\
    R (.ok (.ret (.bool (Jl (a.drop i) (ts.drop i))))) s):=by
 obtain⟨S,Q⟩:=fP I;obtain⟨O,N⟩:=fP G;rw[Qr]at S O;induction k with
 |zero =>
  intro i hk F p e w A R s h;obtain⟨E,g,d,Z,K⟩:=s;obtain⟨hl,hb,h⟩:=h;wp_walk using qE hl,qE hb;have m:v[((i:Nat):Int).toNat]?=none:=by simp;omega
  rw[m];wp_walk using qE hl,qE hb;have Y:a.drop i=[]:=by simp;omega
  rw[Y]at h;have f:Jl [] (ts.drop i)=decide (v.size<x.size):=by
   cases z:ts.drop i with
   |nil =>
    have:ts.length<=i:=by simpa using z
    exact(dF (by omega)).symm
   |cons y r =>
    have:i<ts.length:=by by_cases c:i<ts.length;exact c;rw[Wa (by omega)]at z;cases z
    exact(dT (by omega)).symm
  rw[f]at h;exact h
 |succ k C =>
  intro i hk F p e w A R s h;obtain⟨E,g,d,Z,K⟩:=s;obtain⟨hl,hb,h⟩:=h;wp_walk using qE hl,qE hb;have j:i<a.length:=by omega
  obtain⟨t,ev⟩:=Q i a[i] (Qf j);have m:v[((i:Nat):Int).toNat]?=some (.str a[i] t):=by simpa using ev
  rw[m];have Y:a.drop i=a[i]::a.drop (i+1):=QAW j;rw[Y]at h;by_cases c:i<ts.length;obtain⟨u,J⟩:=N i ts[i] (Qf c);have f:x[((i:Nat):Int).toNat]?=some (.str ts[i] u):=by simpa using J
  have M:ts.drop i=ts[i]::ts.drop (i+1):=QAW c;rw[M]at h;have h:R (.ok (.ret (.bool (if(a[i]==ts[i])=true then Jl (a.drop (i+1)) (ts.drop (i+1)) else decide (a[i].cps.toList<ts[i].cps.toList))))) _:=h;rw[f];refine QC (EqAt.str_str a[i] t ts[i] u e w _ _ ?_);have hc:((i:Int)+1)=((i+1:Nat):Int):=by push_cast;rfl
  cases q:(a[i]==ts[i]) with|true=>rw[q,if_pos rfl]at h;wp_walk;rw[hc];exact⟨QBp plain_eq_loop _,W8 entry_eq_loop (by rw[w9 plain_eq_loop _];exact C (i+1) (by omega) (by omega) (by omega) e w A R _ ⟨hl,hb,h⟩)⟩|false=>rw[q,if_neg QG]at h;wp_walk using qE hl,qE hb;rw[m,f];show wpAny _ _ (compareOp .Lt (.str a[i] t) (.str ts[i] u) >>= _) _ _ _;refine QC (PySem.P.lt_str ?_);exact QK h
  have f:x[((i:Nat):Int).toNat]?=none:=by simp;omega
  rw[f];wp_walk using qE hl,qE hb;rw[Wa (show ts.length<=i by omega)]at h;have:decide (v.size<x.size)=false:=dF (by omega);have h:R (.ok (.ret (.bool false))) _:=h;rw[<- this]at h;exact h
theorem cZ(l b:Addr)(y x:Array Value)(n e:Nat)(f v:Option Addr)(a z:Array (Option Value))(k ts:LS)(j:StrsAre y.toList k)(i:StrsAre x.toList ts) :
  Meets (Builtin.«list.__lt__» ⟨[.ref l,.ref b],[]⟩)
   (λA R s=>s.heap.get? l=some { cls:=.type "list",dict:=f,data:=.seq y n,slots:=a }/\s.heap.get? b=some { cls:=.type "list",dict:=v,data:=.seq x e,slots:=z } /\
    R (.ok (.ret (.bool (Jl k ts)))) s):=by
 intro u w A R s h;obtain⟨p,g,d,m,o⟩:=s;obtain⟨hl,hb,h⟩:=h;have q:=AutoSeq1.sub_list_list;wp_walk using qE hl,qE hb;exact⟨QBp plain_eq_loop _,W8 entry_eq_loop (by rw[w9 plain_eq_loop _];exact vZ l b y x n e f v a z k ts j i _ 0 rfl (Qs _) (Qs _) u w A R _ ⟨hl,hb,h⟩)⟩
section
variable{prog:Program}{w:World}{A:Around}{E:aC}{s:Shared}
theorem FU{l b:Addr}{y x:Array Value}{n a:Nat}{e u:Option Addr}{k z:Array (Option Value)}{v ts:LS}{Q:Bool->Shared->Prop}(f:A.units<cLine)(hl:s.heap.get? l=some { cls:=.type "list",dict:=e,data:=.seq y n,slots:=k })(hb:s.heap.get? b=some { cls:=.type "list",dict:=u,data:=.seq x a,slots:=z })
  (i:StrsAre y.toList v) (g:StrsAre x.toList ts) (h:Q (Jl v ts) s):wpAny (model prog w) A (keyLt' oneType' (.ref l) (.ref b)) Q E s:=by
 rw[keyLt'_oneType,oneLt'_eq];simp only[if_true];refine QC (wpAny_cRoomFor f (QC (wpAny_callSpecialIfBound?_slot (T:="list") ⟨_,hl,rfl⟩ F.slot_list_lt ?_)));refine QBz F.slot_list_lt ⟨_,hl,rfl⟩ F.entry_list_lt (F.args_list_lt_2 _ _) (cZ l b y x n a e u k z v ts i g) ⟨hl,hb,?_⟩;exact wP h
end
end L2.L3
namespace L2.L3
open PySem PySem.Spec PyProof.Rows PySem.W
def AC{α:Type}(n:Nat)(P:α->Prop):KasT α->Prop
 | .ret a=>P a|.ask i j k=>i<n/\j<n/\∀b,AC n P (k b)
theorem AC.bnd{α x:Type}{n:Nat}{P:α->Prop}{R:x->Prop}{f:α->KasT x}(y:∀a,P a->AC n R (f a)):∀{t:KasT α},AC n P t->AC n R (t.bind f)
 | .ret a,h=>y a h|.ask i j k,⟨h1,h2,h⟩=>⟨h1,h2,λb=>AC.bnd y (h b)⟩
theorem AC.wp{α:Type}{n:Nat}{P:α->Prop}{x:Nat->Nat->(Bool->Shared->Prop)->Shared->Prop}{Q:α->Shared->Prop}{s:Shared}(y:∀i j,i<n->j<n->∀C:Bool->Shared->Prop,(∀b,C b s)->x i j C s)(z:∀a,P a->Q a s):∀{t:KasT α},AC n P t->t.kasWp x Q s
 | .ret a,h=>z a h|.ask i j k,⟨h1,h2,h⟩=>y i j h1 h2 _ λb=>AC.wp y z (h b)
def Pm(n:Nat)(p:Array Nat):Prop:=p.Perm (qG (Ql n))
section
variable{n:Nat}
section
variable{p:Array Nat}
theorem Pm.lt(h:Pm n p)(x:0<n)(i:Nat):p.getD i 0<n:=by
 by_cases c:i<p.size;have e:p.getD i 0=p[i]:=by simp[QB3,c]
 rw[e];have m:p[i]∈p.toList:=by simp
 have:=(qI.mp h).mem_iff.mp m;simpa using this;have e:p.getD i 0=0:=by simp[QB3,c]
 rw[e];exact x
theorem Pm.rev(h:Pm n p)(i j:Nat):Pm n (kas_rev p i j):=(mirror_perm _ _ _ _).trans h
theorem SQ{p:Array Nat}(h:Pm n p)(x:0<n):∀(f m:Nat),AC n (λ_=>True) (kas_asc p f m)
 |0,m=>trivial|f+1,m=>⟨h.lt x _,h.lt x _,λb=>by
  cases b with|true=>exact trivial|false=>exact SQ h x f (m+1)⟩
theorem uJ(x:0<n):∀(f:Nat) {p:Array Nat}(h:Pm n p) (m q:Nat),AC n (λr=>Pm n r.1) (kas_desc f p m q)
 |0,p,h,m,q=>h|f+1,p,h,m,q=>⟨h.lt x _,h.lt x _,λb=>by
  cases b with
  |true=>show AC n _ (if q > 0 then _ else _);split;exact uJ x f (h.rev _ _) _ _;exact uJ x f h _ _|false =>
   refine⟨h.lt x _,h.lt x _,λb=>?_⟩;cases b with|true=>exact h|false=>exact uJ x f h _ _⟩
theorem jP(x:0<n)(h:Pm n p)(a b:Nat):AC n (λr=>Pm n r.2) (kas_tail3 a b p):=by refine AC.bnd (f:=λm=>.ret (m,kas_rev p 0 a)) (λm _=>?_) (SQ (h.rev _ _) x _ _);exact h.rev _ _
theorem xJ(x:0<n)(h:Pm n p)(a b:Nat):AC n (λr=>Pm n r.2) (kas_descPart a b p):=by refine AC.bnd (λr y=>?_) (uJ x _ h _ _);split;exact jP x (Pm.rev y _ _) _ _;exact jP x y _ _
theorem NZ(x:0<n)(h:Pm n p)(b:Nat):AC n (λr=>Pm n r.2) (kas_count b p):=by
 refine AC.bnd (λm _=>?_) (SQ h x _ _);split;exact h;split
 ·refine⟨h.lt x _,h.lt x _,λc=>?_⟩
  cases c with|true=>exact h|false=>exact xJ x (h.rev _ _) _ _
 exact xJ x h _ _
theorem kK(x:0<n){p:Array Nat}(h:Pm n p)(k:Nat):∀(f l r:Nat),AC n (λ_=>True) (kas_place p k f l r)
 |0,l,r=>trivial|f+1,l,r=>by
  show AC n _ (if l ≥ r then _ else _);split;exact trivial;refine⟨h.lt x _,h.lt x _,λb=>?_⟩;cases b with|true=>exact kK x h k f _ _|false=>exact kK x h k f _ _
theorem RX(x:0<n):∀(f:Nat) {p:Array Nat}(h:Pm n p) (k:Nat),AC n (Pm n) (kas_bin f p k)
 |0,p,h,k=>h|f+1,p,h,k=>AC.bnd (λl _=>RX x f ((bubble_perm _ _ _).trans h) _) (kK x h _ _ _ _)
theorem X7(x:0<n):AC n (Pm n) (kas_sort n):=by refine AC.bnd (λr h=>?_) (NZ x (QA7 _) _);split;exact RX x _ h _;exact h
end
end
theorem gO{α:Type}(vs:List α)(d:α):(Ql vs.length).map (λi=>vs.getD i d)=vs:=by apply qP;intro i;rw[QT];by_cases c:i<vs.length;rw[ql c];simp[c];rw[Qe (by simp;omega),Qe (by omega)];rfl
section
variable{prog:Program}{w:World}{A:Around}{E:aC}{s:Shared}
theorem Ro{M:Model}{vs:LW}{Q:SortKind->Shared->Prop}(k:2<=vs.length)(z:∀v∈vs,s.TypeIs v "list")(h:Q oneType' s):wpAny M A (keyKind' vs.toArray) Q E s:=by
 cases vs with
 |nil=>simp at k|cons v r =>
  rw[keyKind'_eq,QB4,map_eq_pure_bind];refine QC (QC (kas_mapM (r:=none) _ (λu y e q=>?_) (QK ?_)));rw[kas_first_eq];exact QC (QCC (z u y) (QK q));rw[if_neg (by simp),if_neg (by simp),oneTypeOnly'_eq,QB4,map_eq_pure_bind];refine QC (QC (QC (kas_mapM (r:=.type "list") _ (λu y e q=>QCC (z u y) q) (QK ?_))));have b:((v::r).map λ_=>Value.type "list").toArray[0]?=some (.type "list"):=by simp
  have a:(((v::r).map λ_=>Value.type "list").toArray.all λx=>x==Value.type "list")=true:=by simp only[List.all_toArray,List.all_map,Qv];intro _ _;rfl
  rw[b];simp only[a,if_true];exact QK (QK h)
theorem Di{a:Addr}{vs:LW}{n:Nat}{P:PySem.Fin->Shared->Prop}(Y:s.heap.get? a=some (seqObj "list" vs.toArray n))(K:vs.length<64)(S:∀v∈vs,∃b o,v=.ref b/\b≠a/\s.heap.get? b=some o/\o.cls=.type "list")
  (G:∀B:Heap,(∀b o,b≠a->s.heap.get? b=some o->B.get? b=some o)->∀x∈vs,∀y∈vs,∀C:Bool->Shared->Prop,(∀k,C k { s with heap:=B })->wpAny (model prog w) A (keyLt' oneType' x y) C (λ_ _=>False) { s with heap:=B })
  (k:∀out:LW,out.Perm vs->P (.done (.ret .none)) { s with heap:=sortedHeap s.heap a vs out.toArray }):wpAny (model prog w) A (Builtin.«list.sort» ⟨[.ref a],[]⟩) P E s:=by
 have ha:a<s.heap.objs.size:=QX Y;have J:=Q5 s.heap a (Q6 λ_=>(#[]:Array Value));obtain⟨Z,X⟩:∃Z,(s.heap.update a (Q6 λ_=>(#[]:Array Value))).get? a=some (seqObj "list" #[] Z):=⟨_,W9 Y λ_=>#[]⟩
 have r:(((s.heap.update a (Q6 λ_=>(#[]:Array Value))).push (seqObj "tuple" vs.toArray 0)).push (seqObj "list" #[] 0)).get? a=some (seqObj "list" #[] Z):=QH _ (QH _ X);have kept:∀b o,b≠a->s.heap.get? b=some o->(((s.heap.update a (Q6 λ_=>(#[]:Array Value))).push (seqObj "tuple" vs.toArray 0)).push (seqObj "list" #[] 0)).get? b=some o:=λb o hb e=>QH _ (QH _ ((J.2 b hb).trans e));rw[list_sort_plain];refine QC (QCE Y rfl (QC (WS Y rfl ?_ (by rw[QN];omega) (Qs _))));refine QC (QBV X rfl (QC (QBO ?_ (by show vs.length<=_;omega))));refine QC (QAl (qp ?_) (Qs _));show wpAny (model prog w) A _ P E { s with heap:=((s.heap.update a (Q6 λ_=>(#[]:Array Value))).push (seqObj "tuple" vs.toArray 0)).push (seqObj "list" #[] 0) };dsimp only;have fin:∀out:LW,out.Perm vs->wpAny (model prog w) A (do
   let h:=(<- seqEpoch a) != Z
   Builtin.List.listUpdate (.ref a) λ_=>out.toArray
   if h then rule "list.sort.modified";raiseError "ValueError" "list modified during sort"
   ret .none) P E { s with heap:=((s.heap.update a (Q6 λ_=>(#[]:Array Value))).push (seqObj "tuple" vs.toArray 0)).push (seqObj "list" #[] 0) }:=λout m=>by
  have hl:=m.length_eq;refine QC (QBV r rfl (QC (WS r rfl ?_ (Qs _) (by rw[QN];omega))));simp only[bne_self_eq_false,Qq,if_false];exact QK (k out m)
 by_cases I:vs.length<2;have u:vs.toArray.size<2:=by rw[QN];exact I
 rw[if_pos u,if_pos u];refine QC (QK ?_);rw[QCW];refine QC (QK ?_);have e:(arrOf (QB5 general' (vs.toArray.zip vs.toArray) #[] 7 none)).map (·.2)=vs.toArray:=by show(vs.toArray.zip vs.toArray).map (·.2)=_;apply WC.mp;simp[WD]
 dsimp only;rw[e];exact fin vs (QBP _);have u:¬ vs.toArray.size<2:=by rw[QN];exact I
 rw[if_neg u,if_neg u];refine QC (Ro (by omega) (λv hv=>?_) ?_);obtain⟨b,o,rfl,hb,e,c⟩:=S v hv;exact⟨o,kept b o hb e,c⟩;have F:QB5 oneType' (vs.toArray.zip vs.toArray) #[] 7 none=kas_st oneType' (pairsOf vs) (qG (Ql vs.length)):=by have e:=kas_range (pairsOf vs);rw[pairsOf_size]at e;show QB5 oneType' (pairsOf vs) #[] 7 none=QB5 oneType' ((qG (Ql vs.length)).map (kas_item (pairsOf vs))) #[] 7 none;rw[e]
 have all:=X7 (n:=vs.length) (by omega);have f:(kas_sort vs.length).kasWp (kas_cmp prog w A oneType' (pairsOf vs)) (λp g=>g={ s with heap:=((s.heap.update a (Q6 λ_=>(#[]:Array Value))).push (seqObj "tuple" vs.toArray 0)).push (seqObj "list" #[] 0) }/\Pm vs.length p) { s with heap:=((s.heap.update a (Q6 λ_=>(#[]:Array Value))).push (seqObj "tuple" vs.toArray 0)).push (seqObj "list" #[] 0) }:=by
  rw[<- kas_ask_eq];refine AC.wp (λi j O N C H=>?_) (λp m=>⟨rfl,m⟩) all;have gi:vs.getD i Value.none∈vs:=by
   have:vs.getD i Value.none=vs[i]:=by simp[O]
   rw[this];exact wG _
  have gj:vs.getD j Value.none∈vs:=by
   have:vs.getD j Value.none=vs[j]:=by simp[N]
   rw[this];exact wG _
  exact G _ kept _ gi _ gj C H
 have l:=kas_runs (prog:=prog) (w:=w) (A:=A) (E:=E) (Q:=λ_ z g=>∃p:Array Nat,p.size=vs.length/\arrOf z=p.map (kas_item (pairsOf vs))/\failedOf z=none/\g={ s with heap:=((s.heap.update a (Q6 λ_=>(#[]:Array Value))).push (seqObj "tuple" vs.toArray 0)).push (seqObj "list" #[] 0) }/\Pm vs.length p)
  (by omega) K (λM z g a1 a2 a3 a4=>⟨M,a1,a2,a3,a4⟩) f
 rw[<- F]at l;refine QC (qw l ?_ λ_ _ e=>e);rintro⟨⟨⟩,z⟩ g ⟨p,m,W,R,rfl,L⟩;dsimp only;have q:(arrOf z).map (·.2)=qG (p.toList.map λi=>vs.getD i Value.none):=by apply WC.mp;rw[W,Array.map_map,Array.toList_map];exact qm λi _=>by show(kas_item (pairsOf vs) i).2=_;rw[kas_item_eq]
 rw[q,R];refine fin _ ?_;have:=(qI.mp L).map λi=>vs.getD i Value.none;refine this.trans ?_;show((Ql vs.length).map λi=>vs.getD i Value.none).Perm vs;rw[gO]
theorem N8{l:Addr}{vs:LW}{Q:aC}(hl:s.heap.IsList l vs.toArray)(g:vs.length<64)(X:∀v∈vs,∃b o,v=.ref b/\s.heap.get? b=some o/\o.cls=.type "list")
  (i:∀f:Heap,(∀b o,s.heap.get? b=some o->f.get? b=some o)->∀x∈vs,∀y∈vs,∀C:Bool->Shared->Prop,(∀k,C k { s with heap:=f })->wpAny (model prog w) A.in1.in1 (keyLt' oneType' x y) C (λ_ _=>False) { s with heap:=f })
  (k:∀out:LW,out.Perm vs->Q (.ref (s.heap.objs.size+1)) { s with heap:=sortedAll s.heap vs out.toArray }):wpAny (model prog w) A (call (.builtin "sorted") [.ref l]) Q E s:=by
 refine Calls.call_function_entry kind_sorted plain_sorted entry_sorted (args_sorted1 _) ?_;unfold Builtin.«sorted»;refine QC (m:=checkCount "sorted" 1 1 _) (QK (QC (collect_list hl ?_ (by omega))));refine QC (QAl ?_ (by show vs.length<=_;omega));have u:((s.heap.push (seqObj "list" #[] 0)).update s.heap.objs.size (Q6 (·++vs.toArray))).objs.size=s.heap.objs.size+1:=by rw[QCO,size_push']
 have a:(((s.heap.push (seqObj "list" #[] 0)).update s.heap.objs.size (Q6 (·++vs.toArray))).push (seqObj "list" vs.toArray 0)).get? (s.heap.objs.size+1)=some (seqObj "list" vs.toArray 0):=by rw[<- u];exact QU _ rfl
 have z:∀b o,s.heap.get? b=some o->(((s.heap.push (seqObj "list" #[] 0)).update s.heap.objs.size (Q6 (·++vs.toArray))).push (seqObj "list" vs.toArray 0)).get? b=some o:=λb o q=>by have h:b<s.heap.objs.size:=QX q;refine QH _ ?_;rw[Heap.get?_update_ne _ _ _ _ (Qk h)];exact QH _ q
 show wpAny _ _ _ _ _ { s with heap:=((s.heap.push (seqObj "list" #[] 0)).update s.heap.objs.size (Q6 (·++vs.toArray))).push (seqObj "list" vs.toArray 0) };rw[u];refine QC (qp (qL slot_list_sort ⟨_,a,rfl⟩ entry_list_sort ?body (args_list_sort _)))
 case body =>
  refine Di (s:={ s with heap:=((s.heap.push (seqObj "list" #[] 0)).update s.heap.objs.size (Q6 (·++vs.toArray))).push (seqObj "list" vs.toArray 0) }) a g (λv hv=>?_) (λf j x p y n C Y=>?_) λout r=>⟨_,rfl,QK ⟨_,rfl,k out r⟩⟩
  obtain⟨b,o,e,q,c⟩:=X v hv;have h:b<s.heap.objs.size:=QX q;exact⟨b,o,e,Qk (w6 h),z b o q,c⟩;refine i f (λb o q=>?_) x p y n C Y;have h:b<s.heap.objs.size:=QX q;exact j b o (Qk (w6 h)) (z b o q)
end
section
variable{prog:Program}{w:World}{A:Around}
theorem Kj(Z:A.handled=none)(j:Addr)(z:Src)(m:z.adr≠j)(y:Array Value)(c:Nat) :
  Draws prog w A j [j,z.adr] (c+y.size) (λi v=>∃k,i=c+k/\y[k]?=some v) (λi h=>∃k,i=c+k/\zE h j z k/\GB h z y) where
 live:=λ_ _ ⟨_,_,p,_⟩=>let⟨o,e,_⟩:=p.obj;⟨o,e⟩
 frame:=λ_ h f ⟨k,e,p,q⟩ u=>⟨k,e,p.keep λo x=>u j (by simp) o x,by
  cases z with|l a=>exact QCS.at q λo x=>u a (by simp[Src.adr]) o x|t a=>obtain⟨o,Y,X⟩:=q;exact⟨o,u a (by simp[Src.adr]) o Y,X⟩⟩
 item:=λi s Q E W ⟨k,e,p,q⟩ n=>by
  have hk:k<y.size:=by omega
  exact Fa p q (x:=y[k]) (by simp[hk]) λf g b=>n _ f s.toks ⟨k,e,by simp[hk]⟩ ⟨k+1,by omega,g,vh q b m⟩ b
 done:=λs Q E ⟨k,e,p,q⟩ r=>by
  have hk:k=y.size:=by omega
  exact T4 Z p q (by simp[hk]) r
theorem Vj(r:A.handled=none)(j:Addr)(z:Src)(y:Array Value)(n k:Nat)(v:y[k]?=none) :
  Draws prog w A j [j,z.adr] n (λ_ _=>False) (λi h=>i=n/\zE h j z k/\GB h z y) where
 live:=λ_ _ ⟨_,p,_⟩=>let⟨o,e,_⟩:=p.obj;⟨o,e⟩
 frame:=λ_ h Y ⟨e,p,q⟩ u=>⟨e,p.keep λo x=>u j (by simp) o x,by
  cases z with|l a=>exact QCS.at q λo x=>u a (by simp[Src.adr]) o x|t a=>obtain⟨o,m,g⟩:=q;exact⟨o,u a (by simp[Src.adr]) o m,g⟩⟩
 item:=λi s Q E b ⟨e,_,_⟩ X=>absurd b (by omega)
 done:=λs Q E ⟨_,p,q⟩ f=>T4 r p q v f
noncomputable def Uw(K:QA)(z:Src)(c:Nat):It :=
  ⟨λi H=>∃h x,TZ K H z h/\h[i]?=some x,
   λi H v y=>∃p x,H p=none/\v=.ref p/\y=BA H p (.tup [.int ((c+i:Nat):Int),x])/\∀h,TZ K H z h->h[i]?=some x,
   λi H=>∃h,TZ K H z h/\h.length<=i⟩
def mW(e j:Addr)(z:Src)(c i:Nat)(h:Heap):Prop:=(∃x,IsEnum h e j ((c+i:Nat):Int) x)/\zE h j z i
theorem dY{P:Program}{K:QA}{es:List Expr}{kk:Nat}{pp:Pos}{e j:Addr}{z:Src}{c:Nat}(L:e≠j)(n2:z.adr≠e)(n3:z.adr≠j) :
  Turn P w K (.Tuple es kk pp) (Uw K z c) [e,j] e (mW e j z c) where
 mem:=by simp
 obj:=λi h st b hb=>by obtain⟨⟨a,g⟩,n⟩:=st;simp only[QL,WE,or_false]at hb;rcases hb with rfl|rfl;exact⟨_,g,λv q=>by cases(show Data.fields _=Data.cell v from q)⟩;exact n.obj
 keep:=λi h h' st k=>by obtain⟨⟨a,g⟩,n⟩:=st;exact⟨⟨a,k e (by simp) _ g⟩,n.keep λo x=>k j (by simp) o x⟩
 item:=by
  intro X O M Q hc i r s σ H E I B st N;subst O M Q;obtain⟨xs,x,C,ex⟩:=N;obtain⟨f,J,F,_⟩:=I.src C;obtain⟨u,hu,ru⟩:=J.get ex;obtain⟨⟨a,g⟩,n⟩:=st;have hi:i<f.toArray.size:=by have:=(Qg.mp hu).1;simpa using this
  refine wpAny_pyNext_enum_itemD (Kj (show X.A.in1.handled=none from I.ok.hd hc) j z n3 f.toArray c) g ⟨i,rfl,n,F⟩ (by omega) L (by simp[L,Q4 n2]) λy h' W ⟨k,ek,hy⟩ b1 b2 b3 b4 b5=>?_;have ek:k=i:=by omega
  subst ek;have ey:y=u:=by
   have:f.toArray[k]?=some u:=by simpa using hu
   rw[this]at hy;exact(Qm hy).symm
  subst ey;refine⟨_,rfl,wpAny_letOwnedTupleGo_enum b1 λp c1 G=>?_⟩;obtain⟨k2,Z,b2,b2'⟩:=b2;have Z:k2=k+1:=by omega
  subst Z;have hp:=I.hok.fresh (QS s.heap.objs.size);have Y:e<s.heap.objs.size:=QX g;have m:∀b∈[e,j],b<s.heap.objs.size:=λb hb=>by simp only[QL,WE,or_false]at hb;rcases hb with rfl|rfl;exact Y;exact n.lt
  have kept:∀b o,b∉[e,j]->s.heap.get? b=some o->p.get? b=some o:=λb o hb q=>by simp only[QL,WE,or_false,not_or]at hb;exact(G.2 b hb.1).trans (b5 b o hb.1 hb.2 q)
  have l:p.get? s.heap.objs.size=some { cls:=.type "tuple",data:=.seq #[.int ((c+k:Nat):Int) W,y] }:=(G.2 _ (wt Y)).trans b3;have I1:=I.pair (x:=.int ((c+k:Nat):Int)) (h':=s.heap.push { cls:=.type "tuple",data:=.seq #[.int ((c+k:Nat):Int) W,y] }) (t':=W+1) (λb o e=>QH _ e) (QS _) (QU _ rfl) ⟨_,rfl⟩ ru;have I2:=I1.turnedL (h':=p) (t':=W+1) (ch:=[e,j]) (λb o hb e=>by
   rcases QBF e with⟨q1,q2⟩| q;subst q1 q2;exact l;exact kept b o hb q) λb hb=>by
   obtain⟨f0,f1,f2,f3,S,R⟩:=B b hb;exact⟨by rw[kA (Qk (m b hb))];exact f0,f1,f2,f3,S,R⟩
  refine⟨.ref s.heap.objs.size,_,I2,rfl,⟨s.heap.objs.size,x,hp,rfl,rfl,λxs' g1=>?_⟩,⟨⟨y,?_⟩,b2.keep λo q=>(G.2 _ (Q4 L)).trans q⟩,λb hb=>?_⟩;rw[I.src_inj g1 C];exact ex;have:(((c+(k+1):Nat)):Int)=((c+k:Nat):Int)+1:=by omega
  rw[this];exact c1;rw[kA (Qk (m b hb))];exact(B b hb).1
 done:=by intro X O M Q hc i r s σ H E I B st N;subst O M Q;obtain⟨xs,C,en⟩:=N;obtain⟨f,J,F,_⟩:=I.src C;obtain⟨⟨a,g⟩,n⟩:=st;have l1:=J.length;obtain⟨f0,f1,f2,f3,S,R⟩:=B j (by simp);exact wpAny_pyNext_enum_endD (Vj (show X.A.in1.handled=none from I.ok.hd hc) j z f.toArray 0 i (by simp;omega)) g ⟨rfl,n,F⟩ λh' eb=>⟨rfl,I.turned (t':=s.toks) (λb o hb e=>eb b o hb e) f0 f1 f3 S R⟩
 self:=λ_ _ _ _ _ st h=>by obtain⟨⟨a,g⟩,_⟩:=st;exact QB6 g h
end
theorem YZ(z:Src)(xs:Array Value):Meets (Builtin.«enumerate.__new__» ⟨[.type "enumerate",.ref z.adr],[]⟩) (λ_ R s=>GB s.heap z xs /\
   R (.ok (.ret (.ref (s.heap.push z.it).objs.size))) { s with heap:=(s.heap.push z.it).push { cls:=.type "enumerate",data:=.fields #[.none,.bool false,.ref s.heap.objs.size,rawInt 0,.none,.none] } }) :=
 .of_wp λy w A R s h=>by
  obtain⟨b,g,d,v,a⟩:=s;obtain⟨k,h⟩:=h;have u:=sub_enumerate;have x:GB (Shared.heap ⟨b,g,d,v,a⟩) z xs:=k;wp_walk;refine wpAny_stack_any λst=>QK ?_;split;rename_i cl _ _ _ _ _;cases(cl==Value.type "enumerate")<;>(wp_walk using eR x;exact⟨_,rfl,h⟩)
  wp_walk using eR x;exact⟨_,rfl,h⟩
section
variable{prog:Program}{w:World}{A:Around}{E:aC}{s:Shared}
theorem XX{h:Heap}{z:Src}{n:Int}:IsEnum ((h.push z.it).push { cls:=.type "enumerate",data:=.fields #[.none,.bool false,.ref h.objs.size,rawInt n,.none,.none] }) (h.objs.size+1) h.objs.size n .none:=by have:=QU (h.push z.it) (o:={ cls:=.type "enumerate",data:=.fields #[.none,.bool false,.ref h.objs.size,rawInt n,.none,.none] }) rfl;rw[QAR]at this;exact this
theorem zW{z:Src}{xs:Array Value}{Q:aC}(y:GB s.heap z xs)
  (h:∀h',mW (s.heap.objs.size+1) s.heap.objs.size z 0 0 h'->(∀c o,s.heap.get? c=some o->h'.get? c=some o)->Q (.ref (s.heap.objs.size+1)) { s with heap:=h' }):wpAny (model prog w) A (call (.type "enumerate") [.ref z.adr]) Q E s:=by
 refine callType_new PySem.F.called_enumerate (by decide) (PySem.F.typeCall_enumerate_1 _) (PySem.F.newCall_enumerate_1 _) (λobj=>PySem.F.args_object_init_2 obj _) PySem.F.entry_enumerate_new (YZ z xs) ⟨y,?_⟩;show _/\_;rw[QAR];exact⟨⟨_,XX,rfl⟩,h _ ⟨⟨.none,XX⟩,(M8 s.heap z).keep λo e=>QH _ e⟩ λc o x=>QH _ (QH _ x)⟩
end
theorem yx{a b:Nat}(h:a≠b):((a:Addr)≠(b:Addr)):=h
inductive Bi where
 |len|any|list|sorted|tuple|int
 deriving DecidableEq
inductive Mt where
 |append|pop|setd|extend
 deriving DecidableEq
inductive ItK where
 |val|rng1|enum|itm
 deriving DecidableEq
inductive Tg where
 |nm (i:Nat)|tp (is:LN)
 deriving DecidableEq
set_option genSizeOf false in
set_option genInjectivity false in
inductive PX where
 |vz (i:Nat)|int (i:Int)|str (x:Str)|bl (b:Bool)|non
 |glo (x:Str)|bty (x:Str) (n:String)
 |bin (op:Operator) (a b:PX)
 |cmp (op:CmpOp) (a b:PX)
 |and (a b:PX)|or (a b:PX)|not (a:PX)
 |call (f:Str) (as:PX)
 |bi (f:Bi) (as:PX)|isi (a c:PX)
 |mt (m:Mt) (o as:PX)
 |idx (a b:PX)|slc (a lo hi:PX)|nop
 |lst (as:PX)|tup (as:PX)|dnew (b:Bool)|dsp (a b:PX)
 |comp (mask:List Bool) (tgs:LS) (tg:Tg) (ik:ItK) (its cond elt:PX)
 |nz|ny (a as:PX)|mv (i:Nat)
structure Ev where
 sp:Str->Sp
 va:Str->V
structure W3 where
 e:TE
 t:TT
 a:TA
def never:W3:=⟨λ_ _ _=>False,λ_ _ _=>False,λ_ _ _=>False⟩
def DF(K:QA)(x:V)(H:Hp)(Q:Bool->Hp->Prop):Prop:=match x with
 | .bl b=>Q b H|.int i=>Q (i != 0) H|.non=>Q false H|.str z=>z.length<=sizeLine/\Q ((z.length:Int) != 0) H|x=>∃k,Dk K x H k/\Q k H
def K7(x:V)(H:Hp)(Q:Bool->Hp->Prop):Prop:=match x with
 | .bl b=>Q b H|_=>False
def gc(K:QA):Operator->R2
 | .Add=>Jn K|.Sub=>Em|.Mult=>zn K|.FloorDiv=>ud|.Mod=>vn|_=>λ_ _ _ _=>False
noncomputable def rX(neg:Bool):R2:=λx y H Q=>match y with
 | .non=>Q (.bl (if neg then !decide (x=.non) else decide (x=.non))) H|.bl c=>∃b,x=.bl b/\Q (.bl (if neg then !decide (b=c) else decide (b=c))) H|_=>False
noncomputable def u7(K:QA):CmpOp->R2
 | .Eq=>rEq K false|.NotEq=>rEq K true|.Lt=>ZY λi j=>decide (i<j)|.LtE=>ZY λi j=>decide (i<=j)|.Gt=>ZY λi j=>decide (j<i)|.GtE=>ZY λi j=>decide (j<=i)|.In=>MR K false|.NotIn=>MR K true|.Is=>rX false|.IsNot=>rX true
noncomputable def KY(K:QA):R2:=λx y H Q=>match x,y with
 | .str z,.int i=>z.length<=sizeLine/\∃c,pE z.cps.toList i=some c/\Q (.str ⟨#[c]⟩) H|.ref a,.int i=>∃h v,(FC K H a h∨xD K H a h)/\pE h i=some v/\Q v H|.ref a,.str z=>∃v,jR K H a (.str z) (some v)/\Q v H|.ref a,.ref b=>∃v,jR K H a (.ref b) (some v)/\Q v H|_,_=>False
def c9(K:QA):LV->Hp->VK->Prop:=λx H Q=>∃p h,x=[.ref p]/\(FC K H p h∨xD K H p h)/\∀l,H l=none->Q (.ref l) (BA H l (.lst h))
def MW(K:QA):LV->Hp->VK->Prop:=λk H Q=>∃p,k=[.ref p]/\((∃z:LS,FC K H p (z.map V.str)/\z.length<64/\∀l h,H l=none->h.Perm z->sortedS h=true->Q (.ref l) (BA H l (.lst (h.map V.str)))) ∨
   (∃u,FC K H p u/\u.length<64/\(∀x∈u,∃a,∃z:LS,x=.ref a/\FC K H a (z.map V.str))/\∀l w,H l=none->w.Perm u->Q (.ref l) (BA H l (.lst w))) ∨
   (∃v:LJ,FC K H p (v.map V.int)/\v.length<64/\∀l (y:LJ),H l=none->y.Perm v->y.Pairwise (·<=·)->Q (.ref l) (BA H l (.lst (y.map V.int)))))
def Y3(K:QA):LV->Hp->VK->Prop:=λx H Q=>∃p h,x=[.ref p]/\FC K H p h/\∀l,H l=none->Q (.ref l) (BA H l (.tup h))
def vd:LV->Hp->VK->Prop:=λh H Q=>∃b:Bool,h=[.bl b]/\Q (.int (if b then 1 else 0)) H
noncomputable def bq(K:QA):Bi->LV->Hp->VK->Prop
 | .len=>xn K|.any=>on K|.list=>c9 K|.sorted=>MW K|.tuple=>Y3 K|.int=>vd
def zd:V->LV->Hp->VK->Prop:=λx y H Q=>∃l i h k v,x=.ref l/\y=[.int i]/\H l=some (.lst h)/\dU h.length i=some k/\h[k]?=some v/\Q v (BA H l (.lst (h.eraseIdx k)))
def sd:V->LV->Hp->VK->Prop:=λx z H Q=>∃l b y h,x=.ref l/\z=[.ref b]/\H l=some (.lst y)/\H b=some (.lst h)/\y.length+h.length<=sizeLine/\Q .non (BA H l (.lst (y++h)))
def Ra(K:QA):Mt->V->LV->Hp->VK->Prop
 | .append=>eP|.pop=>zd|.setd=>RK K|.extend=>sd
def Mt.ty:Mt->String
 | .append=>"list"|.pop=>"list"|.setd=>"dict"|.extend=>"list"
def xM(x:V)(H:Hp)(Q:Option Int->Hp->Prop):Prop:=match x with
 | .int i=>Q (some i) H|_=>False
inductive Item where
 |one (v:V)|tup (vs:LV)
noncomputable def gC(K:QA):ItK->LV->Hp->(List Item->(Hp->Prop)->Hp->Prop)->Prop
 | .val,[.ref a],H,R=>(∃x,FC K H a x/\R (x.map .one) (λH=>FC K H a x) H)∨(∃x,xD K H a x/\R (x.map .one) (λH=>xD K H a x) H)∨(∃y,∃h:List KE,H a=some (.dT y h)/\R (h.map λp=>.one (.ref p.2.1)) (λH=>H a=some (.dT y h)) H)|.rng1,[.int j],H,R=>(-(2 ^ 62)<=j/\j<2 ^ 62)/\R ((Ql j.toNat).map λ(i:Nat)=>.one (.int (i:Int))) (λ_=>True) H|.enum,[.ref a],H,R=>∃z x,Src.adr z=a/\TZ K H z x/\R (x.zipIdx.map λp=>.tup [.int (p.2:Int),p.1]) (λH=>TZ K H z x) H|.itm,[.ref a],H,R=>∃y,∃h:List KE,H a=some (.dT y h)/\R (h.map λp=>.tup [.ref p.2.1,p.2.2]) (λH=>H a=some (.dT y h)) H|_,_,_,_=>False
def zB:LN->LV->St->Option St
 |[],[],σ=>some σ|i::is,v::vs,σ=>zB is vs (σ.set i (some v))|_,_,_=>none
noncomputable def nG(K:QA):Tg->TG
 | .nm i=>λv x H Q=>Q (x.set i (some v)) H|.tp z=>λv x H Q=>match v with
  | .ref p=>∃y h,xD K H p y/\zB z y x=some h/\Q h H|_=>False
noncomputable def bindI(K:QA)(z:Tg):Item->St->Hp->(St->Hp->Prop)->Prop
 | .one v=>nG K z v|.tup y=>λx H Q=>match z with
  | .tp w=>∀u,Same H u->∃h,zB w y x=some h/\Q h u|.nm i=>∀p,H p=none->Q (x.set i (some (.ref p))) (BA H p (.tup y))
def Dp(K:QA)(xs:List Item)(st:Hp->Prop)(bind:Item->St->Hp->(St->Hp->Prop)->Prop)(tc:TT)(te:TE)(σ:St)(H:Hp)(Q:VK):Prop :=
 ∃W:Nat->LV->Hp->Prop,W 0 [] H/\(∀i h H,i<=xs.length->W i h H->st H) /\
  (∀i x h H,xs[i]?=some x->W i h H->bind x σ H λz u=>tc z u λb v=>if b=true then te z v λy w=>h.length<sizeLine/\W (i+1) (h++[y]) w else W (i+1) h v) /\
  ∀h u,W xs.length h u->h.length<=sizeLine/\∀p,u p=none->Q (.ref p) (BA u p (.lst h))
structure Yields(J:It)(xs:List Item)(st:Hp->Prop):Prop where
 go:∀i H,st H->i<xs.length->J.go i H
 yld:∀i H x H',st H->i<xs.length->J.yld i H x H'->∃it,xs[i]?=some it/\match it with
  | .one v=>x=v/\H'=H|.tup vs=>∃p,H p=none/\x=.ref p/\H'=BA H p (.tup vs)
 stop:∀i H,st H->xs.length<=i->J.stop i H
def Fp(J:It)(g:TG)(tc:TT)(te:TE)(k:St)(l:Hp)(Q:VK):Prop:=∃W:Nat->Nat->LV->St->Hp->Prop,(∃m,W 0 m [] k l) /\
 ∀i m h v u,W i m h v u->(J.stop i u/\h.length<=sizeLine/\∀p,u p=none->Q (.ref p) (BA u p (.lst h))) ∨
  (J.go i u/\∀x e,J.yld i u x e->g x v e λz j=>tc z j λb a=>if b=true then te z a λy f=>h.length<sizeLine/\∃w,w < m/\W (i+1) w (h++[y]) z f else ∃w,w < m/\W (i+1) w h z a)
def zY(K:QA)(xs:List Item)(st:Hp->Prop)(x:Tg)(tc:TT)(te:TE)(h:St)(H:Hp)(Q:VK):Prop:=∀J,Yields J xs st->Fp J (nG K x) tc te h H Q
def isNop:PX->Bool
 | .nop=>true|_=>false
noncomputable def wp(K:QA)(Γ:Ev):PX->XK->W3
 | .mv i,E=>⟨λh H Q=>match h[i]? with
   |some (some v)=>Q v H|_=>False,never.t,never.a⟩
 | .vz i,E=>let e:TE:=λh H Q=>match h[i]? with
   |some (some v)=>Q v H|_=>False
  ⟨e,λh H Q=>e h H λx z=>DF K x z Q,never.a⟩
 | .int i,E=>⟨λ_ H Q=>Q (.int i) H,λ_ H Q=>Q (i != 0) H,never.a⟩|.str x,E=>⟨λ_ H Q=>Q (.str x) H,never.t,never.a⟩|.bl b,E=>⟨λ_ H Q=>Q (.bl b) H,λ_ H Q=>Q b H,never.a⟩|.non,E=>⟨λ_ H Q=>Q .non H,λ_ H Q=>Q false H,never.a⟩|.glo x,E=>⟨λ_ H Q=>Q (Γ.va x) H,λ_ H Q=>DF K (Γ.va x) H Q,never.a⟩|.bty _ n,E=>⟨λ_ H Q=>Q (.ty n) H,never.t,never.a⟩|.bin op a b,E=>let e:TE:=λh H Q=>(wp K Γ a E).e h H λx z=>(wp K Γ b E).e h z λy w=>gc K op x y w Q
  ⟨e,λh H Q=>e h H λx z=>DF K x z Q,never.a⟩
 | .cmp op a b,E=>let e:TE:=λh H Q=>(wp K Γ a E).e h H λx z=>(wp K Γ b E).e h z λy w=>u7 K op x y w Q
  ⟨e,λh H Q=>e h H λx z=>K7 x z Q,never.a⟩
 | .and a b,E=>⟨λh H Q=>(wp K Γ a E).e h H λx z=>K7 x z λc w=>if c=true then(wp K Γ b E).e h w Q else Q (.bl false) w,
   λh H Q=>(wp K Γ a E).t h H λc z=>if c=true then(wp K Γ b E).t h z Q else Q false z,never.a⟩
 | .or a b,E=>⟨λh H Q=>(wp K Γ a E).e h H λx z=>K7 x z λc w=>if c=true then Q (.bl true) w else(wp K Γ b E).e h w Q,
   λh H Q=>(wp K Γ a E).t h H λc z=>if c=true then Q true z else(wp K Γ b E).t h z Q,never.a⟩
 | .not a,E=>⟨λh H Q=>(wp K Γ a E).e h H λx z=>DF K x z λc w=>Q (.bl (!c)) w,λh H Q=>(wp K Γ a E).t h H λc z=>Q (!c) z,never.a⟩|.call f as,E=>let e:TE:=λh H Q=>(wp K Γ as E).a h H λg z=>Γ.sp f g z Q E
  ⟨e,λh H Q=>e h H λx z=>DF K x z Q,never.a⟩
 | .bi f as,E=>let e:TE:=λh H Q=>(wp K Γ as E).a h H λg z=>bq K f g z Q
  ⟨e,λh H Q=>e h H λx z=>DF K x z Q,never.a⟩
 | .isi a c,E=>let e:TE:=λh H Q=>(wp K Γ a E).e h H λx z=>(wp K Γ c E).e h z λy w=>lh K [x,y] w Q
  ⟨e,λh H Q=>e h H λx z=>DF K x z Q,never.a⟩
 | .mt m o as,E=>let e:TE:=λh H Q=>(wp K Γ o E).e h H λx z=>uY K m.ty x z/\(wp K Γ as E).a h z λg w=>Ra K m x g w Q
  ⟨e,λh H Q=>e h H λx z=>DF K x z Q,never.a⟩
 | .idx a b,E=>let e:TE:=λh H Q=>(wp K Γ a E).e h H λx z=>(wp K Γ b E).e h z λy w=>KY K x y w Q
  ⟨e,λh H Q=>e h H λx z=>DF K x z Q,never.a⟩
 | .slc a lo hi,E=>⟨λh H Q=>(wp K Γ a E).e h H λx z =>
   (if isNop lo=true then λ(R:Option Int->Hp->Prop)=>R none z else λR=>(wp K Γ lo E).e h z λl w=>xM l w R) λl w =>
   (if isNop hi=true then λ(R:Option Int->Hp->Prop)=>R none w else λR=>(wp K Γ hi E).e h w λu j=>xM u j R) λu j=>Ms K x l u j Q,never.t,never.a⟩
 | .nop,E=>never|.lst as,E=>⟨λh H Q=>(wp K Γ as E).a h H λk z=>k.length<=sizeLine/\∀p,z p=none->Q (.ref p) (BA z p (.lst k)),never.t,never.a⟩|.tup as,E=>⟨λh H Q=>(wp K Γ as E).a h H λk z=>k.length<=sizeLine/\∀p,z p=none->Q (.ref p) (BA z p (.tup k)),never.t,never.a⟩|.comp mask tgs tg ik its cond elt,E=>⟨λh H Q=>(wp K Γ its E).a h H λg z=>gC K ik g z λk st w =>
   zY K k st tg (if isNop cond=true then λ_ H Q=>Q true H else(wp K Γ cond (λ_ _ _=>False)).t) (wp K Γ elt (λ_ _ _=>False)).e (NI tgs.length mask h) w Q,never.t,never.a⟩
 | .dnew b,E=>⟨λ_ H Q=>∀p,H p=none->Q (.ref p) (BA H p (.dT 0 [])),never.t,never.a⟩|.dsp a b,E=>⟨λh H Q=>∀p,H p=none->(wp K Γ a E).e h (BA H p (.dT 0 [])) λy z=>(wp K Γ b E).e h z λv w=>w p=some (.dT 0 [])/\∃b q,y=.ref b/\SN K w b q/\∀r,Q (.ref p) (BA w p (.dT r [(q,b,v)])),never.t,never.a⟩|.nz,E=>⟨never.e,never.t,λ_ H Q=>Q [] H⟩|.ny a as,E=>⟨never.e,never.t,λh H Q=>(wp K Γ a E).e h H λx z=>(wp K Γ as E).a h z λk w=>Q (x::k) w⟩
structure Glob where
 ev:Ev
 fn:Str->Prop
 val:Str->Prop
 no:Str->Prop
noncomputable def Bi.nm:Bi->Str
 | .len=>"len"|.any=>"any"|.list=>"list"|.sorted=>"sorted"|.tuple=>"tuple"|.int=>"int"
def Mt.nm:Mt->Str
 | .append=>"append"|.pop=>"pop"|.setd=>"setdefault"|.extend=>"extend"
def Io(G:Glob):ItK->Prop
 | .val=>True|.rng1=>G.no "range"|.enum=>G.no "enumerate"|.itm=>True
noncomputable def yB(G:Glob):PX->Prop
 | .glo x=>G.val x|.bty x n=>G.no x/\bootBuiltins x=some (.type n)|.bin _ a b | .cmp _ a b | .and a b | .or a b | .idx a b | .ny a b | .dsp a b=>yB G a/\yB G b
 | .not a | .lst a | .tup a=>yB G a
 | .slc a b c=>yB G a/\yB G b/\yB G c|.call f y=>G.fn f/\yB G y|.bi f y=>G.no f.nm/\yB G y|.isi a c=>G.no "isinstance"/\yB G a/\yB G c|.mt _ o y=>yB G o/\yB G y|.comp _ _ _ v z h u=>Io G v/\yB G z/\yB G h/\yB G u|_=>True
structure SC where
 N:LS
 sc:Scope
def yD:Expr->Bool
 | .Starred _ _=>false|_=>true
noncomputable def Y8(S:SC)(i:Nat)(x:Str):Bool :=
 S.N[i]?==some x&&(S.sc.names.lookup x==some .local||S.sc.names.lookup x==some .cell||S.sc.names.lookup x==some .free)&&x != "__debug__" && x != "__classdict__"
def Gi(S:SC)(i:Nat)(x:Str):Bool:=S.N[i]?==some x&&S.sc.names.lookup x==some .local
noncomputable def MS(S:SC)(x:Str):Bool:=S.sc.names.lookup x==some .globalImplicit&&x != "__debug__" && x != "__name__"
def LX(S:SC)(h:Scope)(y:LS)(x:List Bool):SC:=⟨y++KB x 0 S.N,ML h S.sc⟩
def FJ:LS->Bool
 |[]=>true|x::r=>!r.contains x&&FJ r
noncomputable def k7(S:SC)(h:Scope)(z:LS)(x:List Bool):Bool :=
 h.kind==.function&&h.names.all (λy=>y.2 != .cell&&(y.2 != .local||(h.names.lookup y.1==some .local&&(z.contains y.1||y.1==(".0":Str)))) &&
  (y.2 != .free||S.sc.names.lookup y.1==some .cell||S.sc.names.lookup y.1==some .free))&&FJ (z++KB x 0 S.N)&&!(z++KB x 0 S.N).contains (".0":Str)
noncomputable def Yl(c:Bool)(S:SC)(i:Nat)(x:Str):Bool:=S.N[i]?==some x&&(S.sc.names.lookup x==some .local||(c&&S.sc.names.lookup x==some .cell))
noncomputable def Hr(c:Bool)(S:SC):Tg->Expr->Bool
 | .nm i,.Name x _=>Yl c S i x|.tp is,.Tuple es _ _=>is.length==es.length&&(is.zip es).all λp=>match p.2 with
  | .Name x _=>Yl c S p.1 x|_=>false
 |_,_=>false
def zQ:Expr->Bool
 | .Call (.Name _ _) [] [] _=>false|_=>true
def yS:Expr->Bool
 | .Set _ _ _=>false|_=>true
def kQ:Expr->Bool
 | .Slice _ _ _ _=>false|_=>true
def fF:PX->Bool
 | .nz=>true|.ny _ r=>fF r|_=>false
def rV:Expr->Bool
 | .Tuple _ _ _=>true|_=>false
section
variable{α:Type}
section
variable{e:Expr}{l:List α}
def yG(e:Expr)(f:Str->Pos->Bool):Bool:=match e with | .Name x p=>f x p|_=>false
def aI(e:Expr)(f:Const->Bool):Bool:=match e with | .Constant c _ _=>f c|_=>false
noncomputable def Fd(e:Expr)(f:Expr->Operator->Expr->Pos->Bool):Bool:=match e with | .BinOp l o r p=>f l o r p|_=>false
def Mn(e:Expr)(f:UnaryOp->Expr->Bool):Bool:=match e with | .UnaryOp o x _=>f o x|_=>false
noncomputable def Dd(e:Expr)(f:Expr->List CmpOp->List Expr->Bool):Bool:=match e with | .Compare l x h _=>f l x h|_=>false
def MU(e:Expr)(f:BoolOp->List Expr->Pos->Bool):Bool:=match e with | .BoolOp o h p=>f o h p|_=>false
noncomputable def LU(e:Expr)(f:Expr->List Expr->List Keyword->Pos->Bool):Bool:=match e with | .Call g x h p=>f g x h p|_=>false
def V4(e:Expr)(f:Expr->Str->Pos->Bool):Bool:=match e with | .Attribute v n p=>f v n p|_=>false
def yX(e:Expr)(f:Expr->Expr->Pos->Bool):Bool:=match e with | .Subscript v i p=>f v i p|_=>false
noncomputable def zX(e:Expr)(f:Option Expr->Option Expr->Option Expr->Bool):Bool:=match e with | .Slice l h s _=>f l h s|_=>false
def MP(e:Expr)(f:List Expr->Pos->Bool):Bool:=match e with | .List h p=>f h p|_=>false
def Vd(e:Expr)(f:List Expr->Nat->Pos->Bool):Bool:=match e with | .Tuple h k p=>f h k p|_=>false
noncomputable def Sh(e:Expr)(f:Expr->List Comprehension->Scope->Pos->Bool):Bool:=match e with | .ListComp x h sc p=>f x h sc p|_=>false
def HU(e:Expr)(f:List (Option Expr)->List Expr->Bool):Bool:=match e with | .Dict x h _=>f x h|_=>false
def rO(l:List α)(f:α->Bool):Bool:=match l with | [x]=>f x|_=>false
def Cv(l:List α)(f:α->α->Bool):Bool:=match l with | [x,y]=>f x y|_=>false
def E9(l:List α)(f:α->List α->Bool):Bool:=match l with|x::r=>f x r|_=>false
def Nn(o:Option α)(n:Bool)(f:α->Bool):Bool:=match o with|none=>n|some x=>f x
theorem eD{f:Str->Pos->Bool}(h:yG e f=true):∃x p,e=.Name x p/\f x p=true:=by
 cases e with|Name x p=>exact⟨x,p,rfl,h⟩|_=>exact(QG h).elim
theorem LG{f:Const->Bool}(h:aI e f=true):∃c k p,e=.Constant c k p/\f c=true:=by
 cases e with|Constant c k p=>exact⟨c,k,p,rfl,h⟩|_=>exact(QG h).elim
theorem ja{f:Expr->Operator->Expr->Pos->Bool}(h:Fd e f=true):∃l o r p,e=.BinOp l o r p/\f l o r p=true:=by
 cases e with|BinOp l o r p=>exact⟨l,o,r,p,rfl,h⟩|_=>exact(QG h).elim
theorem Rh{f:UnaryOp->Expr->Bool}(h:Mn e f=true):∃o x p,e=.UnaryOp o x p/\f o x=true:=by
 cases e with|UnaryOp o x p=>exact⟨o,x,p,rfl,h⟩|_=>exact(QG h).elim
theorem A9{f:Expr->List CmpOp->List Expr->Bool}(h:Dd e f=true):∃l y x p,e=.Compare l y x p/\f l y x=true:=by
 cases e with|Compare l y x p=>exact⟨l,y,x,p,rfl,h⟩|_=>exact(QG h).elim
theorem SR{f:BoolOp->List Expr->Pos->Bool}(h:MU e f=true):∃o es p,e=.BoolOp o es p/\f o es p=true:=by
 cases e with|BoolOp o es p=>exact⟨o,es,p,rfl,h⟩|_=>exact(QG h).elim
theorem PR{f:Expr->List Expr->List Keyword->Pos->Bool}(h:LU e f=true):∃g es ks p,e=.Call g es ks p/\f g es ks p=true:=by
 cases e with|Call g es ks p=>exact⟨g,es,ks,p,rfl,h⟩|_=>exact(QG h).elim
theorem K4{f:Expr->Str->Pos->Bool}(h:V4 e f=true):∃v n p,e=.Attribute v n p/\f v n p=true:=by
 cases e with|Attribute v n p=>exact⟨v,n,p,rfl,h⟩|_=>exact(QG h).elim
theorem LP{f:Expr->Expr->Pos->Bool}(h:yX e f=true):∃v i p,e=.Subscript v i p/\f v i p=true:=by
 cases e with|Subscript v i p=>exact⟨v,i,p,rfl,h⟩|_=>exact(QG h).elim
theorem HY{f:Option Expr->Option Expr->Option Expr->Bool}(h:zX e f=true):∃l u s p,e=.Slice l u s p/\f l u s=true:=by
 cases e with|Slice l u s p=>exact⟨l,u,s,p,rfl,h⟩|_=>exact(QG h).elim
theorem dM{f:List Expr->Pos->Bool}(h:MP e f=true):∃es p,e=.List es p/\f es p=true:=by
 cases e with|List es p=>exact⟨es,p,rfl,h⟩|_=>exact(QG h).elim
theorem P9{f:List Expr->Nat->Pos->Bool}(h:Vd e f=true):∃es k p,e=.Tuple es k p/\f es k p=true:=by
 cases e with|Tuple es k p=>exact⟨es,k,p,rfl,h⟩|_=>exact(QG h).elim
theorem GU{f:Expr->List Comprehension->Scope->Pos->Bool}(h:Sh e f=true):∃x y sc p,e=.ListComp x y sc p/\f x y sc p=true:=by
 cases e with|ListComp x y sc p=>exact⟨x,y,sc,p,rfl,h⟩|_=>exact(QG h).elim
theorem OR{f:List (Option Expr)->List Expr->Bool}(h:HU e f=true):∃ks vs p,e=.Dict ks vs p/\f ks vs=true:=by
 cases e with|Dict ks vs p=>exact⟨ks,vs,p,rfl,h⟩|_=>exact(QG h).elim
theorem tK{f:α->List α->Bool}(h:E9 l f=true):∃x r,l=x::r/\f x r=true:=by
 cases l with|nil=>exact(QG h).elim|cons x r=>exact⟨x,r,rfl,h⟩
theorem EB{f:α->Bool}(h:rO l f=true):∃x,l=[x]/\f x=true:=by
 cases l with
 |nil=>exact(QG h).elim|cons x r =>
  cases r with|nil=>exact⟨x,rfl,h⟩|cons _ _=>exact(QG h).elim
theorem On{f:α->α->Bool}(h:Cv l f=true):∃x y,l=[x,y]/\f x y=true:=by
 cases l with
 |nil=>exact(QG h).elim|cons x r =>
  obtain⟨y,e,h⟩:=EB (l:=r) (f:=f x) (by
   cases r with|nil=>exact h|cons y r=>cases r<;>exact h)
  exact⟨x,y,by rw[e],h⟩
end
end
section
variable{c:Const}{n:Str}{e:Expr}
def yq(c:Const)(f:Int->Bool):Bool:=match c with | .int i=>f i|_=>false
def jq(c:Const)(f:Str->Bool):Bool:=match c with | .str i=>f i|_=>false
def Te(c:Const)(f:Bool->Bool):Bool:=match c with | .bool i=>f i|_=>false
def Se(c:Const):Bool:=match c with | .none=>true|_=>false
theorem Sj{f:Int->Bool}(h:yq c f=true):∃i,c=.int i/\f i=true:=by
 cases c with|int i=>exact⟨i,rfl,h⟩|_=>exact(QG h).elim
theorem Rj{f:Str->Bool}(h:jq c f=true):∃i,c=.str i/\f i=true:=by
 cases c with|str i=>exact⟨i,rfl,h⟩|_=>exact(QG h).elim
theorem cc{f:Bool->Bool}(h:Te c f=true):∃i,c=.bool i/\f i=true:=by
 cases c with|bool i=>exact⟨i,rfl,h⟩|_=>exact(QG h).elim
theorem bc(h:Se c=true):c=.none:=by
 cases c with|none=>rfl|_=>exact(QG h).elim
theorem yA{a b:Bool}(h:(a&&b)=true):a=true/\b=true:=by cases a<;>cases b<;>first|exact⟨rfl,rfl⟩| exact(QG h).elim
noncomputable def MO(S:SC)(n:Str)(e:Expr)(f:List Expr->List Keyword->Pos->Bool):Bool:=LU e λg y h p=>yG g λx _=>n==x&&(MS S x&&f y h p)
theorem jJ{S:SC}{f:List Expr->List Keyword->Pos->Bool}(h:MO S n e f=true):∃y es ks p,e=.Call (.Name n y) es ks p/\MS S n=true/\f es ks p=true:=by obtain⟨g,es,ks,p,rfl,w⟩:=PR h;obtain⟨x,y,rfl,v⟩:=eD w;have u:=yA v;have z:=yA u.2;have e:=qZ u.1;exact⟨y,es,ks,p,by rw[e],by rw[e];exact z.1,z.2⟩
noncomputable def D5(n:Str)(e:Expr)(f:Expr->List Expr->Pos->Pos->Bool):Bool:=LU e λg z y p=>V4 g λv x h=>n==x&&(y.isEmpty&&(h.endLine==p.line&&f v z h p))
theorem dX{f:Expr->List Expr->Pos->Pos->Bool}(h:D5 n e f=true):∃v y es p,e=.Call (.Attribute v n y) es [] p/\(y.endLine==p.line)=true/\f v es y p=true:=by obtain⟨g,es,i,p,rfl,a⟩:=PR h;obtain⟨v,x,y,rfl,k⟩:=K4 a;have w:=yA k;have u:=yA w.2;have z:=yA u.2;have e:=qZ w.1;have b:=Q1.mp u.1;exact⟨v,y,es,p,by rw[e,b],z.1,z.2⟩
def je(x:BoolOp)(r:Expr)(h:List Expr)(pos:Pos):Expr:=match h with
 |[]=>r|q::t=>.BoolOp x (r::q::t) pos
noncomputable def Iq(y:Bool)(S:SC)(z:ItK)(c:List Expr->Pos->Bool)(t it:Expr)(pos:Pos):Bool:=match z with
 | .val=>y&&c [it] pos|.rng1=>MO S "range" it λh x p=>x.isEmpty&&rO h λa=>c [a] p|.enum=>rV t&&MO S "enumerate" it λh x p=>x.isEmpty&&rO h λa=>c [a] p|.itm=>rV t&&(y&&D5 "items" it λv h _ p=>zQ v&&(h.isEmpty&&c [v] p))
def Kt(h:List Expr)(n:Bool)(f:Expr->Bool):Bool:=match h with
 |[]=>n|c::r=>r.isEmpty&&(!n&&f c)
def isItm:ItK->Bool
 | .itm=>true|_=>false
noncomputable def kC:PX->SC->Expr->Bool
 | .vz i,S,e=>yG e λx _=>Y8 S i x|.mv i,S,e=>yG e λx _=>Y8 S i x|.int i,_,e=>aI e λc=>yq c λj=>i==j|.str x,_,e=>aI e λc=>jq c λy=>x==y|.bl b,_,e=>aI e λc=>Te c λk=>b==k|.non,_,e=>aI e Se|.glo x,S,e=>yG e λy _=>x==y&&MS S x|.bty x _,S,e=>yG e λy _=>x==y&&MS S x|.bin op a b,S,e=>Fd e λl o r _=>op==o&&(kC a S l&&kC b S r)|.cmp op a b,S,e=>Dd e λl Z Y=>rO Z λo=>rO Y λr=>op==o&&(yS r&&(kC a S l&&kC b S r))|.and a b,S,e=>MU e λo z p=>o==.And&&E9 z λl t=>E9 t λr t=>kC a S l&&kC b S (je .And r t p)|.or a b,S,e=>MU e λo z p=>o==.Or&&E9 z λl t=>E9 t λr t=>kC a S l&&kC b S (je .Or r t p)|.not a,S,e=>Mn e λo x=>o==.Not&&kC a S x|.call f as,S,e=>MO S f e λz w p=>w.isEmpty&&kC as S (.List z p)|.bi f as,S,e=>MO S f.nm e λz w p=>w.isEmpty&&E9 z λx t=>kC as S (.List (x::t) p)|.isi a c,S,e=>MO S "isinstance" e λz w _=>w.isEmpty&&Cv z λl r=>yD l&&(yD r&&(kC a S l&&kC c S r))|.mt m o as,S,e=>D5 m.nm e λv z _ p=>fF as&&(zQ v&&(decide (z.length<20)&&(kC o S v&&kC as S (.List z p))))|.idx a b,S,e=>yX e λv i _=>kQ i&&(kC a S v&&kC b S i)|.slc a lo hi,S,e=>yX e λv X _=>zX X λl h s=>s.isNone&&(kC a S v&&(Nn l (isNop lo) (λe=>!isNop lo&&kC lo S e)&&Nn h (isNop hi) λe=>!isNop hi&&kC hi S e))|.nop,_,_=>false|.lst as,S,e=>MP e λz p=>kC as S (.List z p)|.tup as,S,e=>Vd e λz _ p=>kC as S (.List z p)|.comp mask tgs tg ik its cond elt,S,e=>Sh e λK W u p=>rO W λg=>g.is_async==0&&(!isItm ik&&(k7 S u tgs mask&&(Hr false (LX S u tgs mask) tg g.target&&(yS g.iter &&
   (Iq (fF its) S ik (λz p=>kC its S (.List z p)) g.target g.iter p&&(Kt g.ifs (isNop cond) (λc=>kC cond (LX S u tgs mask) c)&&kC elt (LX S u tgs mask) K))))))
 | .dnew _,_,e=>HU e λw q=>w.isEmpty&&q.isEmpty|.dsp a b,S,e=>HU e λw q=>rO w λk=>rO q λv=>Nn k false (kC a S)&&kC b S v|.nz,_,e=>MP e λz _=>z.isEmpty|.ny a as,S,e=>MP e λz p=>E9 z λx t=>yD x&&(kC a S x&&kC as S (.List t p))
end
variable{Γ:Ev}
theorem Zk(x:V)(H:Hp)(Q:Bool->Hp->Prop):K7 x H Q=∃k,x=.bl k/\Q k H:=by
 apply propext;cases x with|bl b=>exact⟨λh=>⟨b,rfl,h⟩,λ⟨k,e,h⟩=>by cases e;exact h⟩|_=>exact⟨λh=>Qd h,λ⟨k,e,h⟩=>by cases e⟩
theorem x4(x:V)(H:Hp)(Q:Option Int->Hp->Prop):xM x H Q=∃i,x=.int i/\Q (some i) H:=by
 apply propext;cases x with|int b=>exact⟨λh=>⟨b,rfl,h⟩,λ⟨k,e,h⟩=>by cases e;exact h⟩|_=>exact⟨λh=>Qd h,λ⟨k,e,h⟩=>by cases e⟩
theorem JW(K:QA)(x:V)(H:Hp)(Q:Bool->Hp->Prop):DF K x H Q=∃k,Dk K x H k/\Q k H:=by
 apply propext;cases x with|bl b=>exact⟨λh=>⟨b,rfl,h⟩,λ⟨k,(e:k=b),h⟩=>by subst e;exact h⟩|int i=>exact⟨λh=>⟨i != 0,rfl,h⟩,λ⟨k,(e:k=(i != 0)),h⟩=>by subst e;exact h⟩|non=>exact⟨λh=>⟨false,rfl,h⟩,λ⟨k,(e:k=false),h⟩=>by subst e;exact h⟩|str z=>exact⟨λh=>⟨_,⟨h.1,rfl⟩,h.2⟩,λ⟨k,⟨u,y⟩,h⟩=>by subst y;exact⟨u,h⟩⟩|_=>exact WT
section
variable{X:Cx}
section
variable{e b:Expr}{es:List Expr}{env:Env}{its:LW}
theorem E3:PE X e never.e:=λ_ _ _ _ _ _ h=>Qd h
theorem RL:PT X e never.t:=λ_ _ _ _ _ _ h=>Qd h
theorem NR:PA X es never.a:=λ_ _ _ _ _ _ _ h=>Qd h
theorem sD{a:Expr}{ta:TE}(i:PE X a ta)(g:∀y,isTrue a X.env y=(do let v <- y;standAt a.pos;holding [v] (truthy v))) :
  PT X a (λσ H Q=>ta σ H λx l=>DF X.K x l Q):=by
 intro z s σ H Q I h;refine isTrue_plain (OB (i z s σ H _ I h) λv k ⟨x,w,j,f,u⟩=>?_) (g _);have u:DF X.K x w Q:=u;rw[JW]at u;exact V1 z k σ w x v Q j f u
theorem J4{f:Value->Value->Sem Value}:AE X f (λ_ _ _ _=>False):=λ_ _ _ _ _ _ _ _ _ _ _ _ h=>h.elim
theorem Oh(h:Operator):AE X (binaryOp h) (gc X.K h):=by
 cases h with|Add=>exact op_add|Sub=>exact op_sub|Mult=>exact Mh|FloorDiv=>exact N9|Mod=>exact op_mod|_=>exact J4
theorem US(neg:Bool){h:NB}{s:Shared}{σ:St}{H:Hp}{b c:Bool}{Q:VK}(I:Inv X h σ H s)(q:Q (.bl (if neg then !decide (b=c) else decide (b=c))) H):wpAny (model X.prog X.w) X.A (compareOp (if neg then .IsNot else .Is) (.bool b) (.bool c)) (EP X h σ Q) X.xe s:=by
 have e:compareOp (if neg then .IsNot else .Is) (.bool b) (.bool c)=pure (.bool (if neg then !decide (b=c) else decide (b=c))):=by cases neg<;>cases b<;>cases c<;>rfl
 rw[e];exact QK ⟨.bl _,H,I,rfl,q⟩
theorem Y4(g:X.A.units+66<cLine)(f:CmpOp):AE X (compareOp f) (u7 X.K f):=by
 cases f with
 |Eq=>exact op_eq (by omega)|NotEq=>exact op_ne (by omega)|Lt=>exact FP _root_.L2.op_lt|LtE=>exact FP _root_.L2.op_le|Gt=>exact FP _root_.L2.op_gt|GtE=>exact FP _root_.L2.op_ge|In=>exact Gn g|NotIn=>exact i4 g|Is =>
  intro z s a H x y v u Q I k w h;cases y with|non=>exact Nh z s a H x _ v u Q I k w ⟨rfl,h⟩|bl c=>obtain⟨b,rfl,q⟩:=h;cases k;cases w;cases b<;>cases c<;>exact US false I q|_=>exact Qd h
 |IsNot =>
  intro z s a H x y v u Q I k w h;cases y with|non=>exact M9 z s a H x _ v u Q I k w ⟨rfl,h⟩|bl c=>obtain⟨b,rfl,q⟩:=h;cases k;cases w;cases b<;>cases c<;>exact US true I q|_=>exact Qd h
theorem kj(Z:X.A.units+66<cLine):S7 X (KY X.K):=by
 intro w k f s n H x y v u Q I r p h Y;have sq:=λh=>zj (X:=X) w k f s n H x y v u Q I r p h Y;have dc:=λh=>ub Z w k f s n H x y v u Q I r p h Y;cases x with
 |str z =>
  cases y with|int i=>obtain⟨W,c,m,q⟩:=h;exact sq (.inr (.inr ⟨z,i,c,rfl,rfl,W,m,q⟩))|_=>exact Qd h
 |ref a =>
  cases y with
  |int i=>obtain⟨o,j,l,m,q⟩:=h;rcases l with l|l;exact sq (.inl ⟨a,o,i,j,rfl,rfl,l,m,q⟩);exact sq (.inr (.inl ⟨a,o,i,j,rfl,rfl,l,m,q⟩))
  |str z=>obtain⟨j,g,q⟩:=h;exact dc ⟨a,j,rfl,g,q⟩|ref b=>obtain⟨j,g,q⟩:=h;exact dc ⟨a,j,rfl,g,q⟩|_=>exact Qd h
 |_=>exact Qd h
theorem x5{x:CmpOp}(h:yS b=true):behindInMarks x b=false:=by cases b<;>first|rfl|cases h
theorem e9(h:kQ b=true):jY b:=by intro o i;cases b<;>first|rfl|cases h
theorem vB(env:Env)(h:yD e=true):starEach (e::es) env=(false,eval e env)::starEach es env:=by cases e<;>first|rfl|cases h
theorem TU(h:yS e=true)(x:Value):foldedSetIterable e env x=pure x:=by cases e<;>first|rfl|cases h
theorem v5{o:Expr}{n:Str}(h:zQ o=true):attributeBase o n env (eval o env)=eval o env:=by unfold attributeBase;split;cases h;rfl
theorem Na:l8 X "list.pop" zd:=by intro z s f H x u v g Q I j m h;obtain⟨l,i,u,k,y,rfl,rfl,a,hk,n,q⟩:=h;obtain⟨o,Y,r,p⟩:=aQ hk;have hl:u.length<=sizeLine:=(show CA X.prog X.w H s.heap l (.lst u) from I.hok l _ a).1;rw[Q8]at hl;exact C5 z s f H _ _ v g Q I j m ⟨l,u,i,k,y,rfl,rfl,a,by omega,by omega,o,n,q⟩
theorem rR{x:LS}(h:lA (x.map V.str) its):StrsAre its x:=by
 induction x generalizing its with
 |nil=>cases h;exact .nil|cons y x z =>
  cases h with|cons h t=>obtain⟨k,rfl⟩:=h;exact .cons _ _ (z t)
theorem vY{x:LS}(h:StrsAre its x):lA (x.map V.str) its:=by
 induction h with|nil=>exact .nil|cons y t _ z=>exact .cons ⟨t,rfl⟩ z
theorem BY{out:LW}(g:its.Perm out):∀{xs:LV},lA xs its->∃z,z.Perm xs/\lA z out:=by
 induction g with
 |nil=>intro xs r;cases r;exact⟨[],QBP _,.nil⟩|cons x _ k =>
  intro xs r;cases r with|cons h t=>obtain⟨z,p,v⟩:=k t;exact⟨_::z,p.cons _,.cons h v⟩
 |swap x y l =>
  intro xs r;cases r with
  |cons h t=>cases t with|cons i t=>exact⟨_::_::_,List.Perm.swap _ _ _,.cons i (.cons h t)⟩
 |trans _ _ f a=>intro xs r;obtain⟨z,p,v⟩:=f r;obtain⟨w,q,u⟩:=a v;exact⟨w,q.trans p,u⟩
theorem O0{xs:LV}{v:Value}(r:lA xs its)(h:v∈its):∃x∈xs,JA x v:=by
 induction r with
 |nil=>exact nomatch h
 |cons r t z=>rcases QL.mp h with e|h;subst e;exact⟨_,QF,r⟩;obtain⟨x,u,y⟩:=z h;exact⟨x,QE _ u,y⟩
theorem pZ{vs:LW}{ns:LJ}(h:IntsAre vs ns):lA (ns.map V.int) vs:=by
 induction h with|nil=>exact .nil|cons n t _ x=>exact .cons ⟨t,rfl⟩ x
theorem ZT(hu:X.A.units+66<cLine):oC X (.builtin "sorted") (MW X.K):=by
 intro pins s σ H xs us Q I r h;obtain⟨p,rfl,h⟩:=h;rcases h with⟨ss,W,E,q⟩| ⟨xs,W,E,hx,q⟩| ⟨ns,W,E,q⟩
 skip;obtain⟨u,rfl,m⟩:=vH r;cases m;obtain⟨its,g,Y,hz⟩:=I.list W;have hl:=g.length;rw[QD]at hl;refine sorted_strs Y.isList (by simpa using rR g) (by omega) λout l J F a3=>?_;obtain⟨e,B⟩:=QCF s.heap its out;have hlen:=(fP J).1;have hp:=F.length_eq;refine⟨.ref (s.heap.objs.size+1),_,I.laid (t':=s.toks) (λb o z=>QBq z) (we _) (show CA X.prog X.w _ _ _ (.lst (l.map V.str)) from⟨by rw[QD,Q8];omega,out.toList,e,vY J,by simpa using B⟩),rfl,q _ l (I.hok.fresh (we _)) F a3⟩;skip;obtain⟨u,rfl,m⟩:=vH r;cases m;obtain⟨its,g,Y,hz⟩:=I.list W;have hl:=g.length;have f:∀v∈its,∃b dd M n k,∃j:LS,v=.ref b/\s.heap.get? b=some { cls:=.type "list",dict:=dd,data:=.seq k n,slots:=M }/\StrsAre k.toList j:=λv hv=>by obtain⟨x,S,N⟩:=O0 g hv;obtain⟨a,j,rfl,sq⟩:=hx x S;cases N;obtain⟨i,O,⟨o,n,e,c,d,z⟩,_⟩:=I.list sq;obtain⟨oc,od,R,P⟩:=o;cases c;exact⟨a,od,P,n,i.toArray,j,rfl,by rw[e,show R=Data.seq i.toArray n from z],by simpa using rR O⟩
 refine N8 Y.isList (by omega) (λv hv=>?_) (λh3 kp x hx y hy C hC=>?_) λout hp=>?_;obtain⟨b,dd,M,n,k,j,rfl,e,_⟩:=f v hv;exact⟨b,_,rfl,e,rfl⟩;obtain⟨b,dd,M,n,k,j,rfl,e,st⟩:=f x hx;obtain⟨b2,dd2,sl2,n2,G,ts2,rfl,e2,L⟩:=f y hy;exact FU (s:={ s with heap:=h3 }) (show X.A.units+1+1<cLine by omega) (kp _ _ e) (kp _ _ e2) st L (hC _);obtain⟨e,B⟩:=QCF s.heap its out.toArray;obtain⟨ys,py,vy⟩:=BY hp.symm g;have hp2:=py.length_eq;refine⟨.ref (s.heap.objs.size+1),_,I.laid (t':=s.toks) (λb o z=>QBq z) (we _) (show CA X.prog X.w _ _ _ (.lst ys) from⟨by rw[Q8];omega,out,e,vy,B⟩),rfl,q _ ys (I.hok.fresh (we _)) py⟩;obtain⟨u,rfl,m⟩:=vH r;cases m;obtain⟨its,g,Y,hz⟩:=I.list W;have hl:=g.length;rw[QD]at hl;refine sorted_ints Y.isList (aV g) (by omega) λout Z J F a3=>?_;obtain⟨e,B⟩:=QCF s.heap its out;have hp:=F.length_eq;refine⟨.ref (s.heap.objs.size+1),_,I.laid (t':=s.toks) (λb o z=>QBq z) (we _) (show CA X.prog X.w _ _ _ (.lst (Z.map V.int)) from⟨by rw[QD,Q8];omega,out.toList,e,pZ J,by simpa using B⟩),rfl,q _ Z (I.hok.fresh (we _)) F a3⟩
theorem BZ:oC X (.type "tuple") (Y3 X.K):=by intro x s y H k u Q I r h;obtain⟨p,z,rfl,w,v⟩:=h;exact RN x s y H _ u Q I r ⟨p,z,rfl,.inl ⟨w,v⟩⟩
theorem CZ:oC X (.type "int") vd:=by intro x s y H u z Q I r h;obtain⟨b,rfl,q⟩:=h;exact DZ x s y H _ z Q I r (.inr ⟨b,rfl,q⟩)
theorem Oa:l8 X "list.extend" sd:=by intro y s u H x z v k Q I a f h;obtain⟨l,b,z,w,rfl,rfl,h⟩:=h;exact jZ y s u H _ _ v k Q I a f ⟨l,b,z,w,rfl,rfl,h⟩
theorem kq(h:X.A.units+66<cLine)(hc:X.calm=true)(f:Bi):(∃id,bootBuiltins f.nm=some (.builtin id)/\oC X (.builtin id) (bq X.K f))∨∃T,bootBuiltins f.nm=some (.type T)/\oC X (.type T) (bq X.K f):=by
 cases f with|len=>exact .inl ⟨_,PySem.boot_len,c7⟩|any=>exact .inl ⟨_,PyProof.Rows.boot_any,l7 hc⟩|list=>exact .inr ⟨_,PyProof.Rows.boot_list,HQ⟩|sorted=>exact .inl ⟨_,PyProof.Rows.boot_sorted,ZT h⟩|tuple=>exact .inr ⟨_,by kernel_rfl,BZ⟩|int=>exact .inr ⟨_,PyProof.Rows.boot_int,CZ⟩
end
end
end L2.L3
namespace L2.L3
open PySem PySem.Spec PyProof.Rows
section
variable{S:SC}{i:Nat}{x:Str}
structure OkX(X:Cx)(S:SC)(G:Glob)(E:XK):Prop where
 N:X.N=S.N
 sc:X.env.scope=S.sc
 calm:X.calm=true
 un:X.A.units+66<cLine
 fn:∀f,G.fn f->∃(CX:y8) (k:Nat) (a:Addr) (fd:FuncData) (ps:LS),FnOk X.prog X.w X.K X.mg X.base CX k a fd ps (G.ev.sp f)/\Room k X.A/\X.mg f=some (.ref a)/\wJ X.K (.ref a)=true/\oJ X.K fd ps [] /\
  zN CX X E/\∀l H s e s',CX l H s (λ_ _ _=>False) e s'->False
 val:∀x,G.val x->∃u,X.mg x=some u/\JA (G.ev.va x) u
 no:∀x,G.no x->X.mg x=none
noncomputable def yR(X:Cx)(Γ:Ev)(E:XK):PX->List Expr->Prop
 | .ny a as,e::es=>PE X e (wp X.K Γ a E).e/\yR X Γ E as es|_,_=>True
structure Snd(X:Cx)(Γ:Ev)(E:XK)(p:PX)(e:Expr):Prop where
 pe:PE X e (wp X.K Γ p E).e
 pt:PT X e (wp X.K Γ p E).t
 pw:∀op es pos,e=.BoolOp op es pos->PW X e (wp X.K Γ p E).t
 pa:∀es pos,e=.List es pos->PA X es (wp X.K Γ p E).a
 pas:∀es pos,e=.List es pos->yR X Γ E p es
theorem sW(h:Y8 S i x=true):S.N[i]?=some x/\Ul S.sc x/\(x==("__debug__":Str))=false/\(x==("__classdict__":Str))=false:=by simp only[Y8,Qc,wX,beq_iff_eq,bne_iff_ne,ne_eq]at h;obtain⟨⟨⟨v,y⟩,u⟩,z⟩:=h;refine⟨v,?_,by simpa using u,by simpa using z⟩;rcases y with(y|y)|y;exact .inl y;exact .inr (.inl y);exact .inr (.inr y)
theorem Ia(h:Gi S i x=true):S.N[i]?=some x/\S.sc.names.lookup x=some .local:=by simp only[Gi,Qc,beq_iff_eq]at h;exact h
theorem OG(h:MS S x=true):S.sc.names.lookup x=some .globalImplicit/\(x==("__debug__":Str))=false/\x≠"__name__":=by simp only[MS,Qc,beq_iff_eq,bne_iff_ne,ne_eq]at h;exact⟨h.1.1,by simpa using h.1.2,h.2⟩
theorem ZE:∀{l:LS},FJ l=true->l.Nodup
 |[],_=>Q2|x::r,h=>by simp only[FJ,Qc,Q9]at h;exact Qj.mpr ⟨by simpa using h.1,ZE h.2⟩
theorem uT{z:Scope}{w:LS}{u:List Bool}(h:k7 S z w u=true):CompSt S.N S.sc z w u:=by simp only[k7,Qc,Qv,beq_iff_eq,Q9]at h;obtain⟨⟨⟨f,k⟩,b⟩,a⟩:=h;refine⟨f,λy v e=>?_,λy v e=>?_,λy v e=>?_,λy v e=>?_,ZE b,by simpa using a⟩;have:=(k y v).1.1;rw[e]at this;exact absurd this (by decide);have:=(k y v).1.2;rw[e]at this;simp at this;exact this.1;have:=(k y v).2;rw[e]at this;simp at this;exact this;have:=(k y v).1.2;rw[e]at this;simp at this;exact this.2
theorem OkX.comp{X:Cx}{G:Glob}{E:XK}(ok:OkX X S G E)(y:Scope)(v:LS)(u:List Bool)(s:Shared)(H:Hp)(ex:List Addr):OkX (LA X y v u s H ex) (LX S y v u) G (λ_ _ _=>False) where
 N:=by show v++KB u 0 X.N=v++KB u 0 S.N;rw[ok.N]
 sc:=by show ML y X.env.scope=ML y S.sc;rw[ok.sc]
 calm:=ok.calm
 un:=ok.un
 fn:=λf h=>by obtain⟨o,k,a,n,b,m,l,j,g,e,p,w⟩:=ok.fn f h;exact⟨o,k,a,n,b,m,l,j,g,e,λ_ _ _ _ _ _ _ z=>(w _ _ _ _ _ z).elim,w⟩
 val:=ok.val
 no:=ok.no
end
section
variable{X:Cx}
theorem M5{c:Bool}{S:SC}{i:Nat}{x:Str}(k:X.N=S.N)(y:X.env.scope=S.sc)(u:c=true->∀x,X.fn x=true)(h:Yl c S i x=true):X.N[i]?=some x/\Dl X.env.scope x/\(X.fn x=true∨X.env.scope.names.lookup x=some .local):=by
 simp only[Yl,Qc,wX,beq_iff_eq]at h;rw[k,y];rcases h.2 with z|⟨w,v⟩
 exact⟨h.1,.inl z,.inr z⟩;exact⟨h.1,.inr v,.inl (u w x)⟩
theorem uO{c:Bool}{S:SC}(a:c=true->∀x,X.fn x=true)(j:X.N=S.N)(k:X.env.scope=S.sc)(nd:X.N.Nodup):∀(w:LN) (es:List Expr),w.length=es.length->((w.zip es).all λp=>match p.2 with | .Name x _=>Yl c S p.1 x|_=>false)=true ->
  jw X es (λvs σ H Q=>∃y,zB w vs σ=some y/\Q y H)
 |[],[],_,_=>by
  intro z s σ H vs n Q I r h;obtain⟨y,e,q⟩:=h;cases vs with|nil=>cases r;simp only[zB]at e;cases e;exact assignInOrder_nil ⟨σ,H,I,q⟩|cons _ _=>simp[zB]at e
 |[],_::_,h,_=>by cases h|_::_,[],h,_=>by cases h|i::w,e::es,hl,hz=>by
  simp only[QAL,qa,Qc]at hz;obtain⟨l,W⟩:=hz;cases e with
  |Name x pos =>
   obtain⟨g,f,b⟩:=M5 j k a l;have Z:=uO a j k nd w es (by simpa using hl) W;intro z s σ H vs n Q I r h;obtain⟨y,e,q⟩:=h;cases vs with
   |nil=>simp[zB]at e|cons v vs =>
    simp only[zB]at e;cases r with|cons r Y=>show wpAny _ _ (assignInOrder (assign (.Name x pos) X.env::(assignEach es X.env).map (·.2)) _) _ _ _;refine assignInOrder_cons (OB (EW (pos:=pos) nd g f b z s σ H v _ _ I r (show eX i v σ H (λu m=>u=σ.set i (some v)/\m=H) from⟨rfl,rfl⟩)) λ_ o ⟨u,m,B,A,K⟩=>?_);subst A K;exact Z z o _ _ vs _ Q B Y ⟨y,e,q⟩
  |_=>simp at l
theorem aS{c:Bool}:∀(z:LN) (es:List Expr) (S:SC),z.length=es.length->((z.zip es).all λp=>match p.2 with | .Name x _=>Yl c S p.1 x|_=>false)=true->(assignEach es X.env).length=es.length/\(assignEach es X.env).findIdx? (·.1)=none
 |[],[],_,_,_=>⟨rfl,rfl⟩|[],_::_,_,h,_=>by cases h|_::_,[],_,h,_=>by cases h|i::z,e::es,S,hl,hz=>by
  simp only[QAL,qa,Qc]at hz;obtain⟨w,v⟩:=hz;cases e with|Name x y=>have u:=aS z es S (by simpa using hl) v;have k:assignEach (.Name x y::es) X.env=(false,assign (.Name x y) X.env)::assignEach es X.env:=rfl;rw[k];refine⟨by rw[QM,QM,u.1],?_⟩;rw[List.findIdx?_cons];simp[u.2]|_=>simp at w
theorem DL:∀{y:LN}{vs:LV}{σ x:St},zB y vs σ=some x->vs.length=y.length
 |[],[],_,_,_=>rfl|[],_::_,_,_,h=>by simp[zB]at h|_::_,[],_,_,h=>by simp[zB]at h|_::y,_::vs,σ,x,h=>by simp only[zB]at h;rw[QM,QM,DL h]
theorem P3{c:Bool}{S:SC}{G:Glob}{E:XK}(ok:OkX X S G E)(z:c=true->∀x,X.fn x=true)(nd:X.N.Nodup){b:Tg}{e:Expr}(h:Hr c S b e=true):PG X e (nG X.K b):=by
 cases b with
 |nm i =>
  cases e with|Name x pos=>obtain⟨l,j,g⟩:=M5 ok.N ok.sc z h;exact EW nd l j g|_=>cases h
 |tp o =>
  cases e with
  |Tuple m k pos =>
   obtain⟨J,Z⟩:=yA h;have f:=qZ J;obtain⟨C,B⟩:=aS (X:=X) o m S f Z;have w:=Kh (pos:=pos) (k:=k) (n:=m.length) ok.calm (uO z ok.N ok.sc nd o m f Z) C B;intro y s W H v u Q I r Y;refine w y s W H v u Q I r ?_;cases v with|ref p=>obtain⟨A,a,F,e,q⟩:=Y;exact⟨p,A,rfl,F,by rw[DL e,f],a,e,q⟩|_=>exact Qd Y
  |_=>cases h
end
variable{Γ:Ev}
theorem m8(K:QA)(a:Addr)(xs:LV):Yields (Kw K a) (xs.map .one) (λH=>FC K H a xs) :=
  { go:=λi H h u=>by
      have z:i<xs.length:=by simpa using u
      exact⟨xs,xs[i],h,by simp[z]⟩
    yld:=λi H x v h _ ⟨e,y⟩=>⟨.one x,by rw[QT,y xs h];rfl,rfl,e⟩
    stop:=λi H h u=>⟨xs,h,by simpa using u⟩ }
theorem ig(K:QA)(a:Addr)(xs:LV):Yields (Yw K a) (xs.map .one) (λH=>xD K H a xs) :=
  { go:=λi H h u=>by
      have z:i<xs.length:=by simpa using u
      exact⟨xs,xs[i],h,by simp[z]⟩
    yld:=λi H x v h _ ⟨e,y⟩=>⟨.one x,by rw[QT,y xs h];rfl,rfl,e⟩
    stop:=λi H h u=>⟨xs,h,by simpa using u⟩ }
theorem Jg(u:Int)(n:Nat):Yields (vv u n) ((Ql n).map λ(k:Nat)=>.one (.int (u+(k:Int)))) (λ_=>True) :=
  { go:=λi H h z=>by
      have y:i<n:=by simpa using z
      exact y
    yld:=λi H x w h z ⟨e,v⟩=>by
      have y:i<n:=by simpa using z
      exact⟨.one x,by rw[QT,ql y,v];rfl,rfl,e⟩
    stop:=λi H h z=>by
      have y:n<=i:=by simpa using z
      exact y }
theorem r8(K:QA)(z:Src)(c:Nat)(xs:LV):Yields (Uw K z c) (xs.zipIdx.map λp=>.tup [.int ((c+p.2:Nat):Int),p.1]) (λH=>TZ K H z xs) :=
  { go:=λi H h u=>by
      have y:i<xs.length:=by simpa using u
      exact⟨xs,xs[i],h,by simp[y]⟩
    yld:=λi H x g h u ⟨p,a,v,e,w,k⟩=>by
      have y:i<xs.length:=by simpa using u
      have f:=k xs h;refine⟨.tup [.int ((c+i:Nat):Int),a],?_,p,v,e,w⟩;have b:xs.zipIdx[i]?=some (a,i):=by rw[QBG,f];simp
      rw[QT,b];rfl
    stop:=λi H h u=>⟨xs,h,by simpa using u⟩ }
theorem z0(ep:Nat)(a:Addr)(kvs:List KE):Yields (Zw ep kvs.length a) (kvs.map λp=>.tup [.ref p.2.1,p.2.2]) (λH=>H a=some (.dT ep kvs)) :=
  { go:=λi H h y=>by
      have z:i<kvs.length:=by simpa using y
      exact⟨kvs,kvs[i],h,rfl,by simp[z]⟩
    yld:=λi H x w h y ⟨q,p,u,e,v,k⟩=>⟨.tup [.ref p.2.1,p.2.2],by rw[QT,k kvs h];rfl,q,u,e,v⟩
    stop:=λi H h y=>⟨kvs,h,rfl,by simpa using y⟩ }
theorem n8(ep:Nat)(a:Addr)(kvs:List KE):Yields (Xw ep kvs.length a) (kvs.map λp=>.one (.ref p.2.1)) (λH=>H a=some (.dT ep kvs)) :=
  { go:=λi H h y=>by
      have z:i<kvs.length:=by simpa using y
      exact⟨kvs,kvs[i],h,rfl,by simp[z]⟩
    yld:=λi H x b h y ⟨u,k⟩=>by obtain⟨p,w,v⟩:=k kvs h;exact⟨.one (.ref p.2.1),by rw[QT,w];rfl,v,u⟩
    stop:=λi H h y=>⟨kvs,h,rfl,by simpa using y⟩ }
noncomputable def lU(h:St->Hp->(List Item->(Hp->Prop)->Hp->Prop)->Prop):TI:=λx H R=>h x H λy st z=>∀J,Yields J y st->R J z
section
variable{X:Cx}{f:Expr}
section
variable{a:Expr}{ta:TA}{p pos k:Pos}{x:Str}{es:List Expr}{d:Nat}
theorem i9{l:Expr}{t:TE}(hl:PE X l t):PI X f l (lU λσ H R=>t σ H λv m=>gC X.K .val [v] m R):=by
 intro g s σ H R I h;refine OB (hl g s σ H _ I h) λv y ⟨x,m,i,F,C⟩=>?_;have j:∀b∈[y.heap.objs.size],nJ X g m b:=λb hb=>by
  have e:b=y.heap.objs.size:=by simpa using hb
  subst e;exact i.fpOk (QS _) (i.hok.fresh (QS _))
 cases x with
 |ref a =>
  cases F;rcases C with⟨Z,A,q⟩| ⟨Z,A,q⟩| ⟨ep,u,e,q⟩
  obtain⟨Y,E,p,G⟩:=i.list A;refine QAd p.isList ?_;exact⟨y.heap.objs.size,[y.heap.objs.size],_,_,m,rfl,i.kept (t':=y.toks) λb o e=>QH _ e,bY a _,⟨_,QU _ rfl,rfl,rfl⟩,j,q _ (m8 _ a Z)⟩;obtain⟨Y,E,p,G⟩:=i.tuple A;refine QBo (show y.heap.IsTuple a Y.toArray from p) ?_;exact⟨y.heap.objs.size,[y.heap.objs.size],_,_,m,rfl,i.kept (t':=y.toks) λb o e=>QH _ e,rU a _,⟨_,QU _ rfl,rfl,rfl⟩,j,q _ (ig _ a Z)⟩;obtain⟨z,J,Z,r,ob,B,O,N,M,L,P⟩:=(show CA X.prog X.w m y.heap a (.dT ep u) from i.hok a _ e)
  have W:B.size=u.length:=by have:=congrArg wE L;rw[QD,Qr]at this;rw[this,<- qJ r]
  refine gb J O N.1 M ?_;exact⟨y.heap.objs.size,[y.heap.objs.size],_,_,m,rfl,i.kept (t':=y.toks) λb o e=>QH _ e,cY (a:=a) (n:=u.length) (ep:=ep),⟨_,QU _ rfl,rfl,by rw[<- W];rfl⟩,j,q _ (n8 ep a u)⟩
 |_=>exact Qd C
theorem J9(g:x="range")(m:Gl X x)(l:X.mg x=none)(n:PA X [a] ta)(i:yD a=true) :
  PI X f (.Call (.Name x p) [a] [] pos) (lU λσ H R=>ta σ H λvs v=>gC X.K .rng1 vs v R):=by
 subst g;intro z s σ H R I h;refine Call_ (FH I m l boot_range (wu (OB (n pos z s σ H _ I h) λY Z ⟨vs,v,o,b,u⟩=>?_) (vB _ i) rfl))
 match vs,u with
 |[.int j],⟨⟨u,q2⟩,q⟩ =>
  cases b with
  |cons r w =>
   cases w;obtain⟨t,rfl⟩:=r;refine call_range_1 (J3 o (by omega) (by omega) u q2 ?_);have e:(j - 0).toNat=j.toNat:=by simp
   rw[e];have y:=Jg 0 j.toNat;refine q _ ?_;simpa using y
theorem GZ:bootBuiltins ("enumerate":Str)=some (.type "enumerate"):=by kernel_rfl
theorem P6{y:NB}{σ:St}{e:Hp}{h:Shared}{R:It->Hp->Prop}{c:Nat}{z:Src}{xs:LV}{its:Array Value}{h':Heap}(v:Inv X y σ e h)(g:GB h.heap z its)(st:mW (h.heap.objs.size+1) h.heap.objs.size z c 0 h')(j:∀c o,h.heap.get? c=some o->h'.get? c=some o)
  (q:∀J,Yields J (xs.zipIdx.map λp=>.tup [.int ((c+p.2:Nat):Int),p.1]) (λH=>TZ X.K H z xs)->R J e):wpAny (model X.prog X.w) X.A (pyIter (.ref (h.heap.objs.size+1))) (Nu X y σ (.Tuple es d k) R) X.xe { h with heap:=h' }:=by
 obtain⟨⟨i,l⟩,_⟩:=id st;refine QB6 l ?_;have m:=v.kept (h':=h') (t':=h.toks) j;have lt:=g.lt;refine⟨_,[h.heap.objs.size+1,h.heap.objs.size],_,_,e,rfl,m,dY (yx (Nat.succ_ne_self _)) (Qk (w6 lt)) (Qk lt),st,λb hb=>?_,q _ (r8 _ z c xs)⟩;have u:h.heap.objs.size<=b:=by simp only[QL,WE,or_false]at hb;rcases hb with rfl|rfl;exact QAs _ _;exact QS _
 exact v.fpOk u (v.hok.fresh u)
theorem Z9(l:x="enumerate")(o:Gl X x)(n:X.mg x=none)(Y:PA X [a] ta)(m:yD a=true) :
  PI X (.Tuple es d k) (.Call (.Name x p) [a] [] pos) (lU λσ H R=>ta σ H λvs w=>gC X.K .enum vs w R):=by
 subst l;intro u s σ H R I h;refine Call_ (FH I o n GZ (wu (OB (Y pos u s σ H _ I h) λZ W ⟨vs,w,v,e,g⟩=>?_) (vB _ m) rfl))
 match vs,g with
 |[.ref l1],⟨z,xs,e1,h1,q⟩ =>
  subst e1;cases e with|cons r b=>cases b;cases r;obtain⟨j,_,y,_⟩:=v.src h1;refine zW y λA st i=>P6 (xs:=xs) v y st i ?_;simpa using q
theorem cb{K:QA}{u:V}{H:Hp}{R:List Item->(Hp->Prop)->Hp->Prop}(h:gC K .itm [u] H R):∃a ep kvs,u=.ref a/\H a=some (.dT ep kvs)/\R (kvs.map λp=>.tup [.ref p.2.1,p.2.2]) (λH=>H a=some (.dT ep kvs)) H:=by
 cases u with|ref a=>obtain⟨ep,kvs,e,q⟩:=h;exact⟨a,ep,kvs,rfl,e,q⟩|_=>exact Qd h
theorem Zh{o:Expr}{B:TE}{apos cpos:Pos}(J:PE X o B)(i:attributeBase o "items" X.env (eval o X.env)=eval o X.env)(g:(apos.endLine==cpos.line)=true) :
  ur X (.Tuple es d k) (.Call (.Attribute o "items" apos) [] [] cpos) (lU λσ H R=>B σ H λv l=>gC X.K .itm [v] l R):=by
 intro u s σ H R I h;refine QAk i g (OB (J u s σ H _ I h) λv j ⟨x,l,C,E,G⟩=>?_);obtain⟨a,ep,y,rfl,e,q⟩:=cb G;cases E;obtain⟨z,L,P,r,ob,W,m,Z,N,M,Q⟩:=(show CA X.prog X.w l j.heap a (.dT ep y) from C.hok a _ e)
 refine⟨"dict",_,QAm,PySem.F.slot_dict_items,PySem.F.type_dict_items,⟨ob,m,Z.1⟩,λb O=>?_,WY rfl (QBT (yW m Z.1 L ?_))⟩;cases O;exact⟨ob,m,Z.2.1⟩;have A:Inv X u σ l { j with heap:=j.heap.push { cls:=.type "dict_items",data:=.fields #[.ref a] } }:=C.kept (t':=j.toks) λb o e=>QH _ e;refine c6 ⟨_,QU _ rfl,rfl,rfl⟩ (QH _ m) N ?_;have Y:W.size=y.length:=by have:=congrArg wE M;rw[QD,Qr]at this;rw[this,<- qJ r]
 refine⟨_,[_],_,_,l,rfl,A.kept (t':=j.toks) λb o e=>QH _ e,tU (a:=a) (n:=y.length) (ep:=ep),⟨.none,.none,?_⟩,λb hb=>?_,q _ (z0 ep a y)⟩;rw[<- Y];exact QU _ rfl;have e:=QJ.mp hb;subst e;exact A.fpOk (QS _) (A.hok.fresh (QS _))
end
end
section
variable{u σ:St}{K:QA}{k:Tg}{H:Hp}{Q:St->Hp->Prop}
def Tg.at:Tg->LN
 | .nm i=>[i]|.tp h=>h
def kU(k:Tg)(u σ:St):Prop:=u.length=σ.length/\∀(j:Nat),j∉k.at->u[j]?=σ[j]?
theorem mY{i:Nat}{v:Option V}(h:u.length=σ.length)(x:∀j,j≠i->u[j]?=σ[j]?):u.set i v=σ.set i v:=by apply qP;intro j;by_cases e:j=i;subst e;by_cases hl:j<σ.length;rw[qf (by omega),qf hl];rw[Qe (by rw[qM];omega),Qe (by rw[qM];omega)];rw[qS (Q4 e),qS (Q4 e)];exact x j e
theorem cI:∀(x:LN) (vs:LV) (u σ:St),u.length=σ.length->(∀j,j∉x->u[j]?=σ[j]?)->zB x vs u=zB x vs σ
 |[],[],u,σ,hl,h=>by have:u=σ:=qP λj=>h j (by simp);rw[this]|[],_::_,_,_,_,_=>rfl|_::_,[],_,_,_,_=>rfl|i::x,v::vs,u,σ,hl,h=>by simp only[zB];refine cI x vs _ _ (by simp[hl]) λj z=>?_;by_cases e:j=i;subst e;by_cases y:j<σ.length;rw[qf (by omega),qf y];rw[Qe (by rw[qM];omega),Qe (by rw[qM];omega)];rw[qS (Q4 e),qS (Q4 e)];exact h j (by simp[e,z])
theorem zF:∀(h:LN) (vs:LV) (σ u:St),zB h vs σ=some u->u.length=σ.length/\∀j,j∉h->u[j]?=σ[j]?
 |[],[],σ,u,e=>by simp only[zB]at e;cases e;exact⟨rfl,λ_ _=>rfl⟩|[],_::_,_,_,e=>by simp[zB]at e|_::_,[],_,_,e=>by simp[zB]at e|i::h,v::vs,σ,u,e=>by simp only[zB]at e;obtain⟨w,y⟩:=zF h vs _ _ e;refine⟨by rw[w,qM],λj x=>?_⟩;rw[y j (λz=>x (QE _ z)),qS (λz=>x (by simp[z]))]
theorem UT{v:V}(a:kU k u σ)(h:nG K k v σ H Q):nG K k v u H λx m=>kU k x σ/\Q x m:=by
 obtain⟨f,g⟩:=a;cases k with
 |nm i=>have e:u.set i (some v)=σ.set i (some v):=mY f λj y=>g j (by simpa[Tg.at]using y);show kU (.nm i) (u.set i (some v)) σ/\Q (u.set i (some v)) H;rw[e];exact⟨⟨by simp,λj y=>qS (λz=>y (by simp[Tg.at,z]))⟩,h⟩|tp b =>
  cases v with|ref p=>obtain⟨w,x,l,e,q⟩:=h;exact⟨w,x,l,by rw[cI b w u σ f λj y=>g j y];exact e,⟨(zF b w σ x e).1,λj y=>(zF b w σ x e).2 j y⟩,q⟩|_=>exact Qd h
theorem vW{v:V}{y:St->Hp->Prop}(m:∀σ H,Q σ H->y σ H)(h:nG K k v σ H Q):nG K k v σ H y:=by
 cases k with
 |nm i=>exact m _ _ h|tp a =>
  cases v with|ref p=>obtain⟨z,x,w,e,q⟩:=h;exact⟨z,x,w,e,m _ _ q⟩|_=>exact Qd h
theorem PM{it:Item}{x:V}{y:Hp}(w:match it with | .one v=>x=v/\y=H | .tup vs=>∃p,H p=none/\x=.ref p/\y=BA H p (.tup vs))(h:bindI K k it σ H Q):nG K k x σ y Q:=by
 cases it with
 |one v=>obtain⟨rfl,rfl⟩:=w;exact h|tup vs =>
  obtain⟨p,z,rfl,rfl⟩:=w;cases k with
  |nm i=>exact h p z|tp a =>
   obtain⟨u,e,q⟩:=h (BA H p (.tup vs)) λb o e=>by rw[kA (iA e z)];exact e
   exact⟨vs,u,xD.of aA,e,q⟩
theorem z7{xs:List Item}{st:Hp->Prop}{tc:TT}{te:TE}{a:St}{Q:VK}(h:Dp K xs st (bindI K k) tc te a H Q):zY K xs st k tc te a H Q:=by
 obtain⟨W,Z,o,j,done⟩:=h;intro J Y;refine⟨λi m v u f=>m=xs.length - i/\i<=xs.length/\kU k u a/\W i v f,⟨xs.length,by simp,Qs _,⟨rfl,λ_ _=>rfl⟩,Z⟩,?_⟩;rintro i m v u f ⟨rfl,C,F,w⟩;have n:=o i v f C w;by_cases g:i<xs.length;refine .inr ⟨Y.go i f n g,λx G y=>?_⟩;obtain⟨it,p,B⟩:=Y.yld i f x G n g y;have b:=UT F (PM B (j i it v f p w));refine vW (λl I q=>?_) b;obtain⟨r,q⟩:=q;have E:∀(z:LV) (s:Hp),(∃X,X < xs.length - i/\X=xs.length - (i+1)/\i+1<=xs.length/\kU k l a/\W (i+1) z s)=W (i+1) z s:=λz s =>
  propext ⟨λ⟨_,_,_,_,_,w⟩=>w,λw=>⟨_,by omega,rfl,g,r,w⟩⟩
 simp only[E];exact q
 ·have e:i=xs.length:=by omega
  subst e;obtain⟨A,q⟩:=done v f w;exact .inl ⟨Y.stop _ f n (QS _),A,q⟩
end
end L2.L3
namespace L2.L3
open PySem PySem.Spec PyProof.Rows
variable{Γ:Ev}
section
variable{X:Cx}{E:XK}{p its:PX}{es:List Expr}{e t Y:Expr}{pos:Pos}{S:SC}{Q:LV->Hp->Prop}{G:Glob}{d:ItK}
def jQ:PX->Bool
 | .ny _ _=>false|_=>true
theorem MT(h:jQ p=true):yR X Γ E p es:=by cases p<;>first|trivial|cases h
theorem PQ(Q:Bool->Hp->Prop):(λ(x:V) (h:Hp)=>K7 x h Q)=λ(x:V) (h:Hp)=>∃k,x=.bl k/\Q k h:=by funext x h;exact Zk x h Q
theorem Snd.of(pe:PE X e (wp X.K Γ p E).e)(pt:PT X e (wp X.K Γ p E).t)(hb:∀h es pos,e≠.BoolOp h es pos)(y:(wp X.K Γ p E).a=never.a)(x:jQ p=true:=by rfl):Snd X Γ E p e :=
 ⟨pe,pt,λh es pos z=>absurd z (hb h es pos),λes pos z=>by rw[y];exact NR,λ_ _ _=>MT x⟩
theorem Snd.lit(pe:PE X e (wp X.K Γ p E).e)(x:(wp X.K Γ p E).t=never.t)(hb:∀h es pos,e≠.BoolOp h es pos)(z:(wp X.K Γ p E).a=never.a)(y:jQ p=true:=by rfl):Snd X Γ E p e :=
 Snd.of pe (by rw[x];exact RL) hb z y
theorem Snd.args(w:PA X es (wp X.K Γ p E).a)(u:yR X Γ E p es)(v:(wp X.K Γ p E).e=never.e)(y:(wp X.K Γ p E).t=never.t):Snd X Γ E p (.List es pos) :=
 ⟨by rw[v];exact E3,by rw[y];exact RL,λ_ _ _ z=>(by cases z),λx h z=>by cases z;exact w,λx h z=>by cases z;exact u⟩
theorem Dh{x:Str}{v:V}{u:Value}(y:X.env.scope=S.sc)(h:MS S x=true)(z:X.mg x=some u)(r:JA v u):PE X (.Name x pos) (λ_ H Q=>Q v H):=by obtain⟨k,w,a⟩:=OG h;exact V9 (show X.env.scope.names.lookup x=some .globalImplicit by rw[y];exact k) z r w
theorem NE:∀(p:PX) {es:List Expr},kC p S (.List es pos)=true->es.all yD=true:=by
 intro p;induction p with|nz=>intro es h;have h:es.isEmpty=true:=h;rw[Q1.mp h];rfl|ny a u _ y=>intro es h;have h:E9 es _=true:=h;obtain⟨x,t,rfl,h⟩:=tK h;have z:=yA h;rw[qa,z.1,y (yA z.2).2];rfl|lst u y=>exact λh=>y h|_=>exact λh=>(QG h).elim
theorem GT{K:QA}{σ:St}{H:Hp}:∀(p:PX),fF p=true->kC p S (.List [] pos)=true->((wp K Γ p E).a σ H Q↔Q [] H):=by
 intro p;cases p with|nz=>exact λ_ _=>WT|ny _ _=>exact λ_ h=>(QG h).elim|_=>exact λh=>(QG h).elim
theorem MZ{K:QA}{σ:St}{H:Hp}(p:PX)(h:kC p S (.List [] pos)=true)(q:(wp K Γ p E).a σ H Q):Q [] H:=by
 cases x:fF p with
 |true=>exact(GT p x h).mp q|false =>
  cases p with|nz=>exact q|ny _ _=>exact(QG h).elim|_=>exact q.elim
theorem FT{a:Expr}(p:PX)(y:fF p=true)(h:kC p S (.List [a] pos)=true):∃x,p=.ny x .nz:=by
 cases p with
 |ny x r =>
  have z:kC r S (.List [] pos)=true:=(yA (yA h).2).2;cases r with|nz=>exact⟨x,rfl⟩|ny _ _=>exact(QG z).elim|_=>exact(QG y).elim
 |nz=>exact(QG h).elim|_=>exact(QG y).elim
theorem so(h:X.A.units+66<cLine)(m:Mt):∃id,PlainAttrs m.ty/\Slot m.ty m.nm id/\typeOf (.builtin id)=pure (.type "method_descriptor")/\l8 X id (Ra X.K m):=by
 cases m with|append=>exact⟨_,WU,PySem.F.slot_list_append,PySem.F.type_list_append,yZ⟩|pop=>exact⟨_,WU,PySem.F.slot_list_pop,PySem.F.type_list_pop,Na⟩|extend=>exact⟨_,WU,PySem.F.slot_list_extend,PySem.F.type_list_extend,Oa⟩|setd=>exact⟨_,QAm,PySem.F.slot_dict_setdefault,PySem.F.type_dict_setdefault,IY h⟩
theorem OE{env:Env}{pos:Pos}:∀{es:List Expr},es.all yD=true->(backTo pos (starEach es env)).any (·.1)=false
 |[],_=>rfl|e::es,h=>by rw[qa]at h;obtain⟨y,x⟩:=yA h;rw[vB env y];show(false||(backTo pos (starEach es env)).any (·.1))=false;rw[OE x];rfl
theorem NT{env:Env}{pos:Pos}:∀{es:List Expr},es.all yD=true->(backTo pos (starEach es env)).all (λx=>!x.1)=true
 |[],_=>rfl|e::es,h=>by rw[qa]at h;obtain⟨z,y⟩:=yA h;rw[vB env z];show(true&&(backTo pos (starEach es env)).all (λx=>!x.1))=true;rw[NT y];rfl
theorem UU(ok:OkX X S G E)(y:Iq (fF its) S d (λes p=>kC its S (.List es p)) t Y pos=true)(j:Io G d)(m:isItm d=false)
  (b:∀es p,kC its S (.List es p)=true->Snd X G.ev E its (.List es p)):PI X t Y (lU λσ H R=>(wp X.K G.ev its E).a σ H λvs o=>gC X.K d vs o R):=by
 have w:∀{x:Str},MS S x=true->Gl X x:=λ{x} h=>by show X.env.scope.names.lookup x=some .globalImplicit;rw[ok.sc];exact(OG h).1
 have z:rV t=true->∃es k p,t=.Tuple es k p:=λh=>by
  cases t with|Tuple es k p=>exact⟨es,k,p,rfl⟩|_=>exact(QG h).elim
 cases d with|val=>have i:=yA y;have f:=(b _ pos i.2).pas _ pos rfl;obtain⟨a,rfl⟩:=FT its i.1 i.2;exact i9 f.1|rng1=>obtain⟨l,es,n,p,rfl,g,h⟩:=jJ y;have v:=yA h;cases Q1.mp v.1;obtain⟨a,rfl,u⟩:=EB v.2;exact J9 rfl (w g) (ok.no _ j) ((b _ p u).pa _ p rfl) (by simpa using NE its u)|enum=>have i:=yA y;obtain⟨es,k,pt,rfl⟩:=z i.1;obtain⟨l,es,n,p,rfl,g,h⟩:=jJ i.2;have v:=yA h;cases Q1.mp v.1;obtain⟨a,rfl,u⟩:=EB v.2;exact Z9 rfl (w g) (ok.no _ j) ((b _ p u).pa _ p rfl) (by simpa using NE its u)|itm=>cases m
theorem Y9(ok:OkX X S G E)(x:Iq (fF its) S d (λes p=>kC its S (.List es p)) t Y pos=true)(g:Io G d)
  (u:∀es p,kC its S (.List es p)=true->Snd X G.ev E its (.List es p)):ur X t Y (lU λσ H R=>(wp X.K G.ev its E).a σ H λvs j=>gC X.K d vs j R):=by
 cases b:isItm d with
 |false=>exact(UU ok x g b u).to0|true =>
  cases d with
  |itm =>
   have i:=yA x;have w:=yA i.2;cases t with|Tuple es k pt=>obtain⟨v,l,es,p,rfl,hl,h⟩:=dX w.2;have f:=yA h;have z:=yA f.2;cases Q1.mp z.1;have y:=(u _ p z.2).pas _ p rfl;obtain⟨a,rfl⟩:=FT its w.1 z.2;exact Zh y.1 (v5 f.1) hl|_=>exact(QG i.1).elim
  |_=>cases b
theorem kF{te x:TE}(h:PE X e te)(q:∀σ H Q,x σ H Q->te σ H Q):PE X e x:=λy s σ H Q I z=>h y s σ H Q I (q σ H Q z)
theorem snd:∀(p:PX) {X:Cx}{S:SC}{E:XK}(ok:OkX X S G E) {e:Expr},kC p S e=true->yB G p->Snd X G.ev E p e:=by
 intro p;induction p with
 |vz i =>
  intro X S E ok e h _;obtain⟨x,pos,rfl,h⟩:=eD h;obtain⟨Z,J,L,O⟩:=sW h;have base:=BU (pos:=pos) (show X.N[i]?=some x by rw[ok.N];exact Z) (show Ul X.env.scope x by rw[ok.sc];exact J) L O;have pe:PE X (.Name x pos) (wp X.K G.ev (.vz i) E).e:=kF base λA H Q q=>by
   have q:(match A[i]? with|some (some v)=>Q v H|_=>False):=q;cases hs:A[i]? with
   |none=>rw[hs]at q;exact q.elim|some o =>
    rw[hs]at q;cases o with|none=>exact q.elim|some v=>exact⟨v,hs,q⟩
  exact Snd.of pe (sD pe λ_=>rfl) (λ_ _ _ z=>by cases z) rfl
 |mv i =>
  intro X S E ok e h _;obtain⟨x,pos,rfl,h⟩:=eD h;obtain⟨Z,J,L,O⟩:=sW h;have base:=BU (pos:=pos) (show X.N[i]?=some x by rw[ok.N];exact Z) (show Ul X.env.scope x by rw[ok.sc];exact J) L O;have pe:PE X (.Name x pos) (wp X.K G.ev (.mv i) E).e:=kF base λA H Q q=>by
   have q:(match A[i]? with|some (some v)=>Q v H|_=>False):=q;cases hs:A[i]? with
   |none=>rw[hs]at q;exact q.elim|some o =>
    rw[hs]at q;cases o with|none=>exact q.elim|some v=>exact⟨v,hs,q⟩
  exact Snd.lit pe rfl (λ_ _ _ z=>by cases z) rfl
 |int i=>intro X S E ok e h _;obtain⟨c,k,pos,rfl,h⟩:=LG h;obtain⟨j,rfl,h⟩:=Sj h;cases qZ h;exact Snd.of j4 (sD (ta:=λ_ H Q=>Q (.int i) H) j4 λ_=>rfl) (λ_ _ _ z=>by cases z) rfl|str x=>intro X S E ok e h _;obtain⟨c,k,pos,rfl,h⟩:=LG h;obtain⟨j,rfl,h⟩:=Rj h;cases qZ h;exact Snd.lit Bh rfl (λ_ _ _ z=>by cases z) rfl|bl b=>intro X S E ok e h _;obtain⟨c,k,pos,rfl,h⟩:=LG h;obtain⟨j,rfl,h⟩:=cc h;cases qZ h;exact Snd.of Kd (sD (ta:=λ_ H Q=>Q (.bl b) H) Kd λ_=>rfl) (λ_ _ _ z=>by cases z) rfl|non=>intro X S E ok e h _;obtain⟨c,k,pos,rfl,h⟩:=LG h;cases bc h;exact Snd.of A3 (sD (ta:=λ_ H Q=>Q .non H) A3 λ_=>rfl) (λ_ _ _ z=>by cases z) rfl|glo x=>intro X S E ok e h nd;obtain⟨y,pos,rfl,h⟩:=eD h;have h:=yA h;cases qZ h.1;obtain⟨u,hm,r⟩:=ok.val x nd;have pe:=Dh (pos:=pos) ok.sc h.2 hm r;exact Snd.of pe (sD pe λ_=>rfl) (λ_ _ _ z=>by cases z) rfl|bty x n=>intro X S E ok e h nd;obtain⟨y,pos,rfl,h⟩:=eD h;have h:=yA h;cases qZ h.1;obtain⟨g1,g2,g3⟩:=OG h.2;exact Snd.lit (F9 (show X.env.scope.names.lookup x=some .globalImplicit by rw[ok.sc];exact g1) (ok.no x nd.1) nd.2 rfl g3 g2) rfl (λ_ _ _ z=>by cases z) rfl|bin op a b B M=>intro X S E ok e h nd;obtain⟨l,o,r,pos,rfl,h⟩:=ja h;have Z:=yA h;have J:=yA Z.2;cases qZ Z.1;have pe:=Zn (pos:=pos) (Oh op) (B ok J.1 nd.1).pe (M ok J.2 nd.2).pe;exact Snd.of pe (sD pe λ_=>rfl) (λ_ _ _ z=>by cases z) rfl|cmp op a b B M=>intro X S E ok e h nd;obtain⟨l,os,rs,pos,rfl,h⟩:=A9 h;obtain⟨o,rfl,h⟩:=EB h;obtain⟨r,rfl,h⟩:=EB h;have Z:=yA h;have J:=yA Z.2;have L:=yA J.2;cases qZ Z.1;have pa:=(B ok L.1 nd.1).pe;have pb:=(M ok L.2 nd.2).pe;refine Snd.of (C9 (pos:=pos) (Y4 ok.un op) pa pb (x5 J.1)) (λP s A H Q I q=>l9 (pos:=pos) (Y4 ok.un op) pa pb (x5 J.1) P s A H Q I ?_) (λ_ _ _ z=>by cases z) rfl;show Ym _ _ _ A H (λ(x:V) (W:Hp)=>∃k,x=.bl k/\Q k W);rw[<- PQ Q];exact q|and a b B M =>
  intro X S E ok e h nd;obtain⟨o,es,pos,rfl,h⟩:=SR h;have Z:=yA h;cases qZ Z.1;obtain⟨l,t,rfl,J⟩:=tK Z.2;obtain⟨r,t,rfl,L⟩:=tK J;have O:=yA L;have sa:=B ok O.1 nd.1;have sb:=M ok O.2 nd.2;have eqA:∀(A:St) (Q:VK),(λ(x:V) (W:Hp)=>∃c,x=.bl c/\if c=true then(wp X.K G.ev b E).e A W Q else Q (.bl false) W)=λ(x:V) (W:Hp)=>K7 x W λc H2=>if c=true then(wp X.K G.ev b E).e A H2 Q else Q (.bl false) H2:=λA Q=>(PQ _).symm
  have key:PW X (.BoolOp .And (l::r::t) pos) (wp X.K G.ev (.and a b) E).t/\PE X (.BoolOp .And (l::r::t) pos) (λA H Q=>(wp X.K G.ev a E).e A H λx W=>∃c,x=.bl c/\if c=true then(wp X.K G.ev b E).e A W Q else Q (.bl false) W):=by
   cases t with|nil=>exact⟨K3 sa.pt (g9 sb.pt),v4 (pos:=pos) sa.pe (T3 sb.pe)⟩|cons q t=>exact⟨K3 sa.pt (sb.pw _ _ _ rfl),v4 (pos:=pos) sa.pe sb.pe⟩
  refine⟨kF key.2 λA H Q q=>?_,key.1.pt,λ_ _ _ _=>key.1,λ_ _ z=>(by cases z),λ_ _ z=>trivial⟩;rw[eqA];exact q
 |or a b B M =>
  intro X S E ok e h nd;obtain⟨o,es,pos,rfl,h⟩:=SR h;have Z:=yA h;cases qZ Z.1;obtain⟨l,t,rfl,J⟩:=tK Z.2;obtain⟨r,t,rfl,L⟩:=tK J;have O:=yA L;have sa:=B ok O.1 nd.1;have sb:=M ok O.2 nd.2;have eqA:∀(A:St) (Q:VK),(λ(x:V) (W:Hp)=>∃c,x=.bl c/\if c=true then Q (.bl true) W else(wp X.K G.ev b E).e A W Q)=λ(x:V) (W:Hp)=>K7 x W λc H2=>if c=true then Q (.bl true) H2 else(wp X.K G.ev b E).e A H2 Q:=λA Q=>(PQ _).symm
  have key:PW X (.BoolOp .Or (l::r::t) pos) (wp X.K G.ev (.or a b) E).t/\PE X (.BoolOp .Or (l::r::t) pos) (λA H Q=>(wp X.K G.ev a E).e A H λx W=>∃c,x=.bl c/\if c=true then Q (.bl true) W else(wp X.K G.ev b E).e A W Q):=by
   cases t with|nil=>exact⟨td sa.pt (mh sb.pt),Zd (pos:=pos) sa.pe (T3 sb.pe)⟩|cons q t=>exact⟨td sa.pt (sb.pw _ _ _ rfl),Zd (pos:=pos) sa.pe sb.pe⟩
  refine⟨kF key.2 λA H Q q=>?_,key.1.pt,λ_ _ _ _=>key.1,λ_ _ z=>(by cases z),λ_ _ z=>trivial⟩;rw[eqA];exact q
 |not a B=>intro X S E ok e h nd;obtain⟨o,x,pos,rfl,h⟩:=Rh h;have Z:=yA h;cases qZ Z.1;have sa:=B ok Z.2 nd;refine Snd.of (λP s A H Q I q=>?_) (nh sa.pt) (λ_ _ _ z=>by cases z) rfl;refine UnaryOp_ (OB (sa.pe P s A H _ I q) λv s1 ⟨x,W,I1,r1,q1⟩=>?_);have q1:DF X.K x W (λc H2=>Q (.bl (!c)) H2):=q1;rw[JW]at q1;refine not_of (OB (V1 P s1 A W x v _ I1 r1 q1) λc s2 ⟨H2,I2,q2⟩=>?_);exact⟨.bl (!c),H2,I2,rfl,q2⟩|call f as ih =>
  intro X S E ok e h nd;obtain⟨p,es,ks,pos,rfl,hg,h⟩:=jJ h;have Z:=yA h;cases Q1.mp Z.1;obtain⟨g1,g2,g3⟩:=OG hg;have hg:Gl X f:=show X.env.scope.names.lookup f=some .globalImplicit by rw[ok.sc];exact g1
  obtain⟨CX,k,a,fd,ps,F,hr,hm,hk,hb,hx,_⟩:=ok.fn f nd.1;have pa:=(ih ok Z.2 nd.2).pa es pos rfl;have st:=NE as Z.2;have pe:PE X (.Call (.Name f p) es [] pos) (wp X.K G.ev (.call f as) E).e:=by
   cases es with|nil=>exact kF (y4 (pos:=pos) (p:=p) F hr hg hm hk hb .nil hx g2) λA H Q q=>MZ as Z.2 q|cons e1 es1=>have st:=yA st;refine kF (D9 (pos:=pos) (p:=p) F hr hg hm hk hb .nil hx pa g2 (vB _ st.1) (OE st.2)) λA H Q q=>?_;show(wp X.K G.ev as E).a A H λvs W=>G.ev.sp f (vs++[]) W Q E;simp only[qA];exact q
  exact Snd.of pe (sD pe λ_=>rfl) (λ_ _ _ z=>by cases z) rfl
 |idx a b B M=>intro X S E ok e h nd;obtain⟨v,i,pos,rfl,h⟩:=LP h;have Z:=yA h;have J:=yA Z.2;have pe:=Vn (pos:=pos) (kj ok.un) (B ok J.1 nd.1).pe (M ok J.2 nd.2).pe (e9 Z.1);exact Snd.of pe (sD pe λ_=>rfl) (λ_ _ _ z=>by cases z) rfl|nop=>intro X S E ok e h nd;exact(QG h).elim|lst as ih=>intro X S E ok e h nd;obtain⟨es,pos,rfl,h⟩:=dM h;have pa:=(ih ok h nd).pa es pos rfl;exact⟨Ch pa,RL,λ_ _ _ z=>(by cases z),λ_ _ z=>NR,λ_ _ z=>trivial⟩|tup as ih=>intro X S E ok e h nd;obtain⟨es,k,pos,rfl,h⟩:=P9 h;exact Snd.lit (Uh ((ih ok h nd).pa es pos rfl)) rfl (λ_ _ _ z=>by cases z) rfl|dnew b=>intro X S E ok e h nd;obtain⟨ks,vs,pos,rfl,h⟩:=OR h;have Z:=yA h;cases Q1.mp Z.1;cases Q1.mp Z.2;exact Snd.lit U9 rfl (λ_ _ _ z=>by cases z) rfl|dsp a b B M =>
  intro X S E ok e h nd;obtain⟨ks,vs,pos,rfl,h⟩:=OR h;obtain⟨k,rfl,h⟩:=EB h;obtain⟨v,rfl,h⟩:=EB h;have Z:=yA h;cases k with|none=>exact(QG Z.1).elim|some k=>exact Snd.lit (X9 ok.un (B ok Z.1 nd.1).pe (M ok Z.2 nd.2).pe) rfl (λ_ _ _ z=>by cases z) rfl
 |nz=>intro X S E ok e h nd;obtain⟨es,pos,rfl,h⟩:=dM h;cases Q1.mp h;exact Snd.args BP trivial rfl rfl|ny a as B ih=>intro X S E ok e h nd;obtain⟨es,pos,rfl,h⟩:=dM h;obtain⟨e1,es1,rfl,h⟩:=tK h;have Z:=yA h;have J:=yA Z.2;have sa:=(B ok J.1 nd.1).pe;have ss:=ih ok J.2 nd.2;exact Snd.args (sI sa (ss.pa es1 pos rfl) (vB _ Z.1)) ⟨sa,ss.pas es1 pos rfl⟩ rfl rfl|bi f as ih =>
  intro X S E ok e h nd;obtain⟨p,es,ks,pos,rfl,hg,h⟩:=jJ h;have Z:=yA h;cases Q1.mp Z.1;obtain⟨e1,es1,rfl,L⟩:=tK Z.2;obtain⟨g1,g2,g3⟩:=OG hg;have hg:Gl X f.nm:=show X.env.scope.names.lookup f.nm=some .globalImplicit by rw[ok.sc];exact g1
  have pa:=(ih ok L nd.2).pa _ pos rfl;have st:=yA (NE as L);have pe:PE X (.Call (.Name f.nm p) (e1::es1) [] pos) (wp X.K G.ev (.bi f as) E).e:=by
   rcases kq ok.un ok.calm f with⟨id,hb,hc⟩| ⟨T,hb,hc⟩
   exact zM (pos:=pos) (p:=p) hc hg (ok.no _ nd.1) hb pa g3 g2 (vB _ st.1) (OE st.2);exact CY (pos:=pos) (p:=p) hc hg (ok.no _ nd.1) hb pa g3 g2 (vB _ st.1) (OE st.2)
  exact Snd.of pe (sD pe λ_=>rfl) (λ_ _ _ z=>by cases z) rfl
 |isi a c B ihc =>
  intro X S E ok e h nd;obtain⟨p,es,ks,pos,rfl,hg,h⟩:=jJ h;have Z:=yA h;cases Q1.mp Z.1;obtain⟨l,r,rfl,J⟩:=On Z.2;have L:=yA J;have O:=yA L.2;have h5:=yA O.2;obtain⟨g1,g2,g3⟩:=OG hg;have hg:Gl X "isinstance":=show X.env.scope.names.lookup ("isinstance":Str)=some .globalImplicit by rw[ok.sc];exact g1
  have pe:PE X (.Call (.Name "isinstance" p) [l,r] [] pos) (wp X.K G.ev (.isi a c) E).e :=
   zM (pos:=pos) (p:=p) f7 hg (ok.no _ nd.1) (by kernel_rfl) (sI (B ok h5.1 nd.2.1).pe (sI (ihc ok h5.2 nd.2.2).pe BP (vB _ O.1)) (vB _ L.1)) g3 g2 (vB _ L.1) (OE (by rw[qa,O.1];rfl))
  exact Snd.of pe (sD pe λ_=>rfl) (λ_ _ _ z=>by cases z) rfl
 |mt m o as iho ih =>
  intro X S E ok e h nd;obtain⟨v,ap,es,pos,rfl,J,h⟩:=dX h;have h0:=yA h;have Z:=yA h0.2;have L:=yA Z.2;have O:=yA L.2;have po:=(iho ok O.1 nd.1).pe;have pa:=(ih ok O.2 nd.2).pa _ pos rfl;have st:=NE as O.2;obtain⟨id,pat,sl,ty,mr⟩:=so (X:=X) ok.un m;have pe:PE X (.Call (.Attribute v m.nm ap) es [] pos) (wp X.K G.ev (.mt m o as) E).e:=by
   cases es with
   |nil =>
    refine kF (Fh (apos:=ap) (cpos:=pos) pat sl ty mr po (v5 Z.1) J) λA H Q q=>?_;have e:(λ(x:V) (W:Hp)=>uY X.K m.ty x W/\Ra X.K m x [] W Q)=λ(x:V) (W:Hp)=>uY X.K m.ty x W/\(wp X.K G.ev as E).a A W λvs H2=>Ra X.K m x vs H2 Q:=by funext x W;rw[propext (GT as h0.1 O.2)]
    show(wp X.K G.ev o E).e A H (λ(x:V) (W:Hp)=>uY X.K m.ty x W/\Ra X.K m x [] W Q);rw[e];exact q
   |cons e1 es1=>have s2:=yA st;refine Xn (apos:=ap) (cpos:=pos) pat sl ty mr po pa (v5 Z.1) ?_ J (vB _ s2.1) (OE s2.2);rw[NT st];have hl':(e1::es1).length<20:=of_decide_eq_true L.1;show(true&&true&&decide ((e1::es1).length+0+0<30))=true;rw[dT (Qn hl' (by decide:20<=30):(e1::es1).length+0+0<30)];rfl
  exact Snd.of pe (sD pe λ_=>rfl) (λ_ _ _ z=>by cases z) rfl
 |slc a lo hi B ihl ihh =>
  intro X S E ok e h nd;obtain⟨v,sl,pos,rfl,h⟩:=LP h;obtain⟨l,u,st,p2,rfl,h⟩:=HY h;have Z:=yA h;have J:=yA Z.2;have L:=yA J.2;have part:∀(q:PX) (w:Option Expr),(∀{e:Expr},kC q S e=true->PE X e (wp X.K G.ev q E).e)->Nn w (isNop q) (λe=>!isNop q&&kC q S e)=true ->
    PO X w (λA H R=>(if isNop q=true then λ(R:Option Int->Hp->Prop)=>R none H else λR=>(wp X.K G.ev q E).e A H λl H2=>xM l H2 R) R):=by
   intro q w ihq hq;cases w with
   |none=>have e:isNop q=true:=hq;simp only[e,if_true];exact t9|some e' =>
    have q1:=yA hq;have e:isNop q=false:=(Q9 _).mp q1.1;simp only[e,Qq,if_false];intro P s A H Q I w;refine r9 (ihq q1.2) P s A H Q I ?_;show(wp X.K G.ev q E).e A H (λ(x:V) (W:Hp)=>∃i,x=.int i/\Q (some i) W);have e2:(λ(x:V) (W:Hp)=>∃i,x=.int i/\Q (some i) W)=λ(x:V) (W:Hp)=>xM x W Q:=by funext x W;exact(x4 x W Q).symm
    rw[e2];exact w
  cases QAX.mp Z.1;exact Snd.lit (R3 (pos:=pos) (p2:=p2) yh (B ok J.1 nd.1).pe (part lo l (λhc=>(ihl ok hc nd.2.1).pe) L.1) (part hi u (λhc=>(ihh ok hc nd.2.2).pe) L.2)) rfl (λ_ _ _ z=>by cases z) rfl
 |comp mask tgs tg d its cond elt ihi ihc ihe =>
  intro X S E ok e h nd;obtain⟨e,gens,scope,pos,rfl,h⟩:=GU h;obtain⟨⟨t,Y,ifs,asy⟩,rfl,h⟩:=EB h;have h0:=yA h;have hi:=yA h0.2;have Z:=yA hi.2;have J:=yA Z.2;have L:=yA J.2;have O:=yA L.2;have h5:=yA O.2;have ea:asy=0:=qZ h0.1;cases ea;have C:CompSt X.N X.env.scope scope tgs mask:=by rw[ok.N,ok.sc];exact uT Z.1
  obtain⟨n1,n2,n3,n4⟩:=nd;have pi:PI X t Y (lU λA H R=>(wp X.K G.ev its E).a A H λvs W=>gC X.K d vs W R):=UU ok O.1 n1 ((Q9 _).mp hi.1) λes p q=>ihi ok q n2;refine Snd.lit (B9 (pos:=pos) (g:=nG X.K tg) (tc:=if isNop cond=true then λ_ H Q=>Q true H else(wp X.K G.ev cond (λ_ _ _=>False)).t) (te:=(wp X.K G.ev elt (λ_ _ _=>False)).e) ok.calm pi C (λs H ex=>?_) (λx=>TU L.1 x)) rfl (λ_ _ _ z=>by cases z) rfl;have okc:=ok.comp scope tgs mask s H ex;refine⟨P3 okc (λz=>(QG z).elim) C.nd J.1,?_,(ihe okc h5.2 n4).pe⟩;have hif:=h5.1;cases ifs with|nil=>have e:isNop cond=true:=hif;simp only[e,if_true];exact AW|cons c r=>have q1:=yA hif;have q2:=yA q1.2;cases Q1.mp q1.1;have e:isNop cond=false:=(Q9 _).mp q2.1;simp only[e,Qq,if_false];exact TW (ihc okc q2.2 n3).pt
end
end L2.L3
namespace L2.L3
open PySem PySem.Spec PyProof.Rows
section
variable{s:Stmt}{f:Expr->List Stmt->List Stmt->Bool}
set_option genSizeOf false in
set_option genInjectivity false in
inductive PT where
 |nil|seq (s r:PT)
 |set (i:Nat) (e:PX)
 |expr (e:PX)|ret (e:PX)
 |ife (c:PX) (a b:PT)
 |for_ (tg:Tg) (ik:ItK) (its:PX) (body:PT)
 |own (i:Nat) (e:PX)|six (o i e:PX)|sdf (i:Nat) (k:PX)|whl (c:PX) (body:PT)|frz (is:LN) (s:PT)|hs (s:PT)
def KR(K:QA):V->V->V->Hp->(Hp->Prop)->Prop:=λo i v H Q=>match o,i with
 | .ref p,.int k=>∃h j,H p=some (.lst h)/\dU h.length k=some j/\Q (BA H p (.lst (h.set j v)))|.ref p,.str z=>Rk K H p (.str z) v Q|.ref p,.ref b=>Rk K H p (.ref b) v Q|_,_=>False
def Am(i:Nat)(k:PX):PX:=.mt .setd (.vz i) %[k,.dnew true|1]
def fu(J:It)(g:TG)(tb:TS)(D:Ends)(σ:St)(w:Hp):Prop:=∃W:Nat->Nat->St->Hp->Prop,(∃m,W 0 m σ w)/\∀i m σ H,W i m σ H ->
 (J.stop i H/\D.nx σ H)∨(J.go i H/\∃N:St->Hp->Prop,(∀h y,N h y->∃u,u < m/\W (i+1) u h y)/\∀x y,J.yld i H x y->g x σ y λz v=>tb { D with nx:=N,ct:=N,bk:=D.nx } z v)
def Cc(K:QA)(xs:List Item)(st:Hp->Prop)(h:Tg)(tb:TS)(D:Ends)(σ:St)(H:Hp):Prop:=∀J,Yields J xs st->fu J (nG K h) tb D σ H
noncomputable def rN(K:QA)(Γ:Ev)(E:XK):PT->TS
 | .nil=>λD h H=>D.nx h H|.seq s r=>λD h H=>rN K Γ E s { D with nx:=λh H=>rN K Γ E r D h H } h H|.set i e=>λD h H=>(wp K Γ e E).e h H λx y=>D.nx (h.set i (some x)) y|.own i e=>λD h H=>(wp K Γ e E).e h H λx y=>D.nx (h.set i (some x)) y|.expr e=>λD h H=>(wp K Γ e E).e h H λ_ y=>D.nx h y|.ret e=>λD h H=>(wp K Γ e E).e h H D.rt|.ife c a b=>λD h H=>(wp K Γ c E).t h H λk y=>if k=true then rN K Γ E a D h y else rN K Γ E b D h y|.for_ l p u z=>λD h H=>(wp K Γ u E).a h H λj y=>gC K p j y λg st w=>Cc K g st l (rN K Γ E z) D h w|.six o i e=>λD h H=>(wp K Γ e E).e h H λv y=>(wp K Γ o E).e h y λm w=>(wp K Γ i E).e h w λn X=>KR K m n v X λq=>D.nx h q|.sdf i k=>λD h H=>(wp K Γ (Am i k) E).e h H λ_ y=>D.nx h y|.whl c z=>B1 (wp K Γ c E).t (rN K Γ E z)|.frz _ s=>rN K Γ E s|.hs s=>rN K Γ E s
noncomputable def xE(G:Glob):PT->Prop
 | .nil=>True|.seq s r=>xE G s/\xE G r|.set _ e=>yB G e|.own _ e=>yB G e|.six o i e=>yB G o/\yB G i/\yB G e|.sdf i k=>yB G (Am i k)|.whl c h=>yB G c/\xE G h|.frz _ s=>xE G s|.hs s=>xE G s|.expr e=>yB G e|.ret e=>yB G e|.ife c a b=>yB G c/\xE G a/\xE G b|.for_ _ y x h=>Io G y/\yB G x/\xE G h
def BH:Expr->Bool
 | .ListComp _ _ _ _ | .SetComp _ _ _ _ | .DictComp _ _ _ _ _=>false
 |_=>true
noncomputable def gP(S:SC)(i:Nat)(x:Str):Bool:=S.N[i]?==some x&&(S.sc.names.lookup x==some .local||S.sc.names.lookup x==some .cell)
def BS:PT->Bool
 | .nil=>false|.seq _ _=>false|.frz _ s=>BS s|.hs s=>BS s|_=>true
def kX(s:Stmt)(f:List Expr->Expr->Bool):Bool:=match s with | .Assign h v _=>f h v|_=>false
def Th(s:Stmt)(f:Expr->Bool):Bool:=match s with | .Expr v _=>f v|_=>false
def Xd(s:Stmt)(f:Option Expr->Bool):Bool:=match s with | .Return v _=>f v|_=>false
def Ud(s:Stmt)(f:Expr->List Stmt->List Stmt->Bool):Bool:=match s with | .If t x y _=>f t x y|_=>false
noncomputable def Cd(s:Stmt)(f:Expr->Expr->List Stmt->List Stmt->Pos->Bool):Bool:=match s with | .For t it x y p=>f t it x y p|_=>false
noncomputable def Ln(s:Stmt)(f:Expr->List Stmt->List Stmt->Bool):Bool:=match s with | .While t x y _=>f t x y|_=>false
theorem NP{f:List Expr->Expr->Bool}(h:kX s f=true):∃ts v p,s=.Assign ts v p/\f ts v=true:=by
 cases s with|Assign ts v p=>exact⟨ts,v,p,rfl,h⟩|_=>exact(QG h).elim
theorem Z4{f:Expr->Bool}(h:Th s f=true):∃v p,s=.Expr v p/\f v=true:=by
 cases s with|Expr v p=>exact⟨v,p,rfl,h⟩|_=>exact(QG h).elim
theorem R9{f:Option Expr->Bool}(h:Xd s f=true):∃v p,s=.Return v p/\f v=true:=by
 cases s with|Return v p=>exact⟨v,p,rfl,h⟩|_=>exact(QG h).elim
theorem S9(h:Ud s f=true):∃t x y p,s=.If t x y p/\f t x y=true:=by
 cases s with|If t x y p=>exact⟨t,x,y,p,rfl,h⟩|_=>exact(QG h).elim
theorem T9{f:Expr->Expr->List Stmt->List Stmt->Pos->Bool}(h:Cd s f=true):∃t it x y p,s=.For t it x y p/\f t it x y p=true:=by
 cases s with|For t it x y p=>exact⟨t,it,x,y,p,rfl,h⟩|_=>exact(QG h).elim
theorem Ph(h:Ln s f=true):∃t x y p,s=.While t x y p/\f t x y=true:=by
 cases s with|While t x y p=>exact⟨t,x,y,p,rfl,h⟩|_=>exact(QG h).elim
noncomputable def setB(S:SC)(i:Nat)(c:Expr->Bool)(l:List Stmt):Bool:=rO l λst=>kX st λh v=>rO h λt=>yG t λx _=>gP S i x&&((BH v||S.sc.names.lookup x==some .cell)&&c v)
def de:PX->Bool
 | .comp _ _ _ _ _ _ _=>true|_=>false
noncomputable def UW(S:SC)(i:Nat)(e:PX)(l:List Stmt):Bool:=rO l λst=>kX st λy v=>rO y λt=>yG t λx z=>Sh v λw u sc h=>Gi S i x&&(S.sc.kind==.function&&(z.line==h.line&&(!(sc.names.any λ(n,k)=>n==x&&(k==.local||k==.cell))&&(de e&&kC e S (.ListComp w u sc h)))))
noncomputable def DN:PT->SC->List Stmt->Bool
 | .nil,_,l=>l.isEmpty|.seq s r,S,l=>E9 l λst l=>BS s&&(DN s S [st]&&DN r S l)|.set i e,S,l=>setB S i (kC e S) l||UW S i e l
 | .own i e,S,l=>setB S i (kC e S) l||UW S i e l
 | .frz _ s,S,l=>DN s S l|.hs s,S,l=>DN s S l|.expr e,S,l=>rO l λst=>Th st λv=>BH v&&kC e S v|.ret e,S,l=>rO l λst=>Xd st λv=>Nn v false (kC e S)|.ife c a b,S,l=>rO l λst=>Ud st λt x y=>kC c S t&&(DN a S x&&DN b S y)|.for_ tg ik its body,S,l=>rO l λst=>Cd st λt it x y h=>y.isEmpty&&(Hr true S tg t&&(yS it&&(Iq (fF its) S ik (λg p=>kC its S (.List g p)) t it h&&DN body S x)))|.six o i e,S,l=>rO l λst=>kX st λu v=>rO u λt=>yX t λw z _=>kQ z&&(BH v&&(kC e S v&&(kC o S w&&kC i S z)))|.sdf i k,S,l=>rO l λst=>Th st λv=>BH v&&kC (Am i k) S v|.whl c body,S,l=>rO l λst=>Ln st λt x y=>y.isEmpty&&(kC c S t&&DN body S x)
structure OkS(X:Cx)(S:SC)(G:Glob)(E:XK):Prop extends OkX X S G E where
 po:PassesOwn (model X.prog X.w) X.A X.env X.xe
 nd:X.N.Nodup
 cel:∀x,X.fn x=true
end
section
variable{X:Cx}{S:SC}{G:Glob}{E:XK}
section
variable{i:Nat}{x:Str}{e:PX}
theorem yQ{e:Expr}{t:Option Expr}{n:Nat}{env:Env}(h:BH e=true):swapsWith e t n env=pure false:=by cases e<;>first|rfl|cases h
theorem V2(n:X.A.units+66<cLine):Vc X (KR X.K):=by
 intro y s w H o i v l m u Q I f g a h;cases o with
 |ref p =>
  cases i with|int k=>obtain⟨r,j,Z,Y,q⟩:=h;exact U2 y s w H _ _ v l m u Q I f g a ⟨p,r,k,j,rfl,rfl,Z,Y,q⟩|str z=>exact ZR n y s w H _ _ v l m u Q I f g a h|ref b=>exact ZR n y s w H _ _ v l m u Q I f g a h|_=>exact Qd h
 |_=>exact Qd h
theorem gY(ok:OkX X S G E)(h:gP S i x=true):X.N[i]?=some x/\Dl X.env.scope x:=by simp only[gP,Qc,wX,beq_iff_eq]at h;rw[ok.N,ok.sc];exact⟨h.1,h.2⟩
theorem UY(ok:OkS X S G E){v:Expr}{u pos:Pos}(g:gP S i x=true)(w:(BH v||S.sc.names.lookup x==some .cell)=true)(pe:PE X v (wp X.K G.ev e E).e) :
  PS X (.Assign [.Name x u] v pos) (rN X.K G.ev E (.set i e)):=by
 obtain⟨l,j⟩:=gY ok.toOkX g;refine oh (pos':=u) ok.nd l j pe ?_ (.inl (ok.cel x));cases z:BH v with
 |true=>exact yQ z|false =>
  rw[z,QAi,beq_iff_eq,<- ok.sc]at w;have hk:X.env.kindOf x=some .cell:=w;have key:∀(b c:Bool) (y h:Nat),(pure (b&&X.env.kindOf x==some .local&&y==h&&!c):Sem Bool)=pure false:=λb c y h=>by
   rw[hk];have:(b&&(some NameKind.cell==some NameKind.local)&&y==h&&!c)=false:=by cases b<;>rfl
   rw[this]
  cases v with|ListComp m a sc f=>exact key _ _ _ _|SetComp m a sc f=>exact key _ _ _ _|DictComp k v a sc f=>exact key _ _ _ _|_=>cases z
theorem Jb(h:de e=true):∃a b c d f g k,e=.comp a b c d f g k:=by
 cases e with|comp a b c d f g k=>exact⟨a,b,c,d,f,g,k,rfl⟩|_=>exact(QG h).elim
theorem rh(ok:OkS X S G E){l:List Stmt}(h:UW S i e l=true)(nd:yB G e):∃st,l=[st]/\PS X st (rN X.K G.ev E (.set i e)):=by
 obtain⟨st,e1,q1⟩:=EB h;obtain⟨ts,v,p,e2,q2⟩:=NP q1;obtain⟨t,e3,q3⟩:=EB q2;obtain⟨x,px,e4,q4⟩:=eD q3;obtain⟨el,gs,sc,cp,e5,q5⟩:=GU q4;subst e1 e2 e3 e4 e5;have L:=yA q5;have J:=yA L.2;have I:=yA J.2;have F:=yA I.2;have B:=yA F.2;obtain⟨u,a,tg,ik,o,y,j,rfl⟩:=Jb B.1;refine⟨_,rfl,?_⟩;have h6:=B.2;obtain⟨el',O,m,pos,ee,g⟩:=GU h6;cases ee;obtain⟨⟨t,it,Y,Z⟩,rfl,g⟩:=EB g;have g0:=yA g;have M:=yA g0.2;have g1:=yA M.2;have g2:=yA g1.2;have g3:=yA g2.2;have R:=yA g3.2;have P:=yA R.2;have ea:Z=0:=qZ g0.1;cases ea;have C:CompSt X.N X.env.scope sc a u:=by rw[ok.N,ok.sc];exact uT g1.1
 obtain⟨n1,n2,n3,n4⟩:=nd;obtain⟨l1,l2⟩:=Ia L.1;have b:X.env.scope.names.lookup x=some .local:=by rw[ok.sc];exact l2
 refine n9 (g:=nG X.K tg) (tc:=if isNop y=true then λ_ H Q=>Q true H else(wp X.K G.ev y (λ_ _ _=>False)).t) (te:=(wp X.K G.ev j (λ_ _ _=>False)).e) ok.calm ok.nd (by rw[ok.N];exact l1) b (UU ok.toOkX (pos:=cp) R.1 n1 ((Q9 _).mp M.1) λes p q=>snd o ok.toOkX q n2) C (λs H ex=>?_) (λx=>TU g3.1 x) ?_;have w:=ok.toOkX.comp sc a u s H ex;refine⟨P3 w (λz=>(QG z).elim) C.nd g2.1,?_,(snd j w P.2 n4).pe⟩;have f:=P.1;cases Y with|nil=>have e:isNop y=true:=f;simp only[e,if_true];exact AW|cons c r=>have A:=yA f;have W:=yA A.2;cases Q1.mp A.1;have e:isNop y=false:=(Q9 _).mp W.1;simp only[e,Qq,if_false];exact TW (snd y w W.2 n3).pt
 have k1:X.env.scope.kind=.function:=by rw[ok.sc];exact qZ J.1
 have k2:(X.env.blockKind==.function)=true:=by simp[Env.blockKind,k1,ScopeKind.isAnnotationScope]
 have k3:(X.env.kindOf x==some .local)=true:=by show(X.env.scope.names.lookup x==some .local)=true;rw[b];rfl
 show(pure (X.env.blockKind==.function&&X.env.kindOf x==some .local&&px.line==cp.line&&!(sc.names.any λ(n,k)=>n==x&&(k==.local||k==.cell))):Sem Bool)=pure true;rw[k2,k3,I.1,F.1];rfl
theorem Zs:∀(p:PT) {l:List Stmt},OkS X S G E->DN p S l=true->xE G p->gW X l (rN X.K G.ev E p)/\(BS p=true->∀st,l=[st]->PS X st (rN X.K G.ev E p)):=by
 intro p;have one:∀{p:PT}{st:Stmt},PS X st (rN X.K G.ev E p)->gW X [st] (rN X.K G.ev E p)/\(BS p=true->∀g,[st]=[g]->PS X g (rN X.K G.ev E p)):=λh=>⟨OW h,λ_ g e=>by cases e;exact h⟩
 have f:∀{i:Nat}{e:PX}{l:List Stmt},OkS X S G E->(setB S i (kC e S) l||UW S i e l)=true->yB G e->∃st,l=[st]/\PS X st (rN X.K G.ev E (.set i e)):=λ{i e l} ok h nd=>by
  rcases(wX _ _).mp h with h|h
  rotate_left
  exact rh ok h nd;obtain⟨st,N,W⟩:=EB h;obtain⟨H,v,p,M,Z⟩:=NP W;obtain⟨t,L,q3⟩:=EB Z;obtain⟨x,px,J,Y⟩:=eD q3;subst N M L J;have z:=yA Y;have u:=yA z.2;exact⟨_,rfl,UY ok z.1 u.1 (snd e ok.toOkX u.2 nd).pe⟩
 induction p with
 |nil=>intro l ok h nd;cases Q1.mp h;exact⟨m9,λh=>(QG h).elim⟩|seq s r B C=>intro l ok h nd;obtain⟨st,l,rfl,h⟩:=tK h;have z:=yA h;have u:=yA z.2;exact⟨V3 ((B ok u.1 nd.1).2 z.1 st rfl) (C ok u.2 nd.2).1,λh=>(QG h).elim⟩|set i e=>intro l ok h nd;obtain⟨st,rfl,q⟩:=f ok h nd;exact one q|own i e=>intro l ok h nd;obtain⟨st,rfl,q⟩:=f ok h nd;exact one q|expr e=>intro l ok h nd;obtain⟨st,rfl,h⟩:=EB h;obtain⟨v,p,rfl,h⟩:=Z4 h;have z:=yA h;exact one (SW (snd e ok.toOkX z.2 nd).pe (yQ z.1))|ret e =>
  intro l ok h nd;obtain⟨st,rfl,h⟩:=EB h;obtain⟨v,p,rfl,h⟩:=R9 h;cases v with|none=>exact(QG h).elim|some v=>exact one (B3 (snd e ok.toOkX h nd).pe)
 |ife c a b I F=>intro l ok h nd;obtain⟨st,rfl,h⟩:=EB h;obtain⟨t,x,y,p,rfl,h⟩:=S9 h;have z:=yA h;have u:=yA z.2;exact one (Yn (snd c ok.toOkX z.1 nd.1).pt (I ok u.1 nd.2.1).1 (F ok u.2 nd.2.2).1)|for_ tg ik A n j=>intro l ok h nd;obtain⟨st,rfl,h⟩:=EB h;obtain⟨t,it,x,y,p,rfl,h⟩:=T9 h;have R:=yA h;have z:=yA R.2;have u:=yA z.2;have m:=yA u.2;cases Q1.mp R.1;exact one (ph ok.po ok.calm (Y9 ok.toOkX m.1 nd.1 λes p q=>snd A ok.toOkX q nd.2.1) (P3 ok.toOkX (λ_=>ok.cel) ok.nd z.1) (j ok m.2 nd.2.2).1 λx=>TU u.1 x)|six o i e =>
  intro l ok h nd;obtain⟨st,N,W⟩:=EB h;obtain⟨H,v,p,M,Z⟩:=NP W;obtain⟨t,L,h⟩:=EB Z;subst N M L;obtain⟨ov,P,O,J,Y⟩:=LP h;subst J;have z:=yA Y;have u:=yA z.2;have m:=yA u.2;have Q:=yA m.2;refine one (eh (snd e ok.toOkX m.1 nd.2.2).pe (Vh (pos:=O) (snd o ok.toOkX Q.1 nd.1).pe (snd i ok.toOkX Q.2 nd.2.1).pe (V2 ok.un) ?_) ?_ ?_ ?_);intro w;cases P<;>first|rfl|exact(QG z.1).elim
  show swapsWith v (some (.Subscript ov P O)) p.line X.env=pure false;exact yQ u.1;cases v<;>rfl;rfl
 |sdf i k=>intro l ok h nd;obtain⟨st,rfl,h⟩:=EB h;obtain⟨v,p,rfl,h⟩:=Z4 h;have z:=yA h;exact one (SW (snd (Am i k) ok.toOkX z.2 nd).pe (yQ z.1))|whl c n j=>intro l ok h nd;obtain⟨st,rfl,h⟩:=EB h;obtain⟨t,x,y,p,rfl,h⟩:=Ph h;have z:=yA h;have u:=yA z.2;cases Q1.mp z.1;exact one (U3 ok.po (snd c ok.toOkX u.1 nd.1).pt (j ok u.2 nd.2).1)|frz is s j=>intro l ok h nd;exact j ok h nd|hs s j=>intro l ok h nd;exact j ok h nd
end
end
noncomputable abbrev D:=PyData
set_option genInjectivity true in
inductive T where
 |d (x:D)|lst (ts:List T)|tup (ts:List T)|dct (b:Bool) (ks:List D) (ts:List T)
abbrev LT:=List T
mutual
def T.er:T->D
 | .d x=>x|.lst h=>.list (ersT h)|.tup h=>.tuple (ersT h)|.dct _ y h=>.dict (y.zip (ersT h))
def ersT:LT->List D
 |[]=>[]|t::r=>t.er::ersT r
end
theorem uB(ds:List D):ersT (ds.map T.d)=ds:=by
 induction ds with|nil=>rfl|cons d r h=>simp only[QW,ersT,h,T.er]
theorem M6:∀(ts:LT),(ersT ts).length=ts.length
 |[]=>rfl|t::r=>by simp only[ersT,QM,M6 r]
theorem zL:∀(ts:LT),ersT ts=ts.map T.er
 |[]=>rfl|t::r=>by simp only[ersT,QW,zL r]
def T.isD:T->Bool
 | .d _=>true|_=>false
set_option genInjectivity true in
inductive Sl where
 |own (t:T)|ky (t:T)
noncomputable abbrev zA:=List (Option Sl)
abbrev bD(x:D):Option Sl:=some (.ky (.d x))
abbrev oW(t:T):Option Sl:=some (.own t)
def MH(t:T)(n:Bool):Bool:=n||t.isD
def rA(t:T):Bool->T
 |true=>.d t.er|false=>t
theorem oA(x:D)(n:Bool):rA (.d x) n=.d x:=by cases n<;>rfl
theorem JX(t:T)(n:Bool):(rA t n).er=t.er:=by cases n<;>rfl
def LF:LT->Option (List D)
 |[]=>some []|.d x::r=>(LF r).map (x::·)|_::_=>none
theorem YA(ds:List D):LF (ds.map T.d)=some ds:=by
 induction ds with|nil=>rfl|cons d r h=>simp only[QW,LF,h,Qx]
theorem YL:∀{ts:LT}{ds:List D},LF ts=some ds->ts=ds.map T.d
 |[],ds,h=>by simp only[LF,Qp]at h;subst h;rfl|.d x::r,ds,h=>by
  simp only[LF]at h;cases e:LF r with|none=>rw[e]at h;cases h|some y=>rw[e]at h;cases h;rw[QW,YL e]
 | .lst _::_,_,h=>by simp[LF]at h|.tup _::_,_,h=>by simp[LF]at h|.dct _ _ _::_,_,h=>by simp[LF]at h
def JD:List (D×D)->Option Bool
 | (.tuple _,_)::_=>some true|(.str _,_)::_=>some false|_=>none
def HD:Bool->D->Prop
 |true,k=>∃q,k=tD (.t q)/\u5 (.t q)<=6|false,k=>∃z,k=.str z
open Classical in
def bA:List D->D->Option Nat
 |[],_=>none|x::r,k=>if x=k then some 0 else(bA r k).map (·+1)
noncomputable def CJ(b:Bool)(ks:List D)(ts:LT)(k:D)(t:T):T:=match bA ks k with
 |some n=>.dct b ks (ts.set n t)|none=>.dct b (ks++[k]) (ts++[t])
theorem PC:∀{ks:List D}{k:D}{n:Nat},bA ks k=some n->ks[n]?=some k
 |[],_,_,h=>by cases h|x::r,k,n,h=>by
  unfold bA at h;by_cases e:x=k;rw[if_pos e]at h;cases h;rw[e];rfl;rw[if_neg e]at h;cases q:bA r k with|none=>rw[q]at h;cases h|some m=>rw[q]at h;cases h;simpa using PC q
theorem AA:∀{ks:List D}{k:D},bA ks k=none↔k∉ks
 |[],_=>by simp[bA]|x::r,k=>by unfold bA;by_cases e:x=k;simp[e];rw[if_neg e,Option.map_eq_none_iff,AA];simp[Q4 e]
theorem DV{ks:List D}{k:D}:(bA ks k).isSome=true↔k∈ks:=by
 cases h:bA ks k with|none=>simp[AA.mp h]|some n=>simp[qN (PC h)]
set_option genInjectivity true in
inductive Vw where
 |sc (x:D)|ls (ts:LT)|tp (ts:LT)|dc (b:Bool) (ks:List D) (ts:LT)
noncomputable def vC(kvs:List (D×D)):Vw:=match JD kvs with
 |some b=>.dc b (kvs.map (·.1)) (kvs.map λp=>T.d p.2)|none=>.sc (.dict kvs)
noncomputable def T.vw:T->Vw
 | .lst h=>.ls h|.tup h=>.tp h|.dct b u h=>.dc b u h|.d x=>match x with
  | .list z=>.ls (z.map T.d)|.tuple z=>.tp (z.map T.d)|.dict y=>vC y|.none=>.sc .none|.bool b=>.sc (.bool b)|.int i=>.sc (.int i)|.str s=>.sc (.str s)
def AD(ts:LT):T:=match LF ts with
 |some h=>.d (.tuple h)|none=>.tup ts
noncomputable abbrev XD:=Value×List (Str×D)
noncomputable abbrev XE:=XD->Prop
noncomputable abbrev TK:=T->Bool->zA->Prop
inductive Md where
 |xy|xz|ky|chg
 deriving DecidableEq
structure PSp where
 md:List Md
 run:LT->(T->LT->Prop)->XE->Prop
 mono:∀{ts:LT}{Q Q':T->LT->Prop}{E E':XE},(∀t os,Q t os->Q' t os)->(∀x,E x->E' x)->run ts Q E->run ts Q' E'
structure PEv where
 sp:Str->PSp
 va:Str->Option D
def binT(w:Operator)(x y:Vw)(Q:T->Bool->Prop):Prop:=match w with
 | .Add=>(∃i j,x=.sc (.int i)/\y=.sc (.int j)/\Q (.d (.int (i+j))) false)∨(∃a b,x=.sc (.str a)/\y=.sc (.str b)/\a.length+b.length<=sizeLine/\Q (.d (.str (a++b))) false) ∨
  (∃v u z h,x=.ls v/\y=.ls u/\LF v=some z/\LF u=some h/\z.length+h.length<=sizeLine/\Q (.lst ((z++h).map T.d)) true)
 | .Sub=>∃i j,x=.sc (.int i)/\y=.sc (.int j)/\Q (.d (.int (i - j))) false|.Mult=>(∃i j,x=.sc (.int i)/\y=.sc (.int j)/\IntMulOk i j/\Q (.d (.int (i * j))) false)∨(∃a k,x=.sc (.str a)/\y=.sc (.int k)/\(-(2 ^ 31)<=k/\k<2 ^ 31/\a.length * k.toNat<=sizeLine)/\Q (.d (.str (BJ a k))) false)|.FloorDiv=>∃i j,x=.sc (.int i)/\y=.sc (.int j)/\(0<j/\j<2 ^ 200)/\Q (.d (.int (i / j))) false|.Mod=>∃i j,x=.sc (.int i)/\y=.sc (.int j)/\0<j/\Q (.d (.int (i % j))) false|_=>False
section
variable{Q:T->Bool->Prop}
theorem nk(i j:Int):binT .Add (.sc (.int i)) (.sc (.int j)) Q=Q (.d (.int (i+j))) false:=by simp[binT]
theorem gk(a b:Str):binT .Add (.sc (.str a)) (.sc (.str b)) Q=(a.length+b.length<=sizeLine/\Q (.d (.str (a++b))) false):=by simp[binT]
theorem ck(xs h:LT):binT .Add (.ls xs) (.ls h) Q=∃ds es,LF xs=some ds/\LF h=some es/\ds.length+es.length<=sizeLine/\Q (.lst ((ds++es).map T.d)) true:=by simp[binT]
theorem uk(i j:Int):binT .Sub (.sc (.int i)) (.sc (.int j)) Q=Q (.d (.int (i - j))) false:=by simp[binT]
theorem vk(i j:Int):binT .Mult (.sc (.int i)) (.sc (.int j)) Q=(IntMulOk i j/\Q (.d (.int (i * j))) false):=by simp[binT]
theorem zk(a:Str)(k:Int):binT .Mult (.sc (.str a)) (.sc (.int k)) Q=((-(2 ^ 31)<=k/\k<2 ^ 31/\a.length * k.toNat<=sizeLine)/\Q (.d (.str (BJ a k))) false):=by simp[binT]
theorem jk(i j:Int):binT .FloorDiv (.sc (.int i)) (.sc (.int j)) Q=((0<j/\j<2 ^ 200)/\Q (.d (.int (i / j))) false):=by simp[binT]
theorem Ij(i j:Int):binT .Mod (.sc (.int i)) (.sc (.int j)) Q=(0<j/\Q (.d (.int (i % j))) false):=by simp[binT]
end
section
variable{Q:T->Prop}
noncomputable def vr:D->D->(Bool->Prop)->Prop
 | .int i,.int j,Q=>Q (decide (i=j))|.str x,.str y,Q=>Q (decide (x=y))|.bool x,.bool y,Q=>Q (decide (x=y))|a,b,Q=>vF a/\vF b/\Q (Qw a b)
def LB:D->Bool
 | .none | .bool _ | .int _ | .str _=>true
 |_=>false
noncomputable def jr:D->D->(Bool->Prop)->Prop
 | .str x,.str y,Q=>Q (inStr y x)|a,.list ds,Q|a,.tuple ds,Q=>((LB a=true/\ds.all LB=true)∨(vF a/\vF (.list ds)))/\Q (ds.any λy=>Qw y a)
 |a,.dict kvs,Q=>∃b,JD kvs=some b/\HD b a/\Q (bA (kvs.map (·.1)) a).isSome|_,_,_=>False
def DY(f:Int->Int->Bool):D->D->(Bool->Prop)->Prop
 | .int i,.int j,Q=>Q (f i j)|_,_,_=>False
def n6:D->Bool
 | .none=>true|_=>false
def nZ:D->D->(Bool->Prop)->Prop
 |a,.none,Q=>Q (n6 a)|.bool a,.bool b,Q=>Q (decide (a=b))|_,_,_=>False
noncomputable def bT:CmpOp->D->D->(Bool->Prop)->Prop
 | .Eq,a,b,Q=>vr a b Q|.NotEq,a,b,Q=>vr a b λk=>Q (!k)|.Lt,a,b,Q=>DY (λi j=>decide (i<j)) a b Q|.LtE,a,b,Q=>DY (λi j=>decide (i<=j)) a b Q|.Gt,a,b,Q=>DY (λi j=>decide (j<i)) a b Q|.GtE,a,b,Q=>DY (λi j=>decide (j<=i)) a b Q|.In,a,b,Q=>jr a b Q|.NotIn,a,b,Q=>jr a b λk=>Q (!k)|.Is,a,b,Q=>nZ a b Q|.IsNot,a,b,Q=>nZ a b λk=>Q (!k)
def Ib(h:CmpOp)(x:D)(y:T)(Q:Bool->Prop):Prop:=match y with
 | .dct b u _=>HD b x/\((h=.In/\Q (bA u x).isSome)∨(h=.NotIn/\Q (!(bA u x).isSome)))|.d y=>bT h x y Q|.lst z=>bT h x (.list (ersT z)) Q|.tup z=>bT h x (.tuple (ersT z)) Q
noncomputable def kI:D->(Bool->Prop)->Prop
 | .bool b,Q=>Q b|.int i,Q=>Q (i != 0)|.none,Q=>Q false|.str z,Q=>z.length<=sizeLine/\Q ((z.length:Int) != 0)|.list ds,Q=>Q (!ds.isEmpty)|.tuple ds,Q=>Q (!ds.isEmpty)|_,_=>False
def Yk:D->(Bool->Prop)->Prop
 | .bool b,Q=>Q b|_,_=>False
def jT(x:Vw)(k:D)(Q:T->Prop):Prop:=∃b y h n t,x=.dc b y h/\HD b k/\bA y k=some n/\h[n]?=some t/\Q t
def VN(x y:Vw)(Q:T->Prop):Prop:=(∃z i c,x=.sc (.str z)/\y=.sc (.int i)/\z.length<=sizeLine/\pE z.cps.toList i=some c/\Q (.d (.str ⟨#[c]⟩))) ∨
 (∃h i t,x=.ls h/\y=.sc (.int i)/\pE h i=some t/\Q t)∨(∃h i t,x=.tp h/\y=.sc (.int i)/\pE h i=some t/\Q t)
theorem lj(z:Str)(i:Int):VN (.sc (.str z)) (.sc (.int i)) Q=(z.length<=sizeLine/\∃c,pE z.cps.toList i=some c/\Q (.d (.str ⟨#[c]⟩))):=by simp[VN]
theorem i6(ts:LT)(i:Int):VN (.ls ts) (.sc (.int i)) Q=∃t,pE ts i=some t/\Q t:=by simp[VN]
theorem fj(ts:LT)(i:Int):VN (.tp ts) (.sc (.int i)) Q=∃t,pE ts i=some t/\Q t:=by simp[VN]
noncomputable def gE{α:Type}(xs:List α)(h x:Option Int):List α:=(xs.drop (HT.sIx xs.length 0 h)).take (HT.sIx xs.length xs.length x - HT.sIx xs.length 0 h)
def iN(x:Vw)(u v:Option Int)(Q:T->Bool->Prop):Prop:=(∃z,x=.sc (.str z)/\z.length<=sizeLine/\Q (.d (.str (wm z u v))) false)∨(∃y h,x=.ls y/\LF y=some h/\Q (.lst ((gE h u v).map T.d)) true) ∨
 (∃y h,x=.tp y/\LF y=some h/\¬ (HT.sIx h.length 0 u=0/\HT.sIx h.length h.length v=h.length)/\Q (.d (.tuple (gE h u v))) false)
end
section
variable{Q:T->Bool->Prop}{h x:Option Int}
theorem Ig(z:Str):iN (.sc (.str z)) h x Q=(z.length<=sizeLine/\Q (.d (.str (wm z h x))) false):=by simp[iN]
theorem Eg(ts:LT):iN (.ls ts) h x Q=∃ds,LF ts=some ds/\Q (.lst ((gE ds h x).map T.d)) true:=by simp[iN]
end
def EF:D->(Option Int->Prop)->Prop
 | .int i,Q=>Q (some i)|_,_=>False
noncomputable def isD(n:String):D->Option Bool
 | .none=>some false|.bool _=>some (n == "bool" || n == "int")
 | .int _=>some (n == "int")|.str _=>some (n == "str")|.list _=>some (n == "list")|.tuple _=>some (n == "tuple")|.dict _=>none
noncomputable def XO(n:String):Bool:=n == "bool" || n == "int" || n == "str" || n == "list" || n == "tuple" || n == "ValueError"
def IC(l:LS):D:=.list (l.map PyData.str)
def Vw.seq:Vw->Option (LT)
 | .ls h=>some h|.tp h=>some h|_=>none
def CT(f:Bi)(vs:List Vw)(Q:T->Bool->Prop):Prop:=match f with
 | .len=>(∃z,vs=[.sc (.str z)]/\z.length<=sizeLine/\Q (.d (.int z.length)) false)∨(∃h,vs=[.ls h]/\Q (.d (.int h.length)) false)∨(∃h,vs=[.tp h]/\Q (.d (.int h.length)) false)|.any=>∃h,∃bs:List Bool,vs=[.ls h]/\LF h=some (bs.map PyData.bool)/\Q (.d (.bool (bs.any id))) false|.list=>∃x h w,vs=[x]/\x.seq=some h/\LF h=some w/\Q (.lst (w.map T.d)) true|.sorted=>(∃h,∃k:LS,vs=[.ls h]/\LF h=some (k.map PyData.str)/\k.length<64/\∀y:LS,y.Perm k->sortedS y=true->Q (.lst ((y.map PyData.str).map T.d)) true) ∨
  (∃h,∃ls:List (LS),vs=[.ls h]/\LF h=some (ls.map IC)/\ls.length<64/\∀v:List (LS),v.Perm ls->Q (.lst ((v.map IC).map T.d)) true) ∨
  (∃h,∃a:LJ,vs=[.ls h]/\LF h=some (a.map PyData.int)/\a.length<64/\∀u:LJ,u.Perm a->u.Pairwise (·<=·)->Q (.lst ((u.map PyData.int).map T.d)) true)
 | .tuple=>∃h w,vs=[.ls h]/\LF h=some w/\Q (.d (.tuple w)) false|.int=>∃b:Bool,vs=[.sc (.bool b)]/\Q (.d (.int (if b then 1 else 0))) false
section
variable{Q:T->Bool->Prop}
theorem Ie(ts:LT):CT .len [.ls ts] Q=Q (.d (.int ts.length)) false:=by simp[CT]
theorem uq(ts:LT):CT .len [.tp ts] Q=Q (.d (.int ts.length)) false:=by simp[CT]
theorem xq(ts:LT):CT .any [.ls ts] Q=∃bs:List Bool,LF ts=some (bs.map PyData.bool)/\Q (.d (.bool (bs.any id))) false:=by simp[CT]
theorem Ae(ts:LT):CT .tuple [.ls ts] Q=∃ds,LF ts=some ds/\Q (.d (.tuple ds)) false:=by simp[CT]
theorem vq(b:Bool):CT .int [.sc (.bool b)] Q=Q (.d (.int (if b then 1 else 0))) false:=by simp[CT]
theorem Ee{x:Vw}{ds:List D}(h:x.seq=some (ds.map T.d))(q:Q (.lst (ds.map T.d)) true):CT .list [x] Q:=⟨x,_,ds,rfl,h,YA ds,q⟩
end
section
variable{N:T->T->Prop}
def zt(m:Mt)(x:Vw)(vs:List Vw)(Q:T->Bool->Prop):Prop:=match m with
 |_=>False
def Vw.isS:Vw->Bool
 | .sc (.str _)=>true|_=>false
def isMut:Mt->Bool
 | .append=>true|.pop=>true|.setd=>true|.extend=>true
def Pa(m:Mt)(x:Vw):Bool:=x.isS&&!isMut m
def FK(m:Mt)(s:T)(us:LT)(N:T->T->Prop):Prop:=match m with
 | .append=>∃h t,s=.lst h/\us=[t]/\h.length<sizeLine/\N (.d .none) (.lst (h++[t]))|.pop=>∃h i k t,s=.lst h/\us=[.d (.int i)]/\dU h.length i=some k/\h[k]?=some t/\N t (.lst (h.eraseIdx k))|.extend=>∃h x,s=.lst h/\us=[.lst x]/\h.length+x.length<=sizeLine/\N (.d .none) (.lst (h++x))|_=>False
theorem B5(ts:LT)(t:T):FK .append (.lst ts) [t] N=(ts.length<sizeLine/\N (.d .none) (.lst (ts++[t]))):=by simp[FK]
theorem X5(ts vs:LT):FK .extend (.lst ts) [.lst vs] N=(ts.length+vs.length<=sizeLine/\N (.d .none) (.lst (ts++vs))):=by simp[FK]
theorem U5(ts:LT)(i:Int):FK .pop (.lst ts) [.d (.int i)] N=∃k t,dU ts.length i=some k/\ts[k]?=some t/\N t (.lst (ts.eraseIdx k)):=by simp[FK]
def sV:Mt->Bool
 | .append=>true|.pop=>true|.setd=>false|.extend=>true
def JI(m:Mt):T->Bool
 | .lst _=>sV m|_=>false
def FB(u:ItK)(vs:List Vw)(R:LT->Prop):Prop:=match u with
 | .val=>(∃h,vs=[.ls h]/\R h)∨(∃h,vs=[.tp h]/\R h)∨(∃y h,vs=[.dc true y h]/\R (y.map T.d))|.rng1=>∃j,vs=[.sc (.int j)]/\(-(2 ^ 62)<=j/\j<2 ^ 62)/\R ((Ql j.toNat).map λ(i:Nat)=>.d (.int (i:Int)))|.enum=>∃x h z,vs=[x]/\x.seq=some h/\LF h=some z/\R (z.zipIdx.map λp=>.d (.tuple [.int (p.2:Int),p.1]))|.itm=>(∃y h z,vs=[.dc true y h]/\LF h=some z/\R ((y.zip z).map λp=>.d (.tuple [p.1,p.2])))∨(vs=[.sc (.dict [])]/\R [])
end
section
variable{R:LT->Prop}
theorem BI(ts:LT):FB .val [.ls ts] R=R ts:=by simp[FB]
theorem u6(ts:LT):FB .val [.tp ts] R=R ts:=by simp[FB]
theorem x6(j:Int):FB .rng1 [.sc (.int j)] R=((-(2 ^ 62)<=j/\j<2 ^ 62)/\R ((Ql j.toNat).map λ(i:Nat)=>.d (.int (i:Int)))):=by simp[FB]
theorem XS(x:Vw):FB .enum [x] R=∃ts ds,x.seq=some ts/\LF ts=some ds/\R (ds.zipIdx.map λp=>.d (.tuple [.int (p.2:Int),p.1])):=by apply propext;constructor;rintro⟨_,ts,ds,⟨⟩,h⟩;exact⟨ts,ds,h⟩;rintro⟨ts,ds,h⟩;exact⟨_,ts,ds,rfl,h⟩
theorem VS(ks:List D)(ts:LT):FB .itm [.dc true ks ts] R=∃ds,LF ts=some ds/\R ((ks.zip ds).map λp=>.d (.tuple [p.1,p.2])):=by apply propext;constructor;rintro(⟨_,_,ds,⟨⟩,h⟩| ⟨⟨⟩,_⟩);exact⟨ds,h⟩;rintro⟨ds,h⟩;exact .inl ⟨_,_,ds,rfl,h⟩
theorem KS(ks:List D)(ts:LT):FB .val [.dc true ks ts] R=R (ks.map T.d):=by simp[FB]
theorem v6:FB .itm [.sc (.dict [])] R=R []:=by apply propext;constructor;rintro(⟨_,_,x,⟨⟩,h⟩| ⟨_,h⟩);exact h;exact λh=>.inr ⟨rfl,h⟩
end
noncomputable def jD:LN->LT->zA->Option zA
 |[],[],ρ=>some ρ|i::is,t::ts,ρ=>jD is ts (ρ.set i (some (.ky t)))|_,_,_=>none
noncomputable def NO:Tg->T->zA->(zA->Prop)->Prop
 | .nm i,t,ρ,Q=>Q (ρ.set i (some (.ky t)))|.tp is,t,ρ,Q=>match t.vw with
  | .tp x=>∃h,jD is x ρ=some h/\Q h|_=>False
def Tg.ix:Tg->LN
 | .nm i=>[i]|.tp h=>h
def v3:PX->Option Nat
 | .vz i=>some i|_=>none
def uC:Option Sl->Option Sl
 |some (.own t)=>some (.ky t)|s=>s
def lockA(ρ:zA):zA:=ρ.map uC
def lock:LN->zA->zA
 |[],ρ=>ρ|i::is,ρ=>lock is (ρ.modify i uC)
def VV:Option Sl->Option Sl
 |some (.own t)=>bD t.er|s=>s
def frzAt:LN->zA->zA
 |[],ρ=>ρ|i::is,ρ=>frzAt is (ρ.modify i VV)
def iM:Option Sl->Option Sl
 |some (.ky t)=>if t.isD=true then some (.ky t) else none|s=>s
def kill:LN->zA->zA
 |[],ρ=>ρ|i::is,ρ=>kill is (ρ.modify i iM)
def clear:LN->zA->zA
 |[],ρ=>ρ|i::is,ρ=>clear is (ρ.set i none)
noncomputable def DA:LN->zA->Option (LT)
 |[],_=>some []|i::is,ρ=>match ρ[i]? with
  |some (some (.own t))=>(DA is ρ).map (t::·)|_=>none
noncomputable def zC:LN->LT->zA->Option zA
 |[],[],ρ=>some ρ|i::is,t::ts,ρ=>zC is ts (ρ.set i (some (.own t)))|_,_,_=>none
def MC:List Bool->zA->zA
 |b::m,v::ρ=>(if b then none else v)::MC m ρ|_,ρ=>ρ
def UN(k:Nat)(h:List Bool)(ρ:zA):zA:=QAQ k none++MC h ρ
def sq{α:Type}(x:T)(ρ:zA)(b:zA->(α->zA->Prop)->Prop)(K:α->zA->Prop):Prop :=
 if x.isD=true then b ρ K else b (lockA ρ) λy _=>K y ρ
def cu(f:zA->TK->Prop):zA->(T×Bool->zA->Prop)->Prop:=λy K=>f y λx n h=>K (x,n) h
def BF:List (T×Bool)->LT
 |[]=>[]|p::r=>p.1::BF r
def XN:List (T×Bool)->LT
 |[]=>[]|p::r=>rA p.1 p.2::XN r
def TB:List (T×Bool)->List Vw
 |[]=>[]|p::r=>(rA p.1 p.2).vw::TB r
def FE:List (T×Bool)->Bool
 |[]=>true|p::r=>MH p.1 p.2&&FE r
def TQ:List (T×Bool)->Bool
 |[]=>true|p::r=>MH p.1 p.2&&TQ r
noncomputable def eE(t:T):Option T:=match t.vw with
 | .ls h=>(LF h).map λx=>.lst (x.map T.d)|_=>if t.isD=true then some t else none
noncomputable def XA:List Md->List (T×Bool)->LT->Option (LT)
 |_,[],[]=>some []|_,[],_::_=>none|md,(x,n)::xs,os=>match md.headD .xy with
  | .xy=>match rA x n with
   | .d d=>(XA md.tail xs os).map (.d d::·)|_=>none
  | .xz=>match eE (rA x n) with
   |some t=>(XA md.tail xs os).map (t::·)|none=>none
  | .ky=>(XA md.tail xs os).map (rA x n::·)|.chg=>match os with
   |o::os=>(XA md.tail xs os).map (o::·)|[]=>none
noncomputable def DB:List Md->LT->LT
 |_,[]=>[]|md,t::ts=>match md.headD .xy with
  | .chg=>t::DB md.tail ts|_=>DB md.tail ts
def uA:List Md->PX->LN
 | .chg::md,.ny (.vz j) as=>j::uA md as|_::md,.ny _ as=>uA md as|_,_=>[]
def Md.isMut:Md->Bool
 | .chg=>true|_=>false
structure D3 where
 e:zA->TK->Prop
 t:zA->(Bool->zA->Prop)->Prop
 a:List Md->zA->(List (T×Bool)->zA->Prop)->Prop
def VE:D3:=⟨λ_ _=>False,λ_ _=>False,λ_ _ _=>False⟩
noncomputable def VD(body:T->(Option T->Prop)->Prop):LT->LT->(LT->Prop)->Prop
 |[],acc,Q=>acc.length<=sizeLine/\Q acc|x::xs,acc,Q=>body x fun
  |some y=>acc.length<sizeLine/\VD body xs (acc++[y]) Q|none=>VD body xs acc Q
def mG(v:Tg)(u:zA)(c:zA->(Bool->zA->Prop)->Prop)(e:zA->TK->Prop)(x:T)(R:Option T->Prop):Prop :=
 NO v x u λz=>c z λb h=>if b=true then e h λy n _=>MH y n=true/\R (some y) else R none
def bj:PX->D->(Bool->Prop)->Prop
 | .bty _ n,d,Q=>∃b,isD n d=some b/\XO n=true/\Q b|_,_,_=>False
noncomputable def Sq:Option (Option Sl)->(T->Prop)->Prop
 |some (some (.own t)),Q=>Q t|some (some (.ky t)),Q=>Q t|some none,_=>False|none,_=>False
noncomputable def rC:Option (Option Sl)->(T->Prop)->Prop
 |some (some (.own t)),Q=>Q t|some (some (.ky _)),_=>False|some none,_=>False|none,_=>False
def yd:Option Nat->(Nat->Prop)->Prop
 |none,_=>False|some j,Q=>Q j
def f6:PX->Bool
 | .vz _=>true|_=>false
def pe(Ψ:PEv):PX->XE->D3
 | .vz i,_=>let e:zA->TK->Prop:=λv Q=>Sq v[i]? λt=>Q t false v
  ⟨e,λv Q=>e v λt _ h=>kI t.er λb=>Q b h,VE.a⟩
 | .mv i,_=>⟨λv Q=>rC v[i]? λt=>Q t true (v.set i none),VE.t,VE.a⟩|.int i,_=>⟨λv Q=>Q (.d (.int i)) false v,λv Q=>Q (i != 0) v,VE.a⟩|.str x,_=>⟨λv Q=>Q (.d (.str x)) false v,VE.t,VE.a⟩|.bl b,_=>⟨λv Q=>Q (.d (.bool b)) false v,λv Q=>Q b v,VE.a⟩|.non,_=>⟨λv Q=>Q (.d .none) false v,λv Q=>Q false v,VE.a⟩|.glo x,_=>let e:zA->TK->Prop:=λv Q=>match Ψ.va x with
   |some d=>Q (.d d) false v|none=>False
  ⟨e,λv Q=>e v λt _ h=>kI t.er λb=>Q b h,VE.a⟩
 | .bty _ _,_=>VE|.bin op a b,E=>let e:zA->TK->Prop:=λv Q=>(pe Ψ a E).e v λx n h=>sq (rA x n) h (cu (pe Ψ b E).e) λy w=>binT op (rA x n).vw (rA y.1 y.2).vw λz k=>Q z k w
  ⟨e,λv Q=>e v λt _ h=>kI t.er λb=>Q b h,VE.a⟩
 | .cmp op a b,E=>let t:zA->(Bool->zA->Prop)->Prop:=λv Q=>(pe Ψ a E).e v λx n h=>sq (rA x n) h (cu (pe Ψ b E).e) λy w=>Ib op x.er (rA y.1 y.2) λk=>Q k w
  ⟨λv Q=>t v λk h=>Q (.d (.bool k)) false h,t,VE.a⟩
 | .and a b,E=>⟨λv Q=>(pe Ψ a E).e v λx _ h=>Yk x.er λc=>if c=true then(pe Ψ b E).e h Q else Q (.d (.bool false)) false h,
   λv Q=>(pe Ψ a E).t v λc h=>if c=true then(pe Ψ b E).t h Q else Q false h,VE.a⟩
 | .or a b,E=>⟨λv Q=>(pe Ψ a E).e v λx _ h=>Yk x.er λc=>if c=true then Q (.d (.bool true)) false h else(pe Ψ b E).e h Q,
   λv Q=>(pe Ψ a E).t v λc h=>if c=true then Q true h else(pe Ψ b E).t h Q,VE.a⟩
 | .not a,E=>⟨λv Q=>(pe Ψ a E).e v λx _ h=>kI x.er λc=>Q (.d (.bool (!c))) false h,λv Q=>(pe Ψ a E).t v λc h=>Q (!c) h,VE.a⟩|.call f as,E=>let e:zA->TK->Prop:=λv Q=>∃Z,DA (uA (Ψ.sp f).md as) v=some Z/\(uA (Ψ.sp f).md as).Nodup/\(pe Ψ as E).a (Ψ.sp f).md (clear (uA (Ψ.sp f).md as) v) λg h=>∃Y,XA (Ψ.sp f).md g Z=some Y/\(Ψ.sp f).run Y (λr s=>∃w,zC (uA (Ψ.sp f).md as) s h=some w/\Q r true w) E
  ⟨e,λv Q=>e v λt _ h=>kI t.er λb=>Q b h,VE.a⟩
 | .isi a c,E=>let t:zA->(Bool->zA->Prop)->Prop:=λv Q=>(pe Ψ a E).e v λx _ h=>bj c x.er λb=>Q b h
  ⟨λv Q=>t v λk h=>Q (.d (.bool k)) false h,t,VE.a⟩
 | .bi f as,E=>let e:zA->TK->Prop:=λv Q=>(pe Ψ as E).a [] v λg h=>CT f (TB g) λz k=>Q z k h
  ⟨e,λv Q=>e v λt _ h=>kI t.er λb=>Q b h,VE.a⟩
 | .mt m o as,E=>let e:zA->TK->Prop:=λv Q=>if isMut m=true then yd (v3 o) λj=>rC v[j]? λt=>JI m t=true/\(pe Ψ as E).a [] (v.set j (some (.ky t))) λg w=>FE g=true/\w[j]?=some (some (.ky t))/\FK m t (BF g) λr K=>Q r true (w.set j (some (.own K))) else(pe Ψ o E).e v λx n h=>Pa m (rA x n).vw=true/\sq (rA x n) h ((pe Ψ as E).a []) λg w=>zt m (rA x n).vw (TB g) λz k=>Q z k w
  ⟨e,λv Q=>e v λt _ h=>kI t.er λb=>Q b h,VE.a⟩
 | .idx a b,E=>let e:zA->TK->Prop:=λv Q=>(pe Ψ a E).e v λx n h=>sq (rA x n) h (cu (pe Ψ b E).e) λy w=>(VN (rA x n).vw (rA y.1 y.2).vw λz=>Q z false w)∨(jT (rA x n).vw y.1.er λz=>Q z false w)
  ⟨e,λv Q=>e v λt _ h=>kI t.er λb=>Q b h,VE.a⟩
 | .slc a lo hi,E=>⟨λv Q=>(pe Ψ a E).e v λx n h =>
   sq (α:=Option Int) (rA x n) h (if isNop lo=true then λv (R:Option Int->zA->Prop)=>R none v else λv R=>(pe Ψ lo E).e v λl _ w=>EF l.er λo=>R o w) λl w =>
   sq (α:=Option Int) (rA x n) w (if isNop hi=true then λv (R:Option Int->zA->Prop)=>R none v else λv R=>(pe Ψ hi E).e v λu _ p=>EF u.er λo=>R o p) λu p=>iN (rA x n).vw l u λz k=>Q z k p,VE.t,VE.a⟩
 | .nop,_=>VE|.lst as,E=>⟨λv Q=>(pe Ψ as E).a [] v λg h=>FE g=true/\g.length<=sizeLine/\Q (.lst (BF g)) true h,VE.t,VE.a⟩|.tup as,E=>⟨λv Q=>(pe Ψ as E).a [] v λg h=>FE g=true/\g.length<=sizeLine/\Q (AD (BF g)) true h,VE.t,VE.a⟩|.comp mask tgs tg ik its cond elt,E=>⟨λv Q=>(pe Ψ its E).a [] v λg h=>FB ik (TB g) λq =>
   VD (mG tg (UN tgs.length mask (lockA h)) (if isNop cond=true then λv R=>R true v else(pe Ψ cond (λ_=>False)).t) (pe Ψ elt (λ_=>False)).e) q [] λW=>Q (.lst W) true h,VE.t,VE.a⟩
 | .dnew b,_=>⟨λv Q=>Q (.dct b [] []) true v,VE.t,VE.a⟩|.dsp a b,E=>⟨λv Q=>(pe Ψ a E).e v λy m h=>MH y m=true/\(pe Ψ b E).e h λx n w=>MH x n=true/\HD true y.er/\Q (.dct true [y.er] [x]) true w,VE.t,VE.a⟩|.nz,_=>⟨VE.e,VE.t,λ_ v Q=>Q [] v⟩|.ny a as,E=>⟨VE.e,VE.t,λX v Q=>if(X.headD .xy).isMut=true then f6 a=true/\(pe Ψ as E).a X.tail v λg h=>Q ((.d .none,true)::g) h
   else(pe Ψ a E).e v λx n h=>sq (α:=List (T×Bool)) (if n=true then .d .none else x) h ((pe Ψ as E).a X.tail) λg w=>Q ((x,n)::g) w⟩
structure PEnds where
 nx:zA->Prop
 rt:T->zA->Prop
 bk:zA->Prop:=λ_=>False
 ct:zA->Prop:=λ_=>False
def IG:PX->LN
 | .vz i=>[i]|.idx a _=>IG a|.and a b | .or a b=>IG a++IG b
 | .ny a h=>IG a++IG h|_=>[]
noncomputable def cM:Option (Option Sl)->Bool
 |some (some (.own _))=>true|some (some (.ky _))=>false|some none=>false|none=>false
def fC(ρ:zA):LN->LN
 |[]=>[]|i::is=>if cM ρ[i]?=true then i::fC ρ is else fC ρ is
def XC:LN->zA->zA->zA
 |[],_,ρ=>ρ|i::L,ρ0,ρ=>XC L ρ0 (ρ.set i (ρ0[i]?.getD none))
def pU(J L:LN)(h:zA)(N:zA->Prop)(ρ:zA):Prop:=(∀i∈L,i∉J/\ρ[i]?=h[i]?.map uC)/\N (XC L h ρ)
noncomputable def LH(body:PEnds->zA->Prop)(z:Tg)(Z:PEnds):LT->zA->Prop
 |[],ρ=>Z.nx ρ|x::xs,ρ=>NO z x ρ λy=>body { Z with nx:=λh=>LH body z Z xs h,ct:=λh=>LH body z Z xs h,bk:=Z.nx } y
noncomputable def Ls(ρ:zA)(i:Nat)(R:T->zA->Prop):Option (Option Sl)->Prop
 |some (some (.own t))=>R t (ρ.set i none)|some (some (.ky t))=>t.isD=true/\R t ρ|some none=>False|none=>False
noncomputable def DK(Ψ:PEv)(E:XE)(y:T->zA->Prop):PX->zA->Prop
 | .vz i,ρ=>Ls ρ i y ρ[i]?|e,ρ=>(pe Ψ e E).e ρ λx n h=>MH x n=true/\y x h
noncomputable def Gm:T->D->D->(T->Prop)->Prop
 | .lst ts,.int i,x,Q=>∃n,dU ts.length i=some n/\Q (.lst (ts.set n (.d x)))|.dct b ks ts,k,x,Q=>HD b k/\ks.length<sizeLine/\Q (CJ b ks ts k (.d x))|_,_,_,_=>False
def Ks:PX->Option (Nat×Option PX)
 | .vz j=>some (j,none)|.idx (.vz j) k=>some (j,some k)|_=>none
def zh(k:D)(t:T)(Q:T->Prop):Prop:=∃h x,t=.dct true h x/\HD true k/\h.length<sizeLine/\((∃n,bA h k=some n/\Q t)∨(bA h k=none/\Q (.dct true (h++[k]) (x++[.dct true [] []]))))
def Sb:T->Bool
 | .dct true _ _=>true|_=>false
def Cm(z:D)(t:T)(Q:T->(T->T)->Prop):Prop:=∃b x h n s,t=.dct b x h/\HD b z/\bA x z=some n/\h[n]?=some s/\Q s λy=>.dct b x (h.set n y)
def Dv(Ψ:PEv)(s:PT)(N:zA->Prop)(ρ:zA):Prop:=(∃i t c a,s=.ife c a .nil/\ρ[i]?=some (some (.own t))/\(pe Ψ c λ_=>False).t (lockA (ρ.set i (bD t.er))) λb _=>b=false/\N ρ) ∨
 ∃j i h,s=.for_ (.nm i) .val %[.vz j|1] %[.expr (.mt .append (.vz i) %[.non|1])|2]/\i<ρ.length/\ρ[j]?=some (some (.own (.tup h)))/\(h.length<=100/\∀u∈h,∃x,u=T.lst x/\x.length<=1000)/\N ((ρ.set j none).set i none)
noncomputable def cB(Ψ:PEv)(E:XE):PT->PEnds->zA->Prop
 | .nil,Z,u=>Z.nx u|.seq s r,Z,u=>cB Ψ E s { Z with nx:=λw=>cB Ψ E r Z w } u|.set i e,Z,u=>(pe Ψ e E).e u λx n h=>MH x n=true/\Z.nx (h.set i (bD x.er))|.expr e,Z,u=>(pe Ψ e E).e u λ_ _ h=>Z.nx h|.ret e,Z,u=>DK Ψ E Z.rt e u|.ife c a b,Z,u=>(pe Ψ c E).t u λk h=>if k=true then cB Ψ E a Z h else cB Ψ E b Z h|.for_ tg ik its body,Z,u=>(pe Ψ its E).a [] u λX h=>FB ik (TB X) λf =>
   if TQ X=true then LH (cB Ψ E body) tg { Z with nx:=λv=>Z.nx (kill tg.ix v) } f h
   else LH (cB Ψ E body) tg { Z with nx:=λv=>pU tg.ix (fC h (IG its)) h Z.nx (kill tg.ix v) } f (lock (fC h (IG its)) h)
 | .own i e,Z,u=>(pe Ψ e E).e u λx n h=>MH x n=true/\Z.nx (h.set i (some (.own x)))|.six o i e,Z,u=>match Ks o with
  |none=>False|some (j,none)=>rC u[j]? λt=>(pe Ψ e E).e (u.set j (some (.ky t))) λx n h=>MH x n=true/\(pe Ψ i E).e h λy m v=>MH y m=true/\v[j]?=some (some (.ky t))/\Gm t y.er x.er λq=>Z.nx (v.set j (some (.own q)))|some (j,some k)=>rC u[j]? λt=>(pe Ψ e E).e (u.set j (some (.ky t))) λx n h=>MH x n=true/\(pe Ψ k E).e h λz l v=>MH z l=true/\Cm z.er t λs put=>(pe Ψ i E).e v λy m g=>MH y m=true/\g[j]?=some (some (.ky t))/\Gm s y.er x.er λY=>Z.nx (g.set j (some (.own (put Y))))
 | .sdf j k,Z,u=>rC u[j]? λt=>Sb t=true/\(pe Ψ k E).e (u.set j (some (.ky t))) λy m h=>MH y m=true/\h[j]?=some (some (.ky t))/\zh y.er t λq=>Z.nx (h.set j (some (.own q)))|.whl c body,Z,u=>∃W:Nat->zA->Prop,(∃m,W m u)/\∀m u,W m u->(pe Ψ c E).t u λb h=>if b=true then
   cB Ψ E body { Z with nx:=λw=>∃p,p < m/\W p w,ct:=λw=>∃p,p < m/\W p w,bk:=Z.nx } h else Z.nx h
 | .frz is s,Z,u=>cB Ψ E s Z (frzAt is u)|.hs s,Z,u=>Dv Ψ s Z.nx u
abbrev pF(Ψ:PEv):PT->PEnds->zA->Prop:=cB Ψ λ_=>False
theorem _root_.L2.Same.rd{H x:Hp}(e:Same H x){a:Addr}{u:HO}(h:Rd H a u):Rd x a u:=by
 rcases h with h|⟨o,h⟩
 exact .inl (e _ _ h);exact .inr ⟨o,e _ _ h⟩
theorem _root_.L2.Same.tupl{K:QA}{H x:Hp}{a:Addr}{xs:LV}(e:Same H x)(h:xD K H a xs):xD K x a xs:=by rcases h with h|h;exact .inl (e.rd h);exact .inr h
mutual
theorem hX{K:QA}{H x:Hp}(e:Same H x):∀{k:NK}{v:V},Lk K H k v->Lk K x k v
 | .s _,_,h=>h|.t _,_,⟨a,xs,h,q,p⟩=>⟨a,xs,h,e.tupl q,kys_mono e p⟩
theorem kys_mono{K:QA}{H y:Hp}(e:Same H y):∀{ks:List NK}{vs:LV},KyVs K H ks vs->KyVs K y ks vs
 |[],_,h=>h|_::_,_,⟨x,r,h,p,q⟩=>⟨x,r,h,hX e p,kys_mono e q⟩
end
section
variable{K:QA}{H x:Hp}{vs:LV}{ds:List D}
theorem _root_.L2.Same.key(e:Same H x){b:Addr}{k:NK}(h:SN K H b k):SN K x b k:=⟨hX e h.1,h.2⟩
theorem uK.mono(e:Same H x){b:Bool}{o:HO}{ks:List D}(h:uK K H b o ks vs):uK K x b o ks vs:=by
 cases b with|true=>obtain⟨f,y,a,k,w,v,u⟩:=h;exact⟨f,y,a,k,w,λp z=>e.key (v p z),u⟩|false=>exact h
theorem Rep.mono2(e:Same H x):(∀{v:V}{d:D},Rep K H v d->Rep K x v d)/\∀{vs:LV}{ds:List D},Reps K H vs ds->Reps K x vs ds :=
 Rep.both (P:=Rep K x) (R:=Reps K x) .non .bl .int .str (λh _ r=>.lst (e.seq h) r) (λh _ r=>.tup (e.tupl h) r) (λh q _ r=>.dct (e _ _ h) (q.mono e) r) .nil λ_ _ h r=>.cons h r
theorem Rep.mono(e:Same H x){v:V}{d:D}(h:Rep K H v d):Rep K x v d:=(Rep.mono2 e).1 h
theorem Reps.mono(e:Same H x)(h:Reps K H vs ds):Reps K x vs ds:=(Rep.mono2 e).2 h
theorem Reps.append{ws:LV}{es:List D}(h:Reps K H vs ds)(r:Reps K H ws es):Reps K H (vs++ws) (ds++es):=Reps.ind (R:=λvs ds=>Reps K H (vs++ws) (ds++es)) r (λh t=>.cons h t) h
theorem Reps.get{K:QA}{H:Hp}:∀{vs:LV}{ds:List D}{i:Nat}{d:D},Reps K H vs ds->ds[i]?=some d->∃v,vs[i]?=some v/\Rep K H v d
 |_,_,i,_,.nil,h=>by simp at h|_,_,0,_,.cons h _,e=>by simp at e;subst e;exact⟨_,rfl,h⟩|_,_,i+1,d,.cons _ t,e=>by obtain⟨v,z,y⟩:=Reps.get (i:=i) t (by simpa using e);exact⟨v,by simpa using z,y⟩
theorem Reps.drop{K:QA}{H:Hp}:∀{vs:LV}{ds:List D}(n:Nat),Reps K H vs ds->Reps K H (vs.drop n) (ds.drop n)
 |_,_,0,r=>r|_,_,_+1,.nil=>.nil|_,_,n+1,.cons _ t=>Reps.drop n t
theorem Reps.take{K:QA}{H:Hp}:∀{vs:LV}{ds:List D}(n:Nat),Reps K H vs ds->Reps K H (vs.take n) (ds.take n)
 |_,_,0,_=>.nil|_,_,_+1,.nil=>.nil|_,_,n+1,.cons h t=>.cons h (Reps.take n t)
theorem Reps.bools{K:QA}{H:Hp}:∀{vs:LV}{bs:List Bool},Reps K H vs (bs.map PyData.bool)->vs=bs.map V.bl
 |_,[],.nil=>rfl|_,b::bs,.cons h t=>by cases h;rw[QW,Reps.bools t]
theorem HB{p:Addr}{o:HO}(h:H p=none):Same H (BA H p o):=λb u q=>by rw[kA (iA q h)];exact q
end
mutual
inductive Tr(K:QA)(F H:Hp):Bool->V->T->(Addr->Prop)->Prop where
 |d {st:Bool}{v:V}{x:D}{S:bB}:Rep K F v x->(∀b,¬ S b)->Tr K F H st v (.d x) S
 |lst {st:Bool}{a:Addr}{vs:LV}{ts:LT}{S S':bB}:H a=some (.lst vs)->F a=none->Trs K F H st vs ts S'->¬ S' a->(∀b,S b↔b=a∨S' b)->Tr K F H st (.ref a) (.lst ts) S
 |tup {st:Bool}{a:Addr}{vs:LV}{ts:LT}{S S':bB}:H a=some (.tup vs)->F a=none->Trs K F H st vs ts S'->¬ S' a->(∀b,S b↔b=a∨S' b)->Tr K F H st (.ref a) (.tup ts) S
 |lstF {a:Addr}{vs:LV}{ds:List D}{S:bB}:FC K F a vs->Reps K F vs ds->(∀b,¬ S b)->Tr K F H false (.ref a) (.lst (ds.map T.d)) S
 |dct {st b:Bool}{a:Addr}{o:HO}{ks:List D}{vs:LV}{ts:LT}{S S':bB}:H a=some o->uK K F b o ks vs->F a=none->Trs K F H st vs ts S'->¬ S' a->(∀b,S b↔b=a∨S' b)->Tr K F H st (.ref a) (.dct b ks ts) S
inductive Trs(K:QA)(F H:Hp):Bool->LV->LT->(Addr->Prop)->Prop where
 |nil {st:Bool}{S:bB}:(∀b,¬ S b)->Trs K F H st [] [] S
 |cons {st:Bool}{v:V}{t:T}{vs:LV}{ts:LT}{S S1 S2:bB}:Tr K F H st v t S1->Trs K F H st vs ts S2->(∀b,S1 b->¬ S2 b)->(∀b,S b↔S1 b∨S2 b)->Trs K F H st (v::vs) (t::ts) S
end
section
variable{K:QA}{F H w c:Hp}
section
variable{R:Bool->LV->LT->(Addr->Prop)->Prop}{st b:Bool}{v:V}{t:T}{S:bB}{vs:LV}{ts:LT}{ds ks:List D}{i:Int}{kvs:List (D×D)}
theorem Tr.both{P:Bool->V->T->(Addr->Prop)->Prop}
    (d:∀{st:Bool}{v:V}{x:D}{S:bB},Rep K F v x->(∀b,¬ S b)->P st v (.d x) S)
    (lst:∀{st:Bool}{a:Addr}{vs:LV}{ts:LT}{S S':bB},H a=some (.lst vs)->F a=none->Trs K F H st vs ts S'->¬ S' a->(∀b,S b↔b=a∨S' b)->R st vs ts S'->P st (.ref a) (.lst ts) S)
    (tup:∀{st:Bool}{a:Addr}{vs:LV}{ts:LT}{S S':bB},H a=some (.tup vs)->F a=none->Trs K F H st vs ts S'->¬ S' a->(∀b,S b↔b=a∨S' b)->R st vs ts S'->P st (.ref a) (.tup ts) S)
    (y:∀{a:Addr}{vs:LV}{ds:List D}{S:bB},FC K F a vs->Reps K F vs ds->(∀b,¬ S b)->P false (.ref a) (.lst (ds.map T.d)) S)
    (dct:∀{st b:Bool}{a:Addr}{o:HO}{ks:List D}{vs:LV}{ts:LT}{S S':bB},H a=some o->uK K F b o ks vs->F a=none->Trs K F H st vs ts S'->¬ S' a->(∀b,S b↔b=a∨S' b)->R st vs ts S'->P st (.ref a) (.dct b ks ts) S)
    (u:∀{st:Bool}{S:bB},(∀b,¬ S b)->R st [] [] S)
    (z:∀{st:Bool}{v:V}{t:T}{vs:LV}{ts:LT}{S S1 k:bB},Tr K F H st v t S1->Trs K F H st vs ts k->(∀b,S1 b->¬ k b)->(∀b,S b↔S1 b∨k b)->P st v t S1->R st vs ts k->R st (v::vs) (t::ts) S) :
    (∀{st:Bool}{v:V}{t:T}{S:bB},Tr K F H st v t S->P st v t S)/\∀{st:Bool}{vs:LV}{ts:LT}{S:bB},Trs K F H st vs ts S->R st vs ts S :=
  ⟨λh=>Tr.rec (motive_1:=λst v t S _=>P st v t S) (motive_2:=λst vs ts S _=>R st vs ts S) @d @lst @tup @y @dct @u @z h,
   λh=>Trs.rec (motive_1:=λst v t S _=>P st v t S) (motive_2:=λst vs ts S _=>R st vs ts S) @d @lst @tup @y @dct @u @z h⟩
theorem Tr.mono2(e:Same F w):(∀{st:Bool}{v:V}{t:T}{S:bB},Tr K F H st v t S->(∀b,S b->c b=H b/\w b=none)->Tr K w c st v t S)/\∀{st:Bool}{vs:LV}{ts:LT}{S:bB},Trs K F H st vs ts S->(∀b,S b->c b=H b/\w b=none)->Trs K w c st vs ts S :=
 Tr.both (P:=λst v t S=>(∀b,S b->c b=H b/\w b=none)->Tr K w c st v t S) (R:=λst v t S=>(∀b,S b->c b=H b/\w b=none)->Trs K w c st v t S)
  (λr n _=>.d (r.mono e) n)
  (λ{_ a _ _ _ _} h _ _ n q x k=>.lst ((k a ((q a).mpr (.inl rfl))).1.trans h) (k a ((q a).mpr (.inl rfl))).2 (x λb hb=>k b ((q b).mpr (.inr hb))) n q)
  (λ{_ a _ _ _ _} h _ _ n q x k=>.tup ((k a ((q a).mpr (.inl rfl))).1.trans h) (k a ((q a).mpr (.inl rfl))).2 (x λb hb=>k b ((q b).mpr (.inr hb))) n q)
  (λh r n _=>.lstF (e.seq h) (r.mono e) n)
  (λ{_ _ a _ _ _ _ _ _} h dk _ _ n q x k=>.dct ((k a ((q a).mpr (.inl rfl))).1.trans h) (dk.mono e) (k a ((q a).mpr (.inl rfl))).2 (x λb hb=>k b ((q b).mpr (.inr hb))) n q)
  (λn _=>.nil n)
  (λ_ _ n q z y k=>.cons (z λb hb=>k b ((q b).mpr (.inl hb))) (y λb hb=>k b ((q b).mpr (.inr hb))) n q)
theorem Tr.mono(e:Same F w)(h:Tr K F H st v t S)(k:∀b,S b->c b=H b/\w b=none):Tr K w c st v t S:=(Tr.mono2 e).1 h k
theorem Trs.mono(e:Same F w)(h:Trs K F H st vs ts S)(k:∀b,S b->c b=H b/\w b=none):Trs K w c st vs ts S:=(Tr.mono2 e).2 h k
theorem Tr.weak2:(∀{st:Bool}{v:V}{t:T}{S:bB},Tr K F H st v t S->Tr K F H false v t S)/\∀{st:Bool}{vs:LV}{ts:LT}{S:bB},Trs K F H st vs ts S->Trs K F H false vs ts S :=
 Tr.both (P:=λ_ v t S=>Tr K F H false v t S) (R:=λ_ v t S=>Trs K F H false v t S) .d (λh f _ n q x=>.lst h f x n q) (λh f _ n q x=>.tup h f x n q) .lstF (λh dk f _ n q x=>.dct h dk f x n q) .nil λ_ _ n q z y=>.cons z y n q
theorem Tr.weak(h:Tr K F H st v t S):Tr K F H false v t S:=Tr.weak2.1 h
theorem Trs.weak(h:Trs K F H st vs ts S):Trs K F H false vs ts S:=Tr.weak2.2 h
theorem Y7{C:bB}{a:Addr}{S':bB}(q:∀b,S b↔b=a∨S' b)(h:C a)(k:∀b,S' b->C b)(b:Addr)(hb:S b):C b:=((q b).mp hb).elim (λe=>e▸h) (k b)
theorem Tr.dom2:(∀{st:Bool}{v:V}{t:T}{S:bB},Tr K F H st v t S->∀b,S b->H b≠none/\F b=none)/\∀{st:Bool}{vs:LV}{ts:LT}{S:bB},Trs K F H st vs ts S->∀b,S b->H b≠none/\F b=none :=
 have y:∀{a:Addr}{o:HO},H a=some o->H a≠none:=λh z=>by rw[h]at z;cases z
 Tr.both (P:=λ_ _ _ S=>∀b,S b->H b≠none/\F b=none) (R:=λ_ _ _ S=>∀b,S b->H b≠none/\F b=none)
  (λ_ n b hb=>absurd hb (n b)) (λh f _ _ q x=>Y7 q ⟨y h,f⟩ x) (λh f _ _ q x=>Y7 q ⟨y h,f⟩ x) (λ_ _ n b hb=>absurd hb (n b)) (λh _ f _ _ q x=>Y7 q ⟨y h,f⟩ x)
  (λn b hb=>absurd hb (n b)) λ_ _ _ q k u b hb=>((q b).mp hb).elim (k b) (u b)
theorem Tr.dom(h:Tr K F H st v t S):∀b,S b->H b≠none/\F b=none:=Tr.dom2.1 h
theorem Trs.dom(h:Trs K F H st vs ts S):∀b,S b->H b≠none/\F b=none:=Tr.dom2.2 h
theorem Tr.kept2(e:Same F w):(∀{st:Bool}{v:V}{t:T}{S:bB},Tr K F H st v t S->(∀b u,S b->H b=some u->w b=some u)->Rep K w v t.er)/\∀{st:Bool}{vs:LV}{ts:LT}{S:bB},Trs K F H st vs ts S->(∀b u,S b->H b=some u->w b=some u)->Reps K w vs (ersT ts) :=
 Tr.both (P:=λ_ v t S=>(∀b u,S b->H b=some u->w b=some u)->Rep K w v t.er) (R:=λ_ v t S=>(∀b u,S b->H b=some u->w b=some u)->Reps K w v (ersT t))
  (λr _ _=>r.mono e)
  (λ{_ a _ _ _ _} h _ _ _ q x k=>by unfold T.er;exact .lst (FC.of (k a _ ((q a).mpr (.inl rfl)) h)) (x λb u hb=>k b u ((q b).mpr (.inr hb))))
  (λ{_ a _ _ _ _} h _ _ _ q x k=>by unfold T.er;exact .tup (xD.of (k a _ ((q a).mpr (.inl rfl)) h)) (x λb u hb=>k b u ((q b).mpr (.inr hb))))
  (λh r _ _=>by unfold T.er;rw[uB];exact .lst (e.seq h) (r.mono e))
  (λ{_ _ a _ _ _ _ _ _} h dk _ _ _ q x k=>by unfold T.er;exact .dct (k a _ ((q a).mpr (.inl rfl)) h) (dk.mono e) (x λb u hb=>k b u ((q b).mpr (.inr hb))))
  (λ_ _=>.nil)
  (λ_ _ _ q z y k=>.cons (z λb u hb=>k b u ((q b).mpr (.inl hb))) (y λb u hb=>k b u ((q b).mpr (.inr hb))))
theorem Tr.kept(e:Same F w)(h:Tr K F H st v t S)(k:∀b u,S b->H b=some u->w b=some u):Rep K w v t.er:=(Tr.kept2 e).1 h k
theorem Tr.rep(f:Same F H)(h:Tr K F H st v t S):Rep K H v t.er:=h.kept f λ_ _ _ e=>e
theorem Trs.ind(z:∀{st:Bool}{S:bB},(∀b,¬ S b)->R st [] [] S)
  (x:∀{st:Bool}{v:V}{t:T}{vs:LV}{ts:LT}{S S1 y:bB},Tr K F H st v t S1->Trs K F H st vs ts y->(∀b,S1 b->¬ y b)->(∀b,S b↔S1 b∨y b)->R st vs ts y->R st (v::vs) (t::ts) S) (h:Trs K F H st vs ts S):R st vs ts S :=
 (Tr.both (P:=λ_ _ _ _=>True) (λ_ _=>trivial) (λ_ _ _ _ _ _=>trivial) (λ_ _ _ _ _ _=>trivial) (λ_ _ _=>trivial) (λ_ _ _ _ _ _ _=>trivial) z λh t n q _ r=>x h t n q r).2 h
theorem Trs.length(h:Trs K F H st vs ts S):vs.length=ts.length:=Trs.ind (R:=λ_ vs ts _=>vs.length=ts.length) (λ_=>rfl) (λ_ _ _ _ e=>congrArg Nat.succ e) h
theorem Trs.of_reps(h:Reps K F vs ds):Trs K F H st vs (ds.map T.d) (λ_=>False) :=
 Reps.ind (R:=λvs ds=>Trs K F H st vs (ds.map T.d) λ_=>False) (.nil λ_ z=>z) (λh t=>.cons (.d h λ_ z=>z) t (λ_ z=>z.elim) λb=>by simp) h
theorem Trs.un(h:Trs K F H st vs ts S)(e:LF ts=some ds):Reps K F vs ds/\∀b,¬ S b:=by
 have u:=YL e;clear e;revert ds;refine Trs.ind (R:=λ_ vs ts S=>∀{ds:List D},ts=ds.map T.d->Reps K F vs ds/\∀b,¬ S b) (λn ds e=>?_) (λh _ _ q x ds e=>?_) h;cases ds with|nil=>exact⟨.nil,n⟩|cons d r=>cases e
 cases ds with
 |nil=>cases e|cons d r =>
  injection e with e1 e2;obtain⟨z,y⟩:=x e2;subst e1;cases h with|d rep m=>exact⟨.cons rep z,λb hb=>((q b).mp hb).elim (m b) (y b)⟩
theorem Trs.get{i:Nat}(h:Trs K F H st vs ts S)(e:ts[i]?=some t):∃v S1,vs[i]?=some v/\Tr K F H st v t S1/\∀b,S1 b->S b:=by
 revert i;refine Trs.ind (R:=λst vs ts S=>∀{i:Nat},ts[i]?=some t->∃v S1,vs[i]?=some v/\Tr K F H st v t S1/\∀b,S1 b->S b) (λn i e=>by cases e) (λh _ n q x i e=>?_) h;cases i with|zero=>cases e;exact⟨_,_,rfl,h,λb hb=>(q b).mpr (.inl hb)⟩|succ i=>obtain⟨v,S1,u,z,y⟩:=x (i:=i) e;exact⟨v,S1,u,z,λb hb=>(q b).mpr (.inr (y b hb))⟩
theorem Trs.at(r:Trs K F H st vs ts S)(h:pE ts i=some t):∃v S1,pE vs i=some v/\Tr K F H st v t S1/\∀b,S1 b->S b:=by
 unfold pE at h ⊢;rw[r.length];cases e:dU ts.length i with|none=>rw[e]at h;cases h|some j=>rw[e]at h;exact r.get h
theorem Trs.append{ws:LV}{us:LT}{S1 x:bB}(h:Trs K F H st vs ts S1)(r:Trs K F H st ws us x)(k:∀b,S1 b->¬ x b):Trs K F H st (vs++ws) (ts++us) (λb=>S1 b∨x b) :=
 Trs.ind (R:=λst vs ts S1=>Trs K F H st ws us x->(∀b,S1 b->¬ x b)->Trs K F H st (vs++ws) (ts++us) λb=>S1 b∨x b)
  (λ{_ S} n r _=>by have e:(λb=>S b∨x b)=x:=funext λb=>propext ⟨λz=>z.resolve_left (n b),.inr⟩;rw[e];exact r)
  (λh _ n q y r k=>.cons h (y r λb hb=>k b ((q b).mpr (.inr hb))) (λb hb z=>z.elim (n b hb) (k b ((q b).mpr (.inl hb)))) λb=>by rw[q b,or_assoc]) h r k
theorem Trs.one(h:Tr K F H st v t S):Trs K F H st [v] [t] S:=.cons h (.nil (S:=λ_=>False) λ_ z=>z) (λ_ _ z=>z) λb=>by simp
theorem aH(e:(T.d (.dict kvs)).vw=.ls ts):False:=by
 have e:vC kvs=.ls ts:=e;unfold vC at e;cases h:JD kvs with|none=>rw[h]at e;cases e|some b=>rw[h]at e;cases e
theorem rL(e:(T.d (.dict kvs)).vw=.tp ts):False:=by
 have e:vC kvs=.tp ts:=e;unfold vC at e;cases h:JD kvs with|none=>rw[h]at e;cases e|some b=>rw[h]at e;cases e
theorem Tr.ls(f:Same F H)(h:Tr K F H st v t S)(e:t.vw=.ls ts):∃a vs S',v=.ref a/\FC K H a vs/\Trs K F H false vs ts S'/\∀b,S' b->S b:=by
 cases h with
 |d r n =>
  cases r with|lst q r=>injection e with e;subst e;exact⟨_,_,_,rfl,f.seq q,Trs.of_reps r,λb hb=>hb.elim⟩|dct _ _ _=>exact(aH e).elim|_=>cases e
 |lst h _ r n q=>injection e with e;subst e;exact⟨_,_,_,rfl,FC.of h,r.weak,λb hb=>(q b).mpr (.inr hb)⟩|tup=>cases e|dct=>cases e|lstF h r n=>injection e with e;subst e;exact⟨_,_,_,rfl,f.seq h,Trs.of_reps r,λb hb=>hb.elim⟩
theorem Tr.tp(f:Same F H)(h:Tr K F H st v t S)(e:t.vw=.tp ts):∃a vs S',v=.ref a/\xD K H a vs/\Trs K F H false vs ts S'/\∀b,S' b->S b:=by
 cases h with
 |d r n =>
  cases r with|tup q r=>injection e with e;subst e;exact⟨_,_,_,rfl,f.tupl q,Trs.of_reps r,λb hb=>hb.elim⟩|dct _ _ _=>exact(rL e).elim|_=>cases e
 |tup h _ r n q=>injection e with e;subst e;exact⟨_,_,_,rfl,xD.of h,r.weak,λb hb=>(q b).mpr (.inr hb)⟩|lst=>cases e|lstF=>cases e|dct=>cases e
theorem mX{u:Bool}{o:HO}(h:uK K H u o ks vs)(e:JD (ks.zip ds)=some b):u=b:=by
 cases ks with
 |nil=>cases e|cons k ks =>
  cases ds with
  |nil=>cases e|cons d ds =>
   cases u with
   |true =>
    obtain⟨m,kvs,_,y,_,g,_⟩:=h;cases kvs with
    |nil=>cases y|cons p r =>
     have a:=(g p QF).1;obtain⟨f,n,j⟩:=p;cases f with|s x=>cases a|t l=>rw[QW]at y;injection y with y _;subst y;injection e
   |false =>
    rcases h with⟨kvs,_,_,y,_⟩| ⟨_,_,y,_⟩
    rotate_left
    cases y;cases kvs with
    |nil=>cases y|cons p r =>
     rw[QW]at y;injection y with y _;subst y;obtain⟨k,v⟩:=p;cases k with|inl i=>cases e|inr z=>injection e
theorem Tr.dc(f:Same F H)(h:Tr K F H st v t S)(e:t.vw=.dc b ks ts):∃a o vs S',v=.ref a/\H a=some o/\uK K F b o ks vs/\Trs K F H false vs ts S'/\(∀b,S' b->S b)/\∀w c,Same F w->Same w c->(∀b,S b->c b=H b)->c a=some o:=by
 cases h with
 |d r n =>
  cases r with
  |@dct X a o y l ds h q r =>
   have hl:y.length=ds.length:=by rw[q.len,Reps.length r]
   have g:(y.zip ds).map (λx=>x.1)=y:=Wr (wx hl);have u:(y.zip ds).map (λx=>x.2)=ds:=WD (wx hl.symm);have e:vC (y.zip ds)=.dc b ks ts:=e;unfold vC at e;cases z:JD (y.zip ds) with
   |none=>rw[z]at e;cases e|some p =>
    rw[z]at e;injection e with z1 z2 z3;subst z1;rw[g]at z2;subst z2;have m:ts=ds.map T.d:=by have j:=congrArg (List.map T.d) u;rw[QY]at j;rw[<- z3,<- j];rfl
    subst m;cases mX q z;exact⟨_,_,_,_,rfl,f _ _ h,q,Trs.of_reps r,λb hb=>hb.elim,λw c g u _=>u _ _ (g _ _ h)⟩
  |_=>cases e
 |dct h q _ r n s=>injection e with z1 z2 z3;subst z1 z2 z3;exact⟨_,_,_,_,rfl,h,q,r.weak,λb hb=>(s b).mpr (.inr hb),λw c _ _ k=>(k _ ((s _).mpr (.inl rfl))).trans h⟩|lst=>cases e|tup=>cases e|lstF=>cases e
theorem Tr.sc{x:D}(h:Tr K F H st v t S)(e:t.vw=.sc x):t=.d x/\Rep K F v x:=by
 cases h with
 |@d _ _ y _ r n =>
  cases y with
  |list ds=>cases e|tuple ds=>cases e|dict ds =>
   have e:vC ds=.sc x:=e;unfold vC at e;cases z:JD ds with|none=>rw[z]at e;injection e with e;subst e;exact⟨rfl,r⟩|some b=>rw[z]at e;cases e
  |_=>injection e with e;subst e;exact⟨rfl,r⟩
 |tup=>cases e|lst=>cases e|lstF=>cases e|dct=>cases e
theorem Tr.int(h:Tr K F H st v t S)(e:t.vw=.sc (.int i)):v=.int i:=by obtain⟨_,r⟩:=h.sc e;cases r;rfl
theorem Tr.str{i:Str}(h:Tr K F H st v t S)(e:t.vw=.sc (.str i)):v=.str i:=by obtain⟨_,r⟩:=h.sc e;cases r;rfl
theorem Tr.bool{i:Bool}(h:Tr K F H st v t S)(e:t.vw=.sc (.bool i)):v=.bl i:=by obtain⟨_,r⟩:=h.sc e;cases r;rfl
end
end
def Sl.t:Sl->T
 | .own t=>t|.ky t=>t
def Sl.st:Sl->Bool
 | .own _=>true|.ky _=>false
noncomputable abbrev Ft:=Nat->Addr->Prop
structure Rl(K:QA)(F H:Hp)(S:Ft)(ρ:zA)(σ:St):Prop where
 fh:Same F H
 len:ρ.length=σ.length
 sl:∀(i:Nat) s,ρ[i]?=some (some s)->∃v,σ[i]?=some (some v)/\Tr K F H s.st v s.t (S i)
 dj:∀(i j:Nat) t s,i≠j->ρ[i]?=some (some (.own t))->ρ[j]?=some (some s)->∀b,S i b->¬ S j b
def U(ρ:zA)(S:Ft)(b:Addr):Prop:=∃(i:Nat) (t:T),ρ[i]?=some (some (.own t))/\S i b
structure Stp(F H:Hp)(S:Ft)(ρ:zA)(F' H':Hp)(S':Ft)(ρ':zA):Prop where
 ff:Same F F'
 hh:∀b u,H b=some u->¬ U ρ S b->H' b=some u
 dm:∀b,H' b=none->H b=none
 fn:∀b,F b=none->F' b≠none->U ρ S b∨H b=none
 uu:∀b,U ρ' S' b->U ρ S b∨H b=none
 bo:∀(j:Nat) t,ρ'[j]?=some (some (.ky t))->t.isD=false->ρ[j]?=some (some (.ky t))/\S' j=S j
structure Ste(F H:Hp)(S:Ft)(ρ:zA)(F' H':Hp)(S':Ft)(ρ':zA):Prop extends Stp F H S ρ F' H' S' ρ' where
 ow:∀(j:Nat) t,ρ'[j]?=some (some (.own t))->∃t0,ρ[j]?=some (some (.own t0))
section
variable{K:QA}{F H X m B E:Hp}{S S1 C:Ft}{ρ l A:zA}{σ:St}
section
variable{v:V}{t:T}{Z W:bB}{i:Nat}{s:Sl}{b p:Addr}{vs:LN}{g:Hp}{c:Ft}{y:zA}{n:Bool}
theorem Stp.refl:Stp F H S ρ F H S ρ:=⟨.refl _,λ_ _ h _=>h,λ_ h=>h,λb h z=>absurd h z,λ_ h=>.inl h,λ_ _ h _=>⟨h,rfl⟩⟩
theorem Ste.refl:Ste F H S ρ F H S ρ:=⟨Stp.refl,λ_ t h=>⟨t,h⟩⟩
theorem Stp.trans(a:Stp F H S ρ X m S1 l)(b:Stp X m S1 l B E C A):Stp F H S ρ B E C A where
 ff:=a.ff.trans b.ff
 hh:=λx u h n=>b.hh x u (a.hh x u h n) λz=>by rcases a.uu x z with q|q;exact n q;rw[q]at h;cases h
 dm:=λx h=>a.dm x (b.dm x h)
 fn:=λx h z=>by
  by_cases q:X x=none;rcases b.fn x q z with w|w
  ·exact a.uu x w
  exact .inr (a.dm x w);exact a.fn x h q
 uu:=λx h=>by rcases b.uu x h with w|w;exact a.uu x w;exact .inr (a.dm x w)
 bo:=λj t h n=>by obtain⟨o,f⟩:=b.bo j t h n;obtain⟨e,k⟩:=a.bo j t o n;exact⟨e,f.trans k⟩
theorem Ste.trans(a:Ste F H S ρ X m S1 l)(b:Ste X m S1 l B E C A):Ste F H S ρ B E C A:=⟨a.toStp.trans b.toStp,λj t h=>by obtain⟨x,z⟩:=b.ow j t h;exact a.ow j x z⟩
theorem Stp.keep(s:Stp F H S ρ X m S1 l){st:Bool}(h:Tr K F H st v t Z)(n:∀b,Z b->¬ U ρ S b):Tr K X m st v t Z :=
 h.mono s.ff λb hb=>by
  obtain⟨x,w⟩:=h.dom b hb;refine⟨?_,?_⟩;cases e:H b with|none=>exact absurd e x|some u=>exact s.hh b u e (n b hb)
  by_cases q:X b=none
  ·exact q
  rcases s.fn b w q with z|z
  ·exact absurd z (n b hb)
  exact absurd z x
theorem Rl.dom(I:Rl K F H S ρ σ)(h:ρ[i]?=some (some s))(hb:S i b):H b≠none/\F b=none:=by obtain⟨v,_,r⟩:=I.sl i s h;exact r.dom b hb
theorem Rl.isD(I:Rl K F H S ρ σ)(h:ρ[i]?=some (some s))(x:s.t.isD=true):¬ S i b:=by
 obtain⟨v,_,r⟩:=I.sl i s h;generalize s.t=t at r x;generalize s.st=st at r;cases r with|d r n=>exact n b|_=>cases x
structure Held(F H:Hp)(S:Ft)(ρ:zA)(Z:bB):Prop where
 dom:∀b,Z b->H b≠none/\F b=none
 nw:∀(i:Nat) s,ρ[i]?=some (some s)->∀b,Z b->¬ S i b
theorem Held.nu(h:Held F H S ρ Z):∀b,Z b->¬ U ρ S b:=λb hb ⟨i,t,z,x⟩=>h.nw i _ z b hb x
theorem Held.step(h:Held F H S ρ Z)(s:Stp F H S ρ X m S1 l)(j:Rl K X m S1 l σ):Held X m S1 l Z where
 dom:=λb hb=>by
  obtain⟨u,k⟩:=h.dom b hb;refine⟨λz=>u (s.dm b z),?_⟩;by_cases q:X b=none;exact q;rcases s.fn b k q with z|z
  ·exact absurd z (h.nu b hb)
  exact absurd z u
 nw:=λi w e b hb z=>by
  cases w with
  |own t=>rcases s.uu b ⟨i,t,e,z⟩ with q|q;exact h.nu b hb q;exact(h.dom b hb).1 q
  |ky t =>
   cases x:t.isD with|true=>exact j.isD e x z|false=>obtain⟨f,a⟩:=s.bo i t e x;rw[a]at z;exact h.nw i _ f b hb z
theorem Held.none:Held F H S ρ λ_=>False:=⟨λ_ z=>z.elim,λ_ _ _ _ z=>z.elim⟩
theorem Held.or{Y:bB}(a:Held F H S ρ Z)(b:Held F H S ρ Y):Held F H S ρ λx=>Z x∨Y x:=⟨λx h=>h.elim (a.dom x) (b.dom x),λi s e x h=>h.elim (a.nw i s e x) (b.nw i s e x)⟩
def FI(F H:Hp)(W:bB):Hp:=open Classical in λb=>if W b then H b else F b
theorem DI(h:W b):FI F H W b=H b:=if_pos h
theorem mC(h:¬ W b):FI F H W b=F b:=if_neg h
theorem RG(h:∀b,W b->F b=none):Same F (FI F H W):=λb u e=>by rw[mC λz=>by rw[h b z]at e;cases e];exact e
theorem Mb(f:Same F H):Same (FI F H W) H:=λb u e=>by by_cases hb:W b;rw[DI hb]at e;exact e;rw[mC hb]at e;exact f b u e
theorem Rl.frz(I:Rl K F H S ρ σ){W:bB}(h:Held F H S ρ W):Rl K (FI F H W) H S ρ σ where
 fh:=Mb I.fh
 len:=I.len
 sl:=λi s e=>by obtain⟨v,u,x⟩:=I.sl i s e;refine⟨v,u,x.mono (RG λb hb=>(h.dom b hb).2) λb hb=>⟨rfl,?_⟩⟩;rw[mC λz=>h.nw i s e b z hb];exact(x.dom b hb).2
 dj:=I.dj
theorem Stp.frz(s:Stp F H S ρ X m S1 l){W:bB}(x:∀b,W b->X b=none)(fr:∀b,W b->H b=none∨U ρ S b):Stp F H S ρ (FI X m W) m S1 l :=
 ⟨s.ff.trans (RG x),s.hh,s.dm,λb h z=>by by_cases q:W b;exact(fr b q).symm;rw[mC q]at z;exact s.fn b h z,s.uu,s.bo⟩
theorem Ste.frz(s:Ste F H S ρ X m S1 l){W:bB}(h:∀b,W b->X b=none)(fr:∀b,W b->H b=none∨U ρ S b):Ste F H S ρ (FI X m W) m S1 l:=⟨s.toStp.frz h fr,s.ow⟩
theorem Stp.new(s:Stp F H S ρ X m S1 l){p:Addr}(h:m p=none)(o:HO):Stp F H S ρ X (BA m p o) S1 l :=
 ⟨s.ff,λb u e n=>HB h b u (s.hh b u e n),λb e=>by by_cases hb:b=p;rw[hb,aA]at e;cases e;rw[kA hb]at e;exact s.dm b e,s.fn,s.uu,s.bo⟩
theorem Ste.new(s:Ste F H S ρ X m S1 l){p:Addr}(h:m p=none)(o:HO):Ste F H S ρ X (BA m p o) S1 l:=⟨s.toStp.new h o,s.ow⟩
theorem Rl.same(I:Rl K F H S ρ σ)(h:Same H m):Rl K F m S ρ σ where
 fh:=I.fh.trans h
 len:=I.len
 sl:=λi s e=>by
  obtain⟨v,z,x⟩:=I.sl i s e;refine⟨v,z,x.mono (.refl _) λb hb=>⟨?_,(x.dom b hb).2⟩⟩;cases e:H b with|none=>exact absurd e (x.dom b hb).1|some u=>exact h b u e
 dj:=I.dj
theorem Rl.new(I:Rl K F H S ρ σ){p:Addr}(h:H p=none)(o:HO):Rl K F (BA H p o) S ρ σ:=I.same (HB h)
theorem Stp.newT(s:Stp F H S ρ X m S1 l)(h:m p=none)(u:X p=none)(o:HO):Stp F H S ρ (BA X p o) (BA m p o) S1 l :=
 let x:=s.new h o
 ⟨s.ff.trans (HB u),x.hh,x.dm,λb e z=>by by_cases hb:b=p;rw[hb];exact .inr (s.dm p h);rw[kA hb]at z;exact s.fn b e z,s.uu,s.bo⟩
theorem Ste.newT(s:Ste F H S ρ X m S1 l)(h:m p=none)(x:X p=none)(o:HO):Ste F H S ρ (BA X p o) (BA m p o) S1 l:=⟨s.toStp.newT h x o,s.ow⟩
theorem Rl.newT(I:Rl K F H S ρ σ)(h:H p=none)(o:HO):Rl K (BA F p o) (BA H p o) S ρ σ where
 fh:=λb u e=>by by_cases hb:b=p;rw[hb,aA]at e ⊢;exact e;rw[kA hb]at e ⊢;exact I.fh b u e
 len:=I.len
 sl:=λi s e=>by obtain⟨v,k,x⟩:=I.sl i s e;refine⟨v,k,x.mono (HB (I.fh.free h)) λb hb=>?_⟩;have w:b≠p:=λz=>(x.dom b hb).1 (by rw[z];exact h);rw[kA w,kA w];exact⟨rfl,(x.dom b hb).2⟩
 dj:=I.dj
theorem bZ(ρ:zA)(i:Nat):(lockA ρ)[i]?=ρ[i]?.map uC:=by unfold lockA;rw[QT]
theorem rB{ρ:zA}(h:(lockA ρ)[i]?=some (some s)):∃x,ρ[i]?=some (some x)/\s=.ky x.t:=by
 rw[bZ]at h;cases e:ρ[i]? with
 |none=>rw[e]at h;cases h|some o =>
  rw[e]at h;cases o with
  |none=>cases h|some x =>
   cases x with|own t=>injection h with h;injection h with h;subst h;exact⟨_,rfl,rfl⟩|ky t=>injection h with h;injection h with h;subst h;exact⟨_,rfl,rfl⟩
theorem CC(b:Addr):¬ U (lockA ρ) S b:=λ⟨i,t,h,_⟩=>by obtain⟨x,_,e⟩:=rB h;cases e
theorem Rl.lockA(I:Rl K F H S ρ σ):Rl K F H S (lockA ρ) σ where
 fh:=I.fh
 len:=by unfold L3.lockA;rw[QD];exact I.len
 sl:=λi s e=>by obtain⟨x,h,rfl⟩:=rB e;obtain⟨v,u,z⟩:=I.sl i x h;exact⟨v,u,z.weak⟩
 dj:=λi j t s _ h=>by obtain⟨x,_,e⟩:=rB h;cases e
theorem Stp.unlockA(s:Stp F H S (L3.lockA ρ) X m S1 l):Stp F H S ρ X m S ρ :=
 ⟨s.ff,λb u e _=>s.hh b u e (CC b),s.dm,λb h z=>(s.fn b h z).elim (λq=>absurd q (CC b)) .inr,λ_ h=>.inl h,λ_ _ h _=>⟨h,rfl⟩⟩
theorem Rl.unlockA(I:Rl K F H S ρ σ)(s:Stp F H S (L3.lockA ρ) X m S1 l)(f:Same X m):Rl K X m S ρ σ where
 fh:=f
 len:=I.len
 sl:=λi sl e=>by obtain⟨v,x,h⟩:=I.sl i sl e;exact⟨v,x,s.keep h λb _=>CC b⟩
 dj:=I.dj
structure VR(K:QA)(vs:LN)(g:Hp)(c:Ft)(y:zA)(F H:Hp)(S:Ft)(ρ:zA)(v:V)(t:T)(n:Bool)(Z:bB):Prop where
 tr:Tr K F H n v t Z
 fr:n=true->∀b,Z b->g b=none∨U y c b
 tm:n=false->∀b,Z b->∃(i:Nat) (s:Sl),i∈vs/\ρ[i]?=some (some s)/\S i b
 nw:n=true->∀(i:Nat) s,ρ[i]?=some (some s)->∀b,Z b->¬ S i b
theorem VR.d{vs:LN}{g:Hp}{c:Ft}{y:zA}{v:V}{x:D}(n:Bool)(r:Rep K F v x):VR K vs g c y F H S ρ v (.d x) n (λ_=>False) :=
 ⟨.d r λ_ z=>z,λ_ _ z=>z.elim,λ_ _ z=>z.elim,λ_ _ _ _ _ z=>z.elim⟩
theorem VR.held(h:VR K vs g c y F H S ρ v t true Z):Held F H S ρ Z:=⟨λb hb=>h.tr.dom b hb,h.nw rfl⟩
theorem VR.vars{ws:LN}(h:VR K vs g c y F H S ρ v t n Z)(k:∀i∈vs,i∈ws):VR K ws g c y F H S ρ v t n Z :=
 ⟨h.tr,h.fr,λe b hb=>let⟨i,s,z,x⟩:=h.tm e b hb;⟨i,s,k i z,x⟩,h.nw⟩
theorem VR.from(s:Stp F H S ρ X m S1 l)(h:VR K vs m S1 l B E C A v t n Z):VR K vs H S ρ B E C A v t n Z :=
 ⟨h.tr,λe b hb=>by rcases h.fr e b hb with q|q;exact .inl (s.dm b q);exact(s.uu b q).symm,h.tm,h.nw⟩
theorem VR.frz{vs:LN}{v:V}{t:T}{n:Bool}{Z:bB}(s:Ste F H S ρ X m S1 l)(I:Rl K X m S1 l σ)(h:VR K vs H S ρ X m S1 l v t n Z) :
  ∃B o,Ste F H S ρ B m S1 l/\Rl K B m S1 l σ/\Tr K B m false v (rA t n) o/\(MH t n=true->Rep K B v t.er)/\(∀b,o b->∃(i:Nat) (s:Sl),i∈vs/\l[i]?=some (some s)/\S1 i b) /\
   ∀st a t' k,Tr K X m st a t' k->(∀b,k b->∃(i:Nat) (s:Sl),l[i]?=some (some s)/\S1 i b)->Tr K B m st a t' k:=by
 cases n with
 |true =>
  have w:=h.held;have j:=RG (H:=m) λb hb=>(w.dom b hb).2;have f:=h.tr.kept j λb u hb e=>by rw[DI hb];exact e
  refine⟨FI X m Z,λ_=>False,s.frz (λb hb=>(w.dom b hb).2) (h.fr rfl),I.frz w,.d f λ_ z=>z,λ_=>f,λb z=>z.elim,λst a t' k r G=>r.mono j λb hb=>⟨rfl,?_⟩⟩;obtain⟨i,Y,L,J⟩:=G b hb;rw[mC λz=>w.nw i Y L b z J];exact(r.dom b hb).2
 |false =>
  refine⟨X,Z,s,I,h.tr,?_,h.tm rfl,λ_ _ _ _ r _=>r⟩;intro e;have q:=h.tr;cases t with
  |d x=>cases q with|d r n=>exact r
  |_=>cases e
end
end
noncomputable abbrev kB(K:QA)(vs:LN)(F H:Hp)(S:Ft)(ρ:zA)(σ:St)(Q:TK)(R:VK):Prop :=
 ∀v z x y h t n Z,Ste F H S ρ z x y h->Rl K z x y h σ->VR K vs H S ρ z x y h v t n Z->Q t n h->R v x
noncomputable abbrev sH(K:QA)(F H:Hp)(S:Ft)(ρ:zA)(σ:St)(Q:Bool->zA->Prop)(R:Bool->Hp->Prop):Prop :=
 ∀b z x y h,Ste F H S ρ z x y h->Rl K z x y h σ->Q b h->R b x
section
variable{K:QA}{ws:LN}{F H B A:Hp}{S S1:Ft}{ρ Y:zA}{σ:St}{v w:V}{a b:T}{J G:bB}{Q:TK}{R:VK}{E C:Bool}
section
variable{X o:Hp}{m:Ft}{u:zA}{p:Addr}{vs:LV}{ds:List D}
theorem kB.from(k:kB K ws F H S ρ σ Q R)(s:Ste F H S ρ X o m u):kB K ws X o m u σ Q R:=λv f e y h t n Z x z r q=>k v f e y h t n Z (s.trans x) z (r.from s.toStp) q
theorem sH.from{Q:Bool->zA->Prop}{R:Bool->Hp->Prop}(k:sH K F H S ρ σ Q R)(s:Ste F H S ρ X o m u):sH K X o m u σ Q R:=λb f e y h x z q=>k b f e y h (s.trans x) z q
theorem kB.vars{us:LN}(k:kB K ws F H S ρ σ Q R)(h:∀i∈us,i∈ws):kB K us F H S ρ σ Q R:=λv e z y x t n Z s I r q=>k v e z y x t n Z s I (r.vars h) q
theorem kB.d(k:kB K ws F H S ρ σ Q R)(s:Ste F H S ρ B A S1 Y)(I:Rl K B A S1 Y σ){x:D}{n:Bool}(r:Rep K B v x)(q:Q (.d x) n Y):R v A:=k v B A S1 Y _ n _ s I (VR.d n r) q
theorem kB.list(k:kB K ws F H S ρ σ Q R)(s:Ste F H S ρ B A S1 Y)(I:Rl K B A S1 Y σ)(x:A p=none){ts:LT}{W:bB}(r:Trs K B A true vs ts W)
  (fr:∀b,W b->H b=none∨U ρ S b) (y:Held B A S1 Y W) (q:Q (.lst ts) true Y):R (.ref p) (BA A p (.lst vs)):=by
 have g:∀b,A b≠none->b≠p:=λb h z=>h (by rw[z];exact x);refine k _ B _ S1 Y _ true (λb=>b=p∨W b) (s.new x _) (I.new x _) ⟨.lst aA (I.fh.free x) (r.mono (.refl _) λb hb=>⟨?_,(y.dom b hb).2⟩) (λz=>(y.dom p z).1 x) (λb=>WT),λ_ b hb=>?_,λz=>(by cases z),λ_ i f e b hb z=>?_⟩ q;rw[kA (g b (y.dom b hb).1)];rcases hb with rfl|hb
 ·exact .inl (s.dm _ x)
 exact fr b hb;rcases hb with rfl|hb
 ·exact(I.dom e z).1 x
 exact y.nw i f e b hb z
theorem kB.listD(k:kB K ws F H S ρ σ Q R)(s:Ste F H S ρ B A S1 Y)(I:Rl K B A S1 Y σ)(h:A p=none)(r:Reps K B vs ds)(q:Q (.lst (ds.map T.d)) true Y):R (.ref p) (BA A p (.lst vs)) :=
 k.list s I h (Trs.of_reps r) (λb z=>z.elim) .none q
theorem kB.tupD(k:kB K ws F H S ρ σ Q R)(s:Ste F H S ρ B A S1 Y)(I:Rl K B A S1 Y σ)(h:A p=none){n:Bool}(r:Reps K B vs ds)(q:Q (.d (.tuple ds)) n Y):R (.ref p) (BA A p (.tup vs)) :=
 kB.d k (s.newT h (I.fh.free h) _) (I.newT h _) (.tup (xD.of aA) (r.mono (HB (I.fh.free h)))) q
theorem kB.tup(k:kB K ws F H S ρ σ Q R)(s:Ste F H S ρ B A S1 Y)(I:Rl K B A S1 Y σ){p:Addr}(x:A p=none){vs:LV}{ts:LT}{W:bB}(r:Trs K B A true vs ts W)
  (fr:∀b,W b->H b=none∨U ρ S b) (y:Held B A S1 Y W) (q:Q (AD ts) true Y):R (.ref p) (BA A p (.tup vs)):=by
 unfold AD at q;cases e:LF ts with
 |some ds=>rw[e]at q;exact k.tupD s I x (r.un e).1 q|none =>
  rw[e]at q;have g:∀b,A b≠none->b≠p:=λb h z=>h (by rw[z];exact x);refine k _ B _ S1 Y _ true (λb=>b=p∨W b) (s.new x _) (I.new x _) ⟨.tup aA (I.fh.free x) (r.mono (.refl _) λb hb=>⟨?_,(y.dom b hb).2⟩) (λz=>(y.dom p z).1 x) (λb=>WT),λ_ b hb=>?_,λz=>(by cases z),λ_ i f e b hb z=>?_⟩ q;rw[kA (g b (y.dom b hb).1)];rcases hb with rfl|hb
  ·exact .inl (s.dm _ x)
  exact fr b hb;rcases hb with rfl|hb
  ·exact(I.dom e z).1 x
  exact y.nw i f e b hb z
theorem Ej{W:Operator}(s:Ste F H S ρ B A S1 Y)(I:Rl K B A S1 Y σ)(Z:Tr K B A E v a J)(r:Tr K B A C w b G)(h:binT W a.vw b.vw λz n=>Q z n Y)(k:kB K ws F H S ρ σ Q R):gc K W v w A R:=by
 have g:∀{i j:Int},a.vw=.sc (.int i)->b.vw=.sc (.int j)->v=.int i/\w=.int j:=λf e=>⟨Z.int f,r.int e⟩
 cases W with
 |Add =>
  rcases h with⟨i,j,f,e,h⟩| ⟨x,y,f,e,h⟩| ⟨P,N,ds,es,f,e,e1,e2,hl,q⟩
  obtain⟨rfl,rfl⟩:=g f e;exact k.d s I (.int _) h;obtain rfl:=Z.str f;obtain rfl:=r.str e;exact⟨h.1,k.d s I (.str _) h.2⟩;obtain⟨p,xs,_,rfl,hp,rp,_⟩:=Z.ls I.fh f;obtain⟨p2,O,_,rfl,hq,rq,_⟩:=r.ls I.fh e;have M:=(rp.un e1).1;have L:=(rq.un e2).1;exact⟨xs,O,hp,hq,by rw[M.length,L.length];exact hl,λl hl=>k.listD s I hl (M.append L) q⟩
 |Sub=>obtain⟨i,j,f,e,h⟩:=h;obtain⟨rfl,rfl⟩:=g f e;exact k.d s I (.int _) h|Mult =>
  rcases h with⟨i,j,f,e,h⟩| ⟨x,y,f,e,h⟩
  obtain⟨rfl,rfl⟩:=g f e;exact⟨h.1,k.d s I (.int _) h.2⟩;obtain rfl:=Z.str f;obtain rfl:=r.int e;exact⟨h.1,k.d s I (.str _) h.2⟩
 |FloorDiv=>obtain⟨i,j,f,e,h⟩:=h;obtain⟨rfl,rfl⟩:=g f e;exact⟨h.1,k.d s I (.int _) h.2⟩|Mod=>obtain⟨i,j,f,e,h⟩:=h;obtain⟨rfl,rfl⟩:=g f e;exact⟨h.1,k.d s I (.int _) h.2⟩|_=>exact h.elim
theorem Xe{x y:D}{r:Bool->Prop}(neg:Bool)(e:Rep K A v x)(z:Rep K A w y)(h:vr x y λk=>r (if neg then !k else k))(k:∀c,r c->R (.bl c) A):rEq K neg v w A R:=by
 have n:vF x/\vF y/\r (if neg then !PyData.eqv x y else Qw x y)->(∃l f,Rep K A v l/\Rep K A w f/\vF l/\vF f/\R (.bl (if neg then !PyData.eqv l f else Qw l f)) A):=λ⟨Z,s,q⟩ =>
  ⟨x,y,e,z,Z,s,k _ q⟩
 unfold vr at h;split at h;cases e;cases z;exact k _ h;cases e;cases z;exact k _ h;cases e;cases z;exact k _ h;have g:=n h;rename_i n1 n2 n3;cases e with
 |int i =>
  cases z with|int j=>exact absurd rfl (n1 i j rfl)|_=>exact g
 |str i =>
  cases z with|str j=>exact absurd rfl (n2 i j rfl)|_=>exact g
 |bl i =>
  cases z with|bl j=>exact absurd rfl (n3 i j rfl)|_=>exact g
 |_=>exact g
theorem F6{F:Hp}{v w:V}{a b:D}(x:Rep K F v a)(h:Rep K F w b)(z:LB a=true)(y:LB b=true):Pb v w=Qw a b:=by cases x<;>cases h<;>first|exact absurd (show false=true from z) QG|exact absurd (show false=true from y) QG | (simp only[Qw];rfl) | (simp only[Qw])
theorem CV{F:Hp}{v:V}{a:D}(h:Rep K F v a)(x:LB a=true):dG v=true:=by cases h<;>first|rfl|exact absurd (show false=true from x) QG
theorem SS{F:Hp}(h:Reps K F vs ds)(f:ds.all LB=true):vs.all dG=true :=
 Reps.ind (R:=λvs ds=>ds.all LB=true->vs.all dG=true) (λ_=>rfl) (λh x f=>by rw[qa,Qc]at f ⊢;exact⟨CV h f.1,x f.2⟩) h f
theorem CM{F:Hp}{v:V}{a:D}(x:Rep K F v a)(z:LB a=true):∀{vs:LV}{ds:List D},Reps K F vs ds->ds.all LB=true->inV v vs=ds.any λy=>Qw y a
 |_,_,.nil,_=>rfl|_,_,.cons h t,f=>by rw[qa,Qc]at f;have e:=CM x z t f.2;unfold inV at e ⊢;rw[w4,w4,F6 h x f.1 z,e]
end
mutual
theorem GW{F:Hp}:∀{k:NK}{v:V},Rep K F v (tD k)->Lk K F k v
 | .s x,v,h=>by have h:Rep K F v (.str x):=h;cases h;rfl|.t ks,v,h=>by
  have h:Rep K F v (.tuple (tDs ks)):=h;cases h with|tup z y=>exact⟨_,_,rfl,z,reps_key y⟩
theorem reps_key{F:Hp}:∀{ks:List NK}{vs:LV},Reps K F vs (tDs ks)->KyVs K F ks vs
 |[],vs,h=>by have h:Reps K F vs []:=h;cases h;rfl|k::ks,vs,h=>by
  have h:Reps K F vs (tD k::tDs ks):=h;cases h with|cons h t=>exact⟨_,_,rfl,GW h,reps_key t⟩
end
section
variable{k x y:D}{o:HO}{ks ds:List D}{vs xs:LV}{u:Bool->Prop}{j:CmpOp}{X:Bool->Hp->Prop}{n:String}{Y:bB}{ts:LT}
theorem sQ{F:Hp}{v:V}(hk:HD true k)(r:Rep K F v k):∃q p,k=tD q/\v=.ref p/\SN K F p q:=by obtain⟨q,rfl,h⟩:=hk;have r:=GW r;obtain⟨p,_,rfl,_⟩:=id r;exact⟨_,p,rfl,rfl,r,h⟩
theorem BG(q:NK):∀(kvs:List KE),jH kvs q=(bA (kvs.map λp=>tD p.1) (tD q)).bind λn=>(kvs.map (·.2.2))[n]?
 |[]=>rfl|p::r=>by rw[QW,QW];unfold bA;by_cases e:p.1=q;rw[gR e,if_pos (by rw[e])];rfl;rw[lR e,if_neg λz=>e (iU z),BG q r];cases bA (r.map λp=>tD p.1) (tD q)<;>rfl
theorem sJ(q:Key):∀(kvs:List (Key×V)),eL kvs q=(bA (kvs.map λp=>kD p.1) (kD q)).bind λn=>(kvs.map (·.2))[n]?
 |[]=>rfl|p::r=>by rw[QW,QW];unfold bA;by_cases e:p.1=q;rw[tL e,if_pos (by rw[e])];rfl;rw[aL e,if_neg λz=>e (z6 z),sJ q r];cases bA (r.map λp=>kD p.1) (kD q)<;>rfl
theorem uK.get{a:Addr}{b:Bool}(v:H1 a=some o)(q:uK K H1 b o ks vs)(f:Rep K H1 w k)(hk:HD b k):jR K H1 a w ((bA ks k).bind λn=>vs[n]?):=by
 cases b with
 |true=>obtain⟨e,h,rfl,rfl,rfl,i,_⟩:=q;obtain⟨q,p,rfl,rfl,g⟩:=sQ hk f;exact⟨e,h,q,v,i,g,(BG q h).symm⟩|false =>
  obtain⟨z,rfl⟩:=hk;cases f;rcases q with⟨h,_,rfl,rfl,rfl,_⟩| ⟨e,rfl,rfl,rfl⟩
  exact .inl ⟨h,v,(sJ (.inr z) h).symm⟩;exact .inr ⟨e,v,rfl⟩
theorem AS{b:Bool}(q:uK K H1 b o ks vs):((bA ks k).bind λn=>vs[n]?).isSome=(bA ks k).isSome:=by
 cases e:bA ks k with
 |none=>rfl|some n =>
  have z:=(Qg.mp (PC e)).1;have h:n<vs.length:=by rw[<- q.len];exact z
  simp[h]
theorem iV{b neg:Bool}{a:Addr}(w:H1 a=some o)(q:uK K H1 b o ks vs)(z:Rep K H1 v x)(hk:HD b x)(h:R (.bl (if neg then !(bA ks x).isSome else(bA ks x).isSome)) H1):MR K neg v (.ref a) H1 R :=
 .inr (.inr ⟨_,q.get w z hk,by rw[AS q];exact h⟩)
theorem fe(neg:Bool)(z:Rep K H1 v x)(f:Rep K H1 w y)(h:jr x y λk=>u (if neg then !k else k))(k:∀c,u c->R (.bl c) H1):MR K neg v w H1 R:=by
 unfold jr at h;split at h;cases z;cases f;exact k _ h;rename_i ds;have e:=f;cases f with
 |lst p g =>
  rcases h.1 with⟨i,fs⟩| ⟨m,l⟩
  refine .inl ⟨_,_,rfl,.inl p,CV z i,SS g fs,?_⟩;rw[CM z i g fs];exact k _ h.2;exact .inr (.inl ⟨_,ds,z,.inl e,m,l,k _ h.2⟩)
 rename_i ds;have e:=f;cases f with
 |tup p g =>
  rcases h.1 with⟨i,fs⟩| ⟨m,l⟩
  refine .inl ⟨_,_,rfl,.inr p,CV z i,SS g fs,?_⟩;rw[CM z i g fs];exact k _ h.2;exact .inr (.inl ⟨_,ds,z,.inr e,m,l,k _ h.2⟩)
 obtain⟨b,s,hk,q⟩:=h;cases f with
 |@dct Z a o ks vs ds h dk r =>
  have hl:ks.length=ds.length:=by rw[dk.len,Reps.length r]
  rw[Wr (wx hl)]at q;cases mX dk s;exact iV h dk z hk (k _ q)
 exact h.elim
theorem DP{g:Int->Int->Bool}(a:Rep K H1 v x)(z:Rep K H1 w y)(h:DY g x y u)(k:∀c,u c->R (.bl c) H1):ZY g v w H1 R:=by unfold DY at h;split at h;cases a;cases z;exact k _ h;exact h.elim
theorem Rep.non_iff(h:Rep K H1 v x):decide (v=.non)=n6 x:=by cases h<;>rfl
theorem PV(a:Rep K H1 v x)(z:Rep K H1 w y)(h:bT j x y u)(k:∀c,u c->R (.bl c) H1):u7 K j v w H1 R:=by
 cases j with|Eq=>exact Xe false a z h k|NotEq=>exact Xe true a z h k|Lt=>exact DP a z h k|LtE=>exact DP a z h k|Gt=>exact DP a z h k|GtE=>exact DP a z h k|In=>exact fe false a z h k|NotIn=>exact fe true a z h k|Is=>have b:nZ x y u:=h;unfold nZ at b;split at b;cases z;have e:=a.non_iff;show R (.bl (decide (v=.non))) H1;rw[e];exact k _ b;cases z;cases a;exact⟨_,rfl,k _ b⟩;exact b.elim|IsNot=>have b:nZ x y λk=>u (!k):=h;unfold nZ at b;split at b;cases z;have e:=a.non_iff;show R (.bl (!decide (v=.non))) H1;rw[e];exact k _ b;cases z;cases a;exact⟨_,rfl,k _ b⟩;exact b.elim
theorem Eb(f:Same F1 H1)(z:Rep K H1 v x)(a:Tr K F1 H1 sb w b Zb)(h:Ib j x b u)(k:∀c,u c->R (.bl c) H1):u7 K j v w H1 R:=by
 cases b with
 |d y=>exact PV z (a.rep f) h k|lst ts=>exact PV z (a.rep f) h k|tup ts=>exact PV z (a.rep f) h k|dct b ks ts =>
  obtain⟨hk,h⟩:=h;cases a with
  |dct e dk _ _ _ _ =>
   rcases h with⟨rfl,q⟩| ⟨rfl,q⟩
   exact iV (neg:=false) e (dk.mono f) z hk (k _ q);exact iV (neg:=true) e (dk.mono f) z hk (k _ q)
theorem CI(r:Reps K F xs ds):(!ds.isEmpty)=!xs.isEmpty:=by cases r<;>rfl
theorem iW(z:Rep K H1 v x)(h:kI x u)(k:∀c,u c->X c H1):DF K v H1 X:=by
 unfold kI at h;split at h;cases z;exact k _ h;cases z;exact k _ h;cases z;exact k _ h;cases z;exact⟨h.1,k _ h.2⟩;cases z with|lst a w=>rw[CI w]at h;exact⟨_,.inl ⟨_,a,rfl⟩,k _ h⟩
 cases z with|tup a w=>rw[CI w]at h;exact⟨_,.inr (.inl ⟨_,a,rfl⟩),k _ h⟩
 exact h.elim
theorem Z7(z:Rep K H1 v x)(h:Yk x u)(k:∀c,u c->X c H1):K7 v H1 X:=by unfold Yk at h;split at h;cases z;exact k _ h;exact h.elim
theorem cj(s:Ste F H S ρ F1 H1 S1 ρ1)(I:Rl K F1 H1 S1 ρ1 σ)(B:Tr K F1 H1 sa v a Za)(G:∀b,Za b->∃(i:Nat) (s:Sl),i∈ws/\ρ1[i]?=some (some s)/\S1 i b)(A:Tr K F1 H1 sb w b Zb)(h:VN a.vw b.vw λz=>Q z false ρ1)(k:kB K ws F H S ρ σ Q R):KY K v w H1 R:=by
 rcases h with⟨z,i,c,m,l,g,f,q⟩| ⟨ts,i,d,m,l,g,q⟩| ⟨ts,i,d,m,l,g,q⟩
 obtain rfl:=B.str m;obtain rfl:=A.int l;exact⟨g,c,f,k.d s I (.str _) q⟩;obtain⟨p,xs,J,rfl,E,W,C⟩:=B.ls I.fh m;obtain rfl:=A.int l;obtain⟨x,Z,f,r,e⟩:=W.at g;exact⟨xs,x,.inl E,f,k _ F1 H1 S1 ρ1 _ false Z s I ⟨r,λz=>(by cases z),λ_ b hb=>G b (C b (e b hb)),λz=>(by cases z)⟩ q⟩;obtain⟨p,xs,J,rfl,E,W,C⟩:=B.tp I.fh m;obtain rfl:=A.int l;obtain⟨x,Z,f,r,e⟩:=W.at g;exact⟨xs,x,.inr E,f,k _ F1 H1 S1 ρ1 _ false Z s I ⟨r,λz=>(by cases z),λ_ b hb=>G b (C b (e b hb)),λz=>(by cases z)⟩ q⟩
theorem Bj(s:Ste F H S ρ F1 H1 S1 ρ1)(I:Rl K F1 H1 S1 ρ1 σ)(W:Tr K F1 H1 sa v a Za)(f:∀b,Za b->∃(i:Nat) (s:Sl),i∈ws/\ρ1[i]?=some (some s)/\S1 i b)(m:Rep K H1 w y)(h:jT a.vw y λz=>Q z false ρ1)(k:kB K ws F H S ρ σ Q R):KY K v w H1 R:=by
 obtain⟨b,ks,ts,n,d,J,hk,E,B,q⟩:=h;obtain⟨p,o,vs,L,rfl,C,dk,l,A,_⟩:=W.dc I.fh J;obtain⟨x,Z,G,r,e⟩:=l.get B;have g:=(dk.mono I.fh).get C m hk;rw[E]at g;have g:jR K H1 p w (vs[n]?):=g;rw[G]at g;have fin:=k _ F1 H1 S1 ρ1 _ false Z s I ⟨r,λz=>(by cases z),λ_ b hb=>f b (A b (e b hb)),λz=>(by cases z)⟩ q;cases w with|str z=>exact⟨x,g,fin⟩|ref c=>exact⟨x,g,fin⟩|_=>exact g.elim
theorem Reps.cut(r:Reps K F xs ds)(h z:Option Int):Reps K F (vT xs h z) (gE ds h z):=by unfold vT gE;rw[r.length];exact(r.drop _).take _
theorem Ag{i m:Option Int}(s:Ste F H S ρ F1 H1 S1 ρ1)(I:Rl K F1 H1 S1 ρ1 σ)(f:Tr K F1 H1 sa v a Za)(h:iN a.vw i m λz n=>Q z n ρ1)(k:kB K ws F H S ρ σ Q R):Ms K v i m H1 R:=by
 rcases h with⟨z,w,h⟩| ⟨ts,ds,w,e,q⟩| ⟨ts,ds,w,e,n,q⟩
 obtain rfl:=f.str w;exact⟨h.1,k.d s I (.str _) h.2⟩;obtain⟨p,xs,_,rfl,g,b,_⟩:=f.ls I.fh w;exact .inl ⟨p,xs,rfl,g,λl hl=>k.listD s I hl ((b.un e).1.cut _ _) q⟩;obtain⟨p,xs,_,rfl,g,b,_⟩:=f.tp I.fh w;refine .inr ⟨p,xs,rfl,g,by rw[(b.un e).1.length];exact n,λl hl=>k.tupD s I hl ((b.un e).1.cut _ _) q⟩
theorem G9{P:Option Int->Prop}{z:Option Int->Hp->Prop}(w:Rep K H1 v x)(h:EF x P)(k:∀o,P o->z o H1):xM v H1 z:=by unfold EF at h;split at h;cases w;exact k _ h;exact h.elim
noncomputable def Nq:D->Value
 | .none=>.type "NoneType"|.bool _=>.type "bool"|.int _=>.type "int"|.str _=>.type "str"|.list _=>.type "list"|.tuple _=>.type "tuple"|.dict _=>.type "dict"
theorem Rep.ty(a:Rep K H1 v x):TyOf K H1 v (Nq x)∨Nv K H1 v (Nq x):=by
 cases a with
 |non=>exact .inl .non|bl b=>exact .inl (.bl _)|int b=>exact .inl (.int _)|str b=>exact .inl (.str _)|lst h w=>exact .inr (.inl ⟨_,_,rfl,h,rfl⟩)|tup h w=>exact .inr (.inr ⟨_,_,rfl,h,rfl⟩)|@dct b _ _ _ _ _ h q _ =>
  cases b with
  |true=>obtain⟨e,z,rfl,_⟩:=q;exact .inl (.dT h)|false =>
   rcases q with⟨z,_,rfl,_⟩| ⟨e,rfl,_⟩
   exact .inl (.dK h);exact .inl (.dT h)
theorem Si{k:Bool}(h:isD n x=some k)(z:XO n=true):QBM K (Nq x) (.type n)=some k:=by simp only[XO,wX,beq_iff_eq]at z;rcases z with((((rfl|rfl)|rfl)|rfl)|rfl)|rfl<;>cases x<;>simp[isD]at h<;>subst h<;>rfl
theorem vj{k:Bool}(z:Rep K H1 v x)(h:isD n x=some k)(w:XO n=true)(q:R (.bl k) H1):lh K [v,.ty n] H1 R :=
 ⟨Nq x,.type n,k,z.ty,rfl,Si h w,q⟩
inductive Tn(K:QA)(F H:Hp)(Y:bB):LV->LT->Prop where
 |nil:Tn K F H Y [] []
 |cons {v:V}{t:T}{vs:LV}{ts:LT}{Z:bB}:Tr K F H false v t Z->(∀b,Z b->Y b)->Tn K F H Y vs ts->Tn K F H Y (v::vs) (t::ts)
theorem mL(ts:LT):∀{xs:List (T×Bool)},XN xs=ts->TB xs=ts.map T.vw
 |[],h=>by subst h;rfl|p::r,h=>by subst h;simp only[TB,XN,QW,mL _ rfl]
theorem Tn.one{x:Vw}(h:Tn K F H Y vs ts)(e:ts.map T.vw=[x]):∃v t Z,vs=[v]/\ts=[t]/\t.vw=x/\Tr K F H false v t Z/\∀b,Z b->Y b:=by
 cases h with
 |nil=>cases e|cons r z t =>
  simp only[QW,QAA]at e;cases t with|nil=>exact⟨_,_,_,rfl,rfl,e.1,r,z⟩|cons _ _ _=>simp at e
theorem UJ:∀{xs:LV}{z:LS},Reps K F xs (z.map PyData.str)->xs=z.map V.str
 |_,[],.nil=>rfl|_,y::z,.cons h t=>by cases h;rw[QW,UJ t]
theorem jO:∀(h:LS),Reps K F (h.map V.str) (h.map PyData.str)
 |[]=>.nil|y::h=>.cons (.str y) (jO h)
theorem CS:∀{xs:LV}{z:LJ},Reps K F xs (z.map PyData.int)->xs=z.map V.int
 |_,[],.nil=>rfl|_,y::z,.cons h t=>by cases h;rw[QW,CS t]
theorem UO:∀(h:LJ),Reps K F (h.map V.int) (h.map PyData.int)
 |[]=>.nil|y::h=>.cons (.int y) (UO h)
theorem JY{α:Type}{g:α->D}{w:LV}(A:xs.Perm w):∀{l:List α},Reps K F xs (l.map g)->∃z:List α,z.Perm l/\Reps K F w (z.map g):=by
 induction A with
 |nil=>intro l r;exact⟨l,QBP _,r⟩|cons x _ s =>
  intro l r;cases l with
  |nil=>cases r|cons a l=>cases r with|cons h t=>obtain⟨z,p,v⟩:=s t;exact⟨a::z,p.cons _,.cons h v⟩
 |swap x y E =>
  intro l r;cases l with
  |nil=>cases r|cons a l=>cases l with
   |nil=>cases r with|cons h t=>cases t
   |cons b l=>cases r with
    |cons h t=>cases t with|cons B t=>exact⟨b::a::l,List.Perm.swap _ _ _,.cons B (.cons h t)⟩
 |trans _ _ W Z=>intro l r;obtain⟨C,m,f⟩:=W r;obtain⟨q,i,e⟩:=Z f;exact⟨q,i.trans m,e⟩
theorem KU{ls:List (LS)}(h:Reps K F xs (ls.map IC)):∀x∈xs,∃a,∃v:LS,x=.ref a/\FC K F a (v.map V.str):=by
 induction ls generalizing xs with
 |nil=>cases h;exact λ_ z=>nomatch z
 |cons l ls w =>
  cases h with
  |cons r t =>
   intro x h;rcases QL.mp h with e|h;subst e;cases r with|lst q r=>exact⟨_,l,rfl,by rw[<- UJ r];exact q⟩
   exact w t x h
theorem pk{M:Bi}(s:Ste F H S ρ F1 H1 S1 ρ1)(I:Rl K F1 H1 S1 ρ1 σ)(i:Tn K F1 H1 Y vs ts)(h:CT M (ts.map T.vw) λz n=>Q z n ρ1)(k:kB K ws F H S ρ σ Q R):bq K M vs H1 R:=by
 cases M with
 |len =>
  rcases h with⟨z,e,h⟩| ⟨m,e,h⟩| ⟨m,e,h⟩
  obtain⟨v,t,Z,rfl,rfl,e,r,_⟩:=i.one e;obtain rfl:=r.str e;exact .inl ⟨_,rfl,h.1,k.d s I (.int _) h.2⟩;obtain⟨v,t,Z,rfl,rfl,e,r,_⟩:=i.one e;obtain⟨p,xs,_,rfl,w,f,_⟩:=r.ls I.fh e;exact .inr ⟨_,xs,rfl,.inl w,by rw[f.length];exact k.d s I (.int _) h⟩;obtain⟨v,t,Z,rfl,rfl,e,r,_⟩:=i.one e;obtain⟨p,xs,_,rfl,w,f,_⟩:=r.tp I.fh e;exact .inr ⟨_,xs,rfl,.inr w,by rw[f.length];exact k.d s I (.int _) h⟩
 |any=>obtain⟨m,bs,e,hb,q⟩:=h;obtain⟨v,t,Z,rfl,rfl,e,r,_⟩:=i.one e;obtain⟨p,xs,_,rfl,w,f,_⟩:=r.ls I.fh e;obtain rfl:=(f.un hb).1.bools;exact⟨bs,w,k.d s I (.bl _) q⟩|list =>
  obtain⟨x,m,ds,e,C,hb,q⟩:=h;obtain⟨v,t,Z,rfl,rfl,e,r,_⟩:=i.one e;cases x with|ls m=>cases C;obtain⟨p,xs,_,rfl,w,f,_⟩:=r.ls I.fh e;exact⟨_,xs,rfl,.inl w,λl hl=>k.listD s I hl (f.un hb).1 q⟩|tp m=>cases C;obtain⟨p,xs,_,rfl,w,f,_⟩:=r.tp I.fh e;exact⟨_,xs,rfl,.inr w,λl hl=>k.listD s I hl (f.un hb).1 q⟩|_=>cases C
 |sorted =>
  rcases h with⟨m,E,e,hb,g,q⟩| ⟨m,ls,e,hb,g,q⟩| ⟨m,O,e,hb,g,q⟩
  obtain⟨v,t,Z,rfl,rfl,e,r,_⟩:=i.one e;obtain⟨p,xs,_,rfl,w,f,_⟩:=r.ls I.fh e;obtain rfl:=UJ (f.un hb).1;exact⟨_,rfl,.inl ⟨E,w,g,λl W hl A J=>k.listD s I hl (jO W) (q W A J)⟩⟩;obtain⟨v,t,Z,rfl,rfl,e,r,_⟩:=i.one e;obtain⟨p,xs,_,rfl,w,f,_⟩:=r.ls I.fh e;have G:=(f.un hb).1;refine⟨_,rfl,.inr (.inl ⟨xs,w,by rw[Reps.length G,QD];exact g,λx C=>?_,λl P hl w=>?_⟩)⟩;obtain⟨a,E,e,sq⟩:=KU G x C;exact⟨a,E,e,I.fh.seq sq⟩;obtain⟨L,A,N⟩:=JY w.symm G;exact k.listD s I hl N (q L A);obtain⟨v,t,Z,rfl,rfl,e,r,_⟩:=i.one e;obtain⟨p,xs,_,rfl,w,f,_⟩:=r.ls I.fh e;obtain rfl:=CS (f.un hb).1;exact⟨_,rfl,.inr (.inr ⟨O,w,g,λl B hl A J=>k.listD s I hl (UO B) (q B A J)⟩)⟩
 |tuple=>obtain⟨m,ds,e,hb,q⟩:=h;obtain⟨v,t,Z,rfl,rfl,e,r,_⟩:=i.one e;obtain⟨p,xs,_,rfl,w,f,_⟩:=r.ls I.fh e;exact⟨_,xs,rfl,w,λl hl=>k.tupD s I hl (f.un hb).1 q⟩|int=>obtain⟨b,e,q⟩:=h;obtain⟨v,t,Z,rfl,rfl,e,r,_⟩:=i.one e;obtain rfl:=r.bool e;exact⟨b,rfl,k.d s I (.int _) q⟩
theorem Ui{m:Mt}(s:Ste F H S ρ F1 H1 S1 ρ1)(I:Rl K F1 H1 S1 ρ1 σ)(w:Tr K F1 H1 sa v a Za)(b:Tn K F1 H1 Y vs ts)(h:zt m a.vw (ts.map T.vw) λz n=>Q z n ρ1)(k:kB K ws F H S ρ σ Q R):Ra K m v vs H1 R:=by
 cases m with|_=>exact h.elim
theorem So{x:Vw}(h:x.isS=true):∃z,x=.sc (.str z):=by
 cases x with
 |sc d=>cases d with|str z=>exact⟨z,rfl⟩|_=>exact(QG h).elim
 |_=>exact(QG h).elim
theorem oo{m:Mt}(w:Tr K F1 H1 sa v a Za)(h:Pa m a.vw=true):uY K m.ty v H1:=by
 have h:=yA h;obtain⟨z,b⟩:=So h.1;obtain rfl:=w.str b;cases m with|_=>exact(QG h.2).elim
end
end
inductive AV(K:QA)(F H:Hp):List Md->LV->List (T×Bool)->(Addr->Prop)->(Addr->Prop)->Prop where
 |nil {md:List Md}{W Y:bB}:(∀b,¬ W b)->AV K F H md [] [] W Y
 |chg {md:List Md}{v:V}{vs:LV}{x:T}{xs:List (T×Bool)}{W Y:bB}:(md.headD .xy).isMut=true->AV K F H md.tail vs xs W Y->AV K F H md (v::vs) ((x,true)::xs) W Y
 |new {md:List Md}{v:V}{vs:LV}{x:T}{xs:List (T×Bool)}{Z W W' Y:bB}:(md.headD .xy).isMut=false->Tr K F H true v x Z->AV K F H md.tail vs xs W' Y->(∀b,Z b->¬ W' b)->(∀b,W b↔Z b∨W' b) ->
   AV K F H md (v::vs) ((x,true)::xs) W Y
 |tmp {md:List Md}{v:V}{vs:LV}{x:T}{xs:List (T×Bool)}{Z W Y:bB}:(md.headD .xy).isMut=false->Tr K F H false v x Z->(∀b,Z b->Y b)->AV K F H md.tail vs xs W Y ->
   AV K F H md (v::vs) ((x,false)::xs) W Y
section
variable{K:QA}{F H o l:Hp}{S S1:Ft}{ρ g:zA}{σ:St}
section
variable{Y W:bB}{md:List Md}{vs:LV}{xs:List (T×Bool)}{ws:LN}{c:Hp}{w:Ft}{y:zA}
theorem AV.sub{u:bB}(h:AV K F H md vs xs W Y)(k:∀b,Y b->u b):AV K F H md vs xs W u:=by
 induction h with|nil h=>exact .nil h|chg h t x=>exact .chg h (x k)|new h r t n q x=>exact .new h r (x k) n q|tmp h r z t x=>exact .tmp h r (λb hb=>k b (z b hb)) (x k)
theorem AV.dom(h:AV K F H md vs xs W Y):∀b,W b->H b≠none/\F b=none:=by
 induction h with|nil h=>exact λb hb=>absurd hb (h b)|chg h t x=>exact x|new h r t n q x=>exact λb hb=>((q b).mp hb).elim (r.dom b) (x b)|tmp h r z t x=>exact x
theorem AV.length(h:AV K F H md vs xs W Y):vs.length=xs.length:=by
 induction h with|nil h=>rfl|chg h t x=>simp[x]|new h r t n q x=>simp[x]|tmp h r z t x=>simp[x]
theorem AV.trs(h:AV K F H md vs xs W Y):(∀(i:Nat),(md.getD i .xy).isMut=false)->FE xs=true->Trs K F H true vs (BF xs) W:=by
 induction h with
 |nil h=>exact λ_ _=>.nil h|@chg md _ _ _ _ _ _ h t u =>
  intro m;have:=m 0;cases md with|nil=>cases h|cons a r=>exact absurd h (by simpa using this)
 |@new md v vs x xs Z W k Y h r t n q u =>
  intro m e;simp only[FE,Qc]at e;exact .cons r (u (λi=>by cases md with|nil=>exact m i|cons a md=>exact m (i+1)) e.2) n q
 |@tmp md v vs x xs Z W Y h r z t u =>
  intro m e;simp only[FE,Qc]at e;refine .cons (S1:=λ_=>False) ?_ (u (λi=>by cases md with|nil=>exact m i|cons a md=>exact m (i+1)) e.2) (λ_ z=>z.elim) λb=>by simp
  cases x with
  |d x=>cases r with|d r n=>exact .d r λ_ z=>z
  |_=>exact absurd e.1 (by simp[MH,T.isD])
theorem Yi(i:Nat):((([]:List Md).getD i .xy).isMut)=false:=rfl
theorem AV.tn(h:AV K F H md vs xs W Y)(e:Same F o)(k:∀b,W b->o b=H b)(f:∀b,Y b->F b=none->o b=none)(i:md=[]):Tn K o H Y vs (XN xs):=by
 induction h with|nil h=>exact .nil|chg h t a=>subst i;cases h|@new md v vs x xs Z W m Y h r t n q a=>subst i;refine .cons (Z:=λ_=>False) ?_ (λb z=>z.elim) (a (λb hb=>k b ((q b).mpr (.inr hb))) f rfl);exact .d (r.kept e λb u hb j=>by rw[k b ((q b).mpr (.inl hb))];exact j) λ_ z=>z|@tmp md v vs x xs Z W Y h r z t a=>subst i;exact .cons (r.mono e λb hb=>⟨rfl,f b (z b hb) (r.dom b hb).2⟩) z (a k f rfl)
structure AR(K:QA)(ws:LN)(md:List Md)(c:Hp)(w:Ft)(y:zA)(F H:Hp)(S:Ft)(ρ:zA)(vs:LV)(xs:List (T×Bool))(W Y:bB):Prop where
 av:AV K F H md vs xs W Y
 fr:∀b,W b->c b=none∨U y w b
 tm:∀b,Y b->∃(i:Nat) (s:Sl),i∈ws/\ρ[i]?=some (some s)/\S i b
 nw:∀(i:Nat) s,ρ[i]?=some (some s)->∀b,W b->¬ S i b
theorem AR.held(h:AR K ws md c w y F H S ρ vs xs W Y):Held F H S ρ W:=⟨h.av.dom,h.nw⟩
theorem AR.from{v u:Hp}{z:Ft}{x:zA}(s:Stp F H S ρ o l S1 g)(h:AR K ws md l S1 g v u z x vs xs W Y):AR K ws md H S ρ v u z x vs xs W Y :=
 ⟨h.av,λb hb=>by rcases h.fr b hb with q|q;exact .inl (s.dm b q);exact(s.uu b q).symm,h.tm,h.nw⟩
theorem AR.vars{us:LN}(h:AR K ws md c w y F H S ρ vs xs W Y)(k:∀i∈ws,i∈us):AR K us md c w y F H S ρ vs xs W Y :=
 ⟨h.av,h.fr,λb hb=>let⟨i,s,z,x⟩:=h.tm b hb;⟨i,s,k i z,x⟩,h.nw⟩
theorem AR.frz{ws:LN}{vs:LV}{xs:List (T×Bool)}{W Y:bB}(s:Ste F H S ρ o l S1 g)(I:Rl K o l S1 g σ)(h:AR K ws [] H S ρ o l S1 g vs xs W Y) :
  ∃v,Ste F H S ρ v l S1 g/\Rl K v l S1 g σ/\Tn K v l Y vs (XN xs) /\
   ∀st k t' u,Tr K o l st k t' u->(∀b,u b->∃(i:Nat) (s:Sl),g[i]?=some (some s)/\S1 i b)->Tr K v l st k t' u:=by
 have x:=h.held;have f:=RG (H:=l) λb hb=>(x.dom b hb).2;refine⟨FI o l W,s.frz (λb hb=>(x.dom b hb).2) h.fr,I.frz x,h.av.tn f (λb hb=>DI hb) (λb m n=>?_) rfl,λst k t' u r j=>r.mono f λb hb=>⟨rfl,?_⟩⟩;obtain⟨i,a,_,e,p⟩:=h.tm b m;rw[mC λz=>h.nw i a e b z p];exact n;obtain⟨i,a,q,e⟩:=j b hb;rw[mC λz=>x.nw i a q b z e];exact(r.dom b hb).2
noncomputable def mB:List Md->LV->LV
 |_,[]=>[]|md,v::vs=>match md.headD .xy with
  | .chg=>v::mB md.tail vs|_=>mB md.tail vs
noncomputable abbrev Kq(K:QA)(p:PX)(md:List Md)(F H:Hp)(S:Ft)(ρ:zA)(σ:St)(Q:List (T×Bool)->zA->Prop)(R:LV->Hp->Prop):Prop :=
 ∀vs u x z h xs W Y,Ste F H S ρ u x z h->Rl K u x z h σ->AR K (IG p) md H S ρ u x z h vs xs W Y->(mB md vs).map (λv=>some (some v))=(uA md p).map (λj=>σ[j]?)->Q xs h->R vs x
def dq(K:QA)(F H:Hp)(x:XD)(h:Option Addr):Prop:=∃a fs,h=some a/\H a=some (.xd fs)/\Paired (λ(p:Str×V) (q:Str×D)=>p.1=q.1/\Rep K F p.2 q.2) fs x.2
def SE(K:QA)(F H:Hp)(S:Ft)(ρ:zA)(E:XE)(a:XK):Prop:=∀x v u h k z,Stp F H S ρ u h k z->Same u h->dq K u h x v->E x->a x.1 v h
theorem SE.from{E:XE}{u:XK}(h:SE K F H S ρ E u)(s:Stp F H S ρ o l S1 g):SE K o l S1 g E u:=λx k e b a z v f r q=>h x k e b a z (s.trans v) f r q
theorem SE.never:SE K F H S ρ (λ_=>False) (λ_ _ _=>False):=λ_ _ _ _ _ _ _ _ _ z=>z
inductive ArgsR(K:QA)(F H:Hp)(Y:bB):List Md->LV->LT->Prop where
 |nil {md:List Md}:ArgsR K F H Y md [] []
 |chg {md:List Md}{v:V}{vs:LV}{t:T}{ts:LT}:md.headD .xy=.chg->ArgsR K F H Y md.tail vs ts->ArgsR K F H Y md (v::vs) (t::ts)
 |rd {md:List Md}{v:V}{vs:LV}{t:T}{ts:LT}{Z:bB}:md.headD .xy≠.chg->Tr K F H false v t Z->(∀b,Z b->Y b)->ArgsR K F H Y md.tail vs ts->ArgsR K F H Y md (v::vs) (t::ts)
structure Frm(M:bB)(F H F' H':Hp):Prop where
 ff:Same F F'
 fh:Same F' H'
 hh:∀b u,H b=some u->¬ M b->H' b=some u
 dm:∀b,H' b=none->H b=none
 fn:∀b,F b=none->F' b≠none->M b∨H b=none
noncomputable def lift(K:QA)(P:PSp):Sp:=λvs H Q E=>∃(F:Hp) (u:LT) (M Y:bB),Same F H/\ArgsR K F H Y P.md vs u/\Trs K F H true (mB P.md vs) (DB P.md u) M/\(∀b,Y b->¬ M b) /\
 P.run u (λr e=>∀v z h Z k,Frm M F H z h->Tr K z h true v r Z->Trs K z h true (mB P.md vs) e k->(∀b,Z b->¬ k b)->(∀b,Z b∨k b->M b∨H b=none)->Q v h)
  (λx=>∀a z h,Frm M F H z h->dq K z h x a->E x.1 a h)
structure GOk(K:QA)(Γ:Ev)(Ψ:PEv):Prop where
 sp:∀f vs H Q E,lift K (Ψ.sp f) vs H Q E->Γ.sp f vs H Q E
 va:∀x d,Ψ.va x=some d->∀F,Rep K F (Γ.va x) d
structure PSnd(K:QA)(Γ:Ev)(Ψ:PEv)(p:PX):Prop where
 e:∀{E:XE}{EK:XK}{F H:Hp}{S:Ft}{ρ:zA}{σ:St}{Q:TK}{R:VK},Rl K F H S ρ σ->SE K F H S ρ E EK->(pe Ψ p E).e ρ Q->kB K (IG p) F H S ρ σ Q R->(wp K Γ p EK).e σ H R
 t:∀{E:XE}{EK:XK}{F H:Hp}{S:Ft}{ρ:zA}{σ:St}{Q:Bool->zA->Prop}{R:Bool->Hp->Prop},Rl K F H S ρ σ->SE K F H S ρ E EK->(pe Ψ p E).t ρ Q->sH K F H S ρ σ Q R->(wp K Γ p EK).t σ H R
 a:∀{E:XE}{EK:XK}{F H:Hp}{S:Ft}{ρ:zA}{σ:St}{md:List Md}{Q:List (T×Bool)->zA->Prop}{R:LV->Hp->Prop},Rl K F H S ρ σ->SE K F H S ρ E EK->(∀j∈uA md p,∃v,σ[j]?=some (some v))->(pe Ψ p E).a md ρ Q->Kq K p md F H S ρ σ Q R->(wp K Γ p EK).a σ H R
end
end
section
variable{K:QA}{Γ:Ev}{Ψ:PEv}{E:XE}{c:XK}{F H A U:Hp}{S S1:Ft}{ρ o:zA}{σ:St}
section
variable{b a u:PX}{RR:LV->Hp->Prop}{P:List (T×Bool)->zA->Prop}{Y Z:bB}{t:T}{st:Bool}{ts:LT}{v:V}
theorem Lm(N:PSnd K Γ Ψ b)(I:Rl K F H S ρ σ)(X:SE K F H S ρ E c){x:T}{P:T×Bool->zA->Prop}{RR:VK}(h:sq x ρ (cu (pe Ψ b E).e) P)
  (M:∀w p g S' k y m Z,Ste F H S ρ p g S' k->Rl K p g S' k σ->(∀st v l,Tr K F H st v x l->Tr K p g st v x l)->(x.isD=false->k=ρ/\S'=S)->VR K (IG b) H S ρ p g S' k w y m Z->P (y,m) k->RR w g) :
  (wp K Γ b c).e σ H RR:=by
 unfold sq at h;cases W:x.isD with
 |true =>
  rw[W,if_pos rfl]at h;refine N.e I X h λw p g S' k y m Z s C r q=>M w p g S' k y m Z s C (λst v l B=>?_) (λz=>(by rw[W]at z;cases z)) r q;cases x with
  |d x=>cases B with|d r n=>exact .d (r.mono s.ff) n
  |_=>cases W
 |false =>
  rw[W,if_neg (by simp)]at h;have X':SE K F H S (lockA ρ) E c:=λx dx F2 H2 S2 O Q f r q=>X x dx F2 H2 S ρ Q.unlockA f r q;refine N.e I.lockA X' h λw p g S' k y m Z s C r q=>?_;have kp:∀st v t l,Tr K F H st v t l->Tr K p g st v t l:=λst v t l B=>s.keep B λb _=>CC b;refine M w p g S ρ y m Z ⟨s.unlockA,λj t h=>⟨t,h⟩⟩ (I.unlockA s.toStp C.fh) (λst v l B=>kp st v _ l B) (λ_=>⟨rfl,rfl⟩) ⟨r.tr,λe b hb=>?_,λe b hb=>?_,λe i L hi b hb z=>?_⟩ q;exact .inl ((r.fr e b hb).elim id λz=>absurd z (CC b));obtain⟨i,L,h1,J,G⟩:=r.tm e b hb;cases L with
  |own t=>obtain⟨t0,h0⟩:=s.ow i t J;obtain⟨_,_,e0⟩:=rB h0;cases e0|ky t =>
   cases W:t.isD with|true=>exact absurd G (C.isD J W)|false=>obtain⟨g1,g2⟩:=s.bo i t J W;obtain⟨R,g3,_⟩:=rB g1;rw[g2]at G;exact⟨i,R,h1,g3,G⟩
  rcases r.fr e b hb with q|q
  ·exact(I.dom hi z).1 q
  exact absurd q (CC b)
theorem Mm{md:List Md}(O:PSnd K Γ Ψ b)(I:Rl K F H S ρ σ)(X:SE K F H S ρ E c)(Q:∀j∈uA md b,∃v,σ[j]?=some (some v)){x:T}(h:sq x ρ ((pe Ψ b E).a md) P)
  (N:∀ws l e S' k L W Y,Ste F H S ρ l e S' k->Rl K l e S' k σ->(∀st v g,Tr K F H st v x g->Tr K l e st v x g)->(x.isD=false->k=ρ/\S'=S)->AR K (IG b) md H S ρ l e S' k ws L W Y->(mB md ws).map (λv=>some (some v))=(uA md b).map (λj=>σ[j]?)->P L k->RR ws e) :
  (wp K Γ b c).a σ H RR:=by
 unfold sq at h;cases m:x.isD with
 |true =>
  rw[m,if_pos rfl]at h;refine O.a I X Q h λw l e S' k y W Y s B r C q=>N w l e S' k y W Y s B (λst v g p=>?_) (λz=>(by rw[m]at z;cases z)) r C q;cases x with
  |d x=>cases p with|d r n=>exact .d (r.mono s.ff) n
  |_=>cases m
 |false =>
  rw[m,if_neg (by simp)]at h;have X':SE K F H S (lockA ρ) E c:=λx dx F2 H2 S2 R s2 f r q=>X x dx F2 H2 S ρ s2.unlockA f r q;refine O.a I.lockA X' Q h λw l e S' k y W Y s B r C q=>?_;have kp:∀st v t g,Tr K F H st v t g->Tr K l e st v t g:=λst v t g p=>s.keep p λb _=>CC b;refine N w l e S ρ y W Y ⟨s.unlockA,λj t h=>⟨t,h⟩⟩ (I.unlockA s.toStp B.fh) (λst v g p=>kp st v _ g p) (λ_=>⟨rfl,rfl⟩) ⟨r.av,λb hb=>?_,λb hb=>?_,λi M hi b hb z=>?_⟩ C q;exact .inl ((r.fr b hb).elim id λz=>absurd z (CC b));obtain⟨i,M,h1,J,G⟩:=r.tm b hb;cases M with
  |own t=>obtain⟨t0,h0⟩:=s.ow i t J;obtain⟨_,_,e0⟩:=rB h0;cases e0|ky t =>
   cases m:t.isD with|true=>exact absurd G (B.isD J m)|false=>obtain⟨g1,g2⟩:=s.bo i t J m;obtain⟨s0,g3,_⟩:=rB g1;rw[g2]at G;exact⟨i,s0,h1,g3,G⟩
  rcases r.fr b hb with q|q
  ·exact(I.dom hi z).1 q
  exact absurd q (CC b)
theorem jG(l:PSnd K Γ Ψ a)(I:Rl K F H S ρ σ)(X:SE K F H S ρ E c){P:TK}{RR:VK}(h:(pe Ψ a E).e ρ P)
  (j:∀v w z S' y x n Z,Ste F H S ρ w z S' y->Rl K w z S' y σ->SE K w z S' y E c->Tr K w z false v (rA x n) Z->(MH x n=true->Rep K w v x.er)->(∀b,Z b->∃(i:Nat) (s:Sl),i∈IG a/\y[i]?=some (some s)/\S' i b)->P x n y->RR v z) :
  (wp K Γ a c).e σ H RR:=by
 refine l.e I X h λv w z S' y x n Z s B r q=>?_;obtain⟨C,p,k,W,g,m,f,_⟩:=r.frz s B;exact j v C z S' y x n p k W (X.from k.toStp) g m f q
theorem K1(ia:PSnd K Γ Ψ a)(ib:PSnd K Γ Ψ b)(I:Rl K F H S ρ σ)(X:SE K F H S ρ E c){P:T->Bool->T->Bool->zA->Prop}{RR:V->V->Hp->Prop}
  (h:(pe Ψ a E).e ρ λx n o=>sq (rA x n) o (cu (pe Ψ b E).e) λy k=>P x n y.1 y.2 k)
  (kk:∀v w l f S' z x n y m j Zb,Ste F H S ρ l f S' z->Rl K l f S' z σ->SE K l f S' z E c->Tr K l f false v (rA x n) j->(∀b,j b->∃(i:Nat) (s:Sl),i∈IG a/\z[i]?=some (some s)/\S' i b)->Tr K l f false w (rA y m) Zb ->
   P x n y m z->RR v w f):(wp K Γ a c).e σ H λv U=>(wp K Γ b c).e σ U λw W=>RR v w W:=by
 refine jG ia I X h λv A U S1 o x n j M I1 X1 p _ G R=>?_;refine Lm ib I1 X1 R λw F2 W C k y m Z L I2 kp hs O Q=>?_;obtain⟨F3,Z3,J,I3,N,_,_,k3⟩:=O.frz L I2;have B:∀b,j b->∃(i:Nat) (s:Sl),i∈IG a/\k[i]?=some (some s)/\C i b:=by
  cases q:(rA x n).isD with
  |true =>
   intro b hb;exfalso;generalize rA x n=t at p q;cases p with|d r n=>exact n b hb|_=>cases q
  |false=>obtain⟨e1,e2⟩:=hs q;rw[e1,e2];exact G
 have g:=M.trans J;exact kk v w F3 W C k x n y m j Z3 g I3 (X.from g.toStp) (k3 _ _ _ _ (kp _ _ _ p) λb hb=>let⟨i,s,_,h2⟩:=B b hb;⟨i,s,h2⟩) B N Q
theorem uW(e:PSnd K Γ Ψ u)(I:Rl K F H S ρ σ)(X:SE K F H S ρ E c)(h:(pe Ψ u E).a [] ρ P)
  (k:∀vs z y S' x xs Y,Ste F H S ρ z y S' x->Rl K z y S' x σ->SE K z y S' x E c->Tn K z y Y vs (XN xs)->(∀b,Y b->∃(i:Nat) (s:Sl),i∈IG u/\x[i]?=some (some s)/\S' i b)->P xs x->RR vs y):(wp K Γ u c).a σ H RR:=by
 refine e.a (md:=[]) I X (λj f=>by cases u<;>cases f) h λvs z y S' x xs W Y s l r _ q=>?_;obtain⟨m,w,g,t,_⟩:=r.frz s l;exact k vs m y S' x xs Y w g (X.from w.toStp) t r.tm q
theorem om(ia:PSnd K Γ Ψ a)(ib:PSnd K Γ Ψ u)(I:Rl K F H S ρ σ)(X:SE K F H S ρ E c){P1:T->Bool->Prop}{P:T->Bool->List (T×Bool)->zA->Prop}{R1:V->Hp->Prop}{RR:V->LV->Hp->Prop}
  (h:(pe Ψ a E).e ρ λx n o=>P1 x n/\sq (rA x n) o ((pe Ψ u E).a []) λxs z=>P x n xs z)
  (k1:∀v f w x n k,Tr K f w false v (rA x n) k->P1 x n->R1 v w)
  (kk:∀v vs f w S' y x n xs k Y,Ste F H S ρ f w S' y->Rl K f w S' y σ->SE K f w S' y E c->Tr K f w false v (rA x n) k->(∀b,k b->∃(i:Nat) (s:Sl),i∈IG a/\y[i]?=some (some s)/\S' i b)->Tn K f w Y vs (XN xs) ->
   P x n xs y->RR v vs w):(wp K Γ a c).e σ H λv U=>R1 v U/\(wp K Γ u c).a σ U λvs p=>RR v vs p:=by
 refine jG ia I X h λv A U S1 o x n k L I1 X1 l _ C ⟨Q,O⟩=>⟨k1 v A U x n k l Q,?_⟩
 refine Mm ib I1 X1 (λj hj=>by cases u<;>cases hj) O λvs F2 p B z xs W Y J I2 R hs M _ N=>?_;obtain⟨F3,G,I3,tn,k3⟩:=M.frz J I2;have q:∀b,k b->∃(i:Nat) (s:Sl),i∈IG a/\z[i]?=some (some s)/\B i b:=by
  cases m:(rA x n).isD with
  |true =>
   intro b hb;exfalso;generalize rA x n=t at l m;cases l with|d r n=>exact n b hb|_=>cases m
  |false=>obtain⟨e1,e2⟩:=hs m;rw[e1,e2];exact C
 have g:=L.trans G;exact kk v vs F3 p B z x n xs k Y g I3 (X.from g.toStp) (k3 _ _ _ _ (R _ _ _ l) λb hb=>let⟨i,s,_,h2⟩:=q b hb;⟨i,s,h2⟩) q tn N
noncomputable def OZ(K:QA)(F H:Hp)(Y:bB):Item->T->Prop
 | .one v,t=>∃Z,Tr K F H false v t Z/\∀b,Z b->Y b|.tup vs,t=>∃h,t=.d (.tuple h)/\Reps K F vs h
theorem OZ.mono{it:Item}(h:OZ K F H Y it t)(e:Same F A)(k:∀b,Y b->U b=H b/\A b=none):OZ K A U Y it t:=by
 cases it with|one v=>obtain⟨Z,r,z⟩:=h;exact⟨Z,r.mono e λb hb=>k b (z b hb),z⟩|tup y=>obtain⟨ts,x,r⟩:=h;exact⟨ts,x,r.mono e⟩
theorem k6{xs:LV}(h:Trs K F H st xs ts Z)(z:∀b,Z b->Y b):Paired (OZ K F H Y) (xs.map .one) ts :=
 Trs.ind (R:=λ_ xs ts Z=>(∀b,Z b->Y b)->Paired (OZ K F H Y) (xs.map .one) ts) (λ_ _=>.nil) (λh _ _ q x z=>.cons ⟨_,h.weak,λb hb=>z b ((q b).mpr (.inl hb))⟩ (x λb hb=>z b ((q b).mpr (.inr hb)))) h z
theorem nX{Y:bB}{α:Type}(f:α->V)(g:α->D)(h:∀x,Rep K F (f x) (g x)):∀(l:List α),Paired (OZ K F H Y) (l.map λx=>.one (f x)) (l.map λx=>T.d (g x))
 |[]=>.nil|x::r=>.cons ⟨λ_=>False,.d (h x) λ_ z=>z,λ_ z=>z.elim⟩ (nX f g h r)
theorem Tr.lsS(f:Same F H)(h:Tr K F H st v t Z)(e:t.vw=.ls ts):∃a vs S',v=.ref a/\FC K H a vs/\Trs K F H false vs ts S'/\(∀b,S' b->Z b)/\∀y x,Same F y->Same y x->(∀b,Z b->x b=H b)->FC K x a vs:=by
 cases h with
 |d r n =>
  cases r with|lst q r=>injection e with e;subst e;exact⟨_,_,_,rfl,f.seq q,Trs.of_reps r,λb hb=>hb.elim,λy x w z _=>(w.trans z).seq q⟩|dct _ _ _=>exact(aH e).elim|_=>cases e
 |lst h _ r n q=>injection e with e;subst e;exact⟨_,_,_,rfl,FC.of h,r.weak,λb hb=>(q b).mpr (.inr hb),λy x _ _ k=>FC.of ((k _ ((q _).mpr (.inl rfl))).trans h)⟩|tup=>cases e|dct=>cases e|lstF h r n=>injection e with e;subst e;exact⟨_,_,_,rfl,f.seq h,Trs.of_reps r,λb hb=>hb.elim,λy x w z _=>(w.trans z).seq h⟩
theorem Tr.tpS(f:Same F H)(h:Tr K F H st v t Z)(e:t.vw=.tp ts):∃a vs S',v=.ref a/\xD K H a vs/\Trs K F H false vs ts S'/\(∀b,S' b->Z b)/\∀y x,Same F y->Same y x->(∀b,Z b->x b=H b)->xD K x a vs:=by
 cases h with
 |d r n =>
  cases r with|tup q r=>injection e with e;subst e;exact⟨_,_,_,rfl,f.tupl q,Trs.of_reps r,λb hb=>hb.elim,λy x w z _=>(w.trans z).tupl q⟩|dct _ _ _=>exact(rL e).elim|_=>cases e
 |tup h _ r n q=>injection e with e;subst e;exact⟨_,_,_,rfl,xD.of h,r.weak,λb hb=>(q b).mpr (.inr hb),λy x _ _ k=>xD.of ((k _ ((q _).mpr (.inl rfl))).trans h)⟩|lst=>cases e|lstF=>cases e|dct=>cases e
theorem Tr.seqS(f:Same F H)(h:Tr K F H st v t Z)(e:t.vw.seq=some ts):∃a vs sz,v=.ref (Src.adr sz)/\TZ K H sz vs/\(∃S',Trs K F H false vs ts S')/\a=Src.adr sz/\∀g k,Same F g->Same g k->(∀b,Z b->k b=H b)->TZ K k sz vs:=by
 generalize ev:t.vw=w at e;cases w with|ls i=>cases e;obtain⟨a,vs,S',rfl,z,x,_,y⟩:=h.lsS f ev;exact⟨a,vs,.l a,rfl,z,⟨S',x⟩,rfl,y⟩|tp i=>cases e;obtain⟨a,vs,S',rfl,z,x,_,y⟩:=h.tpS f ev;exact⟨a,vs,.t a,rfl,z,⟨S',x⟩,rfl,y⟩|_=>cases e
end
mutual
theorem pV{F:Hp}:∀{k:NK}{v:V},Lk K F k v->Rep K F v (tD k)
 | .s x,v,h=>by cases(show v=.str x from h);exact .str x|.t ks,v,⟨a,xs,e,q,p⟩=>by subst e;exact .tup q (ky_reps p)
theorem ky_reps{F:Hp}:∀{ks:List NK}{vs:LV},KyVs K F ks vs->Reps K F vs (tDs ks)
 |[],vs,h=>by cases(show vs=[] from h);exact .nil|k::ks,vs,⟨x,r,e,p,q⟩=>by subst e;exact .cons (pV p) (ky_reps q)
end
theorem pX{Y:bB}:∀{kvs:List KE}{ds:List D},VG K F kvs->Reps K F (kvs.map (·.2.2)) ds->Paired (OZ K F H Y) (kvs.map λp=>.tup [.ref p.2.1,p.2.2]) (((kvs.map λp=>tD p.1).zip ds).map λp=>T.d (.tuple [p.1,p.2]))
 |[],_,_,.nil=>.nil|p::r,_,hk,.cons h t=>by simp only[QW,QAL];exact .cons ⟨[_,_],rfl,.cons (pV (hk p QF).1) (.cons h .nil)⟩ (pX (λp x=>hk p (QE _ x)) t)
theorem oX{Y:bB}:∀{kvs:List KE},VG K F kvs->Paired (OZ K F H Y) (kvs.map λp=>.one (.ref p.2.1)) ((kvs.map λp=>tD p.1).map T.d)
 |[],_=>.nil|p::r,hk=>.cons ⟨λ_=>False,.d (pV (hk p QF).1) λ_ z=>z,λ_ z=>z.elim⟩ (oX λp h=>hk p (QE _ h))
theorem ZS{Y:bB}:∀{xs:LV}{ds:List D}(_:Reps K F xs ds) (g:Nat->Int) (n:Nat),Paired (OZ K F H Y) ((xs.zipIdx n).map λp=>.tup [.int (g p.2),p.1]) ((ds.zipIdx n).map λp=>T.d (.tuple [.int (g p.2),p.1]))
 |_,_,.nil,g,n=>by simp only[List.zipIdx_nil,WJ];exact .nil|_,_,.cons h t,g,n=>by simp only[List.zipIdx_cons,QW];exact .cons ⟨[_,_],rfl,.cons (.int _) (.cons h .nil)⟩ (ZS t g (n+1))
theorem NJ{L:ItK}{Y:bB}{vs:LV}{ts:LT}{R:LT->Prop}{RR:List Item->(Hp->Prop)->Hp->Prop}(f:Same F H)(W:Tn K F H Y vs ts)(h:FB L (ts.map T.vw) R)
  (k:∀xs Q st,Paired (OZ K F H Y) xs Q->(∀l g,Same F l->Same l g->(∀b,Y b->g b=H b)->st g)->R Q->RR xs st H):gC K L vs H RR:=by
 cases L with
 |val =>
  rcases h with⟨G,e,h⟩| ⟨G,e,h⟩| ⟨B,G,e,h⟩
  obtain⟨v,t,Z,rfl,rfl,e,r,z⟩:=W.one e;obtain⟨p,xs,S',rfl,M,m,I,X⟩:=r.lsS f e;exact .inl ⟨xs,M,k _ _ _ (k6 m λb hb=>z b (I b hb)) (λl g y w q=>X l g y w λb hb=>q b (z b hb)) h⟩;obtain⟨v,t,Z,rfl,rfl,e,r,z⟩:=W.one e;obtain⟨p,xs,S',rfl,M,m,I,X⟩:=r.tpS f e;exact .inr (.inl ⟨xs,M,k _ _ _ (k6 m λb hb=>z b (I b hb)) (λl g y w q=>X l g y w λb hb=>q b (z b hb)) h⟩);obtain⟨v,t,Z,rfl,rfl,y,A,C⟩:=W.one e;obtain⟨a,o,xs,_,rfl,N,dk,m,_,X⟩:=A.dc f y;obtain⟨s,u,rfl,rfl,rfl,O,_⟩:=dk;exact .inr (.inr ⟨s,u,N,k _ _ _ (oX O) (λl g y w q=>X l g y w λb hb=>q b (C b hb)) h⟩)
 |rng1=>obtain⟨j,e,h⟩:=h;obtain⟨v,t,Z,rfl,rfl,e,r,_⟩:=W.one e;obtain rfl:=r.int e;exact⟨h.1,k _ _ _ (nX (λ(i:Nat)=>.int (i:Int)) (λ(i:Nat)=>.int (i:Int)) (λc=>.int _) _) (λ_ _ _ _ _=>trivial) h.2⟩|enum=>obtain⟨x,G,E,e,g1,P,q⟩:=h;obtain⟨v,t,Z,rfl,rfl,y,A,C⟩:=W.one e;obtain⟨a,xs,sz,rfl,S,⟨_,m⟩,_,X⟩:=A.seqS f (by rw[y];exact g1);exact⟨sz,xs,rfl,S,k _ _ _ (ZS (m.un P).1 (λi=>(i:Int)) 0) (λl g y w q=>X l g y w λb hb=>q b (C b hb)) q⟩|itm =>
  rcases h with⟨B,G,E,e,P,q⟩| ⟨e,q⟩
  rotate_left
  obtain⟨v,t,Z,rfl,rfl,y,A,C⟩:=W.one e;obtain⟨_,m⟩:=A.sc y;generalize ed:PyData.dict []=d at m;cases m with
  |@dct b a o B vs E h J r =>
   have ez:B.zip E=[]:=by injection ed with ed;exact ed.symm
   have hl:B.length=E.length:=by rw[J.len,Reps.length r]
   have ek:B=[]:=by
    cases B with
    |nil=>rfl|cons k B =>
     cases E with|nil=>cases hl|cons d E=>cases ez
   subst ek;have eo:∃s,o=.dT s []:=by
    cases b with
    |true =>
     obtain⟨s,u,y,w,_⟩:=J;cases u with|nil=>exact⟨s,y⟩|cons p r=>cases w
    |false =>
     rcases J with⟨u,n,_,w,_⟩| ⟨s,y,_⟩
     cases u with|nil=>exact absurd rfl n|cons p r=>cases w
     exact⟨s,y⟩
   obtain⟨s,rfl⟩:=eo;exact⟨s,[],f _ _ h,k _ _ _ .nil (λl g y w _=>w _ _ (y _ _ h)) q⟩
  |_=>cases ed
  obtain⟨v,t,Z,rfl,rfl,y,A,C⟩:=W.one e;obtain⟨a,o,xs,_,rfl,N,dk,m,_,X⟩:=A.dc f y;obtain⟨s,u,rfl,rfl,rfl,O,_⟩:=dk;exact⟨s,u,N,k _ _ _ (pX O (m.un P).1) (λl g y w q=>X l g y w λb hb=>q b (C b hb)) q⟩
end
section
variable{i j:Nat}{Z:bB}
def iH(S:Ft)(i:Nat)(Z:bB):Ft:=λj=>if j=i then Z else S j
theorem OA{S:Ft}:iH S i Z i=Z:=if_pos rfl
theorem KA{S:Ft}(h:j≠i):iH S i Z j=S j:=if_neg h
theorem dA{α:Type}{l:List α}{x y:α}(h:(l.set i x)[j]?=some y):(i=j/\y=x/\i<l.length)∨(i≠j/\l[j]?=some y):=by rw[wC]at h;by_cases e:i=j;subst e;rw[if_pos rfl]at h;by_cases hl:i<l.length;rw[if_pos hl]at h;cases h;exact .inl ⟨rfl,rfl,hl⟩;rw[if_neg hl]at h;cases h;rw[if_neg e]at h;exact .inr ⟨e,h⟩
theorem rP{α:Type}{l:List α}{x:α}(h:i<l.length):(l.set i x)[i]?=some x:=by rw[wC,if_pos rfl,if_pos h]
theorem rD{α:Type}{l:List α}{x:α}(h:i≠j):(l.set i x)[j]?=l[j]?:=by rw[wC,if_neg h]
end
section
variable{K:QA}{Γ:Ev}{Ψ:PEv}{E:XE}{L:XK}{F H D G:Hp}{S S1:Ft}{ρ C:zA}{σ:St}
section
variable{Z Y:bB}{A X:Hp}{S':Ft}{g:zA}{o:St}{st:Bool}{B:Tg}{k:Nat}{l:List Bool}
theorem Rl.setB(I:Rl K F H S ρ σ)(i:Nat){v:V}{t:T}(r:Tr K F H false v t Z)(m:∀(j:Nat) u,j≠i->ρ[j]?=some (some (.own u))->∀b,Z b->¬ S j b):Rl K F H (iH S i Z) (ρ.set i (some (.ky t))) (σ.set i (some v)) where
 fh:=I.fh
 len:=by simpa using I.len
 sl:=λj s h=>by
  rcases dA h with⟨rfl,e,hl⟩| ⟨w,h⟩
  cases e;exact⟨v,rP (by rw[<- I.len];exact hl),by rw[OA];exact r⟩;rw[rD w,KA (Q4 w)];exact I.sl j s h
 dj:=λj k z s n x y b hb hk=>by
  rcases dA x with⟨_,e,_⟩| ⟨f,x⟩
  cases e;rw[KA (Q4 f)]at hb;rcases dA y with⟨e,_,_⟩| ⟨a,y⟩
  subst e;rw[OA]at hk;exact m j z n x b hk hb;rw[KA (Q4 a)]at hk;exact I.dj j k z s n x y b hb hk
structure Bd(J:LN)(F H:Hp)(S:Ft)(ρ:zA)(σ:St)(A X:Hp)(S':Ft)(g:zA)(o:St):Prop where
 ff:Same F A
 hh:Same H X
 fn:∀b,F b=none->A b≠none->H b=none
 out:∀j,j∉J->g[j]?=ρ[j]?/\S' j=S j/\o[j]?=σ[j]?
 inn:∀j t,j∈J->g[j]?≠some (some (.own t))
theorem Bd.U{J:LN}(h:Bd J F H S ρ σ A X S' g o){b:Addr}(u:U g S' b):L3.U ρ S b:=by obtain⟨i,t,x,z⟩:=u;by_cases y:i∈J;exact absurd x (h.inn i t y);obtain⟨w,v,_⟩:=h.out i y;rw[w]at x;rw[v]at z;exact⟨i,t,x,z⟩
theorem Bd.dm{J:LN}(h:Bd J F H S ρ σ A X S' g o)(b:Addr)(e:X b=none):H b=none:=h.hh.free e
theorem BW{Y:bB}(s:∀b,Y b->¬ U ρ S b):∀(w:LN) {vs:LV}{ts:LT}{S1:Ft}{C g:zA}{x:St}{J:LN},(∀i∈w,i∈J)->Rl K F H S1 C x->(∀b,U C S1 b->U ρ S b)->Tn K F H Y vs ts->jD w ts C=some g ->
  ∃o S',zB w vs x=some o/\Rl K F H S' g o/\(∀j,j∉J->g[j]?=C[j]?/\S' j=S1 j/\o[j]?=x[j]?)/\(∀j t,g[j]?=some (some (.own t))->j∉w/\C[j]?=some (some (.own t)))
 |[],_,_,S1,C,g,x,J,hJ,I,hu,.nil,h=>by simp only[jD,Qp]at h;subst h;exact⟨x,S1,rfl,I,λ_ _=>⟨rfl,rfl,rfl⟩,λj t h=>⟨(by simp),h⟩⟩|[],_,_,_,_,_,_,_,_,_,_,.cons _ _ _,h=>by simp[jD]at h|_::_,_,_,_,_,_,_,_,_,_,_,.nil,h=>by simp[jD]at h|i::w,_,_,S1,C,g,x,J,hJ,I,hu,.cons (v:=v) (t:=t) (Z:=Z) r z tl,h=>by
  simp only[jD]at h;have nu:∀b,Z b->¬ U C S1 b:=λb hb u=>s b (z b hb) (hu b u);have I2:=I.setB i r λj u _ y b hb N=>nu b hb ⟨j,u,y,N⟩;have p:∀b,U (C.set i (some (.ky t))) (iH S1 i Z) b->U ρ S b:=λb ⟨j,u,q,W⟩=>by
   rcases dA q with⟨_,e,_⟩| ⟨n,q⟩
   cases e;rw[KA (Q4 n)]at W;exact hu b ⟨j,u,q,W⟩
  obtain⟨o,S',R,Q,P,O⟩:=BW s w (λj y=>hJ j (QE _ y)) I2 p tl h;refine⟨o,S',R,Q,λj y=>?_,λj u y=>?_⟩;obtain⟨f,a,M⟩:=P j y;have n:i≠j:=λe=>y (e▸hJ i QF);rw[rD n]at f M;rw[KA (Q4 n)]at a;exact⟨f,a,M⟩;obtain⟨f,a⟩:=O j u y;rcases dA a with⟨_,e,_⟩| ⟨n,a⟩
  cases e;exact⟨λm=>(QL.mp m).elim (λe=>n e.symm) f,a⟩
theorem Tn.of_trs{vs:LV}{ts:LT}(h:Trs K F H st vs ts Z)(z:∀b,Z b->Y b):Tn K F H Y vs ts :=
 Trs.ind (R:=λ_ vs ts Z=>(∀b,Z b->Y b)->Tn K F H Y vs ts) (λ_ _=>.nil) (λh _ _ q x z=>.cons h.weak (λb hb=>z b ((q b).mpr (.inl hb))) (x λb hb=>z b ((q b).mpr (.inr hb)))) h z
theorem XT{it:Item}{t:T}{QP:zA->Prop}{RP:St->Hp->Prop}(I:Rl K F H S ρ σ)(hy:∀b,Y b->¬ U ρ S b)(r:OZ K F H Y it t)(h:NO B t ρ QP)
  (k:∀m f w x O,Bd B.ix F H S ρ σ w x O m f->Rl K w x O m f->QP m->RP f x):bindI K B it σ H RP:=by
 have nm:∀(i:Nat) {v:V}{t:T}{Z:bB}{w x:Hp}{O:Ft},Same F w->Same H x->(∀b,F b=none->w b≠none->H b=none)->Rl K w x O ρ σ->O=S->Tr K w x false v t Z->(∀b,Z b->¬ U ρ S b)->QP (ρ.set i (some (.ky t)))->B=.nm i->RP (σ.set i (some v)) x:=by
  intro i v t Z w x O R e2 e3 I2 hS r hz q ht;subst hS ht;refine k _ _ w x (iH O i Z) ⟨R,e2,e3,λj N=>?_,λj u N hu=>?_⟩ (I2.setB i r λj u _ N b hb hs=>hz b hb ⟨j,u,N,hs⟩) q;have n:i≠j:=λe=>N (by subst e;exact QJ.mpr rfl);exact⟨rD n,KA (Q4 n),rD n⟩;have e:j=i:=QJ.mp N;subst e;rcases dA hu with⟨_,e,_⟩| ⟨n,_⟩
  cases e;exact n rfl
 have tp:∀(y:LN) {W:LV}{P:LT}{x:Hp}{g:zA},Same H x->B=.tp y->Tn K F x Y W P->jD y P ρ=some g->QP g->∃o,zB y W σ=some o/\RP o x:=by intro y W P x g e2 ht r e q;subst ht;obtain⟨o,S',g1,g2,g3,g4⟩:=BW hy y (J:=y) (λi hi=>hi) (I.same e2) (λb u=>u) r e;exact⟨o,g1,k _ _ F x S' ⟨.refl _,e2,λb h z=>absurd h z,g3,λj u N hu=>(g4 j u hu).1 N⟩ g2 q⟩
 cases it with
 |one v =>
  obtain⟨Z,r,z⟩:=r;cases B with|nm i=>exact nm i (.refl _) (.refl _) (λb h z=>absurd h z) I rfl r (λb hb=>hy b (z b hb)) h rfl|tp y=>have Q:(match t.vw with | .tp P=>∃g,jD y P ρ=some g/\QP g|_=>False):=h;split at Q;rename_i P e;obtain⟨g,R,q⟩:=Q;obtain⟨a,W,S',rfl,M,rp,z2⟩:=r.tp I.fh e;obtain⟨o,g1,g2⟩:=tp y (.refl _) rfl (Tn.of_trs rp λb hb=>z b (z2 b hb)) R q;exact⟨W,o,M,g1,g2⟩;exact Q.elim
 |tup W =>
  obtain⟨ds,rfl,rd⟩:=r;cases B with|nm i=>intro p M;refine nm i (HB (I.fh.free M)) (HB M) (λb h1 Q=>?_) (I.newT M (.tup W)) rfl (.d (S:=λ_=>False) (.tup (xD.of aA) (rd.mono (HB (I.fh.free M)))) λ_ z=>z) (λb z=>z.elim) h rfl;by_cases hb:b=p;rw[hb];exact M;rw[kA hb]at Q;exact absurd h1 Q|tp y=>intro X s;obtain⟨g,R,q⟩:=h;exact tp y s rfl (Tn.of_trs (Trs.of_reps (st:=false) rd) λb hb=>hb.elim) R q
def Rb(k:Nat)(S:Ft):Ft:=λi=>if i<k then λ_=>False else S (i - k)
theorem JO:∀(m:List Bool) (ρ:zA) (i:Nat) s,(MC m ρ)[i]?=some (some s)->ρ[i]?=some (some s)/\m.getD i false=false
 |[],ρ,i,s,h=>by
  have e:MC [] ρ=ρ:=by cases ρ<;>rfl
  rw[e]at h;exact⟨h,rfl⟩
 |b::m,[],i,s,h=>by simp[MC]at h|b::m,v::ρ,0,s,h=>by
  cases b with|true=>simp[MC]at h|false=>simp[MC]at h;simp[h]
 |b::m,v::ρ,i+1,s,h=>by simp only[MC,wa]at h;obtain⟨y,x⟩:=JO m ρ i s h;exact⟨by simpa using y,by simpa using x⟩
theorem eO:∀(m:List Bool) (σ:St) (i:Nat) v,σ[i]?=some (some v)->m.getD i false=false->(HC m σ)[i]?=some (some v)
 |[],σ,i,v,h,_=>by
  have e:HC [] σ=σ:=by cases σ<;>rfl
  rw[e];exact h
 |b::m,[],i,v,h,_=>by simp at h|b::m,w::σ,0,v,h,hb=>by
  have:b=false:=by simpa using hb
  subst this;simpa[HC]using h
 |b::m,w::σ,i+1,v,h,hb=>by simp only[HC,wa];exact eO m σ i v (by simpa using h) (by simpa using hb)
theorem iO:∀(m:List Bool) (ρ:zA),(MC m ρ).length=ρ.length
 |[],ρ=>by cases ρ<;>rfl|_::_,[]=>rfl|b::m,v::ρ=>by simp[MC,iO m ρ]
theorem hG{ρ:zA}{i:Nat}{s:Sl}(h:(UN k l ρ)[i]?=some (some s)):k<=i/\ρ[i - k]?=some (some s)/\l.getD (i - k) false=false:=by unfold UN at h;rcases QA2 i k with z|z;rw[qT (by simpa using z),wc]at h;split at h<;>cases h;rw[qH (by simpa using z)]at h;simp only[qt]at h;obtain⟨y,x⟩:=JO l ρ _ s h;exact⟨z,y,x⟩
theorem Rl.ent(I:Rl K F H S ρ σ)(k:Nat)(l:List Bool):Rl K F H (Rb k S) (UN k l ρ) (NI k l σ) where
 fh:=I.fh
 len:=by simp[UN,NI,iO,MJ,I.len]
 sl:=λi s h=>by obtain⟨u,z,y⟩:=hG h;obtain⟨v,a,w⟩:=I.sl _ s z;refine⟨v,?_,?_⟩;unfold NI;rw[qH (by simpa using u)];simp only[qt];exact eO l σ _ v a y;unfold Rb;rw[if_neg (by omega)];exact w
 dj:=λi j t s n z y b hb x=>by obtain⟨p,f,_⟩:=hG z;obtain⟨m,e,_⟩:=hG y;unfold Rb at hb x;rw[if_neg (by omega)]at hb x;exact I.dj (i - k) (j - k) t s (by omega) f e b hb x
theorem UX(b:Addr):¬ U (UN k l (lockA ρ)) S' b:=λ⟨i,t,h,_⟩=>by obtain⟨_,x,_⟩:=hG h;obtain⟨_,_,e⟩:=rB x;cases e
theorem Paired.get_of{α v:Type}{R:α->v->Prop}{xs:List α}{u:List v}(h:Paired R xs u):∀{i:Nat}{x:α},xs[i]?=some x->∃y,u.drop i=y::u.drop (i+1)/\R x y:=by
 induction h with
 |nil=>intro i x e;simp at e|@cons x y xs u h t a =>
  intro i z e;cases i with|zero=>simp at e;subst e;exact⟨y,by simp,h⟩|succ i=>obtain⟨w,f,b⟩:=a (i:=i) (by simpa using e);exact⟨w,by simpa using f,b⟩
structure Pur(F H A X:Hp):Prop where
 ff:Same F A
 hh:Same H X
 fn:∀b,F b=none->A b≠none->H b=none
theorem Pur.trans{u y:Hp}(a:Pur F H D G)(b:Pur D G u y):Pur F H u y:=⟨a.ff.trans b.ff,a.hh.trans b.hh,λx h z=>by by_cases q:D x=none;exact a.hh.free (b.fn x q z);exact a.fn x h q⟩
theorem Pur.ste(p:Pur F H D G):Ste F H S ρ D G S ρ:=⟨⟨p.ff,λb u h _=>p.hh b u h,λb h=>p.hh.free h,λb h z=>.inr (p.fn b h z),λb h=>.inl h,λ_ _ h _=>⟨h,rfl⟩⟩,λ_ t h=>⟨t,h⟩⟩
theorem Pur.rl(p:Pur F H D G)(f:Same D G)(I:Rl K F H S ρ σ):Rl K D G S ρ σ:=⟨f,I.len,λi s e=>by
 obtain⟨v,y,h⟩:=I.sl i s e;exact⟨v,y,h.mono p.ff λb hb=>by
  obtain⟨x,z⟩:=h.dom b hb;refine⟨?_,?_⟩;cases e:H b with|none=>exact absurd e x|some u=>exact p.hh b u e
  by_cases q:D b=none
  ·exact q
  exact absurd (p.fn b z q) x⟩,I.dj⟩
theorem Stp.pur(s:Stp F H S ρ D G S' g)(n:∀b,¬ U ρ S b):Pur F H D G:=⟨s.ff,λb u h=>s.hh b u h (n b),λb h z=>(s.fn b h z).elim (λq=>absurd q (n b)) id⟩
theorem Pur.trs(p:Pur F H D G){v:LV}{t:LT}(h:Trs K F H st v t Z):Trs K D G st v t Z:=h.mono p.ff λb hb=>by
  obtain⟨x,y⟩:=h.dom b hb;refine⟨?_,?_⟩;cases e:H b with|none=>exact absurd e x|some u=>exact p.hh b u e
  by_cases q:D b=none
  ·exact q
  exact absurd (p.fn b y q) x
theorem j7{ws:LN}{N:Nat}{c:zA->(Bool->zA->Prop)->Prop}{e:zA->TK->Prop}{tc:TT}{te:TE}{us:LN}
  (ic:∀{F H:Hp}{S:Ft}{ρ:zA}{σ:St}{Q:Bool->zA->Prop}{R:Bool->Hp->Prop},Rl K F H S ρ σ->c ρ Q->sH K F H S ρ σ Q R->tc σ H R)
  (ie:∀{F H:Hp}{S:Ft}{ρ:zA}{σ:St}{Q:TK}{R:VK},Rl K F H S ρ σ->e ρ Q->kB K us F H S ρ σ Q R->te σ H R)
  {F0 H0:Hp}{S0:Ft}{P:zA}(s:Ste F0 H0 S0 P F H S ρ) (I:Rl K F H S ρ σ) {xs:List Item}{M:LT}{st:Hp->Prop}(pr:Paired (OZ K F H Y) xs M) (hyd:∀b,Y b->H b≠none/\F b=none) (hst:∀A X,Same F A->Same A X->(∀b,Y b->X b=H b)->st X) {Q:TK}{R:VK}
  (h:VD (mG B (UN N l (lockA ρ)) c e) M [] λM=>Q (.lst M) true ρ) (k:kB K ws F0 H0 S0 P σ Q R) :
  zY K xs st B tc te (NI N l σ) H R:=by
 refine z7 ?_;have len:=qJ pr;have yk:∀{A X:Hp},Pur F H A X->∀b,Y b->X b=H b/\A b=none:=λ{A X} p b hb=>by
  obtain⟨d1,d2⟩:=hyd b hb;refine⟨?_,?_⟩;cases e:H b with|none=>exact absurd e d1|some u=>exact p.hh b u e
  by_cases q:A b=none
  ·exact q
  exact absurd (p.fn b d2 q) d1
 refine⟨λi m X=>∃A w W,Pur F H A X/\Same A X/\Trs K A X true m w W/\(∀b,W b->H b=none)/\VD (mG B (UN N l (lockA ρ)) c e) (M.drop i) w λM=>Q (.lst M) true ρ,
  ⟨F,[],λ_=>False,⟨.refl _,.refl _,λb h z=>absurd h z⟩,I.fh,.nil λ_ z=>z,λ_ z=>z.elim,by simpa using h⟩,?_,?_,?_⟩
 rintro i m X _ ⟨A,w,W,p,f,_,_,_⟩;exact hst A X p.ff f λb hb=>(yk p b hb).1;rintro i x m G hx ⟨D,w,W,p1,f1,J,hw,hc⟩;obtain⟨y,hd,ry⟩:=Paired.get_of pr hx;rw[hd]at hc;unfold VD at hc;unfold mG at hc;have I1:Rl K D G (Rb N S) (UN N l (lockA ρ)) (NI N l σ):=((p1.rl f1 I).lockA).ent N l;refine XT I1 (λb _=>UX b) (ry.mono p1.ff (yk p1)) hc λρ2 σ2 F2 H2 S2 O I2 hc=>?_;have p2:Pur D G F2 H2:=⟨O.ff,O.hh,O.fn⟩
 have nu2:∀b,¬ U ρ2 S2 b:=λb u=>UX b (O.U u);refine ic I2 hc λb F3 H3 S3 ρ3 s3 I3 q=>?_;have p3:Pur F2 H2 F3 H3:=s3.toStp.pur nu2;have nu3:∀b,¬ U ρ3 S3 b:=λb ⟨j,t,h1,_⟩=>by obtain⟨t0,h0⟩:=s3.ow j t h1;by_cases hj:j∈B.ix;exact O.inn j t0 hj h0;rw[(O.out j hj).1]at h0;obtain⟨_,h1,_⟩:=hG h0;obtain⟨_,_,e⟩:=rB h1;cases e
 have a:=p1.trans (p2.trans p3);cases b with
 |false=>exact⟨F3,w,W,a,I3.fh,p3.trs (p2.trs J),hw,q⟩|true =>
  refine ie I3 q λv F4 H4 S4 ρ4 z n Z s4 I4 r4 ⟨hk,hl,hc⟩=>?_;have p4:Pur F3 H3 F4 H4:=s4.toStp.pur nu3;have ra4:=p4.trs (p3.trs (p2.trs J));have rz:∃Z',Tr K F4 H4 true v z Z'/\∀b,Z' b->H3 b=none:=by
   cases n with
   |true=>exact⟨Z,r4.tr,λb hb=>(r4.fr rfl b hb).elim id λu=>absurd u (nu3 b)⟩|false =>
    cases z with
    |d x =>
     have tr:=r4.tr;cases tr with|d r n=>exact⟨λ_=>False,.d r λ_ z=>z,λ_ z=>z.elim⟩
    |_=>exact absurd hk (by simp[MH,T.isD])
  obtain⟨Z',rz,fz⟩:=rz;refine⟨by rw[J.length];exact hl,F4,_,λb=>W b∨Z' b,a.trans p4,I4.fh,ra4.append (Trs.one rz) λb hb hz=>?_,λb hb=>?_,hc⟩;have q1:=(J.dom b hb).1;exact q1 ((p2.trans p3).hh.free (fz b hz));rcases hb with hb|hb
  ·exact hw b hb
  exact a.hh.free (fz b hb)
 rintro m X ⟨A,w,W,p,f,J,hw,hc⟩;rw[len,List.drop_length]at hc;unfold VD at hc;have I':=p.rl f I;refine⟨by rw[J.length];exact hc.1,λq hq=>?_⟩;refine kB.list (k.from s) (p.ste) I' hq J (λb hb=>.inl (hw b hb)) ⟨J.dom,λi sl hi b hb z=>?_⟩ hc.2;exact(I.dom hi z).1 (hw b hb)
end
end
section
variable{K:QA}{Γ:Ev}{Ψ:PEv}{E:XE}{p:XK}{F H l c:Hp}{S S1:Ft}{ρ y:zA}{σ:St}
theorem Tr.xz{v:V}{u t:T}{Z:bB}(h:Tr K F H false v u Z)(e:eE u=some t):Tr K F H false v t Z:=by
 unfold eE at e;split at e;rename_i ts ev;cases x:LF ts with
 |none=>rw[x]at e;cases e|some f =>
  rw[x]at e;injection e with e;subst e;cases h with
  |d r n =>
   cases r with|lst q r=>injection ev with ev;subst ev;rw[YA]at x;injection x with x;subst x;exact .lstF q r n|dct _ _ _=>exact(aH ev).elim|_=>cases ev
  |lst k w z b a=>injection ev with ev;subst ev;show Tr K F H false _ (.lst (f.map T.d)) Z;rw[<- YL x];exact .lst k w z b a|tup=>cases ev|dct=>cases ev|lstF k w z=>injection ev with ev;subst ev;rw[YA]at x;injection x with x;subst x;exact .lstF k w z
 split at e
 ·injection e with e;subst e;exact h
 cases e
theorem AV.pass{Y:bB}{md:List Md}{vs:LV}{xs:List (T×Bool)}{W:bB}(h:AV K F H md vs xs W Y)(e:Same F l)(k:∀b,W b->l b=H b)(G:∀b,Y b->F b=none->l b=none) :
  ∀{g ts:LT},XA md xs g=some ts->ArgsR K l H Y md vs ts/\DB md ts=g:=by
 induction h with
 |nil h =>
  intro g ts w;cases g with|nil=>simp only[XA,Qp]at w;subst w;exact⟨.nil,rfl⟩|cons _ _=>simp[XA]at w
 |@chg md v vs x xs W Y h t C =>
  intro g ts w;have f:md.headD .xy=.chg:=by generalize md.headD .xy=m at h;cases m<;>first|rfl|cases h
  unfold XA at w;rw[f]at w;cases g with
  |nil=>cases w|cons o g =>
   cases a:XA md.tail xs g with|none=>simp only[a,wY]at w;cases w|some B=>simp only[a,Qx,Qp]at w;subst w;obtain⟨s,j⟩:=C k G a;refine⟨.chg f s,?_⟩;unfold DB;rw[f];simp only[j]
 |@new md v vs x xs Z W J Y h r t n q C =>
  intro g ts w;have X:Tr K l H false v (.d x.er) (λ_=>False):=.d (r.kept e λb u hb I=>by rw[k b ((q b).mpr (.inl hb))];exact I) λ_ z=>z;have i:=@C (λb hb=>k b ((q b).mpr (.inr hb))) G;unfold XA at w;cases f:md.headD .xy with
  |chg=>rw[f]at h;cases h|xy =>
   simp only[f,rA]at w;cases a:XA md.tail xs g with|none=>simp only[a,wY]at w;cases w|some B=>simp only[a,Qx,Qp]at w;subst w;obtain⟨s,j⟩:=i a;exact⟨.rd (by rw[f];simp) X (λ_ z=>z.elim) s,by unfold DB;rw[f];exact j⟩
  |xz =>
   simp only[f,rA]at w;cases A:eE (.d x.er) with
   |none=>simp only[A]at w;cases w|some u =>
    simp only[A]at w;cases a:XA md.tail xs g with|none=>simp only[a,wY]at w;cases w|some B=>simp only[a,Qx,Qp]at w;subst w;obtain⟨s,j⟩:=i a;exact⟨.rd (by rw[f];simp) (X.xz A) (λ_ z=>z.elim) s,by unfold DB;rw[f];exact j⟩
  |ky =>
   simp only[f,rA]at w;cases a:XA md.tail xs g with|none=>simp only[a,wY]at w;cases w|some B=>simp only[a,Qx,Qp]at w;subst w;obtain⟨s,j⟩:=i a;exact⟨.rd (by rw[f];simp) X (λ_ z=>z.elim) s,by unfold DB;rw[f];exact j⟩
 |@tmp md v vs x xs Z W Y h r z t C =>
  intro g ts w;have X:Tr K l H false v x Z:=r.mono e λb hb=>⟨rfl,G b (z b hb) (r.dom b hb).2⟩
  have i:=@C k G;unfold XA at w;cases f:md.headD .xy with
  |chg=>rw[f]at h;cases h|xy =>
   simp only[f,rA]at w;cases x with
   |d x =>
    cases a:XA md.tail xs g with|none=>simp only[a,wY]at w;cases w|some B=>simp only[a,Qx,Qp]at w;subst w;obtain⟨s,j⟩:=i a;exact⟨.rd (by rw[f];simp) X z s,by unfold DB;rw[f];exact j⟩
   |_=>cases w
  |xz =>
   simp only[f,rA]at w;cases A:eE x with
   |none=>simp only[A]at w;cases w|some u =>
    simp only[A]at w;cases a:XA md.tail xs g with|none=>simp only[a,wY]at w;cases w|some B=>simp only[a,Qx,Qp]at w;subst w;obtain⟨s,j⟩:=i a;exact⟨.rd (by rw[f];simp) (X.xz A) z s,by unfold DB;rw[f];exact j⟩
  |ky =>
   simp only[f,rA]at w;cases a:XA md.tail xs g with|none=>simp only[a,wY]at w;cases w|some B=>simp only[a,Qx,Qp]at w;subst w;obtain⟨s,j⟩:=i a;exact⟨.rd (by rw[f];simp) X z s,by unfold DB;rw[f];exact j⟩
theorem lD:∀(J:LN) (ρ:zA) (i:Nat) s,(clear J ρ)[i]?=some (some s)->i∉J/\ρ[i]?=some (some s)
 |[],ρ,i,s,h=>⟨(by simp),h⟩|j::J,ρ,i,s,h=>by
  unfold clear at h;obtain⟨u,z⟩:=lD J _ i s h;rcases dA z with⟨_,e,_⟩| ⟨n,x⟩
  cases e;exact⟨λm=>(QL.mp m).elim (λe=>n e.symm) u,x⟩
theorem DO:∀(J:LN) (ρ:zA),(clear J ρ).length=ρ.length
 |[],_=>rfl|j::J,ρ=>by unfold clear;rw[DO J];simp
theorem Rl.drop(I:Rl K F H S ρ σ)(hl:y.length=ρ.length)(h:∀(i:Nat) s,y[i]?=some (some s)->ρ[i]?=some (some s)):Rl K F H S y σ :=
 ⟨I.fh,hl.trans I.len,λi s e=>I.sl i s (h i s e),λi j t s n z x=>I.dj i j t s n (h i _ z) (h j _ x)⟩
theorem PD:∀{J:LN}{ρ:zA}{x:LT},DA J ρ=some x->x.length=J.length/\∀(i:Nat) j,J[i]?=some j->∃t,x[i]?=some t/\ρ[j]?=some (some (.own t))
 |[],ρ,x,h=>by simp only[DA,Qp]at h;subst h;exact⟨rfl,λi j e=>by simp at e⟩|j::J,ρ,x,h=>by
  unfold DA at h;split at h;rename_i t e;cases z:DA J ρ with
  |none=>rw[z]at h;cases h|some f =>
   rw[z]at h;injection h with h;subst h;obtain⟨w,v⟩:=PD z;refine⟨by simp[w],λi k hk=>?_⟩;cases i with|zero=>simp at hk;subst hk;exact⟨t,rfl,e⟩|succ i=>obtain⟨u,b,a⟩:=v i k (by simpa using hk);exact⟨u,by simpa using b,a⟩
  cases h
theorem Rl.trs(I:Rl K F H S ρ σ):∀{J:LN}{w:LT}{vs:LV},J.Nodup->DA J ρ=some w->vs.map (λv=>some (some v))=J.map (λj=>σ[j]?)->Trs K F H true vs w (λb=>∃j∈J,S j b)
 |[],w,vs,_,h,hv=>by
  simp only[DA,Qp]at h;subst h;cases vs with|nil=>exact .nil λb ⟨j,m,_⟩=>by simp at m|cons _ _=>simp at hv
 |j::J,w,vs,nd,h,hv=>by
  unfold DA at h;split at h;rename_i t e;cases a:DA J ρ with
  |none=>rw[a]at h;cases h|some r =>
   rw[a]at h;injection h with h;subst h;cases vs with
   |nil=>simp at hv|cons v vs =>
    simp only[QW,QAA]at hv;obtain⟨f,q,o⟩:=I.sl j _ e;rw[q]at hv;have:v=f:=by simpa using hv.1
    subst this;have x:=Qj.mp nd;refine .cons o (Rl.trs I x.2 a hv.2) (λb hb ⟨k,hk,z⟩=>?_) λb=>?_;obtain⟨i,n⟩:=Wn.mp hk;obtain⟨u,_,g⟩:=(PD a).2 i k n;exact I.dj j k t _ (λz=>x.1 (z▸hk)) e g b hb z;constructor
    ·rintro⟨k,hk,z⟩
     rcases QL.mp hk with e|e;subst e;exact .inl z;exact .inr ⟨k,e,z⟩
    rintro(z|⟨k,hk,z⟩)
    ·exact⟨j,QF,z⟩
    exact⟨k,QE _ hk,z⟩
  cases h
theorem Rl.setO(I:Rl K F H S ρ σ)(i:Nat){v:V}{t:T}{Z:bB}(hv:σ[i]?=some (some v))(r:Tr K F H true v t Z)(w:∀(j:Nat) s,j≠i->ρ[j]?=some (some s)->∀b,Z b->¬ S j b):Rl K F H (iH S i Z) (ρ.set i (some (.own t))) σ where
 fh:=I.fh
 len:=by simpa using I.len
 sl:=λj s h=>by
  rcases dA h with⟨rfl,e,hl⟩| ⟨g,h⟩
  cases e;exact⟨v,hv,by rw[OA];exact r⟩;rw[KA (Q4 g)];exact I.sl j s h
 dj:=λj k a s n u x b hb hk=>by
  rcases dA u with⟨e,_,_⟩| ⟨f,u⟩
  subst e;rw[OA]at hb;rcases dA x with⟨e,_,_⟩| ⟨z,x⟩
  exact n e;rw[KA (Q4 z)]at hk;exact w k s (Q4 z) x b hb hk;rw[KA (Q4 f)]at hb;rcases dA x with⟨e,_,_⟩| ⟨z,x⟩
  subst e;rw[OA]at hk;exact w j _ n u b hk hb;rw[KA (Q4 z)]at hk;exact I.dj j k a s n u x b hb hk
theorem PL:∀{J:LN}{w:LT}{vs:LV}{M:bB}{S1:Ft}{y x:zA},J.Nodup->Rl K F H S1 y σ->Trs K F H true vs w M->vs.map (λv=>some (some v))=J.map (λj=>σ[j]?)->Held F H S1 y M->zC J w y=some x ->
  ∃f,Rl K F H f x σ/\(∀i,i∉J->x[i]?=y[i]?/\f i=S1 i)/\∀i∈J,∀s,x[i]?=some (some s)->(∃t,s=.own t)/\∀b,f i b->M b
 |[],w,vs,M,S1,y,x,nd,I,r,hv,hm,h=>by
  cases w with|nil=>simp only[zC,Qp]at h;subst h;exact⟨S1,I,λ_ _=>⟨rfl,rfl⟩,λi u=>by simp at u⟩|cons _ _=>simp[zC]at h
 |j::J,w,vs,M,S1,y,x,nd,I,r,hv,hm,h=>by
  cases r with
  |nil _=>simp[zC]at h|@cons _ v t vs ts _ Z Q G C n q =>
   simp only[zC]at h;simp only[QW,QAA]at hv;have a:=Qj.mp nd;have R:=I.setO j hv.1.symm G λk s _ hk b hb=>hm.nw k s hk b ((q b).mpr (.inl hb));have W:Held F H (iH S1 j Z) (y.set j (some (.own t))) Q:=⟨λb hb=>hm.dom b ((q b).mpr (.inr hb)),λi s u b hb z=>by
    rcases dA u with⟨rfl,_,_⟩| ⟨X,u⟩
    rw[OA]at z;exact n b z hb;rw[KA (Q4 X)]at z;exact hm.nw i s u b ((q b).mpr (.inr hb)) z⟩
   obtain⟨f,P,B,O⟩:=PL a.2 R C hv.2 W h;refine⟨f,P,λi u=>?_,λi u s Y=>?_⟩;have A:j≠i:=λe=>u (e▸QF);obtain⟨o,g⟩:=B i λm=>u (QE _ m);rw[rD A]at o;rw[KA (Q4 A)]at g;exact⟨o,g⟩;rcases QL.mp u with e|e
   ·subst e
    obtain⟨o,g⟩:=B i a.1;rw[o]at Y;rcases dA Y with⟨_,e,_⟩| ⟨X,_⟩
    injection e with e;refine⟨⟨t,e⟩,λb hb=>?_⟩;rw[g,OA]at hb;exact(q b).mpr (.inl hb);exact absurd rfl X
   obtain⟨N,L⟩:=O i e s Y;exact⟨N,λb hb=>(q b).mpr (.inr (L b hb))⟩
theorem xc{f:Str}{as:PX}(g:GOk K Γ Ψ)(ia:PSnd K Γ Ψ as)(I:Rl K F H S ρ σ)(X:SE K F H S ρ E p){Q:TK}{R:VK}{ws:LN}(h:(pe Ψ (.call f as) E).e ρ Q)(k:kB K ws F H S ρ σ Q R):(wp K Γ (.call f as) p).e σ H R:=by
 obtain⟨os,ho,nd,h⟩:=h;generalize hJ:uA (Ψ.sp f).md as=J at ho nd h;have C:∀j∈J,∃t,ρ[j]?=some (some (.own t)):=λj A=>by obtain⟨i,hi⟩:=Wn.mp A;obtain⟨t,_,e⟩:=(PD ho).2 i j hi;exact⟨t,e⟩
 have I0:Rl K F H S (clear J ρ) σ:=I.drop (DO J ρ) λi s e=>(lD J ρ i s e).2;have P:∀b,U (clear J ρ) S b->U ρ S b:=λb ⟨i,t,h1,O⟩=>⟨i,t,(lD J ρ i _ h1).2,O⟩
 have X0:SE K F H S (clear J ρ) E p:=λx dx F2 H2 S2 L m ff r q=>X x dx F2 H2 (λ_ _=>False) [] ⟨m.ff,λb u e n=>m.hh b u e λz=>n (P b z),m.dm,λb e z=>(m.fn b e z).imp (P b) id,λb ⟨i,t,e,_⟩=>by simp at e,λj t e=>by simp at e⟩ ff r q;have hm:∀j∈uA (Ψ.sp f).md as,∃v,σ[j]?=some (some v):=λj A=>by obtain⟨t,e⟩:=C j (hJ▸A);obtain⟨v,h1,_⟩:=I.sl j _ e;exact⟨v,h1⟩
 show(wp K Γ as p).a σ H λvs c=>Γ.sp f vs c R p;refine ia.a I0 X0 hm h λvs l c S1 y xs W Y s1 I1 r1 mv q1=>?_;rw[hJ]at mv;obtain⟨ts,hp,q1⟩:=q1;have hw:=r1.held;have m:=s1.frz (λb hb=>(hw.dom b hb).2) r1.fr;have I2:=I1.frz hw;have yk:∀b,Y b->l b=none->FI l c W b=none:=λb hy hf=>by obtain⟨i,sl,_,O,h3⟩:=r1.tm b hy;rw[mC λz=>r1.nw i sl O b z h3];exact hf
 obtain⟨ar,mt⟩:=r1.av.pass (RG λb hb=>(hw.dom b hb).2) (λb hb=>DI hb) yk hp;generalize FI l c W=F2 at m I2 yk ar;have M0:=I.trs nd ho mv;have hM:Held F H S (clear J ρ) (λb=>∃j∈J,S j b):=⟨λb ⟨j,A,hb⟩=>let⟨t,e⟩:=C j A;I.dom e hb,λi s e b ⟨j,A,hb⟩ z=>by obtain⟨G,B⟩:=lD J ρ i s e;obtain⟨t,et⟩:=C j A;exact I.dj j i t s (λq=>G (q▸A)) et B b hb z⟩
 have N:=hM.step m.toStp I2;have M2:Trs K F2 c true (mB (Ψ.sp f).md vs) (DB (Ψ.sp f).md ts) (λb=>∃j∈J,S j b):=by
  rw[mt];refine M0.mono m.ff λb hb=>?_;refine⟨?_,(N.dom b hb).2⟩;cases e:H b with|none=>exact absurd e (hM.dom b hb).1|some u=>exact m.hh b u e (hM.nu b hb)
 refine g.sp f vs c R p ⟨F2,ts,_,Y,I2.fh,ar,M2,λb hy hb=>?_,?_⟩;obtain⟨i,sl,_,O,h3⟩:=r1.tm b hy;exact N.nw i sl O b hb h3
 ·have up:∀b,(∃j∈J,S j b)->U ρ S b:=λb ⟨j,A,hb⟩=>let⟨t,e⟩:=C j A;⟨j,t,e,hb⟩
  have lk:∀b,(∃j∈J,S j b)∨c b=none->U ρ S b∨H b=none:=λb hb=>hb.imp (up b) (m.dm b);refine(Ψ.sp f).mono ?_ ?_ q1
  rotate_left
  rintro x qx dx F' H' o xr;refine X x dx F' H' (λ_ _=>False) [] ⟨m.ff.trans o.ff,λb u e n=>o.hh b u (m.hh b u e λz=>n (P b z)) λz=>n (up b z),λb e=>m.dm b (o.dm b e),λb e z=>?_,λb ⟨i,t,e,_⟩=>by simp at e,λj t e=>by simp at e⟩ o.fh xr qx;by_cases q:F2 b=none;exact lk b (o.fn b q z);exact(m.fn b e q).imp (P b) id;rintro r os' ⟨L,hput,q⟩ v F' H' Z M' o tr trs dz hf;have I3:Rl K F' H' S1 y σ:=⟨o.fh,I2.len,λi s e=>by
   obtain⟨w,g1,g2⟩:=I2.sl i s e;refine⟨w,g1,g2.mono o.ff λb hb=>?_⟩;obtain⟨d1,d2⟩:=g2.dom b hb;have nM:¬ ∃j∈J,S j b:=λz=>N.nw i s e b z hb;refine⟨?_,?_⟩;cases e:c b with|none=>exact absurd e d1|some u=>exact o.hh b u e nM
   by_cases z:F' b=none
   ·exact z
   exact((o.fn b d2 z).elim nM d1).elim,I2.dj⟩
  have nw3:∀b,(∃j∈J,S j b)∨c b=none->∀(i:Nat) s,y[i]?=some (some s)->¬ S1 i b:=λb hb i s e z=>by rcases hb with hb|hb;exact N.nw i s e b hb z;exact(I2.dom e z).1 hb
  have hM':Held F' H' S1 y M':=⟨trs.dom,λi s e b hb=>nw3 b (hf b (.inr hb)) i s e⟩
  obtain⟨S2,I4,g2,g3⟩:=PL nd I3 trs mv hM' hput;have M:∀i s,L[i]?=some (some s)->(i∈J/\(∃t,s=.own t)/\∀b,S2 i b->M' b)∨(i∉J/\y[i]?=some (some s)/\S2 i=S1 i):=λi s e=>by by_cases hi:i∈J;exact .inl ⟨hi,g3 i hi s e⟩;obtain⟨G,B⟩:=g2 i hi;exact .inr ⟨hi,G▸e,B⟩
  have st:Ste F H S ρ F' H' S2 L:=⟨⟨m.ff.trans o.ff,λb u e n=>o.hh b u (m.hh b u e λz=>n (P b z)) λz=>n (up b z),λb e=>m.dm b (o.dm b e),λb e z=>by
    by_cases q:F2 b=none;exact lk b (o.fn b q z);exact(m.fn b e q).imp (P b) id,
   λb ⟨i,t,h1,O⟩=>by
    rcases M i _ h1 with⟨_,_,e⟩| ⟨_,G,B⟩
    exact lk b (hf b (.inr (e b O)));rw[B]at O;exact(m.uu b ⟨i,t,G,O⟩).imp (P b) id,
   λj t e hd=>by
    rcases M j _ e with⟨_,⟨t',z⟩,_⟩| ⟨_,G,B⟩
    cases z;obtain⟨b1,b2⟩:=m.bo j t G hd;exact⟨(lD J ρ j _ b1).2,B.trans b2⟩⟩,
   λj t e=>by
    rcases M j _ e with⟨A,_,_⟩| ⟨_,G,B⟩
    exact C j A;obtain⟨t0,e0⟩:=m.ow j t G;exact⟨t0,(lD J ρ j _ e0).2⟩⟩
  refine k v F' H' S2 L r true Z st I4 ⟨tr,λ_ b hb=>?_,λz=>(by cases z),λ_ i s e b hb z=>?_⟩ q;exact(lk b (hf b (.inl hb))).symm;rcases M i s e with⟨_,_,B⟩| ⟨_,G,B⟩
  ·exact dz b hb (B b z)
  rw[B]at z;exact nw3 b (hf b (.inl hb)) i s G z
end
section
variable{K:QA}{Γ:Ev}{Ψ:PEv}{E:XE}{O:XK}{F H F1 H1:Hp}{S S1:Ft}{ρ Q:zA}{σ:St}
section
variable{j i:Nat}{t s:T}{b:Bool}{G C:Hp}{B:Ft}{Y:zA}{W P Z:bB}{vs L:LV}{ts us:LT}{a:Addr}{M o:HO}{v A J:V}{x y:D}{ks:List D}{R:Hp->Prop}{N:T->Prop}
theorem bC(z:ρ[j]?=some (some (.own t))){s:Sl}(h:(ρ.set j (some (.ky t)))[i]?=some (some s)):(i=j/\s=.ky t)∨(i≠j/\ρ[i]?=some (some s)):=by
 rcases dA h with⟨rfl,e,_⟩| ⟨n,h⟩
 injection e with e;exact .inl ⟨rfl,e⟩;exact .inr ⟨Q4 n,h⟩
theorem Rl.lock1(I:Rl K F H S ρ σ)(h:ρ[j]?=some (some (.own t))):Rl K F H S (ρ.set j (some (.ky t))) σ where
 fh:=I.fh
 len:=by simpa using I.len
 sl:=λi s e=>by
  rcases bC h e with⟨rfl,rfl⟩| ⟨_,e⟩
  obtain⟨v,g,f⟩:=I.sl i _ h;exact⟨v,g,f.weak⟩;exact I.sl i s e
 dj:=λi k u s n p m=>by
  rcases bC h p with⟨_,z⟩| ⟨r,w⟩
  cases z;rcases bC h m with⟨q,_⟩| ⟨_,l⟩
  ·exact I.dj i k u _ n w (q▸h)
  exact I.dj i k u s n w l
theorem Rl.lock1U(I:Rl K F H S ρ σ)(w:ρ[j]?=some (some (.own t)))(b:Addr)(hb:S j b):¬ U (ρ.set j (some (.ky t))) S b:=λ⟨i,u,h,k⟩=>by
 rcases bC w h with⟨_,z⟩| ⟨n,h⟩
 cases z;exact I.dj i j u _ n h w b k hb
theorem lock1U(k:ρ[j]?=some (some (.own t))){b:Addr}(h:U (ρ.set j (some (.ky t))) S b):U ρ S b:=by
 obtain⟨i,u,w,e⟩:=h;rcases bC k w with⟨_,z⟩| ⟨n,w⟩
 cases z;exact⟨i,u,w,e⟩
theorem SE.lock1(X:SE K F H S ρ E O)(w:ρ[j]?=some (some (.own t))):SE K F H S (ρ.set j (some (.ky t))) E O:=λx k G C B Y h f r q =>
 X x k G C (λ_ _=>False) [] ⟨h.ff,λb u e n=>h.hh b u e λz=>n (lock1U w z),h.dm,λb e z=>(h.fn b e z).imp (lock1U w) id,λb ⟨i,t,e,_⟩=>by simp at e,λj t e=>by simp at e⟩ f r q
theorem rS(I:Rl K F H S ρ σ)(h:ρ[j]?=some (some (.own t)))(s:Ste F H S (ρ.set j (some (.ky t))) G C B Y)(l:Rl K G C B Y σ){b:Addr}(hb:S j b) :
  ∀(i:Nat) w,i≠j->Y[i]?=some (some w)->¬ B i b:=λi w n e z=>by
 cases w with
 |own u=>rcases s.uu b ⟨i,u,e,z⟩ with q|q;exact I.lock1U h b hb q;exact(I.dom h hb).1 q
 |ky u =>
  cases f:u.isD with
  |true=>exact l.isD e f z|false =>
   obtain⟨k,g⟩:=s.bo i u e f;rw[g]at z;rcases bC h k with⟨q,_⟩| ⟨_,k⟩
   exact n q;exact I.dj j i t _ (Q4 n) h k b hb z
theorem lI{t':T}{v0:V}{m:Hp}{Z':bB}(I:Rl K F H S ρ σ)(w:ρ[j]?=some (some (.own t)))(hv:σ[j]?=some (some v0))(s:Ste F H S (ρ.set j (some (.ky t))) G C B Y)(l:Rl K G C B Y σ)
  (hH:∀b u,C b=some u->¬ S j b->m b=some u) (dm:∀b,m b=none->C b=none) (r:Tr K G m true v0 t' Z') (hz:∀b,Z' b->S j b∨W b∨C b=none) (hw:Held G C B Y W) (frW:∀b,W b->H b=none∨U (ρ.set j (some (.ky t))) S b) :
  Ste F H S ρ G m (iH B j Z') (Y.set j (some (.own t')))/\Rl K G m (iH B j Z') (Y.set j (some (.own t'))) σ/\∀b,S j b∨W b∨C b=none->∀(i:Nat) h,i≠j->Y[i]?=some (some h)->¬ B i b:=by
 have nw:∀b,S j b∨W b∨C b=none->∀(i:Nat) h,i≠j->Y[i]?=some (some h)->¬ B i b:=λb hb i h n e z=>by rcases hb with hb|hb|hb;exact rS I w s l hb i h n e z;exact hw.nw i h e b hb z;exact(l.dom e z).1 hb
 have uj:∀b,S j b->U ρ S b:=λb hb=>⟨j,t,w,hb⟩
 have lk:∀b,S j b∨W b∨C b=none->U ρ S b∨H b=none:=λb hb=>by rcases hb with hb|hb|hb;exact .inl (uj b hb);exact(frW b hb).symm.imp (lock1U w) id;exact .inr (s.dm b hb)
 have fS:∀b,S j b->G b=none:=λb hb=>by
  by_cases q:G b=none;exact q;rcases s.fn b (I.dom w hb).2 q with z|z
  ·exact absurd z (I.lock1U w b hb)
  exact absurd z (I.dom w hb).1
 have fh:Same G m:=λb u e=>hH b u (l.fh b u e) λz=>by rw[fS b z]at e;cases e
 have I3:Rl K G m B (Y.set j none) σ:=⟨fh,by simpa using l.len,λi h e=>by
   rcases dA e with⟨_,z,_⟩| ⟨n,e⟩
   cases z;obtain⟨v,p,f⟩:=l.sl i h e;refine⟨v,p,f.mono (.refl _) λb hb=>⟨?_,(f.dom b hb).2⟩⟩;cases eb:C b with|none=>exact absurd eb (f.dom b hb).1|some u=>exact hH b u eb λz=>rS I w s l z i h (Q4 n) e hb,
  λi k u h n g X=>by
   rcases dA g with⟨_,z,_⟩| ⟨_,g⟩
   cases z;rcases dA X with⟨_,z,_⟩| ⟨_,X⟩
   ·cases z
   exact l.dj i k u h n g X⟩
 have I4:=I3.setO j hv r λi h n e b hb=>by
  rcases dA e with⟨_,z,_⟩| ⟨_,e⟩
  cases z;exact nw b (hz b hb) i h n e
 have es:(Y.set j none).set j (some (.own t'))=Y.set j (some (.own t')):=by simp
 rw[es]at I4;refine⟨⟨⟨s.ff,λb u e n=>hH b u (s.hh b u e λz=>n (lock1U w z)) λz=>n (uj b z),λb e=>s.dm b (dm b e),λb e z=>(s.fn b e z).imp (lock1U w) id,λb ⟨i,u,p,f⟩=>?_,λi u e hd=>?_⟩,λi u e=>?_⟩,I4,nw⟩;rcases dA p with⟨rfl,_,_⟩| ⟨n,p⟩
 ·rw[OA]at f
  exact lk b (hz b f)
 rw[KA (Q4 n)]at f;exact(s.uu b ⟨i,u,p,f⟩).imp (lock1U w) id;rcases dA e with⟨rfl,z,_⟩| ⟨n,e⟩
 ·cases z
 obtain⟨g,X⟩:=s.bo i u e hd;rcases bC w g with⟨z,_⟩| ⟨_,g⟩
 exact absurd z.symm n;exact⟨g,by rw[KA (Q4 n)];exact X⟩;rcases dA e with⟨rfl,_,_⟩| ⟨n,e⟩
 ·exact⟨t,w⟩
 obtain⟨t0,e0⟩:=s.ow i u e;rcases bC w e0 with⟨_,z⟩| ⟨_,e0⟩
 cases z;exact⟨t0,e0⟩
theorem Trs.erase{st:Bool}{S:bB}{k:Nat}(h:Trs K F H st vs ts S)(e:ts[k]?=some t):∃v P1 u,vs[k]?=some v/\Tr K F H st v t P1/\Trs K F H st (vs.eraseIdx k) (ts.eraseIdx k) u/\(∀b,P1 b->¬ u b)/\∀b,P1 b∨u b->S b:=by
 revert k;refine Trs.ind (R:=λst vs ts S=>∀{k:Nat},ts[k]?=some t->∃v P1 u,vs[k]?=some v/\Tr K F H st v t P1/\Trs K F H st (vs.eraseIdx k) (ts.eraseIdx k) u/\(∀b,P1 b->¬ u b)/\∀b,P1 b∨u b->S b) (λn k e=>by cases e) (λ{_ _ _ _ _ _ r _} h t n q f k e=>?_) h;cases k with|zero=>cases e;exact⟨_,_,_,rfl,h,t,n,λb hb=>(q b).mpr hb⟩|succ k=>obtain⟨v,P1,u,p,m,l,g,w⟩:=f (k:=k) e;refine⟨v,P1,λb=>r b∨u b,p,m,.cons h l (λb hb z=>n b hb (w b (.inr z))) λb=>WT,λb hb z=>z.elim (λz=>n b z (w b (.inl hb))) (g b hb),λb hb=>(q b).mpr ?_⟩;rcases hb with hb|hb|hb;exact .inr (w b (.inl hb));exact .inl hb;exact .inr (w b (.inr hb))
theorem iI{α:Type}:∀{l:List α}{k:α},l.Nodup->¬ k∈l->(l++[k]).Nodup
 |[],k,_,_=>by simp|a::r,k,h,hk=>by obtain⟨u,z⟩:=Qj.mp h;show(a::(r++[k])).Nodup;refine Qj.mpr ⟨λm=>?_,iI z λm=>hk (QL.mpr (Or.inr m))⟩;rcases Qi.mp m with q|q;exact u q;exact hk (QL.mpr (Or.inl (QJ.mp q).symm))
theorem vL(h:F a=none)(r:Trs K F H true L us P)(n:¬ P a):Tr K F (BA H a (.lst L)) true (.ref a) (.lst us) λb=>b=a∨P b :=
 .lst (S':=P) aA h (r.mono (.refl _) λb hb=>⟨kA λz=>n (z▸hb),(r.dom b hb).2⟩) n λb=>WT
theorem uD(w:Z a)(b:Addr)(u:HO)(e:H b=some u)(hb:¬ Z b):BA H a M b=some u:=by have h:b≠a:=λz=>hb (by rw[z];exact w);rw[kA h];exact e
theorem sB(b:Addr)(e:BA H a M b=none):H b=none:=by by_cases hb:b=a;rw[hb,aA]at e;cases e;rw[kA hb]at e;exact e
theorem Ma{m:Mt}{N:T->T->Prop}{R:VK}(f:Same F H)(r:Tr K F H true v s Z)(rv:Trs K F H true vs ts W)(dj:∀b,Z b->¬ W b)(h:FK m s ts N)
  (k:∀w r s' H' S1 Zr,(∀b u,H b=some u->¬ Z b->H' b=some u)->(∀b,H' b=none->H b=none)->Tr K F H' true v s' S1->Tr K F H' true w r Zr->(∀b,Zr b->¬ S1 b)->(∀b,S1 b∨Zr b->Z b∨W b∨H b=none)->N r s'->R w H'):Ra K m v vs H R:=by
 cases m with
 |append =>
  obtain⟨us0,t0,rfl,rfl,h⟩:=h;cases r with
  |@lst _ a xs _ _ S' h1 h2 l X e =>
   have g:Z a:=(e a).mpr (.inl rfl);cases rv with
   |@cons _ w t ws us _ W1 W2 p r2 n q =>
    cases r2 with
    |nil n2 =>
     have hW:∀b,W b↔W1 b:=λb=>by rw[q b];simp[n2 b]
     refine⟨a,xs,w,rfl,rfl,h1,by rw[l.length];exact h.1,k .non (.d .none) _ _ _ (λ_=>False) (uD g) sB (vL h2 (Trs.append l (Trs.one p) λb hb hw=>dj b ((e b).mpr (.inr hb)) ((hW b).mpr hw)) λz=>z.elim X λz=>dj a g ((hW a).mpr z)) (.d .non λ_ z=>z) (λ_ z=>z.elim) (λb hb=>?_) h.2⟩;rcases hb with(hb|hb|hb)|hb;exact .inl (hb▸g);exact .inl ((e b).mpr (.inr hb));exact .inr (.inl ((hW b).mpr hb));exact hb.elim
 |extend =>
  obtain⟨us0,vs0,rfl,rfl,h⟩:=h;cases r with
  |@lst _ a xs _ _ S' h1 h2 l X e =>
   have g:Z a:=(e a).mpr (.inl rfl);cases rv with
   |@cons _ w t ws us _ W1 W2 p r2 n q =>
    cases r2 with
    |nil n2 =>
     have hW:∀b,W b↔W1 b:=λb=>by rw[q b];simp[n2 b]
     cases p with|@lst _ c zs _ _ B g1 g2 g3 g4 I=>have dw:∀b,B b->W b:=λb hb=>(hW b).mpr ((I b).mpr (.inr hb));refine⟨a,c,xs,zs,rfl,rfl,h1,g1,by rw[l.length,g3.length];exact h.1,k .non (.d .none) _ _ _ (λ_=>False) (uD g) sB (vL h2 (Trs.append l g3 λb hb hw=>dj b ((e b).mpr (.inr hb)) (dw b hw)) λz=>z.elim X λz=>dj a g (dw a z)) (.d .non λ_ z=>z) (λ_ z=>z.elim) (λb hb=>?_) h.2⟩;rcases hb with(hb|hb|hb)|hb;exact .inl (hb▸g);exact .inl ((e b).mpr (.inr hb));exact .inr (.inl (dw b hb));exact hb.elim
 |pop =>
  obtain⟨us0,i,j,t0,rfl,rfl,hi,ht,q⟩:=h;cases r with
  |@lst _ a xs _ _ S' h1 h2 l X e =>
   have g:Z a:=(e a).mpr (.inl rfl);obtain⟨w,P1,P2,g1,g2,g3,g4,I⟩:=l.erase ht;have na:¬ P1 a:=λz=>X (I a (.inl z));have nb:¬ P2 a:=λz=>X (I a (.inr z));cases rv with
   |cons p r2 n q2 =>
    cases r2;cases p with
    |d p n1 =>
     cases p;refine⟨a,i,xs,j,w,rfl,rfl,h1,by rw[l.length];exact hi,g1,k w t0 _ _ _ P1 (uD g) sB (vL h2 g3 nb) (g2.mono (.refl _) λb hb=>⟨kA λz=>na (z▸hb),(g2.dom b hb).2⟩) (λb hb z=>?_) (λb hb=>?_) q⟩;rcases z with z|z
     ·exact na (z▸hb)
     exact g4 b hb z;rcases hb with(hb|hb)|hb
     ·exact .inl (hb▸g)
     exact .inl ((e b).mpr (.inr (I b (.inr hb))));exact .inl ((e b).mpr (.inr (I b (.inl hb))))
 |_=>exact h.elim
theorem Trs.setD(w:Rep K F A x){S:bB}(n:Nat)(h:Trs K F H true vs ts S):∃P,Trs K F H true (vs.set n A) (ts.set n (.d x)) P/\∀b,P b->S b:=by
 revert n;refine Trs.ind (R:=λst vs ts S=>∀n:Nat,∃P,Trs K F H st (vs.set n A) (ts.set n (.d x)) P/\∀b,P b->S b) (λ{_ S} z n=>⟨S,.nil z,λ_ h=>h⟩) (λ{_ _ _ _ _ _ S1 B} h t m q k n=>?_) h;cases n with|zero=>exact⟨B,.cons (S1:=λ_=>False) (.d w λ_ z=>z) t (λ_ z=>z.elim) λb=>by simp,λb hb=>(q b).mpr (.inr hb)⟩|succ n=>obtain⟨P,e,u⟩:=k n;exact⟨λb=>S1 b∨P b,.cons h e (λb hb z=>m b hb (u b z)) λb=>WT,λb hb=>(q b).mpr (hb.imp id (u b))⟩
theorem Trs.part{S:bB}(h:Trs K F H true vs ts S)(e:ts[i]?=some t):∃v S1,vs[i]?=some v/\Tr K F H true v t S1/\(∀b,S1 b->S b) /\
  ∀(w:Hp) t' u,(∀b,S b->¬ S1 b->w b=H b)->Tr K F w true v t' u->(∀b,u b->S1 b)->∃P,Trs K F w true vs (ts.set i t') P/\∀b,P b->S b:=by
 revert i;refine Trs.ind (R:=λst vs ts S=>∀{i:Nat},ts[i]?=some t->∃v S1,vs[i]?=some v/\Tr K F H st v t S1/\(∀b,S1 b->S b)/\∀(w:Hp) t' u,(∀b,S b->¬ S1 b->w b=H b)->Tr K F w st v t' u->(∀b,u b->S1 b)->∃P,Trs K F w st vs (ts.set i t') P/\∀b,P b->S b) (λn i e=>by cases e) (λ{_ _ _ _ _ _ m P2} h t n q p i e=>?_) h;cases i with|zero=>cases e;exact⟨_,m,rfl,h,λb hb=>(q b).mpr (.inl hb),λw t' u k r f=>⟨λb=>u b∨P2 b,.cons r (t.mono (.refl _) λb hb=>⟨k b ((q b).mpr (.inr hb)) λz=>n b z hb,(t.dom b hb).2⟩) (λb hb z=>n b (f b hb) z) λb=>WT,λb hb=>(q b).mpr (hb.imp (f b) id)⟩⟩|succ i=>obtain⟨v,S1,h1,h2,g,I⟩:=p (i:=i) e;refine⟨v,S1,h1,h2,λb hb=>(q b).mpr (.inr (g b hb)),λw t' u k r f=>?_⟩;obtain⟨P,g1,l⟩:=I w t' u (λb hb X=>k b ((q b).mpr (.inr hb)) X) r f;exact⟨λb=>m b∨P b,.cons (h.mono (.refl _) λb hb=>⟨k b ((q b).mpr (.inl hb)) λz=>n b hb (g b z),(h.dom b hb).2⟩) g1 (λb hb z=>n b hb (l b z)) λb=>WT,λb hb=>(q b).mpr (hb.imp id (l b))⟩
def Aq(ks:List D)(k:D):List D:=match bA ks k with
 |some _=>ks|none=>ks++[k]
noncomputable def Mq{α:Type}(ks:List D)(vs:List α)(k:D)(x:α):List α:=match bA ks k with
 |some n=>vs.set n x|none=>vs++[x]
theorem iP{α h:Type}[DecidableEq α](k:α)(key:h->α)(f:h->h)(hf:∀p,key (f p)=key p):∀(l:List h) (n:Nat),(l.map key).Nodup->(l.map key)[n]?=some k->(∀(g:h->V) (x:V),(∀p,key p=k->g (f p)=x)->(l.map λp=>if key p=k then f p else p).map g=(l.map g).set n x)
 |[],n,_,e=>by simp at e|p::r,0,nd,e=>by
  intro g x w;have e:key p=k:=by simpa using e
  rw[QW]at nd;obtain⟨u,m⟩:=Qj.mp nd;have e2:(r.map λp=>if key p=k then f p else p)=r:=by rw[show r=r.map id from(QCX r).symm,QY];refine qm λq I=>?_;have:key q≠k:=λz=>u (QZ.mpr ⟨q,by simpa using I,z.trans e.symm⟩);simp[this]
  rw[QW,e2,QW,QW,if_pos e,w p e];rfl
 |p::r,n+1,nd,e=>by
  intro g x w;rw[QW]at nd;obtain⟨u,m⟩:=Qj.mp nd;have e:(r.map key)[n]?=some k:=by simpa using e
  have X:¬ key p=k:=λz=>u (by rw[z];exact qN e);rw[QW,QW,QW,if_neg X,iP k key f hf r n m e g x w];rfl
theorem put_keys{α h z:Type}[DecidableEq α](k:α)(key:h->α)(f:h->h)(g:h->z)(u:∀p,g (f p)=g p)(l:List h):(l.map λp=>if key p=k then f p else p).map g=l.map g:=by rw[QY];refine qm λp _=>?_;show g (if key p=k then f p else p)=g p;split;exact u p;rfl
theorem uK.put{k:D}(f:Same F H)(ha:H a=some o)(dk:uK K F b o ks vs)(ry:Rep K F J k)(hk:HD b k)(hl:ks.length<sizeLine)
  (kk:∀o',uK K F b o' (Aq ks k) (Mq ks vs k A)->R (BA H a o')):KR K (.ref a) J A H R:=by
 cases b with
 |true =>
  obtain⟨ep,u,rfl,rfl,rfl,h4,X⟩:=dk;cases sQ hk ry with
  |intro q h =>
   obtain⟨p,rfl,rfl,hq⟩:=h;refine⟨ep,u,q,ha,λp hp=>f.key (h4 p hp),f.key hq,by simpa using hl,λI=>kk _ ?_⟩;have w:=BG q u;unfold OL Aq Mq;cases e:bA (u.map λp=>tD p.1) (tD q) with
   |none =>
    rw[e]at w;have w:jH u q=none:=w;rw[w];refine⟨I,u++[(q,p,A)],rfl,by simp,by simp,λx l=>?_,?_⟩;rcases Qi.mp l with l|l
    ·exact h4 x l
    rw[QJ.mp l];exact hq;rw[QO];refine iI X λm=>AA.mp e ?_;obtain⟨x,l,ex⟩:=QZ.mp m;exact QZ.mpr ⟨x,l,by rw[ex]⟩
   |some n =>
    rw[e]at w;have g:=PC e;have r:(u.map (·.1))[n]?=some q:=by
     rw[QT]at g ⊢;cases en:u[n]? with|none=>rw[en]at g;cases g|some x=>rw[en]at g;rw[Qx,Qp]at g ⊢;exact iU g
    have hs:(jH u q).isSome=true:=by
     rw[w];have:n<u.length:=by have:=(Qg.mp r).1;simpa using this
     simp[this]
    rw[if_pos hs];refine⟨I,_,rfl,(put_keys q (·.1) (λp=>(p.1,p.2.1,A)) (λp=>tD p.1) (λ_=>rfl) u).symm,(iP q (·.1) (λp=>(p.1,p.2.1,A)) (λ_=>rfl) u n X r (·.2.2) A λ_ _=>rfl).symm,λx l=>?_,?_⟩;obtain⟨y,hy,ey⟩:=QZ.mp l;have hy:=h4 y hy;by_cases z:y.1=q;rw[if_pos z]at ey;subst ey;exact hy;rw[if_neg z]at ey;subst ey;exact hy;have:=put_keys q (·.1) (λp:KE=>(p.1,p.2.1,A)) (·.1) (λ_=>rfl) u;rw[this];exact X
 |false =>
  obtain⟨z,rfl⟩:=hk;cases ry;rcases dk with⟨u,hne,rfl,rfl,rfl,X⟩| ⟨ep,rfl,rfl,rfl⟩
  rotate_left
  exact .inr ⟨ep,ha,kk _ (.inl ⟨[(.inr z,A)],by simp,rfl,rfl,rfl,by simp⟩)⟩;refine .inl ⟨u,ha,by simpa using hl,kk _ (.inl ?_)⟩;have w:=sJ (.inr z) u;have ez:kD (.inr z)=.str z:=rfl;rw[ez]at w;unfold VU Aq Mq;rw[dR];cases e:bA (u.map λp=>kD p.1) (.str z) with
  |none=>rw[e]at w;have w:eL u (.inr z)=none:=w;rw[w];refine⟨u++[(.inr z,A)],by simp,rfl,by simp[ez],by simp,?_⟩;rw[QO];refine iI X λm=>AA.mp e ?_;obtain⟨x,l,ex⟩:=QZ.mp m;exact QZ.mpr ⟨x,l,by rw[ex];rfl⟩|some n =>
   rw[e]at w;have g:=PC e;have r:(u.map (·.1))[n]?=some (.inr z):=by
    rw[QT]at g ⊢;cases en:u[n]? with|none=>rw[en]at g;cases g|some x=>rw[en]at g;rw[Qx,Qp]at g ⊢;exact z6 g
   have hs:(eL u (.inr z)).isSome=true:=by
    rw[w];have:n<u.length:=by have:=(Qg.mp r).1;simpa using this
    simp[this]
   rw[if_pos hs];refine⟨_,by simpa using hne,rfl,(put_keys (.inr z) (·.1) (λp=>(p.1,A)) (λp=>kD p.1) (λ_=>rfl) u).symm,(iP (.inr z) (·.1) (λp=>(p.1,A)) (λ_=>rfl) u n X r (·.2) A λ_ _=>rfl).symm,?_⟩;have:=put_keys (.inr z) (·.1) (λp:Key×V=>(p.1,A)) (·.1) (λ_=>rfl) u;rw[this];exact X
theorem FQ(h:F a=none)(dk:uK K F b o ks L)(r:Trs K F H true L us P)(n:¬ P a):Tr K F (BA H a o) true (.ref a) (.dct b ks us) λb=>b=a∨P b :=
 .dct (S':=P) aA dk h (r.mono (.refl _) λb hb=>⟨kA λz=>n (z▸hb),(r.dom b hb).2⟩) n λb=>WT
theorem N1(f:Same F H)(r:Tr K F H true v s Z)(ry:Rep K F J y)(rx:Rep K F A x)(h:Gm s y x N)
  (k:∀s' H' S1,(∀b u,H b=some u->¬ Z b->H' b=some u)->(∀b,H' b=none->H b=none)->Tr K F H' true v s' S1->(∀b,S1 b->Z b)->N s'->R H'):KR K v J A H R:=by
 cases s with
 |lst ts =>
  cases y with
  |int i =>
   obtain⟨n,hn,q⟩:=h;cases ry;cases r with|@lst _ a xs _ _ S' h1 h2 m I l=>have g:Z a:=(l a).mpr (.inl rfl);obtain⟨P,X,p⟩:=m.setD rx n;refine⟨xs,n,h1,by rw[m.length];exact hn,k _ _ _ (uD g) sB (vL h2 X λz=>I (p a z)) (λb hb=>?_) q⟩;rcases hb with hb|hb;exact hb▸g;exact(l b).mpr (.inr (p b hb))
  |_=>exact h.elim
 |dct b ks ts =>
  obtain⟨hk,hl,q⟩:=h;cases r with
  |@dct _ _ a o _ vs _ _ S' h1 dk h2 m I l =>
   have g:Z a:=(l a).mpr (.inl rfl);refine dk.put f h1 ry hk hl λo' w=>?_;unfold Aq Mq at w;unfold CJ at q;cases e:bA ks y with
   |some n=>rw[e]at w q;obtain⟨P,X,p⟩:=m.setD rx n;refine k _ _ _ (uD g) sB (FQ h2 w X λz=>I (p a z)) (λb hb=>?_) q;rcases hb with hb|hb;exact hb▸g;exact(l b).mpr (.inr (p b hb))
   |none=>rw[e]at w q;have X:=Trs.append m (Trs.one (Tr.d (S:=λ_=>False) rx λ_ z=>z)) λ_ _ z=>z;refine k _ _ _ (uD g) sB (FQ h2 w X λz=>z.elim I id) (λb hb=>?_) q;rcases hb with hb|hb|hb;exact hb▸g;exact(l b).mpr (.inr hb);exact hb.elim
 |_=>exact h.elim
theorem uK.vs_inj{m:Hp}{f:List D}{u:LV}(h:uK K F b o ks vs)(h':uK K m b o f u):vs=u:=by
 cases b with|true=>obtain⟨l,k,e,_,rfl,_⟩:=h;obtain⟨g,w,z,_,rfl,_⟩:=h';rw[e]at z;cases z;rfl|false=>rcases h with⟨k,_,e,_,rfl,_⟩| ⟨l,e,_,rfl⟩<;>rcases h' with⟨w,_,z,_,rfl,_⟩| ⟨g,z,_,rfl⟩<;>rw[e]at z<;>cases z<;>rfl
theorem L8{F0:Hp}{n:Nat}{w:V}(f:Same F H)(r:Tr K F H true (.ref a) (.dct b ks ts) Z)(l:H a=some o)(q:uK K F0 b o ks vs)(hw:vs[n]?=some w)(ht:ts[n]?=some s)
  (ry:Rep K F J y) (rx:Rep K F A x) (h:Gm s y x N)
  (k:∀s' g S1,(∀b u,H b=some u->¬ Z b->g b=some u)->(∀b,g b=none->H b=none)->Tr K F g true (.ref a) (.dct b ks (ts.set n s')) S1->(∀b,S1 b->Z b)->N s'->R g):KR K w J A H R:=by
 cases r with
 |@dct _ _ a o' _ vs' _ _ S' h1 dk h2 h3 h4 p =>
  rw[l]at h1;cases h1;cases q.vs_inj dk;have ha:Z a:=(p a).mpr (.inl rfl);obtain⟨w',S1,g1,g2,g3,g4⟩:=h3.part ht;rw[hw]at g1;cases g1;refine N1 f g2 ry rx h λs' g X hh dm rs sub q2=>?_;have keep:∀b,¬ S1 b->H b≠none->g b=H b:=λb hb m=>by
   cases e:H b with|none=>exact absurd e m|some u=>exact hh b u e hb
  have na:¬ S1 a:=λz=>h4 (g3 a z);obtain⟨P,p1,I⟩:=g4 g s' X (λb hb m=>keep b m (h3.dom b hb).1) rs sub;refine k _ g (λb=>b=a∨P b) (λb u e hb=>hh b u e λz=>hb ((p b).mpr (.inr (g3 b z)))) dm (.dct (S':=P) ((keep a na (by rw[l];simp)).trans l) dk h2 p1 (λz=>h4 (I a z)) λb=>WT) (λb hb=>?_) q2;rcases hb with hb|hb;exact hb▸ha;exact(p b).mpr (.inr (I b hb))
theorem kh{p:Addr}(f:Same F H)(X:H p=none)(r:Tr K F H true v t Z)(ry:Rep K F J y)(h:zh y t N)
  (k:∀s' l S1,(∀b u,H b=some u->¬ Z b->l b=some u)->(∀b,l b=none->H b=none)->Tr K F l true v s' S1->(∀b,S1 b->Z b∨b=p)->N s'->R l):RK K v [J,.ref p] (BA H p (.dT 0 [])) λ_ l=>R l:=by
 obtain⟨ks,ts,rfl,hk,hl,h⟩:=h;cases r with
 |@dct _ _ a o _ vs _ _ S' h1 dk h2 h3 h4 h5 =>
  have ha:Z a:=(h5 a).mpr (.inl rfl);obtain⟨ep,w,rfl,rfl,rfl,d4,d5⟩:=dk;have ap:a≠p:=iA h1 X;have fp:F p=none:=f.free X;have sm:Same H (BA H p (.dT 0 [])):=HB X;cases sQ hk ry with
  |intro q hh =>
   obtain⟨c,rfl,rfl,hq⟩:=hh;have vf:=BG q w;refine⟨a,c,.ref p,ep,w,q,rfl,rfl,(kA ap).trans h1,λx g=>(f.trans sm).key (d4 x g),(f.trans sm).key hq,by simpa using hl,λu eu=>?_,λen I=>?_⟩;rcases h with⟨n,e,q⟩| ⟨e,q⟩
   ·have r0:Tr K F H true (.ref a) (.dct true (w.map λp=>tD p.1) ts) Z:=.dct h1 ⟨ep,w,rfl,rfl,rfl,d4,d5⟩ h2 h3 h4 h5
    refine k _ _ Z (λb u e _=>sm b u e) (λb e=>sB b e) (r0.mono (.refl _) λb hb=>⟨kA λz=>(r0.dom b hb).1 (by rw[z];exact X),(r0.dom b hb).2⟩) (λb hb=>.inl hb) q
   rw[e]at vf;rw[vf]at eu;cases eu;rcases h with⟨n,e,q⟩| ⟨e,q2⟩
   ·have hn:=PC e
    rw[e]at vf;have:n<w.length:=by have:=(Qg.mp hn).1;simpa using this
    rw[vf]at en;have en:(w.map (·.2.2))[n]?=none:=en;rw[List.getElem?_eq_none_iff,QD]at en;omega
   have ep2:OL w q c (.ref p)=w++[(q,c,.ref p)]:=by unfold OL;rw[en];rfl
   rw[ep2];have np:¬ S' p:=λz=>(h3.dom p z).1 X;have g0:Tr K F (BA H p (.dT 0 [])) true (.ref p) (.dct true [] []) λb=>b=p :=
    .dct (S':=λ_=>False) (vs:=[]) aA ⟨0,[],rfl,rfl,rfl,λ_ z=>(nomatch z),Q2⟩ fp (.nil λ_ z=>z) (λz=>z) λb=>by simp
   have g3:Trs K F (BA H p (.dT 0 [])) true (w.map (·.2.2)) ts S':=h3.mono (.refl _) λb hb=>⟨kA λz=>np (z▸hb),(h3.dom b hb).2⟩
   have g1:=Trs.append g3 (Trs.one g0) λb hb z=>np (z▸hb);have dk':uK K F true (.dT I (w++[(q,c,.ref p)])) ((w.map λp=>tD p.1)++[tD q]) (w.map (·.2.2)++[.ref p]):=by
    refine⟨I,_,rfl,by simp,by simp,λx g=>?_,?_⟩;rcases Qi.mp g with g|g
    ·exact d4 x g
    rw[QJ.mp g];exact hq;rw[QO];refine iI d5 λm=>AA.mp e ?_;obtain⟨x,g,ex⟩:=QZ.mp m;exact QZ.mpr ⟨x,g,by rw[ex]⟩
   refine k _ _ _ (λb u e hb=>?_) (λb e=>sB b (sB b e)) (FQ h2 dk' g1 λz=>z.elim h4 ap) (λb hb=>?_) q2;rw[kA λz=>hb (by rw[z];exact ha)];exact sm b u e;rcases hb with hb|hb|hb
   ·exact .inl (hb▸ha)
   exact .inl ((h5 b).mpr (.inr hb));exact .inr hb
end
end
section
variable{K:QA}{Γ:Ev}{Ψ:PEv}
section
variable{p:PX}{F H:Hp}{S:Ft}{ρ:zA}{Z:bB}
noncomputable abbrev fW(K:QA)(Γ:Ev)(Ψ:PEv)(p:PX):Prop:=∀{E:XE}{x:XK}{F H:Hp}{S:Ft}{ρ:zA}{h:St}{Q:TK}{R:VK},Rl K F H S ρ h->SE K F H S ρ E x->(pe Ψ p E).e ρ Q->kB K (IG p) F H S ρ h Q R->(wp K Γ p x).e h H R
theorem aU(f:fW K Γ Ψ p){E:XE}{w:XK}{σ:St}{Q:Bool->zA->Prop}{R:Bool->Hp->Prop}(I:Rl K F H S ρ σ)(X:SE K F H S ρ E w)(h:(pe Ψ p E).e ρ λt _ y=>kI t.er λb=>Q b y)(k:sH K F H S ρ σ Q R) :
  (wp K Γ p w).e σ H λx i=>DF K x i R :=
 f I X h λv l j g z t n Z s u r q=>iW (r.tr.rep u.fh) q λc a=>k c l j g z s u a
theorem PSnd.of_e(w:∀E ρ Q,(pe Ψ p E).t ρ Q=(pe Ψ p E).e ρ λt _ y=>kI t.er λb=>Q b y)(z:∀v σ H R,(wp K Γ p v).t σ H R=(wp K Γ p v).e σ H λx g=>DF K x g R)(f:∀E,(pe Ψ p E).a=VE.a)(u:fW K Γ Ψ p):PSnd K Γ Ψ p where
 e:=u
 t:=λI X h k=>by rw[w]at h;rw[z];exact aU u I X h k
 a:=λI X _ h k=>by rw[f]at h;exact h.elim
theorem PSnd.of_0(x:∀E,(pe Ψ p E).t=VE.t)(z:∀E,(pe Ψ p E).a=VE.a)(y:fW K Γ Ψ p):PSnd K Γ Ψ p where
 e:=y
 t:=λI X h k=>by rw[x]at h;exact h.elim
 a:=λI X _ h k=>by rw[z]at h;exact h.elim
theorem PSnd.of_t(l:∀E ρ Q,(pe Ψ p E).e ρ Q=(pe Ψ p E).t ρ λb u=>Q (.d (.bool b)) false u)(v:∀z σ H R,(wp K Γ p z).t σ H R=(wp K Γ p z).e σ H λx n=>K7 x n R)(m:∀E,(pe Ψ p E).a=VE.a)
  (f:∀{E:XE}{z:XK}{F H:Hp}{S:Ft}{ρ:zA}{σ:St}{Q:Bool->zA->Prop}{R:VK},Rl K F H S ρ σ->SE K F H S ρ E z->(pe Ψ p E).t ρ Q->sH K F H S ρ σ Q (λb=>R (.bl b))->(wp K Γ p z).e σ H R):PSnd K Γ Ψ p where
 e:=λI X h k=>by rw[l]at h;exact f I X h λb j i g y s w q=>kB.d k s w (.bl b) q
 t:=λI X h k=>by rw[v];exact f I X h λb j i g y s w q=>k b j i g y s w q
 a:=λI X _ h k=>by rw[m]at h;exact h.elim
theorem Mc(i:Nat):fW K Γ Ψ (.vz i):=by
 intro E a F H S ρ y Q R I X h k;have x:Sq ρ[i]? λt=>Q t false ρ:=h;show(match y[i]? with|some (some v)=>R v H|_=>False);have key:∀s,ρ[i]?=some (some s)->Q s.t false ρ->(match y[i]? with|some (some v)=>R v H|_=>False):=λs e q=>by obtain⟨v,w,u⟩:=I.sl i _ e;rw[w];exact k v F H S ρ s.t false (S i) .refl I ⟨u.weak,λz=>(by cases z),λ_ b hb=>⟨i,s,QJ.mpr rfl,e,hb⟩,λz=>(by cases z)⟩ q
 unfold Sq at x;split at x;rename_i e;exact key _ e x;rename_i e;exact key _ e x;exact x.elim;exact x.elim
theorem TD{i j:Nat}{s:Sl}(h:(ρ.set i none)[j]?=some (some s)):j≠i/\ρ[j]?=some (some s):=by
 rcases dA h with⟨_,z,_⟩| ⟨n,e⟩
 cases z;exact⟨Q4 n,e⟩
theorem jt(i:Nat):fW K Γ Ψ (.mv i):=by
 intro E w F H S ρ y Q R I X h k;have x:rC ρ[i]? λt=>Q t true (ρ.set i none):=h;show(match y[i]? with|some (some v)=>R v H|_=>False);unfold rC at x;split at x;rename_i t hd;obtain⟨v,u,r⟩:=I.sl i _ hd;rw[u];exact k v F H S (ρ.set i none) t true (S i) ⟨⟨.refl _,λ_ _ h _=>h,λ_ h=>h,λb h z=>absurd h z,λb ⟨j,t,e,hb⟩=>.inl ⟨j,t,(TD e).2,hb⟩,λj t e _=>⟨(TD e).2,rfl⟩⟩,λj t e=>⟨t,(TD e).2⟩⟩
  (I.drop (by simp) λj s e=>(TD e).2) ⟨r,λ_ b hb=>.inr ⟨i,t,hd,hb⟩,λz=>(by cases z),λ_ j s e b hb z=>I.dj i j t s (Q4 (TD e).1) hd (TD e).2 b hb z⟩ x
 exact x.elim;exact x.elim;exact x.elim
theorem Xi{m:Mt}{v:V}{s:T}(h:isMut m=true)(x:JI m s=true)(r:Tr K F H true v s Z):uY K m.ty v H:=by
 unfold JI at x;split at x;cases r with
 |lst y _ _ _ _ =>
  refine .inl ⟨?_,_,FC.of y⟩;cases m with|append=>rfl|pop=>rfl|extend=>rfl|_=>cases x
 cases x
theorem yt{m:Mt}{o g:PX}(io:PSnd K Γ Ψ o)(ia:PSnd K Γ Ψ g):fW K Γ Ψ (.mt m o g):=by
 intro E EK F H S ρ L Q R I X h k;show(wp K Γ o EK).e L H λx J=>uY K m.ty x J/\(wp K Γ g EK).a L J λA l=>Ra K m x A l R;cases hm:isMut m with
 |false =>
  have h:(pe Ψ o E).e ρ λx n M=>Pa m (rA x n).vw=true/\sq (rA x n) M ((pe Ψ g E).a []) λf y=>zt m (rA x n).vw (TB f) λz k=>Q z k y:=by have C:(if isMut m=true then _ else _):=h;rw[hm,if_neg (by simp)]at C;exact C
  refine om (P1:=λx n=>Pa m (rA x n).vw=true) (R1:=λv J=>uY K m.ty v J) (RR:=λv A l=>Ra K m v A l R) io ia I X h (λv F' H' x n Za r p=>oo r p) λv A F' H' S' ρ' x n f Za Y s I' X' r _ tn q=>?_;rw[mL _ rfl]at q;exact Ui s I' r tn q k
 |true =>
  have h:yd (v3 o) λj=>rC ρ[j]? λt=>JI m t=true/\(pe Ψ g E).a [] (ρ.set j (some (.ky t))) λf y=>FE f=true/\y[j]?=some (some (.ky t))/\FK m t (BF f) λr s'=>Q r true (y.set j (some (.own s'))):=by have C:(if isMut m=true then _ else _):=h;rw[hm,if_pos rfl]at C;exact C
  cases o with
  |vz j =>
   have h:rC ρ[j]? _:=h;unfold rC at h;split at h;rename_i t u;obtain⟨ht,q1⟩:=h;obtain⟨v0,hv,B⟩:=I.sl j _ u;have IL:=I.lock1 u;have n0:=I.lock1U u;have B:Tr K F H true v0 t (S j):=B;have XL:=X.lock1 u;show(match L[j]? with|some (some v)=>_|_=>False);rw[hv];refine⟨Xi hm ht B,?_⟩;refine ia.a (md:=[]) IL XL (λj u=>by cases g<;>cases u) q1 λA F2 l S2 y f W Y N I2 G _ P=>?_;obtain⟨he,hj2,P⟩:=P;have r2:Tr K F2 l true v0 t (S j):=N.toStp.keep B n0;have hw:=G.held;have trs:=G.av.trs Yi he;have wS:∀b,S j b->¬ W b:=λb hb hb2=>by rcases G.fr b hb2 with q|q;exact(B.dom b hb).1 q;exact n0 b hb q
   refine Ma I2.fh r2 trs wS P λw r s' H3 S3 Zr hh dm O rr dz hf q=>?_;obtain⟨st,I3,nw⟩:=lI I u hv N I2 hh dm O (λb hb=>hf b (.inl hb)) hw G.fr;have zr:∀b,Zr b->S j b∨W b∨l b=none:=λb hb=>hf b (.inr hb);refine k w F2 H3 _ _ r true Zr st I3 ⟨rr,λ_ b hb=>?_,λz=>(by cases z),λ_ i sl e b hb z=>?_⟩ q;rcases zr b hb with q|q|q
   ·exact .inr ⟨j,t,u,q⟩
   exact(G.fr b q).imp id (lock1U u);exact .inl (N.dm b q);rcases dA e with⟨rfl,_,_⟩| ⟨n,e⟩
   ·rw[OA]at z
    exact dz b hb z
   rw[KA (Q4 n)]at z;exact nw b (zr b hb) i sl (Q4 n) e z
   all_goals exact h.elim
  |_=>exact h.elim
theorem kB.dct{ws:LN}{F H x y:Hp}{S S1:Ft}{ρ h:zA}{σ:St}{Q:TK}{R:VK}(k:kB K ws F H S ρ σ Q R)(s:Ste F H S ρ x y S1 h)(I:Rl K x y S1 h σ){p:Addr}(g:H p=none)(m:x p=none)(j:Held x y S1 h λb=>b=p){o:HO}{b:Bool}{ks:List D}{vs:LV}{ts:LT}{W:bB}(dk:uK K x b o ks vs)(r:Trs K x y true vs ts W)
  (fr:∀b,W b->H b=none∨U ρ S b) (f:Held x y S1 h W) (a:¬ W p) (q:Q (.dct b ks ts) true h):R (.ref p) (BA y p o):=by
 have Y:∀b u,H b=some u->b≠p:=λb u e=>iA e g;have X:Ste F H S ρ x (BA y p o) S1 h:=⟨⟨s.ff,λb u e n=>by rw[kA (Y b u e)];exact s.hh b u e n,λb e=>s.dm b (sB b e),s.fn,s.uu,s.bo⟩,s.ow⟩
 have B:Rl K x (BA y p o) S1 h σ:=⟨λb u e=>by rw[kA λz=>by rw[z,m]at e;cases e];exact I.fh b u e,I.len,λi w e=>by obtain⟨v,A,l⟩:=I.sl i w e;exact⟨v,A,l.mono (.refl _) λb hb=>⟨kA λz=>j.nw i w e b z hb,(l.dom b hb).2⟩⟩,I.dj⟩
 refine k _ x _ S1 h _ true (λb=>b=p∨W b) X B ⟨.dct aA dk m (r.mono (.refl _) λb hb=>⟨kA λz=>a (z▸hb),(f.dom b hb).2⟩) a (λb=>WT),λ_ b hb=>?_,λz=>(by cases z),λ_ i w e b hb z=>?_⟩ q;rcases hb with hb|hb
 ·exact .inl (hb▸g)
 exact fr b hb;rcases hb with hb|hb
 ·exact j.nw i w e b hb z
 exact f.nw i w e b hb z
theorem VR.strict{u y:Hp}{S1:Ft}{h:zA}{ws:LN}{v:V}{t:T}{n:Bool}(r:VR K ws H S ρ u y S1 h v t n Z)(e:MH t n=true):∃W,Tr K u y true v t W/\Held u y S1 h W/\∀b,W b->H b=none∨U ρ S b:=by
 cases n with
 |true=>exact⟨Z,r.tr,r.held,r.fr rfl⟩|false =>
  have w:=r.tr;cases t with
  |d x=>cases w with|d q _=>exact⟨λ_=>False,.d q λ_ z=>z,.none,λ_ z=>z.elim⟩
  |_=>cases e
theorem FS{σ:St}(I:Rl K F H S ρ σ){p:Addr}(h:H p=none)(o:HO):Held F (BA H p o) S ρ λb=>b=p :=
 ⟨λb hb=>⟨by rw[hb,aA];simp,by rw[hb];exact I.fh.free h⟩,λi x e b hb z=>(I.dom e z).1 (by rw[hb];exact h)⟩
theorem RA(g:GOk K Γ Ψ):∀(p:PX),PSnd K Γ Ψ p
 | .vz i=>⟨Mc i,λI X h k=>aU (Γ:=Γ) (Ψ:=Ψ) (Mc i) I X h k,λI X _ h k=>h.elim⟩|.int i=>⟨λI X h k=>kB.d k .refl I (.int i) h,λI X h k=>k _ _ _ _ _ .refl I h,λI X _ h k=>h.elim⟩|.str x=>⟨λI X h k=>kB.d k .refl I (.str x) h,λI X h k=>h.elim,λI X _ h k=>h.elim⟩|.bl b=>⟨λI X h k=>kB.d k .refl I (.bl b) h,λI X h k=>k _ _ _ _ _ .refl I h,λI X _ h k=>h.elim⟩|.non=>⟨λI X h k=>kB.d k .refl I .non h,λI X h k=>k _ _ _ _ _ .refl I h,λI X _ h k=>h.elim⟩|.glo x=>.of_e (λ_ _ _=>rfl) (λ_ _ _ _=>rfl) (λ_=>rfl) λ{E L F H S ρ G Q R} I X h k=>by have h:(match Ψ.va x with|some d=>Q (.d d) false ρ|none=>False):=h;split at h;rename_i d e;exact kB.d k .refl I (g.va x d e F) h;exact h.elim
 | .mv i=>.of_0 (λ_=>rfl) (λ_=>rfl) (jt i)|.bty _ _=>⟨λI X h k=>h.elim,λI X h k=>h.elim,λI X _ h k=>h.elim⟩|.bin op a b=>.of_e (λ_ _ _=>rfl) (λ_ _ _ _=>rfl) (λ_=>rfl) λ{E L F H S ρ G Q R} I X h k =>
  K1 (P:=λx n y m J=>binT op (rA x n).vw (rA y m).vw λz k=>Q z k J) (RR:=λx y H2=>gc K op x y H2 R) (RA g a) (RA g b) I X h λv w F' O S' A x n y m Za Zb s C X' ra _ rb q=>Ej s C ra rb q k
 | .cmp op a b=>.of_t (λ_ _ _=>rfl) (λ_ _ _ _=>rfl) (λ_=>rfl) λ{E L F H S ρ G Q R} I X h k =>
  K1 (P:=λx n y m J=>Ib op x.er (rA y m) λk=>Q k J) (RR:=λx y H2=>u7 K op x y H2 R) (RA g a) (RA g b) I X h λv w F' O S' A x n y m Za Zb s C X' ra _ rb q =>
   Eb C.fh (by have:=ra.rep C.fh;rwa [JX]at this) rb q λc qc=>k c F' O S' A s C qc
 | .and a b=>⟨λ{E L F H S ρ G Q R} I X h k=>by
   refine(RA g a).e (Q:=λx _ B=>Yk x.er λc=>if c=true then(pe Ψ b E).e B Q else Q (.d (.bool false)) false B) (R:=λx M=>K7 x M λc H2=>if c=true then(wp K Γ b L).e G H2 R else R (.bl false) H2) I X h λv F' O S' A x n Z s C r q=>?_;refine Z7 (r.tr.rep C.fh) q λc qc=>?_;cases c with|false=>exact kB.d k s C (.bl false) qc|true=>exact(RA g b).e C (X.from s.toStp) qc ((k.from s).vars λi hi=>Qb _ hi),
  λ{E L F H S ρ G Q R} I X h k=>by
   refine(RA g a).t (Q:=λc B=>if c=true then(pe Ψ b E).t B Q else Q false B) (R:=λc M=>if c=true then(wp K Γ b L).t G M R else R false M) I X h λc F' O S' A s C qc=>?_;cases c with|false=>exact k _ F' O S' A s C qc|true=>exact(RA g b).t C (X.from s.toStp) qc (sH.from k s),λI X _ h k=>h.elim⟩
 | .or a b=>⟨λ{E L F H S ρ G Q R} I X h k=>by
   refine(RA g a).e (Q:=λx _ B=>Yk x.er λc=>if c=true then Q (.d (.bool true)) false B else(pe Ψ b E).e B Q) (R:=λx M=>K7 x M λc H2=>if c=true then R (.bl true) H2 else(wp K Γ b L).e G H2 R) I X h λv F' O S' A x n Z s C r q=>?_;refine Z7 (r.tr.rep C.fh) q λc qc=>?_;cases c with|true=>exact kB.d k s C (.bl true) qc|false=>exact(RA g b).e C (X.from s.toStp) qc ((k.from s).vars λi hi=>Qb _ hi),
  λ{E L F H S ρ G Q R} I X h k=>by
   refine(RA g a).t (Q:=λc B=>if c=true then Q true B else(pe Ψ b E).t B Q) (R:=λc M=>if c=true then R true M else(wp K Γ b L).t G M R) I X h λc F' O S' A s C qc=>?_;cases c with|true=>exact k _ F' O S' A s C qc|false=>exact(RA g b).t C (X.from s.toStp) qc (sH.from k s),λI X _ h k=>h.elim⟩
 | .not a=>⟨λ{E L F H S ρ G Q R} I X h k=>by
   refine(RA g a).e (Q:=λx _ B=>kI x.er λc=>Q (.d (.bool (!c))) false B) (R:=λx M=>DF K x M λc H2=>R (.bl (!c)) H2) I X h λv F' O S' A x n Z s C r q=>?_;exact iW (r.tr.rep C.fh) q λc qc=>kB.d k s C (.bl _) qc,
  λ{E L F H S ρ G Q R} I X h k=>(RA g a).t (Q:=λc B=>Q (!c) B) (R:=λc M=>R (!c) M) I X h λc F' O S' A s C qc=>k _ F' O S' A s C qc,λI X _ h k=>h.elim⟩
 | .call f as=>.of_e (λ_ _ _=>rfl) (λ_ _ _ _=>rfl) (λ_=>rfl) λ{E L F H S ρ G Q R} I X h k=>xc g (RA g as) I X h k|.isi a c=>by
  have key:∀{E:XE}{L:XK}{F H:Hp}{S:Ft}{ρ:zA}{G:St}{Q:Bool->zA->Prop}{R:VK},Rl K F H S ρ G->SE K F H S ρ E L->(pe Ψ (.isi a c) E).t ρ Q->sH K F H S ρ G Q (λb=>R (.bl b))->(wp K Γ (.isi a c) L).e G H R:=by
   intro E L F H S ρ G Q R I X h k;refine(RA g a).e (Q:=λx _ B=>bj c x.er λb=>Q b B) I X h λv F' O S' A x n Z s C r q=>?_;cases c with|bty z n=>obtain⟨b,h1,h2,q⟩:=q;exact vj (r.tr.rep C.fh) h1 h2 (k b F' O S' A s C q)|_=>exact q.elim
  refine⟨λI X h k=>key I X h λb F' O S' A s C q=>kB.d k s C (.bl b) q,λ{E L F H S ρ G Q R} I X h k=>?_,λI X _ h k=>h.elim⟩;exact key (R:=λv M=>DF K v M R) I X h λb F' O S' A s C q=>k b F' O S' A s C q
 | .bi f as=>.of_e (λ_ _ _=>rfl) (λ_ _ _ _=>rfl) (λ_=>rfl) λ{E L F H S ρ G Q R} I X h k =>
  uW (P:=λxs B=>CT f (TB xs) λz k=>Q z k B) (RR:=λvs M=>bq K f vs M R) (RA g as) I X h λvs F' O S' A xs Y s C X' tn _ q=>by rw[mL _ rfl]at q;exact pk s C tn q k
 | .mt m o as=>.of_e (λ_ _ _=>rfl) (λ_ _ _ _=>rfl) (λ_=>rfl) (yt (RA g o) (RA g as))|.idx a b=>by
  have he:fW K Γ Ψ (.idx a b):=λ{E L F H S ρ G Q R} I X h k =>
   K1 (P:=λx n y m J=>(VN (rA x n).vw (rA y m).vw λz=>Q z false J)∨(jT (rA x n).vw y.er λz=>Q z false J)) (RR:=λx y H2=>KY K x y H2 R) (RA g a) (RA g b) I X h λv w F' O S' A x n y m Za Zb s C X' ra za rb q=>by rcases q with q|q;exact cj s C ra za rb q k;exact Bj s C ra za (by have:=rb.rep C.fh;rwa [JX]at this) q k
  exact⟨he,λI X h k=>aU he I X h k,λI X _ h k=>h.elim⟩
 | .slc a lo hi=>.of_0 (λ_=>rfl) (λ_=>rfl) λ{E L F H S ρ G Q R} I X h k=>by
  have part:∀(p:PX),PSnd K Γ Ψ p->∀{F H:Hp}{S:Ft}{ρ:zA}{x:T}{P:Option Int->zA->Prop}{RP:Option Int->Hp->Prop},Rl K F H S ρ G->SE K F H S ρ E L ->
    sq (α:=Option Int) x ρ (if isNop p=true then λρ (R:Option Int->zA->Prop)=>R none ρ else λρ R=>(pe Ψ p E).e ρ λl _ J=>EF l.er λo=>R o J) P ->
    (∀o F' O S' A,Ste F H S ρ F' O S' A->Rl K F' O S' A G->(∀st v Zx,Tr K F H st v x Zx->Tr K F' O st v x Zx)->P o A->RP o O) ->
    (if isNop p=true then λ(R:Option Int->Hp->Prop)=>R none H else λR=>(wp K Γ p L).e G H λl H2=>xM l H2 R) RP:=by
   intro p ip F H S ρ x P RP I X h k;cases hn:isNop p with
   |true=>simp only[hn,if_true]at h ⊢;refine k none F H S ρ .refl I (λ_ _ _ r=>r) ?_;unfold sq at h;split at h<;>exact h|false =>
    simp only[hn,Qq,if_false]at h ⊢;have h2:sq x ρ (cu (pe Ψ p E).e) λy A=>EF y.1.er λo=>P o A:=by unfold sq at h ⊢;exact h
    refine Lm ip I X h2 λw F' O S' A y m Z s C kp _ r q=>G9 (r.tr.rep C.fh) q λo qo=>k o F' O S' A s C kp qo
  refine jG (RA g a) I X h λv F1 M S1 B x n Za s1 I1 X1 r1 _ z1 h1=>?_;refine part lo (RA g lo) I1 X1 h1 λl F2 H2 S2 J s2 I2 k2 h2=>?_;refine part hi (RA g hi) I2 (X1.from s2.toStp) h2 λu F3 H3 S3 ρ3 s3 I3 k3 h3=>?_;exact Ag (s1.trans (s2.trans s3)) I3 (k3 _ _ _ (k2 _ _ _ r1)) h3 k
 | .nop=>⟨λI X h k=>h.elim,λI X h k=>h.elim,λI X _ h k=>h.elim⟩|.lst as=>.of_0 (λ_=>rfl) (λ_=>rfl) λ{E L F H S ρ G Q R} I X h k=>by refine(RA g as).a (md:=[]) (R:=λxs M=>xs.length<=sizeLine/\∀p,M p=none->R (.ref p) (BA M p (.lst xs))) I X (λj hj=>by cases as<;>cases hj) h λvs F' O S' A xs W Y s C r _ q=>?_;exact⟨by rw[r.av.length];exact q.2.1,λp hp=>kB.list k s C hp (r.av.trs Yi q.1) r.fr r.held q.2.2⟩|.tup as=>.of_0 (λ_=>rfl) (λ_=>rfl) λ{E L F H S ρ G Q R} I X h k=>by refine(RA g as).a (md:=[]) (R:=λxs M=>xs.length<=sizeLine/\∀p,M p=none->R (.ref p) (BA M p (.tup xs))) I X (λj hj=>by cases as<;>cases hj) h λvs F' O S' A xs W Y s C r _ q=>?_;exact⟨by rw[r.av.length];exact q.2.1,λp hp=>kB.tup k s C hp (r.av.trs Yi q.1) r.fr r.held q.2.2⟩|.comp mask tgs tg ik its cond elt=>.of_0 (λ_=>rfl) (λ_=>rfl) λ{E L F H S ρ G Q R} I X h k=>by
  refine uW (RR:=λvs M=>gC K ik vs M λxs st H2=>zY K xs st tg (if isNop cond=true then λ_ H Q=>Q true H else(wp K Γ cond (λ_ _ _=>False)).t) (wp K Γ elt (λ_ _ _=>False)).e (NI tgs.length mask G) H2 R) (RA g its) I X h λvs F1 M S1 B xs Y s1 I1 X1 tn tm q1=>?_;rw[mL _ rfl]at q1;refine NJ I1.fh tn q1 λxs ys st pr hst hc=>?_;refine j7 (us:=IG elt) ?_ ?_ s1 I1 pr (λb hb=>?_) hst hc k;intro F H S ρ G Q R I h k;cases hn:isNop cond with|true=>simp only[hn,if_true]at h ⊢;exact k true F H S ρ .refl I h|false=>simp only[hn,Qq,if_false]at h ⊢;exact(RA g cond).t I SE.never h k
  intro F H S ρ G Q R I h k;exact(RA g elt).e I SE.never h k;obtain⟨i,sl,_,h2,h3⟩:=tm b hb;exact I1.dom h2 h3
 | .dnew b=>.of_0 (λ_=>rfl) (λ_=>rfl) λ{E L F H S ρ G Q R} I X h k=>by
  intro p hp;have hh:=FS I hp (.dT 0 []);have e:=kB.dct (o:=.dT 0 []) (b:=b) (ks:=[]) (vs:=[]) (ts:=[]) (W:=λ_=>False) k (Ste.refl.new hp (.dT 0 [])) (I.new hp _) hp (I.fh.free hp) hh ?_ (.nil λ_ z=>z) (λ_ z=>z.elim) .none (λz=>z) h;rw[V8]at e;exact e;cases b with
  |true=>exact⟨0,[],rfl,rfl,rfl,λ_ z=>(nomatch z),Q2⟩
  |false=>exact .inr ⟨0,rfl,rfl,rfl⟩
 | .dsp a b=>.of_0 (λ_=>rfl) (λ_=>rfl) λ{E L F H S ρ G Q R} I X h k=>by
  intro p hp;have hh:=FS I hp (.dT 0 []);have s0:Ste F H S ρ F (BA H p (.dT 0 [])) S ρ:=Ste.refl.new hp _;refine jG (RA g a) (I.new hp _) (X.from s0.toStp) h λy F1 M S1 B x n Z s1 I1 X1 _ er _ ⟨he,q1⟩=>?_;have hh1:=hh.step s1.toStp I1;have ry:=er he;refine(RA g b).e I1 X1 q1 λv F2 H2 S2 J t m Zb s2 I2 r2 q2=>?_;have hh2:=hh1.step s2.toStp I2;obtain⟨he2,hk,q2⟩:=q2;obtain⟨W,rw,hw,frw⟩:=(r2.from s1.toStp).strict he2;have hp2:H2 p=some (.dT 0 []):=s2.hh p _ (s1.hh p _ aA (hh.nu p rfl)) (hh1.nu p rfl);have np:¬ W p:=λz=>by rcases frw p z with q|q;rw[aA]at q;cases q;exact hh.nu p rfl q
  have ry2:=ry.mono s2.ff;refine⟨hp2,?_⟩;generalize x.er=d at hk ry2 q2;cases sQ hk ry2 with|intro ks hh=>obtain⟨c,rfl,rfl,hq⟩:=hh;refine⟨c,ks,rfl,I2.fh.key hq,λep=>?_⟩;exact kB.dct (o:=.dT ep [(ks,c,v)]) (b:=true) (vs:=[v]) (ts:=[t]) k (s0.trans (s1.trans s2)) I2 hp (hh2.dom p rfl).2 hh2 ⟨ep,_,rfl,rfl,rfl,λz hz=>by rw[QJ.mp hz];exact hq,by simp⟩ (Trs.one rw) (λb hb=>by rcases frw b hb with q|q;exact .inl (sB b q);exact .inr q) hw np q2
 | .nz=>⟨λI X h k=>h.elim,λI X h k=>h.elim,λ{E L F H S ρ G md Q R} I X _ h k=>k [] F H S ρ [] (λ_=>False) (λ_=>False) .refl I ⟨.nil λ_ z=>z,λ_ z=>z.elim,λ_ z=>z.elim,λ_ _ _ _ z=>z.elim⟩ (by cases md with|nil=>rfl|cons m r=>cases m<;>rfl) h⟩
 | .ny a as=>⟨λI X h k=>h.elim,λI X h k=>h.elim,λ{E L F H S ρ G md Q R} I X hm h k=>by
  show(wp K Γ a L).e G H λx M=>(wp K Γ as L).a G M λxs H2=>R (x::xs) H2;have vr2:∀i∈IG as,i∈IG (.ny a as):=λi hi=>Qb _ hi;cases N:(md.headD .xy).isMut with
  |true =>
   have h2:f6 a=true/\(pe Ψ as E).a md.tail ρ λxs B=>Q ((.d .none,true)::xs) B:=by have h3:(if(md.headD .xy).isMut=true then _ else _):=h;rw[N,if_pos rfl]at h3;exact h3
   obtain⟨m,md',rfl⟩:∃m md',md=m::md':=by
    cases md with|nil=>cases N|cons m md'=>exact⟨m,md',rfl⟩
   have em:m=.chg:=by have N:m.isMut=true:=N;cases m<;>first|rfl|cases N
   subst em;cases a with
   |vz j=>obtain⟨v,hv⟩:=hm j (show j∈j::uA md' as from QF);show(match G[j]? with|some (some v)=>_|_=>False);rw[hv];refine(RA g as).a I X (λi hi=>hm i (QE _ hi)) h2.2 λvs F' O S' A xs W Y s C r mv q=>?_;refine k (v::vs) F' O S' A _ W Y s C ⟨.chg N r.av,r.fr,(r.vars vr2).tm,r.nw⟩ ?_ q;show(some (some v))::(mB md' vs).map _=G[j]?::(uA md' as).map _;have mv:(mB md' vs).map (λv=>some (some v))=(uA md' as).map (λj=>G[j]?):=mv;rw[hv,mv]
   |_=>exact absurd h2.1 (by simp[f6])
  |false =>
   have h2:(pe Ψ a E).e ρ λx n B=>sq (α:=List (T×Bool)) (if n=true then .d .none else x) B ((pe Ψ as E).a md.tail) λxs J=>Q ((x,n)::xs) J:=by have h3:(if(md.headD .xy).isMut=true then _ else _):=h;rw[N,if_neg (by simp)]at h3;exact h3
   have hroots:uA md (.ny a as)=uA md.tail as:=by
    cases md with|nil=>cases as<;>rfl|cons m md'=>have N:m.isMut=false:=N;cases m<;>first|rfl|cases N
   have hmv:∀v vs,mB md (v::vs)=mB md.tail vs:=λv vs=>by unfold mB;generalize md.headD .xy=m at N;cases m<;>first | (cases vs<;>rfl)|cases N
   refine(RA g a).e I X h2 λv F1 M S1 B x n Z s1 I1 r1 q1=>?_;refine Mm (RA g as) I1 (X.from s1.toStp) (λi hi=>hm i (by rw[hroots];exact hi)) q1 λvs F2 H2 S2 J xs W Y s2 I2 kp hs r2 mv q2=>?_;have s12:=s1.trans s2;have r2':=(r2.from s1.toStp).vars vr2;have mv':(mB md (v::vs)).map (λv=>some (some v))=(uA md (.ny a as)).map (λj=>G[j]?):=by rw[hroots,hmv];exact mv
   cases n with
   |true =>
    have hd:=r1.held;have hd2:=hd.step s2.toStp I2;refine k (v::vs) F2 H2 S2 J _ (λb=>Z b∨W b) Y s12 I2 ⟨.new N (s2.toStp.keep r1.tr hd.nu) r2.av (λb hb hw=>?_) λb=>WT,λb hb=>?_,r2'.tm,λi sl e b hb=>?_⟩ mv' q2;rcases r2.fr b hw with q|q
    ·exact(hd.dom b hb).1 q
    exact hd.nu b hb q;rcases hb with hb|hb
    ·exact r1.fr rfl b hb
    exact r2'.fr b hb;rcases hb with hb|hb
    ·exact hd2.nw i sl e b hb
    exact r2.nw i sl e b hb
   |false =>
    have za:∀b,Z b->∃(i:Nat) (s:Sl),i∈IG a/\J[i]?=some (some s)/\S2 i b:=by
     cases hd:x.isD with
     |true =>
      intro b hb;exfalso;have tr:=r1.tr;cases x with
      |d x=>cases tr with|d r n=>exact n b hb
      |_=>cases hd
     |false=>obtain⟨e1,e2⟩:=hs hd;rw[e1,e2];exact r1.tm rfl
    refine k (v::vs) F2 H2 S2 J _ W (λb=>Z b∨Y b) s12 I2 ⟨.tmp N (kp _ _ _ r1.tr) (λb hb=>.inl hb) (r2.av.sub λb hb=>.inr hb),r2'.fr,λb hb=>?_,r2.nw⟩ mv' q2;rcases hb with hb|hb;obtain⟨i,sl,h1,h2⟩:=za b hb;exact⟨i,sl,Qo _ h1,h2⟩;exact r2'.tm b hb⟩
end
end
structure Sts(C J:LN)(F H:Hp)(S:Ft)(ρ:zA)(σ:St)(F' H':Hp)(S':Ft)(ρ':zA)(σ':St):Prop where
 ff:Same F F'
 hh:∀b u,H b=some u->¬ U ρ S b->H' b=some u
 dm:∀b,H' b=none->H b=none
 fn:∀b,F b=none->F' b≠none->U ρ S b∨H b=none
 uu:∀b,U ρ' S' b->U ρ S b∨H b=none
 bo:∀(j:Nat) t,j∉J->ρ'[j]?=some (some (.ky t))->t.isD=false->ρ[j]?=some (some (.ky t))/\S' j=S j/\σ'[j]?=σ[j]?
 sg:∀j∈C,σ'[j]?=σ[j]?
structure Stc(C:LN)(F H:Hp)(S:Ft)(ρ:zA)(σ:St)(F' H':Hp)(S':Ft)(ρ':zA)(σ':St):Prop where
 ff:Same F F'
 hh:∀b u,H b=some u->¬ U ρ S b->H' b=some u
 dm:∀b,H' b=none->H b=none
 fn:∀b,F b=none->F' b≠none->U ρ S b∨H b=none
 uu:∀b,U ρ' S' b->U ρ S b∨H b=none
 sg:∀j∈C,σ'[j]?=σ[j]?
section
variable{K:QA}{Γ:Ev}{Ψ:PEv}{E:XE}{L:XK}{F H m p A G:Hp}{S S1 B:Ft}{ρ y X:zA}{σ g Y:St}{C J:LN}
section
variable{t:T}{Z:bB}{i:Nat}
theorem Stp.sts(s:Stp F H S ρ m p S1 y):Sts C J F H S ρ σ m p S1 y σ:=⟨s.ff,s.hh,s.dm,s.fn,s.uu,λj t _ e h=>let⟨z,x⟩:=s.bo j t e h;⟨z,x,rfl⟩,λ_ _=>rfl⟩
theorem Sts.refl:Sts C J F H S ρ σ F H S ρ σ:=Stp.refl.sts
theorem Sts.trans(a:Sts C J F H S ρ σ m p S1 y g)(b:Sts C [] m p S1 y g A G B X Y):Sts C J F H S ρ σ A G B X Y where
 ff:=a.ff.trans b.ff
 hh:=λx u h n=>b.hh x u (a.hh x u h n) λz=>by rcases a.uu x z with q|q;exact n q;rw[q]at h;cases h
 dm:=λx h=>a.dm x (b.dm x h)
 fn:=λx h z=>by
  by_cases q:m x=none;rcases b.fn x q z with w|w
  ·exact a.uu x w
  exact .inr (a.dm x w);exact a.fn x h q
 uu:=λx h=>by rcases b.uu x h with w|w;exact a.uu x w;exact .inr (a.dm x w)
 bo:=λj t v h n=>by obtain⟨r,o,l⟩:=b.bo j t (by simp) h n;obtain⟨f,e,k⟩:=a.bo j t v r n;exact⟨f,o.trans e,l.trans k⟩
 sg:=λj v=>(b.sg j v).trans (a.sg j v)
theorem Sts.c(s:Sts C J F H S ρ σ m p S1 y g):Stc C F H S ρ σ m p S1 y g:=⟨s.ff,s.hh,s.dm,s.fn,s.uu,s.sg⟩
theorem Stc.trans(a:Stc C F H S ρ σ m p S1 y g)(b:Stc C m p S1 y g A G B X Y):Stc C F H S ρ σ A G B X Y where
 ff:=a.ff.trans b.ff
 hh:=λx u h n=>b.hh x u (a.hh x u h n) λz=>by rcases a.uu x z with q|q;exact n q;rw[q]at h;cases h
 dm:=λx h=>a.dm x (b.dm x h)
 fn:=λx h z=>by
  by_cases q:m x=none;rcases b.fn x q z with w|w
  ·exact a.uu x w
  exact .inr (a.dm x w);exact a.fn x h q
 uu:=λx h=>by rcases b.uu x h with w|w;exact a.uu x w;exact .inr (a.dm x w)
 sg:=λj v=>(b.sg j v).trans (a.sg j v)
theorem SE.fromS(h:SE K F H S ρ E L)(s:Sts C J F H S ρ σ m p S1 y g):SE K m p S1 y E L:=λx k A G B X v f r q =>
 h x k A G (λ_ _=>False) [] ⟨s.ff.trans v.ff,λb u e n=>v.hh b u (s.hh b u e n) (λz=>(s.uu b z).elim n λw=>(by rw[w]at e;cases e)),λb e=>s.dm b (v.dm b e),λb e z=>by
  by_cases q:m b=none;rcases v.fn b q z with w|w
  ·exact s.uu b w
  exact .inr (s.dm b w);exact s.fn b e q,λb ⟨i,t,e,_⟩=>by simp at e,λj t e=>by simp at e⟩ f r q
structure EndsOk(K:QA)(C:LN)(F H:Hp)(S:Ft)(ρ:zA)(σ:St)(Z:PEnds)(Dn:Ends):Prop where
 nx:∀F' H' S' ρ' σ',Sts C [] F H S ρ σ F' H' S' ρ' σ'->Rl K F' H' S' ρ' σ'->Z.nx ρ'->Dn.nx σ' H'
 rt:∀v t W F' H' S' ρ' σ',Stc C F H S ρ σ F' H' S' ρ' σ'->Rl K F' H' S' ρ' σ'->Tr K F' H' true v t W->Held F' H' S' ρ' W->(∀b,W b->H b=none∨U ρ S b)->Z.rt t ρ'->Dn.rt v H'
 bk:∀F' H' S' ρ' σ',Sts C [] F H S ρ σ F' H' S' ρ' σ'->Rl K F' H' S' ρ' σ'->Z.bk ρ'->Dn.bk σ' H'
 ct:∀F' H' S' ρ' σ',Sts C [] F H S ρ σ F' H' S' ρ' σ'->Rl K F' H' S' ρ' σ'->Z.ct ρ'->Dn.ct σ' H'
theorem du(s:Sts C J F H S ρ σ m p S1 y g){W:bB}(fr:∀b,W b->p b=none∨U y S1 b):∀b,W b->H b=none∨U ρ S b:=λb hb=>by rcases fr b hb with q|q;exact .inl (s.dm b q);exact(s.uu b q).symm
theorem EndsOk.from{Z:PEnds}{Dn:Ends}(ok:EndsOk K C F H S ρ σ Z Dn)(s:Sts C [] F H S ρ σ m p S1 y g):EndsOk K C m p S1 y g Z Dn :=
 ⟨λa k w z x u I q=>ok.nx a k w z x (s.trans u) I q,λv t W a k w z x u I r h fr q=>ok.rt v t W a k w z x (s.c.trans u) I r h (du s fr) q,
  λa k w z x u I q=>ok.bk a k w z x (s.trans u) I q,λa k w z x u I q=>ok.ct a k w z x (s.trans u) I q⟩
theorem Sts.setD(s:Sts C J F H S ρ σ m p S1 y g)(i:Nat)(a:i∉C)(v:V)(k:t.isD=true)(Z:bB):Sts C J F H S ρ σ m p (iH S1 i Z) (y.set i (some (.ky t))) (g.set i (some v)) :=
 ⟨s.ff,s.hh,s.dm,s.fn,λb ⟨j,u,z,w⟩=>by
  rcases dA z with⟨_,e,_⟩| ⟨n,z⟩
  cases e;rw[KA (Q4 n)]at w;exact s.uu b ⟨j,u,z,w⟩,
 λj u h e x=>by
  rcases dA e with⟨_,e,_⟩| ⟨n,e⟩
  injection e with e;injection e with e;subst e;rw[k]at x;cases x;rw[KA (Q4 n),rD n];exact s.bo j u h e x,
 λj h=>by have n:i≠j:=λe=>a (e▸h);rw[rD n];exact s.sg j h⟩
theorem Rl.setD(I:Rl K F H S ρ σ)(i:Nat){v:V}{x:D}(r:Rep K F v x):Rl K F H (iH S i λ_=>False) (ρ.set i (bD x)) (σ.set i (some v)) :=
 I.setB i (.d r λ_ z=>z) λ_ _ _ _ _ z=>z.elim
theorem Rl.setN(I:Rl K F H S ρ σ)(i:Nat){v:V}(r:Tr K F H true v t Z)(w:∀(j:Nat) s,j≠i->ρ[j]?=some (some s)->∀b,Z b->¬ S j b):Rl K F H (iH S i Z) (ρ.set i (some (.own t))) (σ.set i (some v)) where
 fh:=I.fh
 len:=by simpa using I.len
 sl:=λj s h=>by
  rcases dA h with⟨rfl,e,hl⟩| ⟨a,h⟩
  cases e;exact⟨v,rP (by rw[<- I.len];exact hl),by rw[OA];exact r⟩;rw[rD a,KA (Q4 a)];exact I.sl j s h
 dj:=λj k f s n u x b hb hk=>by
  rcases dA u with⟨e,_,_⟩| ⟨l,u⟩
  subst e;rw[OA]at hb;rcases dA x with⟨e,_,_⟩| ⟨z,x⟩
  exact n e;rw[KA (Q4 z)]at hk;exact w k s (Q4 z) x b hb hk;rw[KA (Q4 l)]at hb;rcases dA x with⟨e,_,_⟩| ⟨z,x⟩
  subst e;rw[OA]at hk;exact w j _ n u b hk hb;rw[KA (Q4 z)]at hk;exact I.dj j k f s n u x b hb hk
theorem Sts.setN(s:Sts C J F H S ρ σ m p S1 y g)(i:Nat)(w:i∉C)(v:V)(t:T)(fr:∀b,Z b->H b=none∨U ρ S b):Sts C J F H S ρ σ m p (iH S1 i Z) (y.set i (some (.own t))) (g.set i (some v)) :=
 ⟨s.ff,s.hh,s.dm,s.fn,λb ⟨j,u,z,x⟩=>by
  rcases dA z with⟨rfl,_,_⟩| ⟨n,z⟩
  rw[OA]at x;exact(fr b x).symm;rw[KA (Q4 n)]at x;exact s.uu b ⟨j,u,z,x⟩,
 λj u h e k=>by
  rcases dA e with⟨_,e,_⟩| ⟨n,e⟩
  cases e;rw[KA (Q4 n),rD n];exact s.bo j u h e k,
 λj h=>by have n:i≠j:=λe=>w (e▸h);rw[rD n];exact s.sg j h⟩
theorem Rl.frz1(I:Rl K F H S ρ σ)(h:ρ[i]?=some (some (.own t))):Rl K (FI F H (S i)) H (iH S i λ_=>False) (ρ.set i (bD t.er)) σ/\Sts C [] F H S ρ σ (FI F H (S i)) H (iH S i λ_=>False) (ρ.set i (bD t.er)) σ:=by
 obtain⟨v,hv,r⟩:=I.sl i _ h;have k:=RG (H:=H) λb (hb:S i b)=>(r.dom b hb).2;have O:Rl K F H S (ρ.set i none) σ:=I.drop (by simp) λj s e=>by
  rcases dA e with⟨_,z,_⟩| ⟨_,e⟩
  cases z;exact e
 have l:Held F H S (ρ.set i none) (S i):=⟨r.dom,λj s e b hb z=>by
  rcases dA e with⟨_,q,_⟩| ⟨n,e⟩
  cases q;exact I.dj i j t s n h e b hb z⟩
 have N:=O.frz l;have f:Rep K (FI F H (S i)) v t.er:=Tr.kept k r λb u hb e=>by rw[DI hb];exact e
 have a:=N.setD i f;have M:(ρ.set i none).set i (bD t.er)=ρ.set i (bD t.er):=by simp
 have W:σ.set i (some v)=σ:=by apply qP;intro j;rw[wC];split;rename_i e;subst e;split;exact hv.symm;rename_i n;rw[Qe (by omega)];rfl
 rw[M,W]at a;refine⟨a,⟨k,λb u e _=>e,λb e=>e,λb e z=>.inl ?_,λb ⟨j,u,x,w⟩=>.inl ?_,λj u _ e o=>?_,λ_ _=>rfl⟩⟩;by_cases hb:S i b
 ·exact⟨i,t,h,hb⟩
 rw[mC hb]at z;exact absurd e z;rcases dA x with⟨_,q,_⟩| ⟨n,x⟩
 ·cases q
 rw[KA (Q4 n)]at w;exact⟨j,u,x,w⟩;rcases dA e with⟨_,q,_⟩| ⟨n,e⟩
 ·injection q with q;injection q with q;subst q;cases o
 exact⟨e,KA (Q4 n),rfl⟩
theorem zZ{f:Option Sl->Option Sl}:ρ.modify i f=match ρ[i]? with|some o=>ρ.set i (f o)|none=>ρ:=by
 apply qP;intro j;rw[Wu];cases h:ρ[i]? with|none=>simp only;by_cases e:i=j;subst e;simp[h];simp[e]|some o=>simp only;rw[wC];by_cases e:i=j;subst e;obtain⟨hl,rfl⟩:=Qg.mp h;simp[hl];simp[e]
theorem YR{α:Type}{l:List α}{o:α}(h:l[i]?=some o):l.set i o=l:=by apply qP;intro j;rw[wC];split;rename_i e;subst e;rw[if_pos (Qg.mp h).1,h];rfl
theorem Rl.frzAt:∀(x:LN) {F:Hp}{S:Ft}{ρ:zA},Rl K F H S ρ σ->∃z S',Rl K z H S' (frzAt x ρ) σ/\Sts C [] F H S ρ σ z H S' (frzAt x ρ) σ
 |[],F,S,ρ,I=>⟨F,S,I,.refl⟩|i::x,F,S,ρ,I=>by
  have one:∃m S1,Rl K m H S1 (ρ.modify i VV) σ/\Sts C [] F H S ρ σ m H S1 (ρ.modify i VV) σ:=by
   rw[zZ];cases h:ρ[i]? with
   |none=>exact⟨F,S,I,.refl⟩|some o =>
    cases o with
    |none=>have e:ρ.set i (VV none)=ρ:=YR h;simp only[e];exact⟨F,S,I,.refl⟩|some u =>
     cases u with|ky t=>have e:ρ.set i (VV (some (.ky t)))=ρ:=YR h;simp only[e];exact⟨F,S,I,.refl⟩|own t=>exact⟨_,_,I.frz1 h⟩
  obtain⟨m,S1,a,w⟩:=one;obtain⟨A,B,k,v⟩:=Rl.frzAt x a;exact⟨A,B,k,w.trans v⟩
end
end
noncomputable def UH(C:LN):PT->Bool
 | .seq s r=>UH C s&&UH C r|.set i _=>!C.contains i|.own i _=>!C.contains i|.ife _ a b=>UH C a&&UH C b|.for_ x _ _ h=>x.ix.all (λi=>!C.contains i)&&UH C h|.nil=>true|.expr _=>true|.ret _=>true|.six _ _ _=>true|.sdf _ _=>true|.whl _ h=>UH C h|.frz _ s=>UH C s|.hs s=>UH C s
section
variable{K:QA}{Γ:Ev}{Ψ:PEv}{F H:Hp}{S:Ft}{ρ:zA}{σ:St}{C:LN}
theorem Rl.gone{i j:Nat}{t:T}{w:Hp}{x:St}(I:Rl K F H S ρ σ)(g:ρ[j]?=some (some (.own t)))(m:∀c,¬ S j c->w c=H c)(r:∀c,w c=none->H c=none)(p:x.length=σ.length)(f:∀k,k≠i->x[k]?=σ[k]?)(q:i∉C) :
  Sts C [] F H S ρ σ F w S ((ρ.set j none).set i none) x/\Rl K F w S ((ρ.set j none).set i none) x:=by
 have get:∀k s,((ρ.set j none).set i none)[k]?=some (some s)->k≠i/\k≠j/\ρ[k]?=some (some s):=λk s e=>by obtain⟨a,e⟩:=TD e;exact⟨a,TD e⟩
 refine⟨⟨.refl _,λb u e n=>(m b λz=>n ⟨j,t,g,z⟩).trans e,r,λb h z=>absurd h z,λb ⟨k,u,e,hb⟩=>.inl ⟨k,u,(get k _ e).2.2,hb⟩,λk u _ e _=>⟨(get k _ e).2.2,rfl,f k (get k _ e).1⟩,λk hk=>f k λz=>q (z▸hk)⟩,⟨λb u e=>?_,by rw[qM,qM,I.len,p],λk s e=>?_,λk l u s n o y=>I.dj k l u s n (get k _ o).2.2 (get l _ y).2.2⟩⟩;rw[m b λz=>by rw[(I.dom g z).2]at e;cases e];exact I.fh b u e;obtain⟨a,b,e⟩:=get k s e;obtain⟨v,o,y⟩:=I.sl k s e;exact⟨v,(f k a).trans o,y.mono (.refl _) λc hc=>⟨m c λz=>I.dj j k t s (Q4 b) g e c z hc,(y.dom c hc).2⟩⟩
theorem V7{y:XK}{i:Nat}{D:Ends}{b:Addr}{xs:LV}(h:σ[i]?=some (some (.ref b)))(g:H b=some (.lst xs))(hl:xs.length<sizeLine)(q:D.nx σ (BA H b (.lst (xs++[.non])))):rN K Γ y %[.expr (.mt .append (.vz i) %[.non|1])|2] D σ H:=by show(match σ[i]? with|some (some v)=>uY K "list" v H/\eP v [.non] H λ_ x=>D.nx σ x|_=>False);rw[h];exact⟨.inl ⟨rfl,_,FC.of g⟩,b,xs,.non,rfl,rfl,g,hl,q⟩
theorem zp(g:GOk K Γ Ψ)(s:PT){EK:XK}{Dn:Ends}{N:zA->Prop}(cn:UH C s=true)(I:Rl K F H S ρ σ)(h:Dv Ψ s N ρ)(k:∀F' w S' o x,Sts C [] F H S ρ σ F' w S' o x->Rl K F' w S' o x->N o->Dn.nx x w):rN K Γ EK s Dn σ H:=by
 rcases h with⟨i,t,c,a,rfl,P,h⟩| ⟨j,i,f,rfl,il,hj,⟨ul,hc⟩,q⟩
 refine(RA g c).t (R:=λb H1=>if b=true then rN K Γ EK a Dn σ H1 else Dn.nx σ H1) (I.frz1 (C:=[]) P).1.lockA (λ_ _ _ _ _ _ _ _ _ z=>z.elim) h λb F' w S' o s I' q=>?_;obtain⟨rfl,q⟩:=q;have e:Same H w:=λb u e=>s.hh b u e (CC b);exact k F w S ρ σ ⟨.refl _,λb u h _=>e b u h,s.dm,λb h z=>absurd h z,λb h=>.inl h,λk u _ h _=>⟨h,rfl,rfl⟩,λ_ _=>rfl⟩ (I.same e) q;have P:i∉C:=λz=>by
  have c1:=(yA cn).1;have:(!C.contains i)=true:=by simpa[Tg.ix]using c1
  rw[Qt.mpr z]at this;cases this
 obtain⟨v,hv,r⟩:=I.sl j _ hj;have r:Tr K F H true v (.tup f) (S j):=r;cases r with
 |@tup _ a ws _ _ S' h1 h2 h3 h4 h5 =>
  show(match σ[j]? with|some (some v)=>gC K .val [v] H λp st A=>Cc K p st (.nm i) _ Dn σ A|_=>False);rw[hv];refine .inr (.inl ⟨ws,xD.of h1,?_⟩);intro J Y;have vl:ws.length=f.length:=h3.length;have l:(ws.map Item.one).length=f.length:=by rw[QD,vl]
  have Z:∀n,n<f.length->∃b p,ws[n]?=some (.ref b)/\S' b/\H b=some (.lst p)/\p.length<=1000:=λn X=>by
   obtain⟨ts,e,tl⟩:=hc _ (wG X);have M:f[n]?=some (.lst ts):=by rw[Qf X,e]
   obtain⟨v1,S2,g1,g2,g3,_⟩:=h3.part M;cases g2 with|@lst _ b B _ _ S3 W f2 f3 f4 f5=>exact⟨b,B,g1,g3 b ((f5 b).mpr (.inl rfl)),W,by rw[f3.length];exact tl⟩
  refine⟨λn m x w=>n<=f.length/\m=f.length - n/\x.length=σ.length/\(∀k,k≠i->x[k]?=σ[k]?)/\(∀c,¬ S' c->w c=H c)/\(∀c,w c=none->H c=none)/\∀k,k<f.length->∃b p,ws[k]?=some (.ref b)/\S' b/\w b=some (.lst p)/\p.length<=1000+n,⟨_,Qs _,rfl,rfl,λ_ _=>rfl,λ_ _=>rfl,λ_ z=>z,Z⟩,?_⟩;rintro n m x w ⟨nl,rfl,E,se,Q,hd,ea⟩;have st:xD K w a ws:=xD.of ((Q a h4).trans h1);by_cases e:n=f.length;obtain⟨s1,s2⟩:=I.gone (C:=C) hj (λc z=>Q c λy=>z ((h5 c).mpr (.inr y))) hd E se P;exact .inl ⟨Y.stop _ w st (by rw[l,e];exact QS _),k F w S _ x s1 s2 q⟩;have X:n<f.length:=Nat.lt_of_le_of_ne nl e;refine .inr ⟨Y.go n w st (by rw[l];exact X),λσ2 A=>∃m',m' < f.length - n/\_,λ_ _ z=>z,λy A hy=>?_⟩;obtain⟨it,e1,e2⟩:=Y.yld n w y A st (by rw[l];exact X) hy;obtain⟨b1,B,g1,g2,g3,g4⟩:=ea n X;rw[QT,g1]at e1;cases e1;obtain⟨L,G⟩:=e2;rw[L,G];have O:i<x.length:=by rw[E,<- I.len];exact il
  show rN K Γ EK _ _ (x.set i (some (.ref b1))) w;refine V7 (rP O) g3 (by omega) ⟨f.length - (n+1),by omega,X,rfl,by rw[qM];exact E,λk hk=>by rw[rD (Q4 hk)];exact se k hk,λc hc=>(kA λz=>hc (by rw[z];exact g2)).trans (Q c hc),λc hc=>hd c (sB c hc),λk hk=>?_⟩;obtain⟨b,p,W,f2,f3,f4⟩:=ea k hk;by_cases z:b=b1;exact⟨b,_,W,f2,by rw[z];exact aA,by rw[QI];show B.length+1<=_;omega⟩;exact⟨b,p,W,f2,(kA z).trans f3,by omega⟩
end
section
variable{K:QA}{Γ:Ev}{Ψ:PEv}{E:XE}{N:XK}{F H D B F2 M:Hp}{S S1 O:Ft}{ρ A P:zA}{σ G R:St}{C J:LN}
theorem Sts.bind{L:LN}(s:Sts C J F H S ρ σ D B S1 A G)(b:Bd L D B S1 A G F2 M O P R)(v:∀j∈L,j∈J)(w:∀j∈L,j∉C):Sts C J F H S ρ σ F2 M O P R :=
 ⟨s.ff.trans b.ff,λx u e n=>b.hh x u (s.hh x u e n),λx e=>s.dm x (b.dm x e),λx e z=>by
  by_cases q:D x=none;exact .inr (s.dm x (b.fn x q z));exact s.fn x e q,λx u=>s.uu x (b.U u),λj t h e y=>by
  obtain⟨l,i,g⟩:=b.out j λz=>h (v j z);rw[l]at e;obtain⟨f,a,k⟩:=s.bo j t h e y;exact⟨f,i.trans a,g.trans k⟩,λj h=>(b.out j λz=>w j z h).2.2.trans (s.sg j h)⟩
theorem ZX{g:Tg}{body:PEnds->zA->Prop}{tb:TS}{Z:PEnds}{Dn:Ends}{xs:List Item}{o:LT}{st:Hp->Prop}{Y:bB}
  (ib:∀{F H:Hp}{S:Ft}{ρ:zA}{σ:St}{Z:PEnds}{Dn:Ends},Rl K F H S ρ σ->SE K F H S ρ E N->body Z ρ->EndsOk K C F H S ρ σ Z Dn->tb Dn σ H)
  (I:Rl K F H S ρ σ) (X:SE K F H S ρ E N) (hC:∀j∈g.ix,j∉C) (pr:Paired (OZ K F H Y) xs o) (hy:∀b,Y b->¬ U ρ S b/\H b≠none/\F b=none) (hst:∀f k,Same F f->Same f k->(∀b,Y b->k b=H b)->st k) (h:LH body g Z o ρ)
  (onx:∀f k S' z w,Sts C g.ix F H S ρ σ f k S' z w->Rl K f k S' z w->Z.nx z->Dn.nx w k)
  (ort:∀v t W f k S' z w,Stc C F H S ρ σ f k S' z w->Rl K f k S' z w->Tr K f k true v t W->Held f k S' z W->(∀b,W b->H b=none∨U ρ S b)->Z.rt t z->Dn.rt v k):Cc K xs st g tb Dn σ H:=by
 intro J hJ;have len:=qJ pr;have yk:∀{D B:Hp}{S1:Ft}{A:zA}{G:St},Sts C g.ix F H S ρ σ D B S1 A G->∀b,Y b->B b=H b/\D b=none:=λ{D B S1 A G} s b hb=>by
  obtain⟨n,d1,d2⟩:=hy b hb;refine⟨?_,?_⟩;cases e:H b with|none=>exact absurd e d1|some u=>exact s.hh b u e n
  by_cases q:D b=none
  ·exact q
  exact((s.fn b d2 q).elim n d1).elim
 refine⟨λi m w k=>i<=xs.length/\m=xs.length - i/\∃z f S',Sts C g.ix F H S ρ σ f k S' z w/\Rl K f k S' z w/\LH body g Z (o.drop i) z,⟨_,Qs _,rfl,ρ,F,S,.refl,I,by simpa using h⟩,?_⟩;rintro i m G B ⟨hi,rfl,A,D,S1,p,I1,h1⟩;have hs:=hst D B p.ff I1.fh λb hb=>(yk p b hb).1;rcases QA2 i xs.length with l|hge;refine .inr ⟨hJ.go i B hs l,λw k=>i+1<=xs.length/\∃z f S',Sts C g.ix F H S ρ σ f k S' z w/\Rl K f k S' z w/\LH body g Z (o.drop (i+1)) z,λw k ⟨a,b⟩=>⟨_,by omega,a,rfl,b⟩,λx M hyl=>?_⟩;obtain⟨it,hx,hm⟩:=hJ.yld i B x M hs l hyl;obtain⟨y,hd,ry⟩:=Paired.get_of pr hx;rw[hd]at h1;unfold LH at h1;have key:L3.bindI K g it G B λR M=>tb { Dn with nx:=λw k=>i+1<=xs.length/\∃z f S',Sts C g.ix F H S ρ σ f k S' z w/\Rl K f k S' z w/\LH body g Z (o.drop (i+1)) z,ct:=λw k=>i+1<=xs.length/\∃z f S',Sts C g.ix F H S ρ σ f k S' z w/\Rl K f k S' z w/\LH body g Z (o.drop (i+1)) z,bk:=Dn.nx } R M:=by
  refine XT I1 (λb hb u=>?_) (ry.mono p.ff (yk p)) h1 λP R F2 H3 O bd I2 h2=>?_;rcases p.uu b u with q|q
  ·exact(hy b hb).1 q
  exact(hy b hb).2.1 q;have s2:=p.bind bd (λj hj=>hj) hC;exact ib I2 (X.fromS s2) h2 ⟨λf k S' z w L Q q=>⟨l,z,f,S',s2.trans L,Q,q⟩,λv t W f k S' z w L Q r hw fr q=>ort v t W f k S' z w (s2.c.trans L) Q r hw (du s2 fr) q,
   λf k S' z w L Q q=>onx f k S' z w (s2.trans L) Q q,λf k S' z w L Q q=>⟨l,z,f,S',s2.trans L,Q,q⟩⟩
 exact PM hm key;have e:o.drop i=[]:=Wa (by omega);rw[e]at h1;exact .inl ⟨hJ.stop i B hs hge,onx D B S1 A G p I1 h1⟩
theorem uG:∀(J:LN) (ρ:zA) (i:Nat) s,(kill J ρ)[i]?=some (some s)->ρ[i]?=some (some s)/\(i∈J->∀t,s=.ky t->t.isD=true)
 |[],ρ,i,s,h=>⟨h,λz=>by simp at z⟩|j::J,ρ,i,s,h=>by
  unfold kill at h;obtain⟨x,w⟩:=uG J _ i s h;rw[Wu]at x;by_cases e:j=i;subst e;simp only[reduceIte]at x;cases q:ρ[j]? with
  |none=>rw[q]at x;cases x|some o =>
   rw[q]at x;have x:iM o=some s:=by simpa using x
   cases o with
   |none=>cases x|some v =>
    cases v with
    |own t=>cases x;exact⟨rfl,λ_ u z=>by cases z⟩|ky t =>
     have x:(if t.isD=true then some (Sl.ky t) else none)=some s:=x;cases y:t.isD with|true=>rw[y,if_pos rfl]at x;cases x;exact⟨rfl,λ_ u z=>by cases z;exact y⟩|false=>rw[y]at x;simp at x
  simp only[e,if_false]at x;refine⟨by simpa using x,λm=>w ((QL.mp m).elim (λz=>absurd z.symm e) id)⟩
theorem eM:∀(J:LN) (ρ:zA),(kill J ρ).length=ρ.length
 |[],_=>rfl|j::J,ρ=>by unfold kill;rw[eM J];simp
theorem Sts.kill(s:Sts C J F H S ρ σ D B S1 A G):Sts C [] F H S ρ σ D B S1 (L3.kill J A) G :=
 ⟨s.ff,s.hh,s.dm,s.fn,λb ⟨i,t,y,x⟩=>s.uu b ⟨i,t,(uG J A i _ y).1,x⟩,λj t _ e h=>by obtain⟨y,x⟩:=uG J A j _ e;by_cases z:j∈J;rw[x z t rfl]at h;cases h;exact s.bo j t z y h,s.sg⟩
theorem pS:∀(L:LN) (ρ:zA) (j:Nat),(lock L ρ)[j]?=if j∈L then ρ[j]?.map uC else ρ[j]?
 |[],ρ,j=>by simp[lock]|i::L,ρ,j=>by
  have x:∀o,uC (uC o)=uC o:=λo=>by
   match o with
   |none=>rfl|some (.own _)=>rfl|some (.ky _)=>rfl
  unfold lock;rw[pS L,Wu];by_cases e:i=j;subst e;cases h:ρ[i]? with|none=>simp|some o=>simp[x]
  have y:¬ j=i:=λz=>e z.symm;simp[e,y]
theorem oS:∀(L:LN) (ρ:zA),(lock L ρ).length=ρ.length
 |[],_=>rfl|i::L,ρ=>by unfold lock;rw[oS L];simp
theorem JL:∀(L:LN) (x ρ:zA) (j:Nat),(∀i∈L,i<ρ.length)->(XC L x ρ)[j]?=if j∈L then some (x[j]?.getD none) else ρ[j]?
 |[],x,ρ,j,_=>by simp[XC]|i::L,x,ρ,j,h=>by unfold XC;rw[JL L x _ j (λk hk=>by simpa using h k (QE _ hk)),wC];by_cases e:i=j;subst e;simp[h i QF];have y:¬ j=i:=λz=>e z.symm;simp[e,y]
theorem iL:∀(L:LN) (h ρ:zA),(XC L h ρ).length=ρ.length
 |[],_,_=>rfl|i::L,h,ρ=>by unfold XC;rw[iL L];simp
theorem XH{ρ:zA}:∀(x:LN),∀i∈fC ρ x,∃t,ρ[i]?=some (some (.own t))
 |[],i,h=>by simp[fC]at h|j::x,i,h=>by
  unfold fC at h;split at h
  ·rename_i ho
   rcases QL.mp h with e|e
   ·subst e
    unfold cM at ho;split at ho;rename_i t e;exact⟨t,e⟩
    all_goals cases ho
   exact XH x i e
  exact XH x i h
theorem bM{ρ:zA}{i:Nat}{t:T}(h:ρ[i]?=some (some (.own t))):∀(x:LN),i∈x->i∈fC ρ x
 |[],hi=>by simp at hi|j::x,hi=>by
  unfold fC;rcases QL.mp hi with e|e;subst e;have:cM ρ[i]?=true:=by rw[h];rfl
  rw[if_pos this];exact QF;have:=bM h x e;split;exact QE _ this;exact this
section
variable{L:LN}(y:∀i∈L,∃t,ρ[i]?=some (some (.own t)))
include y
theorem iK{i:Nat}{s:Sl}(h:(lock L ρ)[i]?=some (some s)):(i∈L/\∃t,ρ[i]?=some (some (.own t))/\s=.ky t)∨(i∉L/\ρ[i]?=some (some s)):=by rw[pS]at h;by_cases x:i∈L;rw[if_pos x]at h;obtain⟨t,e⟩:=y i x;rw[e]at h;injection h with h;injection h with h;exact .inl ⟨x,t,e,h.symm⟩;rw[if_neg x]at h;exact .inr ⟨x,h⟩
theorem bF{b:Addr}(h:U (lock L ρ) S b):U ρ S b:=by
 obtain⟨i,t,x,z⟩:=h;rcases iK y x with⟨_,u,_,e⟩| ⟨_,x⟩
 cases e;exact⟨i,t,x,z⟩
theorem Rl.lock(I:Rl K F H S ρ σ):Rl K F H S (L3.lock L ρ) σ where
 fh:=I.fh
 len:=by rw[oS];exact I.len
 sl:=λi s e=>by
  rcases iK y e with⟨_,t,h,rfl⟩| ⟨_,h⟩
  obtain⟨v,u,x⟩:=I.sl i _ h;exact⟨v,u,x.weak⟩;exact I.sl i s h
 dj:=λi j t s n k w=>by
  rcases iK y k with⟨_,_,_,z⟩| ⟨_,u⟩
  cases z;rcases iK y w with⟨_,a,x,_⟩| ⟨_,x⟩
  ·exact I.dj i j t _ n u x
  exact I.dj i j t s n u x
theorem Rl.lockU(I:Rl K F H S ρ σ){i:Nat}(x:i∈L){b:Addr}(hb:S i b):¬ U (L3.lock L ρ) S b:=λ⟨j,t,h,v⟩=>by
 obtain⟨w,e⟩:=y i x;rcases iK y h with⟨_,_,_,z⟩| ⟨u,h⟩
 cases z;exact I.dj j i t _ (λz=>u (z▸x)) h e b v hb
theorem xY(I:Rl K F H S ρ σ)(s:Sts C [] F H S (lock L ρ) σ D B S1 A G)(W:Rl K D B S1 A G)(hl:∀i∈L,A[i]?=ρ[i]?.map uC) :
  ∃O,Rl K D B O (XC L ρ A) G/\Sts C [] F H S ρ σ D B O (XC L ρ A) G:=by
 classical
 have l1:∀i∈L,∃t,ρ[i]?=some (some (.own t))/\A[i]?=some (some (.ky t)):=λi h=>by obtain⟨t,e⟩:=y i h;have:=hl i h;rw[e]at this;exact⟨t,e,this⟩
 have hlt:∀i∈L,i<A.length:=λi h=>by obtain⟨t,_,e⟩:=l1 i h;exact(Qg.mp e).1
 let O:Ft:=λi=>if i∈L then S i else S1 i
 have l:∀i∈L,O i=S i:=λi h=>if_pos h;have g:∀i,i∉L->O i=S1 i:=λi h=>if_neg h;have get:∀i a,(XC L ρ A)[i]?=some (some a)->(i∈L/\∃t,ρ[i]?=some (some (.own t))/\A[i]?=some (some (.ky t))/\a=.own t)∨(i∉L/\A[i]?=some (some a)):=λi a e=>by rw[JL L ρ A i hlt]at e;by_cases h:i∈L;rw[if_pos h]at e;obtain⟨t,f,Y⟩:=l1 i h;rw[f]at e;injection e with e;have e:some (Sl.own t)=some a:=e;injection e with e;exact .inl ⟨h,t,f,Y,e.symm⟩;rw[if_neg h]at e;exact .inr ⟨h,e⟩
 have Q:∀i∈L,∀k a,k∉L->A[k]?=some (some a)->∀b,S i b->¬ S1 k b:=λi h k a hk e b hb z=>by
  obtain⟨t,f,_⟩:=l1 i h;cases a with
  |own u=>rcases s.uu b ⟨k,u,e,z⟩ with q|q;exact I.lockU y h hb q;exact(I.dom f hb).1 q
  |ky u =>
   cases o:u.isD with
   |true=>exact W.isD e o z|false =>
    obtain⟨m,p,_⟩:=s.bo k u (by simp) e o;rw[p]at z;rcases iK y m with⟨q,_⟩| ⟨_,m⟩
    exact hk q;exact I.dj i k t _ (λq=>hk (q▸h)) f m b hb z
 refine⟨O,⟨W.fh,by rw[iL];exact W.len,λi a e=>?_,λi k t a n f Y b hb hk=>?_⟩,⟨s.ff,λb u e n=>s.hh b u e λz=>n (bF y z),s.dm,λb e z=>(s.fn b e z).imp (bF y) id,λb ⟨i,t,h1,h2⟩=>?_,λj t _ e o=>?_,s.sg⟩⟩;rcases get i a e with⟨h,t,f,Y,rfl⟩| ⟨h,f⟩
 ·rw[l i h]
  obtain⟨v,m,p⟩:=I.sl i _ f;cases o:t.isD with
  |true =>
   obtain⟨v',g3,g4⟩:=W.sl i _ Y;refine⟨v',g3,?_⟩;have nb:∀b,¬ S i b:=λb=>I.isD f o;cases t with
   |d x =>
    have g4:Tr K D B false v' (.d x) (S1 i):=g4;cases g4 with|d r _=>exact .d r nb
   |_=>cases o
  |false =>
   obtain⟨_,_,g5⟩:=s.bo i t (by simp) Y o;refine⟨v,g5.trans m,?_⟩;have p:Tr K F H true v t (S i):=p;refine p.mono s.ff λb hb=>?_;obtain⟨d1,d2⟩:=p.dom b hb;have nu:=I.lockU y h hb;refine⟨?_,?_⟩;cases eb:H b with|none=>exact absurd eb d1|some u=>exact s.hh b u eb nu
   by_cases q:D b=none
   ·exact q
   exact((s.fn b d2 q).elim nu d1).elim
 rw[g i h];exact W.sl i a f;rcases get i _ f with⟨h,t',X,a2,_⟩| ⟨h,X⟩
 ·rw[l i h]at hb
  rcases get k a Y with⟨w,t2,Z,b2,_⟩| ⟨w,Z⟩
  rw[l k w]at hk;exact I.dj i k t' _ n X Z b hb hk;rw[g k w]at hk;exact Q i h k a w Z b hb hk
 rw[g i h]at hb;rcases get k a Y with⟨w,t2,Z,b2,_⟩| ⟨w,Z⟩
 rw[l k w]at hk;exact Q k w i _ h X b hk hb;rw[g k w]at hk;exact W.dj i k t a n X Z b hb hk;rcases get i _ h1 with⟨h,t',X,a2,_⟩| ⟨h,X⟩
 ·rw[l i h]at h2
  exact .inl ⟨i,t',X,h2⟩
 rw[g i h]at h2;exact(s.uu b ⟨i,t,X,h2⟩).imp (bF y) id;rcases get j _ e with⟨_,_,_,_,z⟩| ⟨hj,f⟩
 ·cases z
 obtain⟨m,p,g3⟩:=s.bo j t (by simp) f o;rcases iK y m with⟨q,_⟩| ⟨_,m⟩
 exact absurd q hj;exact⟨m,(g j hj).trans p,g3⟩
end
theorem IP{i:Nat}(h:(!C.contains i)=true):i∉C:=λz=>by have:C.contains i=true:=Qt.mpr z;rw[this]at h;cases h
theorem z5{x:LN}(h:(x.all λi=>!C.contains i)=true):∀i∈x,i∉C:=λi y=>IP (Qv.mp h i y)
theorem SX:∀{xs:List (T×Bool)},TQ xs=true->∀t∈XN xs,t.isD=true
 |[],_,t,h=>by simp[XN]at h|p::r,h,t,y=>by
  simp only[TQ,Qc]at h;simp only[XN,QL]at y;rcases y with rfl|y;obtain⟨x,n⟩:=p;cases n with
  |true=>rfl|false =>
   have z:=h.1;cases x with|d x=>rfl|_=>cases z
  exact SX h.2 t y
theorem Tn.bare{Y:bB}{vs:LV}{ts:LT}(h:Tn K F H Y vs ts):(∀t∈ts,t.isD=true)->Tn K F H (λ_=>False) vs ts:=by
 induction h with
 |nil=>exact λ_=>.nil|@cons v t vs ts Z r z a w =>
  intro y;refine .cons (Z:=λ_=>False) ?_ (λ_ z=>z) (w λu k=>y u (QE _ k));have y:=y t QF;cases t with
  |d x=>cases r with|d q _=>exact .d q λ_ z=>z
  |_=>cases y
theorem u3{v:V}{t:T}{W:bB}{Z:PEnds}{Dn:Ends}(ok:EndsOk K C F H S ρ σ Z Dn)(s:Ste F H S ρ D B S1 A)(I:Rl K D B S1 A σ)(r:Tr K D B true v t W)(h:Held D B S1 A W)(fr:∀b,W b->H b=none∨U ρ S b)(q:Z.rt t A):Dn.rt v B :=
 ok.rt v t W D B S1 A σ (s.toStp.sts (J:=[])).c I r h fr q
theorem x9(g:GOk K Γ Ψ):∀(e:PX) {F H:Hp}{S:Ft}{ρ:zA}{σ:St}{Z:PEnds}{Dn:Ends},Rl K F H S ρ σ->SE K F H S ρ E N->DK Ψ E Z.rt e ρ->EndsOk K C F H S ρ σ Z Dn->(wp K Γ e N).e σ H Dn.rt:=by
  intro e F H S ρ σ Z Dn I X h ok;have a:∀e,(pe Ψ e E).e ρ (λx n A=>MH x n=true/\Z.rt x A)->(wp K Γ e N).e σ H Dn.rt:=λe h=>by refine(RA g e).e (Q:=λx n A=>MH x n=true/\Z.rt x A) I X h λv F' H' S' f x n Za s J r ⟨p,q⟩=>?_;obtain⟨W,l,m,fr⟩:=r.strict p;exact u3 ok s J l m fr q
  cases e with
  |vz i =>
   have y:Ls ρ i Z.rt ρ[i]?:=h;show(match σ[i]? with|some (some v)=>Dn.rt v _|_=>False)
   match k:ρ[i]?,y with
   |some (some (.own t)),y =>
    obtain⟨v,w,r⟩:=I.sl i _ k;rw[w];have L:Rl K F H S (ρ.set i none) σ:=I.drop (by simp) λj s e=>by
     rcases dA e with⟨_,z,_⟩| ⟨_,e⟩
     cases z;exact e
    refine ok.rt v t (S i) F H S (ρ.set i none) σ ⟨.refl _,λb u e _=>e,λb e=>e,λb e z=>absurd e z,λb ⟨j,u,w,Y⟩=>.inl ?_,λ_ _=>rfl⟩ L r ⟨r.dom,λj s e b hb z=>?_⟩ (λb hb=>.inr ⟨i,t,k,hb⟩) y;rcases dA w with⟨_,z,_⟩| ⟨_,w⟩
    ·cases z
    exact⟨j,u,w,Y⟩;rcases dA e with⟨_,q,_⟩| ⟨n,e⟩
    ·cases q
    exact I.dj i j t s n k e b hb z
   |some (some (.ky t)),y =>
    obtain⟨v,w,r⟩:=I.sl i _ k;rw[w];obtain⟨o,y⟩:=y;cases t with
    |d x =>
     have r:Tr K F H false v (.d x) (S i):=r;cases r with|d q n=>exact u3 (W:=λ_=>False) ok .refl I (.d q λ_ z=>z) .none (λ_ z=>z.elim) y
    |_=>cases o
   |some none,y=>exact y.elim|none,y=>exact y.elim
  |_=>exact a _ h
theorem nI(g:GOk K Γ Ψ):∀(p:PT) {F H:Hp}{S:Ft}{ρ:zA}{σ:St}{Z:PEnds}{Dn:Ends},UH C p=true->Rl K F H S ρ σ->SE K F H S ρ E N->cB Ψ E p Z ρ->EndsOk K C F H S ρ σ Z Dn->rN K Γ N p Dn σ H
 | .nil,_,_,_,_,_,_,_,c,I,X,h,ok=>ok.nx _ _ _ _ _ .refl I h|.seq s r,_,_,_,_,_,_,_,c,I,X,h,ok=>by obtain⟨c1,c2⟩:=yA c;exact nI g s c1 I X h ⟨λF' H' S' L σ' s' J q=>nI g r c2 J (X.fromS s') q (ok.from s'),ok.rt,ok.bk,ok.ct⟩|.set i e,F,H,S,ρ,σ,Z,Dn,c,I,X,h,ok=>by have hi:=IP c;refine jG (RR:=λx B=>Dn.nx (σ.set i (some x)) B) (RA g e) I X h λv F' H' S' L x n Za s J X' r er _ ⟨he,q⟩=>?_;exact ok.nx _ _ _ _ _ (s.toStp.sts.setD i hi v rfl _) (J.setD i (er he)) q|.expr e,F,H,S,ρ,σ,Z,Dn,c,I,X,h,ok=>(RA g e).e I X h λv F' H' S' L x n Za s J r q=>ok.nx _ _ _ _ _ s.toStp.sts J q|.ret e,F,H,S,ρ,σ,Z,Dn,c,I,X,h,ok=>x9 g e I X h ok|.ife t a b,F,H,S,ρ,σ,Z,Dn,c,I,X,h,ok=>by
  obtain⟨c1,c2⟩:=yA c;refine(RA g t).t I X h λk F' H' S' L s J q=>?_;cases k with|true=>exact nI g a c1 J (X.from s.toStp) q (ok.from s.toStp.sts)|false=>exact nI g b c2 J (X.from s.toStp) q (ok.from s.toStp.sts)
 | .for_ tg ik its body,F,H,S,ρ,σ,Z,Dn,c,I,X,h,ok=>by
  obtain⟨c1,c2⟩:=yA c;have hC:=z5 c1;refine uW (RR:=λvs B=>gC K ik vs B λxs st M=>Cc K xs st tg (rN K Γ N body) Dn σ M) (RA g its) I X h λvs D B S1 A xs Y s1 I1 X1 tn tm q=>?_;rw[mL _ rfl]at q;have ok1:=ok.from s1.toStp.sts;cases ha:TQ xs with
  |true=>have tn':=tn.bare (SX ha);refine NJ I1.fh tn' q λits ys st pr hst hc=>?_;rw[ha,if_pos rfl]at hc;refine ZX (λI X h ok=>nI g body c2 I X h ok) I1 X1 hC pr (λb z=>z.elim) hst hc ?_ ?_;exact λF' H' S' L σ' s' I' q=>ok1.nx _ _ _ _ _ s'.kill (I'.drop (eM _ _) λi sl e=>(uG _ _ i sl e).1) q;exact λv t W F' H' S' L σ' s' I' r hw fr q=>ok1.rt v t W F' H' S' L σ' s' I' r hw fr q|false =>
   refine NJ I1.fh tn q λits' ys st pr hst hc=>?_;rw[ha,if_neg (by simp)]at hc;have hL:=XH (ρ:=A) (IG its);have IL:=I1.lock hL;have sL:Sts C [] D B S1 A σ D B (λ_ _=>False) [] σ:=⟨.refl _,λb u e _=>e,λb e=>e,λb e z=>absurd e z,λb ⟨i,t,e,_⟩=>by simp at e,λj t _ e=>by simp at e,λ_ _=>rfl⟩
   have XL:SE K D B S1 (lock (fC A (IG its)) A) E N:=λx dx F2 M O P s2 f r q =>
    X1 x dx F2 M (λ_ _=>False) [] ⟨s2.ff,λb u e n=>s2.hh b u e λz=>n (bF hL z),s2.dm,λb e z=>(s2.fn b e z).imp (bF hL) id,λb ⟨i,t,e,_⟩=>by simp at e,λj t e=>by simp at e⟩ f r q
   refine ZX (λI X h ok=>nI g body c2 I X h ok) IL XL hC pr (λb hb=>?_) hst hc ?_ ?_;obtain⟨i,sl,h1,h2,h3⟩:=tm b hb;refine⟨λu=>?_,I1.dom h2 h3⟩;cases sl with
   |own t=>exact I1.lockU hL (bM h2 _ h1) h3 u|ky t =>
    obtain⟨j,t',e1,e2⟩:=u;rcases iK hL e1 with⟨_,_,_,z⟩| ⟨_,e1⟩
    cases z;exact I1.dj j i t' _ (λz=>by subst z;rw[h2]at e1;cases e1) e1 h2 b e2 h3
   intro F' H' S' L σ' s' I' ⟨q1,q2⟩;have sk:=s'.kill;have Ik:=I'.drop (eM tg.ix L) λi sl e=>(uG _ _ i sl e).1;obtain⟨O,I2,s2⟩:=xY hL I1 sk Ik λi hi=>(q1 i hi).2;exact ok1.nx _ _ _ _ _ s2 I2 q2;intro v t W F' H' S' L σ' s' I' r hw fr q;exact ok1.rt v t W F' H' S' L σ' ⟨s'.ff,λb u e n=>s'.hh b u e λz=>n (bF hL z),s'.dm,λb e z=>(s'.fn b e z).imp (bF hL) id,λb u=>(s'.uu b u).imp (bF hL) id,s'.sg⟩ I' r hw (λb hb=>(fr b hb).imp id (bF hL)) q
 | .own i e,F,H,S,ρ,σ,Z,Dn,c,I,X,h,ok=>by refine(RA g e).e (Q:=λx n A=>MH x n=true/\Z.nx (A.set i (some (.own x)))) I X h λv F' H' S' L x n Za s J r ⟨he,q⟩=>?_;obtain⟨W,r2,hw,fr⟩:=r.strict he;exact ok.nx _ _ _ _ _ (s.toStp.sts.setN i (IP c) v x fr) (J.setN i r2 λj sl _ e b hb=>hw.nw j sl e b hb) q|.six o i e,F,H,S,ρ,σ,Z,Dn,c,I,X,h,ok=>by
  have later:∀{j:Nat}{t:T}{v0:V},ρ[j]?=some (some (.own t))->Tr K F H true v0 t (S j)->∀{F' H':Hp}{S':Ft}{L:zA},Ste F H S (ρ.set j (some (.ky t))) F' H' S' L->Tr K F' H' true v0 t (S j)/\∀b,S j b->H' b=H b:=λ{j t v0} hj r0 {F' H' S' L} s=>⟨s.toStp.keep r0 (I.lock1U hj),λb hb=>by
   cases e:H b with|none=>exact absurd e (r0.dom b hb).1|some u=>exact s.hh b u e (I.lock1U hj b hb)⟩
  cases o with
  |vz j =>
   have h:rC ρ[j]? _:=h;unfold rC at h;split at h;rename_i t hj;obtain⟨v0,hv,r0⟩:=I.sl j _ hj;have r0:Tr K F H true v0 t (S j):=r0;show(wp K Γ e N).e σ H λv B=>(wp K Γ (.vz j) N).e σ B λov M=>(wp K Γ i N).e σ M λiv H3=>KR K ov iv v H3 λH4=>Dn.nx σ H4;refine jG (RA g e) (I.lock1 hj) (X.lock1 hj) h λxv D B S1 A x n Zx s1 I1 X1 _ er1 _ ⟨he,q1⟩=>?_;have rx:=er1 he;show(match σ[j]? with|some (some v)=>_|_=>False);rw[hv];refine jG (RA g i) I1 X1 q1 λiv F2 M O P y m Zy s2 I2 X2 _ er2 _ ⟨he2,hj2,q2⟩=>?_;have s12:=s1.trans s2;refine N1 I2.fh (later hj r0 s12).1 (er2 he2) (rx.mono s2.ff) q2 λt' H3 S3 hh dm rt sub q=>?_;obtain⟨st,I3,_⟩:=lI (W:=λ_=>False) I hj hv s12 I2 hh dm rt (λb hb=>.inl (sub b hb)) .none (λ_ z=>z.elim);exact ok.nx _ _ _ _ _ st.toStp.sts I3 q
   all_goals exact h.elim
  |idx a k =>
   cases a with
   |vz j =>
    have h:rC ρ[j]? _:=h;unfold rC at h;split at h;rename_i t hj;obtain⟨v0,hv,r0⟩:=I.sl j _ hj;have r0:Tr K F H true v0 t (S j):=r0;show(wp K Γ e N).e σ H λv B=>(wp K Γ (.vz j) N).e σ B λov M=>(wp K Γ k N).e σ M λzv H3=>KY K ov zv H3 λow H4=>(wp K Γ i N).e σ H4 λiv H5=>KR K ow iv v H5 λH6=>Dn.nx σ H6;refine jG (RA g e) (I.lock1 hj) (X.lock1 hj) h λxv D B S1 A x n Zx s1 I1 X1 _ er1 _ ⟨he,q1⟩=>?_;have rx:=er1 he;show(match σ[j]? with|some (some v)=>_|_=>False);rw[hv];refine jG (RA g k) I1 X1 q1 λzv F2 M O P z l Zz s2 I2 X2 _ er2 _ ⟨hez,b,ks,ts,n,s,et,hk,hf,ht,q2⟩=>?_;have s12:=s1.trans s2;have rz:=er2 hez;subst et;obtain⟨r2,k2⟩:=later hj r0 s12;obtain⟨a,o,vs,ea,ho,dk,hw⟩:∃a o vs,v0=.ref a/\M a=some o/\uK K F2 b o ks vs/\∃w,vs[n]?=some w/\S j a:=by
     cases r2 with|dct h1 dk h2 h3 h4 h5=>obtain⟨w,_,g1,_⟩:=h3.get ht;exact⟨_,_,_,rfl,h1,dk,w,g1,(h5 _).mpr (.inl rfl)⟩
    obtain⟨w,hw,sa⟩:=hw;subst ea;have gd:=(dk.mono I2.fh).get ho (rz.mono I2.fh) hk;rw[hf]at gd;have gd:jR K M a zv (vs[n]?):=gd;rw[hw]at gd;have fin:(wp K Γ i N).e σ M λiv H5=>KR K w iv xv H5 λH6=>Dn.nx σ H6:=by
     refine jG (RA g i) I2 X2 q2 λiv F3 H3 S3 ρ3 y m Zy s3 I3 X3 _ er3 _ ⟨he3,hj3,q3⟩=>?_;have s13:=s12.trans s3;obtain⟨r3,k3⟩:=later hj r0 s13;have ho3:H3 a=some o:=by rw[k3 a sa,<- k2 a sa];exact ho
     refine L8 I3.fh r3 ho3 dk hw ht (er3 he3) ((rx.mono s2.ff).mono s3.ff) q3 λt' H4 S4 hh dm rt sub q=>?_;obtain⟨st,I4,_⟩:=lI (W:=λ_=>False) I hj hv s13 I3 hh dm rt (λb hb=>.inl (sub b hb)) .none (λ_ z=>z.elim);exact ok.nx _ _ _ _ _ st.toStp.sts I4 q
    cases zv with|str z=>exact⟨w,gd,fin⟩|ref c=>exact⟨w,gd,fin⟩|_=>exact gd.elim
    all_goals exact h.elim
   |_=>exact h.elim
  |_=>exact h.elim
 | .sdf j k,F,H,S,ρ,σ,Z,Dn,c,I,X,h,ok=>by
  have h:rC ρ[j]? _:=h;unfold rC at h;split at h;rename_i t hj;obtain⟨v0,hv,r0⟩:=I.sl j _ hj;have r0:Tr K F H true v0 t (S j):=r0;obtain⟨hd,h⟩:=h;show(match σ[j]? with|some (some v)=>uY K "dict" v H/\(wp K Γ k N).e σ H λx B=>∀p,B p=none->RK K v [x,.ref p] (BA B p (.dT 0 [])) λ_ M=>Dn.nx σ M|_=>False);rw[hv];constructor;cases r0 with
  |@dct _ b _ _ _ _ _ _ _ h1 dk _ _ _ _ =>
   cases b with|true=>obtain⟨ep,kvs,rfl,_⟩:=dk;exact .inr (.inr (.inl ⟨rfl,.inr ⟨ep,kvs,h1⟩⟩))|false=>cases hd
  |_=>cases hd
  refine jG (RA g k) (I.lock1 hj) (X.lock1 hj) h λiv D B S1 A y m Zy s1 I1 X1 _ er _ ⟨he,hj1,q1⟩=>?_;intro p hp;have r1:=s1.toStp.keep r0 (I.lock1U hj);refine kh I1.fh hp r1 (er he) q1 λt' H3 S3 hh dm rt sub q=>?_;obtain⟨st,I3,_⟩:=lI (W:=λ_=>False) I hj hv s1 I1 hh dm rt (λb hb=>(sub b hb).imp id λ(z:b=p)=>.inr (by rw[z];exact hp)) .none (λ_ z=>z.elim);exact ok.nx _ _ _ _ _ st.toStp.sts I3 q
  all_goals exact h.elim
 | .whl t body,F,H,S,ρ,σ,Z,Dn,c,I,X,h,ok=>by
  obtain⟨W,⟨m0,w0⟩,turn⟩:=h;refine⟨λm σ' H'=>∃L F' S',Sts C [] F H S ρ σ F' H' S' L σ'/\Rl K F' H' S' L σ'/\W m L,⟨m0,ρ,F,S,.refl,I,w0⟩,?_⟩;rintro m G B ⟨A,D,S1,s1,I1,w1⟩;refine(RA g t).t I1 (X.fromS s1) (turn m A w1) λk F' H' S' L s' J q=>?_;have s2:=s1.trans s'.toStp.sts;cases k with
  |false=>exact ok.nx _ _ _ _ _ s2 J q|true =>
   refine⟨λσ' H'=>∃m',m' < m/\∃L F' S',Sts C [] F H S ρ σ F' H' S' L σ'/\Rl K F' H' S' L σ'/\W m' L,λ_ _ z=>z,?_⟩;refine nI g body c J (X.fromS s2) q ⟨?_,?_,?_,?_⟩;exact λF' H' S' L σ' s' I' ⟨m',hm,w⟩=>⟨m',hm,L,F',S',s2.trans s',I',w⟩
   exact λv t W F' H' S' L σ' s' I' r hw fr q=>ok.rt v t W F' H' S' L σ' (s2.c.trans s') I' r hw (du s2 fr) q;exact λF' H' S' L σ' s' I' q=>ok.nx _ _ _ _ _ (s2.trans s') I' q;exact λF' H' S' L σ' s' I' ⟨m',hm,w⟩=>⟨m',hm,L,F',S',s2.trans s',I',w⟩
 | .frz is s,F,H,S,ρ,σ,Z,Dn,c,I,X,h,ok=>by obtain⟨F',S',I',s'⟩:=I.frzAt (C:=C) is;exact nI g s c I' (X.fromS s') h (ok.from s')|.hs s,F,H,S,ρ,σ,Z,Dn,c,I,X,h,ok=>zp g s c I h λF' H' S' L σ' a b q=>ok.nx F' H' S' L σ' a b q
end
section
variable{z:Ev}{n:Need}
noncomputable def Gr(x:Str)(n:String):Bool:=(x==("bool":Str)&&n == "bool")||(x==("int":Str)&&n == "int")||(x==("str":Str)&&n == "str")||(x==("list":Str)&&n == "list")||(x==("tuple":Str)&&n == "tuple")||(x==("ValueError":Str)&&n == "ValueError")
theorem Gg{x:Str}{n:String}(h:Gr x n=true):bootBuiltins x=some (.type n):=by simp only[Gr,wX,Qc,beq_iff_eq]at h;rcases h with((((⟨rfl,rfl⟩| ⟨rfl,rfl⟩)|⟨rfl,rfl⟩)|⟨rfl,rfl⟩)|⟨rfl,rfl⟩)|⟨rfl,rfl⟩<;>kernel_rfl
structure Need where
 fn:LS
 va:LS
 no:LS
noncomputable def Zt(n:Need):ItK->Bool
 | .val=>true|.rng1=>n.no.contains ("range":Str)|.enum=>n.no.contains ("enumerate":Str)|.itm=>true
noncomputable def lB(n:Need):PX->Bool
 | .glo x=>n.va.contains x|.bty x t=>n.no.contains x&&Gr x t|.bin _ a b | .cmp _ a b | .and a b | .or a b | .idx a b | .ny a b | .dsp a b=>lB n a&&lB n b
 | .not a | .lst a | .tup a=>lB n a
 | .slc a b c=>lB n a&&(lB n b&&lB n c)|.call f y=>n.fn.contains f&&lB n y|.bi f y=>n.no.contains f.nm&&lB n y|.isi a c=>n.no.contains ("isinstance":Str)&&(lB n a&&lB n c)|.mt _ o y=>lB n o&&lB n y|.comp _ _ _ w u h v=>Zt n w&&(lB n u&&(lB n h&&lB n v))|_=>true
noncomputable def uE(n:Need):PT->Bool
 | .seq s r=>uE n s&&uE n r|.set _ e=>lB n e|.own _ e=>lB n e|.expr e=>lB n e|.ret e=>lB n e|.ife c a b=>lB n c&&(uE n a&&uE n b)|.for_ _ y x h=>Zt n y&&(lB n x&&uE n h)|.six o i e=>lB n o&&(lB n i&&lB n e)|.sdf i k=>lB n (Am i k)|.whl c b=>lB n c&&uE n b|.frz _ s=>uE n s|.hs s=>uE n s|.nil=>true
def XQ(z:Ev)(n:Need):Glob:=⟨z,λf=>f∈n.fn,λx=>x∈n.va,λx=>x∈n.no⟩
theorem e6{x:ItK}(h:Zt n x=true):Io (XQ z n) x:=by
 cases x with|val=>trivial|itm=>trivial|_=>exact Qt.mp h
theorem GC:∀(p:PX),lB n p=true->yB (XQ z n) p:=by
 intro p;induction p with
 |glo x=>intro h;exact Qt.mp h|bty x t=>intro h;obtain⟨v,u⟩:=yA h;exact⟨Qt.mp v,Gg u⟩|bin _ a b y w|cmp _ a b y w|and a b y w|or a b y w|idx a b y w|ny a b y w|dsp a b y w=>intro h;obtain⟨v,u⟩:=yA h;exact⟨y v,w u⟩
 |not a y|lst a y|tup a y=>intro h;exact y h
 |slc a b c y w g=>intro h;obtain⟨v,k⟩:=yA h;obtain⟨u,e⟩:=yA k;exact⟨y v,w u,g e⟩|call f j y=>intro h;obtain⟨v,u⟩:=yA h;exact⟨Qt.mp v,y u⟩|bi f j y=>intro h;obtain⟨v,u⟩:=yA h;exact⟨Qt.mp v,y u⟩|isi a c y g=>intro h;obtain⟨v,k⟩:=yA h;obtain⟨u,e⟩:=yA k;exact⟨Qt.mp v,y u,g e⟩|mt _ o j m y=>intro h;obtain⟨v,u⟩:=yA h;exact⟨m v,y u⟩|comp _ _ _ Z l i Y s r q=>intro h;obtain⟨v,h⟩:=yA h;obtain⟨u,h⟩:=yA h;obtain⟨e,X⟩:=yA h;exact⟨e6 v,s u,r e,q X⟩|_=>intro _;trivial
theorem PY:∀(p:PT),uE n p=true->xE (XQ z n) p:=by
 intro p;induction p with
 |seq s r v l=>intro h;obtain⟨u,y⟩:=yA h;exact⟨v u,l y⟩|set _ e|own _ e|expr e|ret e=>intro h;exact GC _ h
 |six o i e=>intro h;obtain⟨u,x⟩:=yA h;obtain⟨y,f⟩:=yA x;exact⟨GC _ u,GC _ y,GC _ f⟩|sdf i k=>intro h;exact GC _ h|frz _ s v=>intro h;exact v h|hs s v=>intro h;exact v h|whl c b w=>intro h;obtain⟨u,y⟩:=yA h;exact⟨GC _ u,w y⟩|ife c a b m w=>intro h;obtain⟨u,x⟩:=yA h;obtain⟨y,f⟩:=yA x;exact⟨GC _ u,m y,w f⟩|for_ _ q j g w=>intro h;obtain⟨u,x⟩:=yA h;obtain⟨y,f⟩:=yA x;exact⟨e6 u,GC _ y,w f⟩|_=>intro _;trivial
noncomputable def XM(N h:LS)(sc:Scope):Bool:=sc.kind==.function&&!sc.isCoroutine&&!sc.isGenerator&&FJ N&&N.take h.length==h &&
 h.all (λx=>sc.names.lookup x==some .local||sc.names.lookup x==some .cell)&&sc.names.all λy=>y.2 != .free
theorem OS{N x:LS}{sc:Scope}(h:XM N x sc=true):FnScope N x sc:=by simp only[XM,Qc,Qv,wX,beq_iff_eq,Q9,bne_iff_ne,ne_eq]at h;obtain⟨⟨⟨⟨⟨⟨b,a⟩,k⟩,w⟩,v⟩,u⟩,y⟩:=h;exact⟨b,a,k,ZE w,v,u,y⟩
def eB(n:Need)(b:PT)(N h:LS)(st:Stmt):Bool:=XM N h (HA st)&&DN b ⟨N,HA st⟩ (nC st)&&uE n b
def Gh:Md->T->Sl
 | .chg,t=>.own t|_,t=>.ky t
def vE:List Md->LT->zA
 |_,[]=>[]|md,t::ts=>some (Gh (md.headD .xy) t)::vE md.tail ts
def gB(N:LS)(md:List Md)(ts:LT):zA:=vE md ts++QAQ (N.length - ts.length) none
noncomputable def XB:Nat->List Md->Nat->LN
 |_,_,0=>[]|k,md,n+1=>match md.headD .xy with
  | .chg=>k::XB (k+1) md.tail n|_=>XB (k+1) md.tail n
def CU:Option (LT)->(LT->Prop)->Prop
 |some os,Q=>Q os|none,_=>False
noncomputable def ZD(P:PSp)(n:Nat)(Q:T->LT->Prop):PEnds where
 nx:=λh=>CU (DA (XB 0 P.md n) h) (Q (.d .none))
 rt:=λt h=>CU (DA (XB 0 P.md n) h) (Q t)
abbrev kH(Ψ:PEv)(b:PT)(p:PSp)(N h:LS)(ds:LT)(Q:T->LT->Prop):Prop:=ds.length=h.length/\pF Ψ b (ZD p h.length Q) (gB N p.md ds)
def oU(mg:Str->Option Value)(x:Str):V:=((mg x).bind jN).getD .non
def Xp(K:QA)(mg:Str->Option Value)(Ψ:PEv):Ev:=⟨λf=>lift K (Ψ.sp f),oU mg⟩
structure ValsOk(P:Program)(w:World)(K:QA)(mg:Str->Option Value)(Ψ:PEv)(va:LS):Prop where
 rep:∀x d,Ψ.va x=some d->∀F,Rep K F (oU mg x) d
 has:∀x∈va,∃u v,mg x=some u/\jN u=some v
theorem HW{u:Value}{v:V}(h:jN u=some v):JA v u:=by cases u<;>first | (obtain rfl:=Qm h;first|rfl|exact⟨_,rfl⟩)|exact nomatch (show(none:Option V)=some v from h)
end
section
variable{P:Program}{w:World}{K:QA}{mg:Str->Option Value}{base:Heap}{Ψ:PEv}
section
variable{k:Nat}{F H:Hp}{Y M:bB}{md:List Md}{vs:LV}{ts:LT}{N l:LS}{R:PSp}{x o:Str}{st:Stmt}{f:Addr}{p:FuncData}{n:Need}
def XG(P:Program)(w:World)(K:QA)(mg:Str->Option Value)(base:Heap)(Ψ:PEv)(k:Nat)(f:Str):Prop :=
 ∃(a:Addr) (p:FuncData) (l:LS),FnOk P w K mg base j0 k a p l (lift K (Ψ.sp f))/\mg f=some (.ref a)/\wJ K (.ref a)=true/\oJ K p l []
theorem XG.mono{j:Nat}{f:Str}(h:XG P w K mg base Ψ j f)(hk:j<=k):XG P w K mg base Ψ k f:=by obtain⟨a,p,l,z,y⟩:=h;exact⟨a,p,l,z.mono hk,y⟩
theorem ArgsR.length(h:ArgsR K F H Y md vs ts):vs.length=ts.length:=by
 induction h with|nil=>rfl|chg _ _ e=>exact congrArg Nat.succ e|rd _ _ _ _ e=>exact congrArg Nat.succ e
theorem pI:∀(m:List Md) (ts:LT),(vE m ts).length=ts.length
 |_,[]=>rfl|m,d::ds=>by unfold vE;rw[QM,QM,pI]
theorem u4{m:Md}(h:m≠.chg)(t:T):Gh m t=.ky t:=by cases m<;>first|rfl|exact absurd rfl h
theorem CH(md:List Md)(v:V)(vs:LV):mB md (v::vs)=match md.headD .xy with | .chg=>v::mB md.tail vs|_=>mB md.tail vs:=by first | (rw[mB];done) | (rw[mB];cases md.headD .xy<;>rfl)
theorem pM(md:List Md)(v:T)(vs:LT):DB md (v::vs)=match md.headD .xy with | .chg=>v::DB md.tail vs|_=>DB md.tail vs:=by first | (rw[DB];done) | (rw[DB];cases md.headD .xy<;>rfl)
theorem pO(md:List Md)(t:T)(ts:LT):vE md (t::ts)=some (Gh (md.headD .xy) t)::vE md.tail ts:=by rw[vE]
theorem rc(h:ArgsR K F H Y md vs ts)(r:Trs K F H true (mB md vs) (DB md ts) M) :
  ∃Z:Ft,(∀(i:Nat) s,(vE md ts)[i]?=some (some s)->∃v,vs[i]?=some v/\Tr K F H s.st v s.t (Z i))/\(∀(i:Nat) t,(vE md ts)[i]?=some (some (.own t))->∀b,Z i b->M b)/\(∀(i:Nat) t,(vE md ts)[i]?=some (some (.ky t))->∀b,Z i b->Y b) /\
   ∀(i j:Nat) t u,i≠j->(vE md ts)[i]?=some (some (.own t))->(vE md ts)[j]?=some (some (.own u))->∀b,Z i b->¬ Z j b:=by
 induction h generalizing M with
 |nil=>exact⟨λ_ _=>False,λi s e=>by simp[vE]at e,λi t e=>by simp[vE]at e,λi t e=>by simp[vE]at e,λi j t u _ e=>by simp[vE]at e⟩|@chg md v vs t ts a O A =>
  have J:mB md (v::vs)=v::mB md.tail vs:=by rw[CH,a]
  have I:DB md (t::ts)=t::DB md.tail ts:=by rw[pM,a]
  rw[J,I]at r;cases r with
  |@cons _ _ _ _ _ _ L Z2 W Q n q =>
   obtain⟨Z,E,g,C,B⟩:=A Q;have G:vE md (t::ts)=some (.own t)::vE md.tail ts:=by rw[pO,a];rfl
   rw[G];refine⟨λi=>match i with|0=>L|i+1=>Z i,λi s e=>?_,λi u e b hb=>?_,λi u e b hb=>?_,λi j u w X e m b hb y=>?_⟩;cases i with|zero=>simp at e;subst e;exact⟨v,rfl,W⟩|succ i=>exact E i s (by simpa using e)
   cases i with|zero=>exact(q b).mpr (.inl hb)|succ i=>exact(q b).mpr (.inr (g i u (by simpa using e) b hb))
   cases i with|zero=>simp at e|succ i=>exact C i u (by simpa using e) b hb
   cases i with
   |zero =>
    cases j with|zero=>exact X rfl|succ j=>exact n b hb (g j w (by simpa using m) b y)
   |succ i =>
    cases j with|zero=>exact n b y (g i u (by simpa using e) b hb)|succ j=>exact B i j u w (λz=>X (by rw[z])) (by simpa using e) (by simpa using m) b hb y
 |@rd md v vs t ts L a W S O A =>
  have J:mB md (v::vs)=mB md.tail vs:=by rw[CH];cases e:md.headD .xy<;>first|exact absurd e a|rfl
  have I:DB md (t::ts)=DB md.tail ts:=by rw[pM];cases e:md.headD .xy<;>first|exact absurd e a|rfl
  rw[J,I]at r;obtain⟨Z,E,g,C,B⟩:=A r;have G:vE md (t::ts)=some (.ky t)::vE md.tail ts:=by rw[pO,u4 a]
  rw[G];refine⟨λi=>match i with|0=>L|i+1=>Z i,λi s e=>?_,λi u e b hb=>?_,λi u e b hb=>?_,λi j u w X e m b hb y=>?_⟩;cases i with|zero=>simp at e;subst e;exact⟨v,rfl,W⟩|succ i=>exact E i s (by simpa using e)
  cases i with|zero=>simp at e|succ i=>exact g i u (by simpa using e) b hb
  cases i with|zero=>exact S b hb|succ i=>exact C i u (by simpa using e) b hb
  cases i with
  |zero=>simp at e|succ i =>
   cases j with|zero=>simp at m|succ j=>exact B i j u w (λz=>X (by rw[z])) (by simpa using e) (by simpa using m) b hb y
theorem L1(f:Same F H)(h:ArgsR K F H Y md vs ts)(r:Trs K F H true (mB md vs) (DB md ts) M)(dj:∀b,Y b->¬ M b) :
  ∃S,Rl K F H S (gB N md ts) (mD N vs)/\∀b,U (gB N md ts) S b->M b:=by
 obtain⟨Z,A,a,W,X⟩:=rc h r;have hl:=h.length;have get:∀(i:Nat) s,(gB N md ts)[i]?=some (some s)->(vE md ts)[i]?=some (some s):=λi s e=>by
  unfold gB at e;rcases QA2 i ts.length with z|z
  ·rwa [qT (by rw[pI];exact z)]at e
  rw[qH (by rw[pI];exact z),wc]at e;split at e<;>cases e
 refine⟨Z,⟨f,?_,λi s e=>?_,λi j t s n q m b hb y=>?_⟩,λb ⟨i,t,e,hb⟩=>a i t (get i _ e) b hb⟩;unfold gB mD;rw[QI,QI,pI,QD,qt,qt,hl];obtain⟨v,g,B⟩:=A i s (get i s e);refine⟨v,?_,B⟩;unfold mD;rw[qT (by rw[QD];exact(Qg.mp g).1),QT,g];rfl;cases s with|own u=>exact X i j t u n (get i _ q) (get j _ m) b hb y|ky u=>exact dj b (W j u (get j _ m) b y) (a i t (get i _ q) b hb)
theorem GO:∀{md:List Md}{k n:Nat}{vs:LV}{σ:St},vs.length=n->(∀(i:Nat) v,vs[i]?=some v->σ[k+i]?=some (some v))->(mB md vs).map (λv=>some (some v))=(XB k md n).map λj=>σ[j]?
 |md,k,0,vs,σ,h,g=>by
  cases vs with|nil=>rfl|cons _ _=>cases h
 |md,k,n+1,vs,σ,h,g=>by
  cases vs with
  |nil=>cases h|cons v vs =>
   have y:=GO (md:=md.tail) (k:=k+1) (n:=n) (vs:=vs) (σ:=σ) (by simpa using h) λi w z=>by have:=g (i+1) w (by simpa using z);rw[show k+1+i=k+(i+1) by omega];exact this
   have g0:=g 0 v rfl;rw[CH];unfold XB;cases e:md.headD .xy with|chg=>simp only[QW,y];rw[show σ[k]?=some (some v) from g0]|_=>exact y
theorem HM:∀{md:List Md}{k n j:Nat},j∈XB k md n->k<=j
 |md,k,0,j,h=>by simp[XB]at h|md,k,n+1,j,h=>by
  unfold XB at h;cases e:md.headD .xy with
  |chg=>rw[e]at h;rcases QL.mp h with z|z;omega;have:=HM z;omega
  |_=>rw[e]at h;have:=HM h;omega
theorem cT:∀(md:List Md) (k n:Nat),(XB k md n).Nodup
 |md,k,0=>Q2|md,k,n+1=>by
  have h:=cT md.tail (k+1) n;unfold XB;cases e:md.headD .xy with|chg=>exact Qj.mpr ⟨λz=>by have:=HM z;omega,h⟩|_=>exact h
theorem C6{b:PT}(F:Fun K x o st f p)(kC:eB n b N l st=true)(hc:UH (XB 0 R.md l.length) b=true)
  (fns:∀g∈n.fn,XG P w K mg base Ψ k g) (G:ValsOk P w K mg Ψ n.va) (nos:∀y∈n.no,mg y=none)
  (body:∀ts Q E,R.run ts Q E->ts.length=l.length/\pF Ψ b (ZD R l.length Q) (gB N R.md ts)):FnOk P w K mg base j0 (k+1) f p l (lift K R):=by
 obtain⟨c12,c3⟩:=yA kC;obtain⟨c1,c2⟩:=yA c12;have S:=OS c1;refine F.ok S (λvs H Q E h=>?_) (λcdv A L s H vs Q E hr h=>?_);obtain⟨F',ts,M,Y,h1,h2,h3,h4,h5⟩:=h;rw[h2.length];exact(body ts _ _ h5).1;obtain⟨F',ts,M,Y,h1,h2,h3,h4,h5⟩:=h;have q:=(body ts _ _ h5).2;have hlen:=(body ts _ _ h5).1;have ok:OkS ((MV j0 P w K mg base N o (HA st) f cdv A L s H E).nox) ⟨N,HA st⟩ (XQ (Xp K mg Ψ) n) E0:={
  N:=rfl
  sc:=rfl
  calm:=rfl
  un:=by have:=hr.un;show(A.deeper _).units+66<cLine;omega
  fn:=λg hg=>by obtain⟨a,gd,gps,g1,g2,g3,g4⟩:=fns g hg;exact⟨j0,k,a,gd,gps,g1,hr,g2,g3,g4,Bn,λ_ _ _ _ _ z=>z⟩
  val:=λy hy=>by obtain⟨u,v,e1,e2⟩:=G.has y hy;refine⟨u,e1,?_⟩;show JA (oU mg y) u;unfold oU;rw[e1];show JA ((jN u).getD .non) u;rw[e2];exact HW e2
  no:=λy hy=>nos y hy
  po:=PassesOwn.never
  nd:=S.nd
  cel:=λ_=>rfl }
 refine⟨_,(Zs b ok c2 (PY b c3)).1,?_⟩;obtain⟨S0,I,hU⟩:=L1 (N:=N) h1 h2 h3 h4;have g:GOk K (Xp K mg Ψ) Ψ:=⟨λ_ _ _ _ _ h=>h,λy d e F=>G.rep y d e F⟩
 have hvl:vs.length=l.length:=h2.length.trans hlen;have fin:∀v t W C B J m X,Stc (XB 0 R.md l.length) F' H S0 (gB N R.md ts) (mD N vs) C B J m X->Rl K C B J m X->Tr K C B true v t W->Held C B J m W->(∀b,W b->H b=none∨U (gB N R.md ts) S0 b) ->
   CU (DA (XB 0 R.md l.length) m) (λos=>∀v F3 H3 Z M',Frm M F' H F3 H3->Tr K F3 H3 true v t Z->Trs K F3 H3 true (mB R.md vs) os M'->(∀b,Z b->¬ M' b)->(∀b,Z b∨M' b->M b∨H b=none)->Q v H3)->Q v B:=by
  intro v t W C B J m X s I2 r hw fr q;cases eo:DA (XB 0 R.md l.length) m with
  |none=>rw[eo]at q;exact q.elim|some os =>
   rw[eo]at q;have hv:(mB R.md vs).map (λv=>some (some v))=(XB 0 R.md l.length).map λj=>X[j]?:=by rw[GO (md:=R.md) (k:=0) (n:=l.length) (vs:=vs) (σ:=mD N vs) hvl λi w hw=>?_];exact qm λj O=>(s.sg j O).symm;unfold mD;rw[WH,qT (by rw[QD];exact(Qg.mp hw).1),QT,hw];rfl
   have trs:=I2.trs (cT _ _ _) eo hv;have own:∀j∈XB 0 R.md l.length,∃t,m[j]?=some (some (.own t)):=λj O=>by obtain⟨i,hi⟩:=Wn.mp O;obtain⟨t,_,e⟩:=(PD eo).2 i j hi;exact⟨t,e⟩
   have lk:∀b,U (gB N R.md ts) S0 b∨H b=none->M b∨H b=none:=λb hb=>hb.imp (hU b) id;refine q v C B W _ ⟨s.ff,I2.fh,λb u e n=>s.hh b u e λz=>n (hU b z),s.dm,λb e z=>lk b (s.fn b e z)⟩ r trs (λb hb ⟨j,O,z⟩=>?_) λb hb=>?_;obtain⟨t',e⟩:=own j O;exact hw.nw j _ e b hb z;rcases hb with hb|⟨j,O,z⟩
   ·exact lk b (fr b hb).symm
   obtain⟨t',e⟩:=own j O;exact lk b (s.uu b ⟨j,t',e,z⟩)
 refine nI g b hc I (λ_ _ _ _ _ _ _ _ _ z=>z.elim) q ⟨?_,?_,λ_ _ _ _ _ _ _ z=>z.elim,λ_ _ _ _ _ _ _ z=>z.elim⟩;intro C B J m X s I2 q;exact fin .non (.d .none) (λ_=>False) C B J m X s.c I2 (.d .non λ_ z=>z) .none (λ_ z=>z.elim) q;intro v t W C B J m X s I2 r hw fr q;exact fin v t W C B J m X s I2 r hw fr q
theorem K6{h:PEv}{b:PT}(F:Fun K x o st f p)(a:mg x=some (.ref f))(hb:oJ K p l [])(kC:eB n b N l st=true)(hc:UH (XB 0 R.md l.length) b=true)
  (v:∀g∈n.fn,XG P w K mg base Ψ k g) (z:ValsOk P w K mg Ψ n.va) (u:∀y∈n.no,mg y=none)
  (body:∀ts Q E,R.run ts Q E->ts.length=l.length/\pF Ψ b (ZD R l.length Q) (gB N R.md ts)) (e:h.sp x=R):XG P w K mg base h (k+1) x :=
 ⟨f,p,l,by rw[e];exact C6 F kC hc v z u body,a,F.kp,hb⟩
end
end
noncomputable def CP:PSp where
 md:=[.xz]
 run:=λy Q _=>∃x:LJ,x.length<=63/\(∀n∈x,QAB n<=1048576)/\y=[.lst ((x.map PyData.int).map T.d)]/\Q (.d (.bool true)) []
 mono:=λh _ ⟨x,v,u,z,q⟩=>⟨x,v,u,z,h _ _ q⟩
def zl:PSp:=⟨[],λ_ _ _=>False,λ_ _ h=>h⟩
theorem dO{K:QA}{F:Hp}:∀(ns:LJ),Reps K F (ns.map V.int) (ns.map PyData.int)
 |[]=>.nil|n::r=>.cons (.int n) (dO r)
theorem LL{K:QA}{F:Hp}:∀(ns:LS),Reps K F (ns.map V.str) (ns.map PyData.str)
 |[]=>.nil|n::r=>.cons (.str n) (LL r)
theorem Li(K:QA)(H:Hp)(a:Addr)(ns:LJ)(hl:ns.length<=63)(h:∀n∈ns,QAB n<=1048576)(x:FC K H a (ns.map V.int)):lift K CP [.ref a] H (λv _=>v=.bl true) λ_ _ _=>False:=by
 refine⟨H,[.lst ((ns.map PyData.int).map T.d)],λ_=>False,λ_=>False,.refl _,.rd (Z:=λ_=>False) (by simp[CP]) (.lstF x (dO ns) λ_ z=>z) (λ_ z=>z) .nil,.nil λ_ z=>z,λ_ z=>z.elim,ns,hl,h,rfl,λv w u Z y _ r _ _ _=>?_⟩;cases r with|d r _=>cases r;rfl
theorem mU{ns:LJ}:∀n∈ns,Wv (.int n)<=wf (ns.map W4.int):=by
 induction ns with|nil=>intro n h;cases h|cons m ns x=>intro n h;show _<=Wv (.int m)+1+wf (ns.map W4.int);rcases QL.mp h with rfl|h;omega;have:=x n h;omega
theorem fc{ns:LJ}(h:W4.layableAll [.list (ns.map .int)]=true):∀n∈ns,QAB n<=1048576:=by
 intro n z;have v:=(PySem.W.layableW_iff.mp (PySem.W.layableW_arg h _ QF)).2.2;have k:wf (ns.map W4.int)<=2 ^ 20:=v;have y:=mU n z;have u:Wv (.int n)=if n==0 then 0 else n.natAbs.log2+1:=rfl
 rw[PySem.intBits_le_iff];by_cases x:n=0;subst x;exact Nat.pow_pos (by decide);have:(n==0)=false:=by simpa using x
 rw[u,this]at y;have w:n.natAbs.log2+1<=1048576:=by have:n.natAbs.log2+1<=wf (ns.map W4.int):=y;omega
 exact(Nat.log2_lt (show n.natAbs≠0 by omega)).mp (by omega)
def yY(K:QA)(x:Str)(st:Stmt):Prop:=∃f h,qq K mainGlobals x=some (some (.ref f))/\Fun K x x st f h
def yN(K:QA)(x:Str)(d:D):Prop:=∃u v,qq K mainGlobals x=some (some u)/\jN u=some v/\∀F,Rep K F v d
theorem R0{K:QA}{x:Str}{f:Addr}{xs:LS}{v:Option Addr}{its:LW}{n:Nat}{z:Array (Option Value)}(a:qq K mainGlobals x=some (some (.ref f)))
  (l:K.lookup f=some ⟨.type "tuple",v,.seq its.toArray n,z⟩) (h:its.map jN=xs.map λy=>some (.str y)) (k:xs.length<=sizeLine):yN K x (.tuple (xs.map PyData.str)):=by
 refine⟨_,_,a,rfl,λF=>.tup (.inr ⟨_,its.toArray,n,l,rfl,rfl,?_,?_⟩) (LL xs)⟩;have:=congrArg wE h;simp at this;simp;omega;have key:∀(its:LW) (xs:LS),its.map jN=xs.map (λy=>some (.str y))->lA (xs.map V.str) its:=by
  intro its;induction its with
  |nil =>
   intro xs h;cases xs with|nil=>exact .nil|cons _ _=>simp at h
  |cons u its w =>
   intro xs h;cases xs with|nil=>simp at h|cons y xs=>simp only[QW,QAA]at h;exact .cons (HW h.1) (w xs h.2)
 simpa using key its xs h
section
variable{P:Program}{w:World}{K:QA}{mg:Str->Option Value}{base h:Heap}{Ψ:PEv}
section
variable{x:Str}{st:Stmt}{z:LS}{k:Nat}
theorem yN.inMg(X:K.In h)(G:h.Ns mainGlobals mg){d:D}(v:yN K x d):(∀F,Rep K F (oU mg x) d)/\∃u v,mg x=some u/\jN u=some v:=by
 obtain⟨u,v,b,y,a⟩:=v;have e:=WV X G b;refine⟨λF=>?_,u,v,e,y⟩;have:oU mg x=v:=by unfold oU;rw[e];show(jN u).getD .non=v;rw[y];rfl
 rw[this];exact a F
theorem V6{R:PSp}{u:PEv}{N:LS}{b:PT}{n:Need}(X:K.In h)(G:h.Ns mainGlobals mg)(D:yY K x st)(kC:eB n b N z st=true)(hc:UH (XB 0 R.md z.length) b=true)
  (hb:∀(kV j m:Value) (q:Option Addr) (l ct:Value) (us:LW),us.length=z.length->bindArgs (qr x x (vD st) (nC st) (HA st) .none kV j m q l ct) ⟨us,[]⟩=pure (z.zip us))
  (i:∀g∈n.fn,XG P w K mg base Ψ k g) (v:ValsOk P w K mg Ψ n.va) (e:∀y∈n.no,qq K mainGlobals y=some none)
  (body:∀ts Q E,R.run ts Q E->ts.length=z.length/\pF Ψ b (ZD R z.length Q) (gB N R.md ts)) (p:u.sp x=R):XG P w K mg base u (k+1) x:=by
 obtain⟨f,r,a,F⟩:=D;exact K6 F (WV X G a) (F.binds hb) kC hc i v (λy o=>QAM X G (e y o)) body p
theorem Mi{j:Addr}(X:K.In h)(G:h.Ns mainGlobals mg)(D:yY K "law" st)(q:z=[x])(g:mg "law"=some (.ref j))(p:Ψ.sp "law"=CP)
  (hb:∀(kV v i:Value) (l:Option Addr) (b ct:Value) (us:LW),us.length=z.length->bindArgs (qr "law" "law" (vD st) (nC st) (HA st) .none kV v i l b ct) ⟨us,[]⟩=pure (z.zip us))
  (H:∀base:Heap,K.In base->base.Ns mainGlobals mg->∀f y,Fun K "law" "law" st f y->mg "law"=some (.ref f)->FnOk P w K mg base j0 k f y z (lift K (Ψ.sp "law"))) :
  ∃y:FuncData,(∀(s:Shared) (u:Value),BindsTo s y ⟨[u],[]⟩ [(x,u)])/\∀base:Heap,K.In base->base.Ns mainGlobals mg->FnOk P w K mg base j0 k j y [x] (lift K CP):=by
 obtain⟨f,y,a,F⟩:=D;have e:=g.symm.trans (WV X G a);cases e;subst q;refine⟨y,λs u=>?_,λbase o n=>?_⟩;obtain⟨Z,Y,kV,v,i,l,b,ct,m,rfl,lk,r⟩:=F.ex;exact .of_eq (hb kV v i l b ct [u] rfl);rw[<- p];exact H base o n j y F g
end
end
theorem JB{α:Type}{body:T->(Option T->Prop)->Prop}(g f:α->T):∀(l:List α) (h:LT) (Q:LT->Prop),(∀x∈l,∀R:Option T->Prop,R (some (f x))->body (g x) R)->h.length+l.length<=sizeLine->Q (h++l.map f)->VD body (l.map g) h Q
 |[],h,Q,_,hl,q=>by simp only[WJ,VD];exact⟨by simpa using hl,by simpa using q⟩|x::r,h,Q,hb,hl,q=>by simp only[QW,VD];refine hb x QF _ ?_;simp only[QM]at hl;refine⟨by omega,JB g f r _ Q (λy z=>hb y (QE _ z)) (by simp;omega) (by simpa using q)⟩
theorem fA{α:Type}{body:T->(Option T->Prop)->Prop}(g f:α->T)(p:α->Bool):∀(l:List α) (h:LT) (Q:LT->Prop),(∀x∈l,∀R:Option T->Prop,R (if p x=true then some (f x) else none)->body (g x) R)->h.length+l.length<=sizeLine->Q (h++(l.filter p).map f)->VD body (l.map g) h Q
 |[],h,Q,_,hl,q=>by simp only[WJ,VD];exact⟨by simpa using hl,by simpa using q⟩|x::r,h,Q,hb,hl,q=>by
  simp only[QW,VD];refine hb x QF _ ?_;simp only[QM]at hl;cases u:p x with|true=>refine⟨by omega,fA g f p r _ Q (λy z=>hb y (QE _ z)) (by simp;omega) ?_⟩;rw[WF,if_pos u]at q;simpa using q|false=>refine fA g f p r _ Q (λy z=>hb y (QE _ z)) (by omega) ?_;rw[WF,if_neg (by rw[u];simp)]at q;exact q
theorem NQ{α:Type}{xs:List α}{i:Int}(y:0<=i)(x:i<xs.length):∃v,pE xs i=some v/\xs[i.toNat]?=some v:=by
 have h:i.toNat<xs.length:=by omega
 have e:((i.toNat:Nat):Int)=i:=by omega
 have q:=yE (Qf h);rw[e]at q;exact⟨xs[i.toNat],q,Qf h⟩
theorem AG{α h:Type}(f:α->h)(xs:List α)(i:Int):pE (xs.map f) i=(pE xs i).map f:=by
 unfold pE;rw[QD];cases dU xs.length i with|none=>rfl|some j=>exact QT
theorem jB{Ψ:PEv}{E:XE}{α:Type}{body:PT}{u:Tg}{Z:PEnds}(g:α->T)(W:List α->zA->Prop)(k:∀ρ,W [] ρ->Z.nx ρ)
  (v:∀x xs ρ (N:zA->Prop),(∀y,W xs y->N y)->W (x::xs) ρ->NO u (g x) ρ λz=>cB Ψ E body { Z with nx:=N,ct:=N,bk:=Z.nx } z):∀(xs:List α) (ρ:zA),W xs ρ->LH (cB Ψ E body) u Z (xs.map g) ρ
 |[],ρ,w=>k ρ w|x::xs,ρ,w=>v x xs ρ (λh=>LH (cB Ψ E body) u Z (xs.map g) h) (λh a=>jB g W k v xs h a) w
def Sc(y:List (Str×PSp))(h:List (Str×D)):PEv:=⟨λf=>(y.lookup f).getD zl,λx=>h.lookup x⟩
theorem tW{P:Program}{w:World}{K:QA}{mg:Str->Option Value}{h:Heap}{v:List (Str×PSp)}{tbl:List (Str×D)}{z:LS}(X:K.In h)(G:h.Ns mainGlobals mg)(u:∀p∈tbl,yN K p.1 p.2)
  (y:(z.all λx=>(tbl.map qy).contains x)=true):ValsOk P w K mg (Sc v tbl) z:=by
 refine⟨λx d e F=>((u (x,d) (qO e)).inMg X G).1 F,λx k=>?_⟩;have:=Qv.mp y x k;obtain⟨p,a,e⟩:=QZ.mp (Qt.mp this);rw[<- e];exact((u p a).inMg X G).2
theorem dP{α:Type}[BEq α][LawfulBEq α]{l m:List α}(h:(l.all λx=>m.contains x)=true):∀x∈l,x∈m:=λx y=>Qt.mp (Qv.mp h x y)
section
variable{a b c:PX}{i:Nat}{n:Int}{x:Str}{m:Mt}{f:Str}{g:Bi}{u:Operator}{w:CmpOp}{is:List Bool}{h:LS}{z:Tg}{v:ItK}{y:String}
theorem rW:IG (.vz i)=[i]:=rfl
theorem EN:IG (.ny a b)=IG a++IG b:=rfl
theorem cR:IG .nz=[]:=rfl
end
def FF{α:Type}(o:Option α)(K:α->Prop):Prop:=∃a,o=some a/\K a
theorem FF.mk{α:Type}{o:Option α}{a:α}{K:α->Prop}(e:o=some a)(k:K a):FF o K:=⟨a,e,k⟩
theorem CB{α:Type}{a:α}{K:α->Prop}:FF (some a) K=K a:=propext ⟨λ⟨_,e,k⟩=>by cases e;exact k,λk=>⟨a,rfl,k⟩⟩
theorem IF{α h:Type}{o:Option α}{f:α->h}{K:h->Prop}:FF (o.map f) K=FF o λa=>K (f a):=by
 cases o with|none=>exact propext ⟨λ⟨_,e,_⟩=>(by cases e),λ⟨_,e,_⟩=>(by cases e)⟩|some a=>rw[Qx,CB,CB]
def pB(Ψ:PEv)(e:PX)(E:XE)(ρ:zA)(K:TK):Prop:=(pe Ψ e E).e ρ K
def sN(Ψ:PEv)(e:PX)(E:XE)(ρ:zA)(K:Bool->zA->Prop):Prop:=(pe Ψ e E).t ρ K
def kM(Ψ:PEv)(e:PX)(E:XE)(md:List Md)(ρ:zA)(K:List (T×Bool)->zA->Prop):Prop:=(pe Ψ e E).a md ρ K
def aB(p:PSp)(ts:LT)(K:T->LT->Prop)(E:XE):Prop:=p.run ts K E
def k8(x:T)(n:Bool)(Ψ:PEv)(b:PX)(E:XE)(ρ:zA)(K:TK):Prop:=sq (rA x n) ρ (cu (pe Ψ b E).e) λy h=>K y.1 y.2 h
def v8(x:T)(n:Bool)(Ψ:PEv)(b:PX)(E:XE)(md:List Md)(ρ:zA)(K:List (T×Bool)->zA->Prop):Prop:=sq (if n=true then .d .none else x) ρ ((pe Ψ b E).a md) K
def GH(i:Nat)(σ ρ:zA)(K:TK):Prop:=Sq σ[i]? λt=>K t false ρ
def u9(i:Nat)(σ:zA)(ρ:zA)(j:Nat)(R:T->zA->Prop):Prop:=Ls ρ j R σ[i]?
def CL(Ψ:PEv)(E:XE)(r:PT)(Z:PEnds)(i:Nat)(x:T)(n:Bool)(ρ:zA):Prop:=MH x n=true/\cB Ψ E r Z (ρ.set i (bD x.er))
def Fn(Ψ:PEv)(E:XE)(r:PT)(Z:PEnds)(i:Nat)(x:T)(n:Bool)(ρ:zA):Prop:=MH x n=true/\cB Ψ E r Z (ρ.set i (some (.own x)))
def RC(x:T)(n:Bool)(P:Prop):Prop:=MH x n=true/\P
def GF(h:Operator)(x:T)(n:Bool)(y:T)(m:Bool)(Q:T->Bool->Prop):Prop:=binT h (rA x n).vw (rA y m).vw Q
def iB(h:CmpOp)(x y:T)(Q:Bool->Prop):Prop:=Ib h x.er y Q
def B8(x:T)(Q:Bool->Prop):Prop:=kI x.er Q
def Lv(x:T)(Q:Bool->Prop):Prop:=Yk x.er Q
def xj(c:PX)(x:T)(Q:Bool->Prop):Prop:=bj c x.er Q
def rJ(f:Bi)(xs:List (T×Bool))(Q:T->Bool->Prop):Prop:=CT f (TB xs) Q
def FA(x:T)(n:Bool)(y:T)(m:Bool)(Q:T->Prop):Prop:=VN (rA x n).vw (rA y m).vw Q∨jT (rA x n).vw y.er Q
def ym(Ψ:PEv)(E:XE)(c:PX)(q:PT)(Z:PEnds)(ρ:zA):Prop:=cB Ψ E (.whl c q) Z ρ
def Ic(t y x:T)(Q:T->Prop):Prop:=Gm t y.er x.er Q
def Bm(z t:T)(Q:T->(T->T)->Prop):Prop:=Cm z.er t Q
def Sm(y t:T)(Q:T->Prop):Prop:=zh y.er t Q
def eN(x:T)(n:Bool)(l u:Option Int)(Q:T->Bool->Prop):Prop:=iN (rA x n).vw l u Q
def tM(xs:List (T×Bool))(C:LT->Prop):Prop:=FE xs=true/\C (BF xs)
def IK(h:ItK)(xs:List (T×Bool))(R:LT->Prop):Prop:=FB h (TB xs) R
def ZB(md:List Md)(xs:List (T×Bool))(C:LT->Prop):Prop:=FF (XA md xs []) C
def SI(Ψ:PEv)(E:XE)(x:List Bool)(y:LS)(u:Tg)(h z:PX)(ρ:zA):T->(Option T->Prop)->Prop:=mG u (UN y.length x (lockA ρ)) (if isNop h=true then λρ R=>R true ρ else(pe Ψ h E).t) (pe Ψ z E).e
def OX(h:Tg)(x:T)(ρ:zA)(K:zA->Prop):Prop:=NO h x ρ K
section
variable{Ψ:PEv}{E:XE}{ρ:zA}{K:TK}{L:Bool->zA->Prop}{M:List (T×Bool)->zA->Prop}{a b c q its Y Z:PX}{X:T->zA->Prop}
section
variable{i j:Nat}{x:T}{w:CmpOp}{f t:Str}{p:PSp}{md:List Md}{v m:List Bool}{g:LS}{l:Tg}{o:ItK}{R:Option T->Prop}{s:Option Sl}{σ:zA}{n:Bool}{ts:LT}
theorem jg:pB Ψ (.vz i) E ρ K=GH i ρ ρ K:=rfl
theorem Jf:sN Ψ (.vz i) E ρ L=GH i ρ ρ λt _ ρ=>B8 t λb=>L b ρ:=rfl
theorem cg{i:Int}:pB Ψ (.int i) E ρ K=K (.d (.int i)) false ρ:=rfl
theorem zg{x:Str}:pB Ψ (.str x) E ρ K=K (.d (.str x)) false ρ:=rfl
theorem Fq{x:Bool}:pB Ψ (.bl x) E ρ K=K (.d (.bool x)) false ρ:=rfl
theorem xg:pB Ψ .non E ρ K=K (.d .none) false ρ:=rfl
theorem tH{x:Str}{d:D}(h:Ψ.va x=some d):pB Ψ (.glo x) E ρ K=K (.d d) false ρ:=by show(match Ψ.va x with|some d=>K (.d d) false ρ|none=>False)=_;rw[h]
theorem lg{w:Operator}:pB Ψ (.bin w a b) E ρ K=pB Ψ a E ρ λx n u=>k8 x n Ψ b E u λy m h=>GF w x n y m λz k=>K z k h:=rfl
theorem Zf:sN Ψ (.cmp w a b) E ρ L=pB Ψ a E ρ λx n z=>k8 x n Ψ b E z λy m h=>iB w x (rA y m) λk=>L k h:=rfl
theorem gg:pB Ψ (.cmp w a b) E ρ K=sN Ψ (.cmp w a b) E ρ λk h=>K (.d (.bool k)) false h:=rfl
theorem og:pB Ψ (.and a b) E ρ K=pB Ψ a E ρ λx _ h=>Lv x λc=>if c=true then pB Ψ b E h K else K (.d (.bool false)) false h:=rfl
theorem Kf:sN Ψ (.and a b) E ρ L=sN Ψ a E ρ λc h=>if c=true then sN Ψ b E h L else L false h:=rfl
theorem Zc:sN Ψ (.or a b) E ρ L=sN Ψ a E ρ λc h=>if c=true then L true h else sN Ψ b E h L:=rfl
theorem vg:pB Ψ (.not a) E ρ K=pB Ψ a E ρ λx _ h=>B8 x λc=>K (.d (.bool (!c))) false h:=rfl
theorem C7:sN Ψ (.not a) E ρ L=sN Ψ a E ρ λc h=>L (!c) h:=rfl
theorem xA(h:Ψ.sp f=p)(G:p.md=md)(F:(md.all λm=>!m.isMut)=true):pB Ψ (.call f q) E ρ K=kM Ψ q E md ρ λxs y=>ZB md xs λts=>aB p ts (λr u=>u=[]/\K r true y) E:=by
 have B:∀(md:List Md) (q:PX),(md.all λm=>!m.isMut)=true->uA md q=[]:=by
  intro md;induction md with
  |nil=>intro q _;cases q<;>rfl|cons m md C =>
   intro q h;rw[qa,Qc]at h;cases m with
   |chg=>cases h.1|_=>cases q with|ny a q=>exact C q h.2|_=>rfl
 show(∃u,DA (uA (Ψ.sp f).md q) ρ=some u/\(uA (Ψ.sp f).md q).Nodup/\(pe Ψ q E).a (Ψ.sp f).md (clear (uA (Ψ.sp f).md q) ρ) λxs y=>∃ts,XA (Ψ.sp f).md xs u=some ts/\(Ψ.sp f).run ts (λr W=>∃z,zC (uA (Ψ.sp f).md q) W y=some z/\K r true z) E)=_;rw[h,G,B md q F];have A:∀(r:T) (u:LT) (y:zA),(∃z,zC [] u y=some z/\K r true z)=(u=[]/\K r true y):=by
  intro r u y;cases u with|nil=>exact propext ⟨λ⟨_,e,k⟩=>by cases e;exact⟨rfl,k⟩,λk=>⟨_,rfl,k.2⟩⟩|cons _ _=>exact propext ⟨λ⟨_,e,k⟩=>(by cases e),λk=>(by cases k.1)⟩
 have:=λ(y:zA)=>funext λr=>funext λu=>A r u y;simp only[this];exact propext ⟨λ⟨_,e,_,k⟩=>by cases e;exact k,λk=>⟨_,rfl,Q2,k⟩⟩
theorem D7:sN Ψ (.call f q) E ρ L=pB Ψ (.call f q) E ρ λt _ h=>B8 t λb=>L b h:=rfl
theorem gq:sN Ψ (.isi a c) E ρ L=pB Ψ a E ρ λx _ h=>xj c x λb=>L b h:=rfl
theorem Gq{f:Bi}:pB Ψ (.bi f q) E ρ K=kM Ψ q E [] ρ λxs h=>rJ f xs λz k=>K z k h:=rfl
theorem kg:pB Ψ (.mt .pop (.vz j) q) E ρ K=rC ρ[j]? λt=>JI .pop t=true/\kM Ψ q E [] (ρ.set j (some (.ky t))) λxs h=>FE xs=true/\h[j]?=some (some (.ky t))/\FK .pop t (BF xs) λr s'=>K r true (h.set j (some (.own s'))):=rfl
theorem A7{x:Bool}:pB Ψ (.dnew x) E ρ K=K (.dct x [] []) true ρ:=rfl
theorem fg:pB Ψ (.dsp a b) E ρ K=pB Ψ a E ρ λy m z=>RC y m (pB Ψ b E z λx n h=>RC x n (HD true y.er/\K (.dct true [y.er] [x]) true h)):=rfl
theorem EG(h:Ψ.sp f=p)(P:p.md=.chg::md)(O:(md.all λm=>!m.isMut)=true):pB Ψ (.call f (.ny (.vz j) q)) E ρ K=rC ρ[j]? λt=>kM Ψ q E md (ρ.set j none) λxs y=>ZB md xs λts=>aB p (t::ts) (λr u=>∃t',u=[t']/\K r true (y.set j (some (.own t')))) E:=by
 have J:∀(md:List Md) (q:PX),(md.all λm=>!m.isMut)=true->uA md q=[]:=by
  intro md;induction md with
  |nil=>intro q _;cases q<;>rfl|cons m md N =>
   intro q h;rw[qa,Qc]at h;cases m with
   |chg=>cases h.1|_=>cases q with|ny a q=>exact N q h.2|_=>rfl
 show(∃u,DA (uA (Ψ.sp f).md (.ny (.vz j) q)) ρ=some u/\(uA (Ψ.sp f).md (.ny (.vz j) q)).Nodup/\(pe Ψ (.ny (.vz j) q) E).a (Ψ.sp f).md (clear (uA (Ψ.sp f).md (.ny (.vz j) q)) ρ) λxs y=>∃ts,XA (Ψ.sp f).md xs u=some ts/\(Ψ.sp f).run ts (λr W=>∃A,zC (uA (Ψ.sp f).md (.ny (.vz j) q)) W y=some A/\K r true A) E)=_;rw[h,P];have Q:uA (.chg::md) (.ny (.vz j) q)=[j]:=by show j::uA md q=[j];rw[J md q O]
 rw[Q];have B:∀(r:T) (u:LT) (y:zA),(∃A,zC [j] u y=some A/\K r true A)=(∃t',u=[t']/\K r true (y.set j (some (.own t')))):=by
  intro r u y
  match u with
  |[]=>exact propext ⟨λ⟨_,e,k⟩=>(by cases e),λ⟨_,e,k⟩=>(by cases e)⟩|[t]=>exact propext ⟨λ⟨_,e,k⟩=>by cases e;exact⟨t,rfl,k⟩,λ⟨_,e,k⟩=>by cases e;exact⟨_,rfl,k⟩⟩|_::_::_=>exact propext ⟨λ⟨_,e,k⟩=>(by cases e),λ⟨_,e,k⟩=>(by cases e)⟩
 have C:=λ(y:zA)=>funext λr=>funext λu=>B r u y;simp only[C];have F:∀(t:T) (xs:List (T×Bool)) (G:LT->Prop),(∃ts,XA (.chg::md) ((.d .none,true)::xs) [t]=some ts/\G ts)=ZB md xs λts=>G (t::ts):=by
  intro t xs G;show(∃ts,(XA md xs []).map (t::·)=some ts/\G ts)=FF (XA md xs []) λts=>G (t::ts);cases XA md xs []with|none=>exact propext ⟨λ⟨_,e,_⟩=>(by cases e),λ⟨_,e,_⟩=>(by cases e)⟩|some ts=>exact propext ⟨λ⟨_,e,k⟩=>by cases e;exact⟨_,rfl,k⟩,λ⟨_,e,k⟩=>by cases e;exact⟨_,rfl,k⟩⟩
 have I:∀t,ρ[j]?=some (some (.own t))->DA [j] ρ=some [t]:=λt e=>by unfold DA;rw[e];rfl
 have S:∀(u:LT),((pe Ψ (.ny (.vz j) q) E).a (.chg::md) (clear [j] ρ) λxs y=>∃ts,XA (.chg::md) xs u=some ts/\p.run ts (λr W=>∃t',W=[t']/\K r true (y.set j (some (.own t')))) E)=(kM Ψ q E md (ρ.set j none) λxs y=>∃ts,XA (.chg::md) ((.d .none,true)::xs) u=some ts/\p.run ts (λr W=>∃t',W=[t']/\K r true (y.set j (some (.own t')))) E):=λu=>propext ⟨λh=>h.2,λh=>⟨rfl,h⟩⟩;simp only[S]
 match e:ρ[j]? with
 |some (some (.own t))=>show _=(kM Ψ q E md (ρ.set j none) λxs y=>ZB md xs λts=>aB p (t::ts) (λr u=>∃t',u=[t']/\K r true (y.set j (some (.own t')))) E);rw[I t e];have:=λxs (y:zA)=>F t xs λts=>p.run ts (λr W=>∃t',W=[t']/\K r true (y.set j (some (.own t')))) E;refine propext ⟨λ⟨_,e,_,k⟩=>?_,λk=>⟨_,rfl,by simp,?_⟩⟩;cases e;simp only[this]at k;exact k;simp only[this];exact k|some (some (.ky t))=>exact propext ⟨λ⟨_,z,_⟩=>(by unfold DA at z;rw[e]at z;cases z),λk=>k.elim⟩|some none=>exact propext ⟨λ⟨_,z,_⟩=>(by unfold DA at z;rw[e]at z;cases z),λk=>k.elim⟩|none=>exact propext ⟨λ⟨_,z,_⟩=>(by unfold DA at z;rw[e]at z;cases z),λk=>k.elim⟩
theorem yU:pB Ψ (.mt .extend (.vz j) q) E ρ K=rC ρ[j]? λt=>JI .extend t=true/\kM Ψ q E [] (ρ.set j (some (.ky t))) λxs h=>FE xs=true/\h[j]?=some (some (.ky t))/\FK .extend t (BF xs) λr s'=>K r true (h.set j (some (.own s'))):=rfl
theorem zU:pB Ψ (.mt .append (.vz j) q) E ρ K=rC ρ[j]? λt=>JI .append t=true/\kM Ψ q E [] (ρ.set j (some (.ky t))) λxs h=>FE xs=true/\h[j]?=some (some (.ky t))/\FK .append t (BF xs) λr s'=>K r true (h.set j (some (.own s'))):=rfl
theorem dg:pB Ψ (.idx a b) E ρ K=pB Ψ a E ρ λx n u=>k8 x n Ψ b E u λy m h=>FA x n y m λz=>K z false h:=rfl
theorem ug:pB Ψ (.lst q) E ρ K=kM Ψ q E [] ρ λxs y=>xs.length<=sizeLine/\tM xs λts=>K (.lst ts) true y:=by have:∀(xs:List (T×Bool)) y,(xs.length<=sizeLine/\tM xs λts=>K (.lst ts) true y)=(FE xs=true/\xs.length<=sizeLine/\K (.lst (BF xs)) true y):=λxs y=>propext ⟨λh=>⟨h.2.1,h.1,h.2.2⟩,λh=>⟨h.2.1,h.1,h.2.2⟩⟩;simp only[this];rfl
theorem yg:pB Ψ (.tup q) E ρ K=kM Ψ q E [] ρ λxs y=>xs.length<=sizeLine/\tM xs λts=>K (AD ts) true y:=by have:∀(xs:List (T×Bool)) y,(xs.length<=sizeLine/\tM xs λts=>K (AD ts) true y)=(FE xs=true/\xs.length<=sizeLine/\K (AD (BF xs)) true y):=λxs y=>propext ⟨λh=>⟨h.2.1,h.1,h.2.2⟩,λh=>⟨h.2.1,h.1,h.2.2⟩⟩;simp only[this];rfl
theorem E7:pB Ψ (.comp v g l o its Z Y) E ρ K=kM Ψ its E [] ρ λxs y=>IK o xs λh =>
   VD (SI Ψ (λ_=>False) v g l Z Y y) h [] λz=>K (.lst z) true y:=rfl
theorem yf:SI Ψ E [] [t] (.nm 0) .nop Y ρ x R=pB Ψ Y E (some (.ky x)::lockA ρ) λy n _=>RC y n (R (some y)):=rfl
theorem B7{u:Str}{x y:D}:SI Ψ E [] [t,u] (.tp [0,1]) .nop Y ρ (.d (.tuple [x,y])) R=pB Ψ Y E (bD x::bD y::lockA ρ) λy n _=>RC y n (R (some y)):=CB
theorem zf:SI Ψ E [] [t] (.nm 0) (.cmp w a b) Y ρ x R=sN Ψ (.cmp w a b) E (some (.ky x)::lockA ρ) λk h=>if k=true then pB Ψ Y E h λy n _=>RC y n (R (some y)) else R none:=rfl
theorem eg:kM Ψ .nz E md ρ M=M [] ρ:=rfl
theorem z8:kM Ψ (.ny a q) E [] ρ M=pB Ψ a E ρ λx n y=>v8 x n Ψ q E [] y λxs h=>M ((x,n)::xs) h:=rfl
theorem vU:kM Ψ (.ny a q) E (.xz::md) ρ M=pB Ψ a E ρ λx n y=>v8 x n Ψ q E md y λxs h=>M ((x,n)::xs) h:=rfl
theorem xU:kM Ψ (.ny a q) E (.ky::md) ρ M=pB Ψ a E ρ λx n y=>v8 x n Ψ q E md y λxs h=>M ((x,n)::xs) h:=rfl
theorem Mf:DK Ψ E X (.vz i) ρ=u9 i ρ ρ i X:=rfl
theorem mq{x:Bool}:DK Ψ E X (.bl x) ρ=X (.d (.bool x)) ρ:=propext ⟨λh=>h.2,λh=>⟨rfl,h⟩⟩
theorem M7:DK Ψ E X (.call f q) ρ=pB Ψ (.call f q) E ρ λx n h=>RC x n (X x h):=rfl
theorem Pf{w:Operator}:DK Ψ E X (.bin w a b) ρ=pB Ψ (.bin w a b) E ρ λx n h=>RC x n (X x h):=rfl
theorem Rf:DK Ψ E X (.and a b) ρ=pB Ψ (.and a b) E ρ λx n h=>RC x n (X x h):=rfl
theorem nq{f:Bi}:DK Ψ E X (.bi f q) ρ=pB Ψ (.bi f q) E ρ λx n h=>RC x n (X x h):=rfl
theorem Of:DK Ψ E X (.idx a b) ρ=pB Ψ (.idx a b) E ρ λx n h=>RC x n (X x h):=rfl
theorem Nf:DK Ψ E X (.tup q) ρ=pB Ψ (.tup q) E ρ λx n h=>RC x n (X x h):=rfl
theorem L7:DK Ψ E X (.comp v g l o its Z Y) ρ=pB Ψ (.comp v g l o its Z Y) E ρ λx n h=>RC x n (X x h):=rfl
theorem Dw:GH (i+1) (s::σ) ρ K=GH i σ ρ K:=rfl
theorem Lw{t:T}:GH 0 (some (.ky t)::σ) ρ K=K t false ρ:=rfl
theorem Fw{t:T}:GH 0 (some (.own t)::σ) ρ K=K t false ρ:=rfl
theorem Hw:GH i (lockA σ) ρ K=GH i σ ρ K:=by
 unfold GH lockA;rw[QT];cases σ[i]? with
 |none=>rfl|some s=>cases s with|none=>rfl|some s=>cases s<;>rfl
theorem Gw{b:Bool}:GH (i+1) (MC (b::m) (lockA (s::σ))) ρ K=GH i (MC m (lockA σ)) ρ K:=rfl
theorem Cq:GH 0 (MC (false::m) (lockA (s::σ))) ρ K=GH 0 (lockA (s::σ)) ρ K:=rfl
theorem Bq:GH i (MC [] (lockA σ)) ρ K=GH i (lockA σ) ρ K:=rfl
theorem Bw:u9 (i+1) (s::σ) ρ j X=u9 i σ ρ j X:=rfl
theorem Cw{t:T}:u9 0 (some (.own t)::σ) ρ j X=X t (ρ.set j none):=rfl
theorem Rv{x:D}:k8 (.d x) n Ψ b E ρ K=pB Ψ b E ρ K:=by cases n<;>rfl
theorem Ov:k8 x true Ψ b E ρ K=pB Ψ b E ρ K:=rfl
theorem Pv:k8 (.lst ts) false Ψ b E ρ K=pB Ψ b E (lockA ρ) λy m _=>K y m ρ:=rfl
theorem Jw{x:D}:v8 (.d x) n Ψ b E md ρ M=kM Ψ b E md ρ M:=by cases n<;>rfl
theorem aw:v8 x true Ψ b E md ρ M=kM Ψ b E md ρ M:=rfl
theorem iw:v8 (.lst ts) false Ψ b E md ρ M=kM Ψ b E md (lockA ρ) λxs _=>M xs ρ:=rfl
end
end
section
variable{Ψ:PEv}{E:XE}{ρ σ:zA}{Z:PEnds}{s r q:PT}{i:Nat}{e c its:PX}{o:Option Sl}{n:Bool}{v:D}{P:Prop}{ds:List D}{x:T}
section
variable{j:Nat}{A B:Prop}
theorem vA:cB Ψ E .nil Z ρ=Z.nx ρ:=rfl
theorem Bf:cB Ψ E (.seq (.set i e) r) Z (o::σ)=pB Ψ e E (o::σ) λx n h=>CL Ψ E r Z i x n h:=rfl
theorem Ff:cB Ψ E (.seq (.own i e) r) Z (o::σ)=pB Ψ e E (o::σ) λx n h=>Fn Ψ E r Z i x n h:=rfl
theorem G7:cB Ψ E (.seq (.expr e) r) Z (o::σ)=pB Ψ e E (o::σ) λ_ _ h=>cB Ψ E r Z h:=rfl
theorem Df:cB Ψ E (.seq (.ret e) r) Z (o::σ)=DK Ψ E Z.rt e (o::σ):=rfl
theorem Gf:cB Ψ E (.seq (.ife c s .nil) r) Z (o::σ)=sN Ψ c E (o::σ) λk h=>if k=true then cB Ψ E s { Z with nx:=λy=>cB Ψ E r Z y } h else cB Ψ E r Z h:=rfl
theorem Lf{u:Tg}{k:ItK}:cB Ψ E (.seq (.for_ u k its q) r) Z (o::σ)=kM Ψ its E [] (o::σ) λxs h=>IK k xs λy =>
   if TQ xs=true then LH (cB Ψ E q) u { Z with nx:=λz=>cB Ψ E r Z (kill u.ix z) } y h
   else LH (cB Ψ E q) u { Z with nx:=λz=>pU u.ix (fC h (IG its)) h (λw=>cB Ψ E r Z w) (kill u.ix z) } y (lock (fC h (IG its)) h):=rfl
theorem Uf{a:PX}:cB Ψ E (.seq (.six (.vz j) a e) r) Z (o::σ)=rC (o::σ)[j]? λt=>pB Ψ e E ((o::σ).set j (some (.ky t))) λx n z=>RC x n (pB Ψ a E z λy m h=>RC y m (h[j]?=some (some (.ky t))/\Ic t y x λt'=>cB Ψ E r Z (h.set j (some (.own t'))))):=rfl
theorem F7{a k:PX}:cB Ψ E (.seq (.six (.idx (.vz j) k) a e) r) Z (o::σ)=rC (o::σ)[j]? λt=>pB Ψ e E ((o::σ).set j (some (.ky t))) λx n w=>RC x n (pB Ψ k E w λz l u=>RC z l (Bm z t λs put=>pB Ψ a E u λy m h=>RC y m (h[j]?=some (some (.ky t))/\Ic s y x λs'=>cB Ψ E r Z (h.set j (some (.own (put s'))))))):=rfl
theorem Cf{k:PX}:cB Ψ E (.seq (.sdf j k) r) Z (o::σ)=rC (o::σ)[j]? λt=>Sb t=true/\pB Ψ k E ((o::σ).set j (some (.ky t))) λy m h=>RC y m (h[j]?=some (some (.ky t))/\Sm y t λt'=>cB Ψ E r Z (h.set j (some (.own t')))):=rfl
theorem Hf{h:LN}:cB Ψ E (.seq (.frz h s) r) Z (o::σ)=cB Ψ E (.seq s r) Z (frzAt h (o::σ)):=rfl
theorem Xf:cB Ψ E (.seq (.whl c q) r) Z (o::σ)=ym Ψ E c q { Z with nx:=λh=>cB Ψ E r Z h } (o::σ):=rfl
theorem tw:CL Ψ E r Z i (.d v) n ρ=cB Ψ E r Z (ρ.set i (bD v)):=propext ⟨λh=>h.2,λh=>⟨by cases n<;>rfl,h⟩⟩
theorem Vq:CL Ψ E r Z i (.lst (ds.map T.d)) true ρ=cB Ψ E r Z (ρ.set i (bD (.list ds))):=by unfold CL T.er;rw[uB];exact propext ⟨λh=>h.2,λh=>⟨rfl,h⟩⟩
theorem yw:Fn Ψ E r Z i x true ρ=cB Ψ E r Z (ρ.set i (some (.own x))):=propext ⟨λh=>h.2,λh=>⟨rfl,h⟩⟩
theorem Nw:RC (.d v) n P=P:=propext ⟨λh=>h.2,λh=>⟨by cases n<;>rfl,h⟩⟩
theorem Mw:RC x true P=P:=propext ⟨λh=>h.2,λh=>⟨rfl,h⟩⟩
theorem bX:(([]:LT)=[]/\P)=P:=propext ⟨λh=>h.2,λh=>⟨rfl,h⟩⟩
theorem jp:(if(true:Bool)=true then A else B)=A:=rfl
theorem yp:(if(false:Bool)=true then A else B)=B:=rfl
theorem mw{v h:Option Sl}:cB Ψ E r Z (w8 (h::σ) 0 v)=cB Ψ E r Z (v::σ):=rfl
theorem lw{v h y:Option Sl}:cB Ψ E r Z (w8 (h::y::σ) 1 v)=cB Ψ E r Z (h::v::σ):=rfl
theorem gw{v y h z:Option Sl}:cB Ψ E r Z (w8 (y::h::z::σ) 2 v)=cB Ψ E r Z (y::h::v::σ):=rfl
theorem fw{v z y h u:Option Sl}:cB Ψ E r Z (w8 (z::y::h::u::σ) 3 v)=cB Ψ E r Z (z::y::h::v::σ):=rfl
theorem cw{v u z y h w:Option Sl}:cB Ψ E r Z (w8 (u::z::y::h::w::σ) 4 v)=cB Ψ E r Z (u::z::y::h::v::σ):=rfl
theorem bw{v w u z y h k:Option Sl}:cB Ψ E r Z (w8 (w::u::z::y::h::k::σ) 5 v)=cB Ψ E r Z (w::u::z::y::h::v::σ):=rfl
theorem uw{v k w u z y h a:Option Sl}:cB Ψ E r Z (w8 (k::w::u::z::y::h::a::σ) 6 v)=cB Ψ E r Z (k::w::u::z::y::h::v::σ):=rfl
theorem xw{v a k w u z y h b:Option Sl}:cB Ψ E r Z (w8 (a::k::w::u::z::y::h::b::σ) 7 v)=cB Ψ E r Z (a::k::w::u::z::y::h::v::σ):=rfl
theorem kw{v b a k w u z y h f:Option Sl}:cB Ψ E r Z (w8 (b::a::k::w::u::z::y::h::f::σ) 8 v)=cB Ψ E r Z (b::a::k::w::u::z::y::h::v::σ):=rfl
theorem zw{v f b a k w u z y h g:Option Sl}:cB Ψ E r Z (w8 (f::b::a::k::w::u::z::y::h::g::σ) 9 v)=cB Ψ E r Z (f::b::a::k::w::u::z::y::h::v::σ):=rfl
theorem Zq{v l g f b a k w u z y h:Option Sl}:cB Ψ E r Z (w8 (l::g::f::b::a::k::w::u::z::y::h::σ) 10 v)=cB Ψ E r Z (l::g::f::b::a::k::w::u::z::y::v::σ):=rfl
theorem Yq{v m l g f b a k w u z h y:Option Sl}:cB Ψ E r Z (w8 (m::l::g::f::b::a::k::w::u::z::h::y::σ) 11 v)=cB Ψ E r Z (m::l::g::f::b::a::k::w::u::z::h::v::σ):=rfl
theorem Jq{v p m l g f b a k w u y h z:Option Sl}:cB Ψ E r Z (w8 (p::m::l::g::f::b::a::k::w::u::y::h::z::σ) 12 v)=cB Ψ E r Z (p::m::l::g::f::b::a::k::w::u::y::h::v::σ):=rfl
theorem iq{v X p m l g f b a k w z y h u:Option Sl}:cB Ψ E r Z (w8 (X::p::m::l::g::f::b::a::k::w::z::y::h::u::σ) 13 v)=cB Ψ E r Z (X::p::m::l::g::f::b::a::k::w::z::y::h::v::σ):=rfl
end
end
section
variable{d:D}{n m:Bool}{i j:Int}{z y:Str}{b:Bool}{xs:List (T×Bool)}{ts:LT}{ds es:List D}{md:List Md}{t:T}{C:LT->Prop}{Q:T->Bool->Prop}{L:Bool->Prop}{R:T->Prop}{W:LT->Prop}
section
variable{ρ:zA}{P:zA->Prop}{e k:D}{v:CmpOp}{ks:List D}{kvs:List (D×D)}{l u:Option Int}
theorem Ys{i:Int}{x:D}{Q:T->Prop}(a:0<=i)(w:i<ds.length)(q:Q (.lst ((ds.set i.toNat x).map T.d))):Ic (.lst (ds.map T.d)) (.d (.int i)) (.d x) Q:=by
 have h:i.toNat<ds.length:=by omega
 refine⟨i.toNat,?_,by rw[<- QA8];exact q⟩;unfold dU;rw[QD];rw[if_pos a,if_pos w]
theorem af{J:LN}{x:zA}{N:zA->Prop}:pU J [] x N ρ=N ρ:=propext ⟨λh=>h.2,λh=>⟨λ_ z=>(nomatch z),h⟩⟩
theorem nA{α:Type}(f:α->D)(l:List α):l.map (λc=>T.d (f c))=(l.map f).map T.d:=by rw[QY];rfl
theorem bE:(rA (.lst (ds.map T.d)) n).vw=.ls (ds.map T.d):=by cases n;rfl;show Vw.ls ((ersT (ds.map T.d)).map T.d)=_;rw[uB]
theorem Sf:ZB md [] C=C []:=CB
theorem Av:ZB [] ((.d d,n)::xs) C=ZB [] xs λts=>C (.d d::ts):=by
 have e:XA [] ((.d d,n)::xs) []=(XA [] xs []).map (.d d::·):=by cases n<;>rfl
 unfold ZB;rw[e,IF]
theorem Tv:ZB [] ((.lst (ds.map T.d),true)::xs) C=ZB [] xs λts=>C (.d (.list ds)::ts):=by have e:XA [] ((.lst (ds.map T.d),true)::xs) []=(XA [] xs []).map (.d (.list (ersT (ds.map T.d)))::·):=rfl;unfold ZB;rw[e,IF,uB]
theorem Iv:ZB (.ky::md) ((t,false)::xs) C=ZB md xs λts=>C (t::ts):=by have e:XA (.ky::md) ((t,false)::xs) []=(XA md xs []).map (t::·):=rfl;unfold ZB;rw[e,IF]
theorem K2:eE (.lst (ds.map T.d))=some (.lst (ds.map T.d)):=by simp only[eE,T.vw,YA,Qx]
theorem Sv{u:T}(h:eE (rA t n)=some u):ZB (.xz::md) ((t,n)::xs) C=ZB md xs λts=>C (u::ts):=by
 have e:XA (.xz::md) ((t,n)::xs) []=(XA md xs []).map (u::·):=by show(match eE (rA t n) with|some t=>(XA md xs []).map (t::·)|none=>none)=_;rw[h]
 unfold ZB;rw[e,IF]
theorem oq:ZB (.xz::md) ((.lst (ds.map T.d),n)::xs) C=ZB md xs λts=>C (.lst (ds.map T.d)::ts):=Sv (by cases n;exact K2;show eE (.d (.list (ersT (ds.map T.d))))=_;rw[uB];simp only[eE,T.vw,YA,Qx])
theorem Af:tM [] C=C []:=propext ⟨λh=>h.2,λh=>⟨rfl,h⟩⟩
theorem Ru:tM ((.lst (ds.map T.d),true)::xs) C=tM xs λts=>C (.lst (ds.map T.d)::ts):=by show((MH (.lst (ds.map T.d)) true&&FE xs)=true/\C (.lst (ds.map T.d)::BF xs))=(FE xs=true/\C (.lst (ds.map T.d)::BF xs));rw[show MH (.lst (ds.map T.d)) true=true from rfl,WM]
theorem sw:tM ((.d d,n)::xs) C=tM xs λts=>C (.d d::ts):=by show((MH (.d d) n&&FE xs)=true/\C (.d d::BF xs))=(FE xs=true/\C (.d d::BF xs));rw[show MH (.d d) n=true by cases n<;>rfl,WM]
theorem rg{i j:Nat}{x y:D}:OX (.tp [i,j]) (.d (.tuple [x,y])) ρ P=P ((ρ.set i (bD x)).set j (bD y)):=CB
theorem Lq{i:Nat}:OX (.nm i) t ρ P=P (ρ.set i (some (.ky t))):=rfl
theorem Tj{h:Tg}:NO h t ρ P=OX h t ρ P:=rfl
theorem tf:GF .Add (.d (.int i)) n (.d (.int j)) m Q=Q (.d (.int (i+j))) false:=by unfold GF;rw[oA,oA];exact nk i j
theorem sf:GF .Add (.d (.str z)) n (.d (.str y)) m Q=(z.length+y.length<=sizeLine/\Q (.d (.str (z++y))) false):=by unfold GF;rw[oA,oA];exact gk z y
theorem bf:GF .Sub (.d (.int i)) n (.d (.int j)) m Q=Q (.d (.int (i - j))) false:=by unfold GF;rw[oA,oA];exact uk i j
theorem gf:GF .Mult (.d (.int i)) n (.d (.int j)) m Q=(IntMulOk i j/\Q (.d (.int (i * j))) false):=by unfold GF;rw[oA,oA];exact vk i j
theorem df:GF .Mult (.d (.str z)) n (.d (.int j)) m Q=((-(2 ^ 31)<=j/\j<2 ^ 31/\z.length * j.toNat<=sizeLine)/\Q (.d (.str (BJ z j))) false):=by unfold GF;rw[oA,oA];exact zk z j
theorem rf:GF .FloorDiv (.d (.int i)) n (.d (.int j)) m Q=((0<j/\j<2 ^ 200)/\Q (.d (.int (i / j))) false):=by unfold GF;rw[oA,oA];exact jk i j
theorem mf:GF .Mod (.d (.int i)) n (.d (.int j)) m Q=(0<j/\Q (.d (.int (i % j))) false):=by unfold GF;rw[oA,oA];exact Ij i j
theorem Ck:GF .Add (.lst (ds.map T.d)) n (.lst (es.map T.d)) m Q=(ds.length+es.length<=sizeLine/\Q (.lst ((ds++es).map T.d)) true):=by unfold GF;rw[bE,bE,ck,YA,YA];exact propext ⟨λ⟨_,_,x,h,k⟩=>by cases x;cases h;exact k,λk=>⟨_,_,rfl,rfl,k⟩⟩
theorem Uo:AD [.d d,.d e]=.d (.tuple [d,e]):=rfl
theorem Xo{f g:D}:AD [.d d,.d e,.d f,.d g]=.d (.tuple [d,e,f,g]):=rfl
theorem Re:iB .Eq (.d (.int i)) (.d (.int j)) L=L (decide (i=j)):=rfl
theorem Pe:iB .Eq (.d (.str z)) (.d (.str y)) L=L (decide (z=y)):=rfl
theorem De:iB .NotEq (.d (.int i)) (.d (.int j)) L=L (!decide (i=j)):=rfl
theorem Ce:iB .NotEq (.d (.str z)) (.d (.str y)) L=L (!decide (z=y)):=rfl
theorem Np:iB .Lt (.d (.int i)) (.d (.int j)) L=L (decide (i<j)):=rfl
theorem Op:iB .LtE (.d (.int i)) (.d (.int j)) L=L (decide (i<=j)):=rfl
theorem v7:iB v (.d d) (.lst (ds.map T.d)) L=bT v d (.list ds) L:=by show bT v d (.list (ersT (ds.map T.d))) L=_;rw[uB]
theorem Tp:iB .Gt (.d (.int i)) (.d (.int j)) L=L (decide (j<i)):=rfl
theorem Hv:iB v t (rA (.d d) m) L=iB v t (.d d) L:=by rw[oA]
theorem Ip:iB v t (rA (.lst (ds.map T.d)) true) L=iB v t (.d (.list ds)) L:=by show iB v t (.d (.list (ersT (ds.map T.d)))) L=_;rw[uB]
theorem Ep{u:T}:iB v t (rA u false) L=iB v t u L:=rfl
theorem Me:iB .In (.d (.str z)) (.d (.list ds)) L=(((LB (.str z)=true/\ds.all LB=true)∨(vF (.str z)/\vF (.list ds)))/\L (ds.any λy=>Qw y (.str z))):=rfl
theorem m7:iB .NotIn (.d (.str z)) (.lst (ds.map T.d)) L=(((LB (.str z)=true/\ds.all LB=true)∨(vF (.str z)/\vF (.list ds)))/\L (!(ds.any λy=>Qw y (.str z)))):=by exact v7
theorem t7:iB .In (.d d) (.dct b ks ts) L=(HD b d/\L (bA ks d).isSome):=by show(HD b d/\((CmpOp.In=.In/\L (bA ks d).isSome)∨(CmpOp.In=.NotIn/\L (!(bA ks d).isSome))))=_;simp
theorem OM:iB .NotIn (.d d) (.dct b ks ts) L=(HD b d/\L (!(bA ks d).isSome)):=by show(HD b d/\((CmpOp.NotIn=.In/\L (bA ks d).isSome)∨(CmpOp.NotIn=.NotIn/\L (!(bA ks d).isSome))))=_;simp
theorem He:iB .In (.d (.str z)) (.d (.tuple ds)) L=(((LB (.str z)=true/\ds.all LB=true)∨(vF (.str z)/\vF (.list ds)))/\L (ds.any λy=>Qw y (.str z))):=rfl
theorem Le:iB .In (.d (.str z)) (.lst (ds.map T.d)) L=(((LB (.str z)=true/\ds.all LB=true)∨(vF (.str z)/\vF (.list ds)))/\L (ds.any λy=>Qw y (.str z))):=by exact v7
theorem Zv:B8 (.d (.bool b)) L=L b:=rfl
theorem Mv:Lv (.d (.bool b)) L=L b:=rfl
theorem Vt{x:Str}{k:String}(h:isD k d=some b)(hk:XO k=true):xj (.bty x k) (.d d) L=L b:=by show(∃b,isD k d=some b/\XO k=true/\L b)=_;exact propext ⟨λ⟨_,e,_,q⟩=>by rw[h]at e;cases e;exact q,λq=>⟨_,h,hk,q⟩⟩
theorem xo:rJ .len [(.d (.list ds),n)] Q=Q (.d (.int ds.length)) false:=by unfold rJ TB;rw[oA];refine(Ie _).trans ?_;rw[QD]
theorem Ki:rJ .len [(.d (.tuple ds),n)] Q=Q (.d (.int ds.length)) false:=by unfold rJ TB;rw[oA];refine(uq _).trans ?_;rw[QD]
theorem vo:rJ .len [(.lst (ds.map T.d),n)] Q=Q (.d (.int ds.length)) false:=by unfold rJ TB;rw[bE];refine(Ie _).trans ?_;rw[QD]
theorem fo:rJ .any [(.lst (ds.map T.d),n)] Q=∃bs:List Bool,ds=bs.map PyData.bool/\Q (.d (.bool (bs.any id))) false:=by unfold rJ TB;rw[bE];refine(xq _).trans ?_;simp only[YA,Qp]
theorem Td:rJ .list [(.d (.list ds),n)] Q=Q (.lst (ds.map T.d)) true:=by unfold rJ TB;rw[oA];exact propext ⟨λ⟨_,_,es,a,b,c,q⟩=>by cases a;cases b;rw[YA]at c;cases c;exact q,λq=>Ee rfl q⟩
theorem Z5:rJ .list [(.d (.tuple ds),n)] Q=Q (.lst (ds.map T.d)) true:=by unfold rJ TB;rw[oA];exact propext ⟨λ⟨_,_,es,a,b,c,q⟩=>by cases a;cases b;rw[YA]at c;cases c;exact q,λq=>Ee rfl q⟩
theorem T6:jT (.ls ts) k R=False:=propext ⟨λ⟨_,_,_,_,_,e,_⟩=>(by cases e),Qd⟩
theorem Xj:jT (.tp ts) k R=False:=propext ⟨λ⟨_,_,_,_,_,e,_⟩=>(by cases e),Qd⟩
theorem Uj{x:D}:jT (.sc x) k R=False:=propext ⟨λ⟨_,_,_,_,_,e,_⟩=>(by cases e),Qd⟩
theorem pv:FA (.lst (ds.map T.d)) n (.d (.int i)) m R=FF (pE ds i) λd=>R (.d d):=by unfold FA;rw[bE,oA,T6,or_false];refine(i6 _ _).trans ?_;show FF (pE (ds.map T.d) i) R=_;rw[AG,IF]
theorem t8:FA (.d (.list ds)) n (.d (.int i)) m R=FF (pE ds i) λd=>R (.d d):=by unfold FA;rw[oA,oA,show(T.d (.list ds)).vw=.ls (ds.map T.d) from rfl,T6,or_false];refine(i6 _ _).trans ?_;show FF (pE (ds.map T.d) i) R=_;rw[AG,IF]
theorem K0:FA (.d (.tuple ds)) n (.d (.int i)) m R=FF (pE ds i) λd=>R (.d d):=by unfold FA;rw[oA,oA,show(T.d (.tuple ds)).vw=.tp (ds.map T.d) from rfl,Xj,or_false];refine(fj _ _).trans ?_;show FF (pE (ds.map T.d) i) R=_;rw[AG,IF]
theorem Tl:FA (.lst [.d d,.d e]) n t m R=FA (.lst ([d,e].map T.d)) n t m R:=rfl
theorem nv:FA (.d (.str z)) n (.d (.int i)) m R=(z.length<=sizeLine/\FF (pE z.cps.toList i) λc=>R (.d (.str ⟨#[c]⟩))):=by unfold FA;rw[oA,oA,show(T.d (.str z)).vw=.sc (.str z) from rfl,Uj,or_false];exact lj _ _
theorem El{q:Bool}{l:Nat}(f:JD kvs=some q)(a:HD q k)(w:bA (kvs.map (·.1)) k=some l)(h:(kvs.map (·.2))[l]?=some e)(x:R (.d e)):FA (.d (.dict kvs)) n (.d k) m R:=by
 unfold FA;rw[oA];refine .inr ?_;show jT (vC kvs) k R;unfold vC;rw[f];refine⟨q,_,_,l,.d e,rfl,a,w,?_,x⟩;rw[QT]at h ⊢;cases z:kvs[l]? with|none=>rw[z]at h;cases h|some p=>rw[z]at h;cases h;rfl
theorem Xv:eN (.d (.str z)) n l u Q=(z.length<=sizeLine/\Q (.d (.str (wm z l u))) false):=by unfold eN;rw[oA];exact Ig z
theorem Uv:eN (.d (.list ds)) n l u Q=Q (.lst ((gE ds l u).map T.d)) true:=by unfold eN;rw[oA];refine(Eg _).trans ?_;rw[YA];exact CB
theorem Jv:IK .val [(.d (.list ds),n)] W=W (ds.map T.d):=by unfold IK TB;rw[oA];exact BI _
theorem sv:IK .val [(.d (.tuple ds),n)] W=W (ds.map T.d):=by unfold IK TB;rw[oA];exact u6 _
theorem um:IK .val [(.lst (ds.map T.d),n)] W=W (ds.map T.d):=by unfold IK TB;rw[bE];exact BI _
theorem km:IK .rng1 [(.d (.int j),n)] W=((-(2 ^ 62)<=j/\j<2 ^ 62)/\W ((Ql j.toNat).map λ(i:Nat)=>.d (.int (i:Int)))):=by unfold IK TB;rw[oA];exact x6 j
theorem lm:IK .enum [(.d (.list ds),n)] W=W (ds.zipIdx.map λp=>.d (.tuple [.int (p.2:Int),p.1])):=by unfold IK TB;rw[oA];refine(XS _).trans ?_;exact propext ⟨λ⟨_,_,x,h,k⟩=>by cases x;rw[YA]at h;cases h;exact k,λk=>⟨_,_,rfl,YA _,k⟩⟩
theorem Lc:IK .enum [(.lst (ds.map T.d),n)] W=W (ds.zipIdx.map λp=>.d (.tuple [.int (p.2:Int),p.1])):=by unfold IK TB;rw[bE];refine(XS _).trans ?_;exact propext ⟨λ⟨_,_,x,h,k⟩=>by cases x;rw[YA]at h;cases h;exact k,λk=>⟨_,_,rfl,YA _,k⟩⟩
theorem cm(h:kvs=[]∨JD kvs=some true):IK .itm [(.d (.dict kvs),n)] W=W (kvs.map λp=>.d (.tuple [p.1,p.2])):=by
 unfold IK TB;rw[oA];show FB .itm [vC kvs] W=_;rcases h with rfl|h;exact v6;unfold vC;rw[h];refine(VS _ _).trans ?_;have e:(kvs.map λp=>T.d p.2)=(kvs.map (·.2)).map T.d:=by rw[QY];rfl
 have x:((kvs.map (·.1)).zip (kvs.map (·.2))).map (λp=>T.d (.tuple [p.1,p.2]))=kvs.map λp=>T.d (.tuple [p.1,p.2]):=by rw[List.zip_map',QY];rfl
 refine propext ⟨λ⟨ds,w,k⟩=>?_,λk=>⟨kvs.map (·.2),by rw[e,YA],?_⟩⟩;rw[e,YA]at w;cases w;rw[x]at k;exact k;rw[x];exact k
def eZ(Q:T->LT->Prop):PEnds:={ nx:=λ_=>Q (.d .none) [],rt:=λt _=>Q t [] }
theorem Ue{Q:T->LT->Prop}{t:T}:(eZ Q).rt t ρ=Q t []:=rfl
theorem gA{Ψ:PEv}{b:PT}{p:PSp}{N x:LS}{ds:LT}{Q:T->LT->Prop}(ρ:zA)(hl:ds.length=x.length)(hc:XB 0 p.md x.length=[])(w:gB N p.md ds=ρ)(h:pF Ψ b (eZ Q) ρ):ds.length=x.length/\pF Ψ b (ZD p x.length Q) (gB N p.md ds):=by
 have e:ZD p x.length Q=eZ Q:=by unfold ZD;rw[hc];rfl
 rw[e,w];exact⟨hl,h⟩
end
end
end L2.L3
namespace L2.L3.K34
open PySem PySem.Spec PyProof.Rows L2 L2.L3
section
variable{p q:Pt}{r:Rm}{Q:T->Prop}{l:Inn}{v:Int}{a b n g:Str}{w:Wy}{e:Str×Str}
def top(i:Nat):Stmt:=Qy.main.body.getD i (.Pass ⟨0,0,0,0⟩)
def KG:LS:=["edges","starts","goal","rooms","came_from","firsts","chains"]
def VF:LS:=["edges","starts","goal"]
def oM:Need:=⟨["rooms_of","points_reached","lay_chain","chain_from","full_names"],["BEGIN"],["sorted"]⟩
noncomputable def VC:PT :=
  %[.expr (.call "lay_chain" %[.vz 3,.vz 4,.tup %[.vz 2,.str "to"|1]|1]),.set 4 (.call "points_reached" %[.vz 3|1])|2]
noncomputable def iG:PT :=
  %[.own 3 (.call "rooms_of" %[.vz 0,.vz 1,.vz 2|1]),.set 4 (.call "points_reached" %[.vz 3|1]),.whl (.cmp .In (.tup %[.vz 2,.str "to"|1]) (.vz 4)) VC,.set 5 (.comp [] ["point"] (.nm 0) .val %[.idx (.vz 3) (.glo "BEGIN")|1] (.cmp .Gt (.idx (.idx (.vz 4) (.vz 0)) (.glo "BEGIN")) (.int 0)) (.idx (.vz 0) (.int 0))),.set 6 (.comp [] ["first"] (.nm 0) .val %[.vz 5|1] .nop (.call "chain_from" %[.vz 4,.vz 0,.vz 3|1])),.ret (.tup %[.bi .sorted %[.vz 6|1],.call "full_names" %[.vz 4|1]|1])|2]
theorem OK:eB oM iG KG VF (top 3)=true:=by kernel_rfl
def xN:LS:=["edges","starts","goal","rooms","name","first","second"]
def fK:LS:=["edges","starts","goal"]
def EU:Need:=⟨["add_name","add_way"],["BEGIN","WIDE"],[]⟩
noncomputable def oF:PT :=
  %[.ife (.cmp .NotEq (.vz 4) (.vz 2)) %[.expr (.call "add_name" %[.vz 3,.vz 4|1]),.expr (.call "add_way" %[.vz 3,.glo "BEGIN",.tup %[.vz 4,.str "to"|1],.glo "WIDE"|1])|2] .nil|2]
noncomputable def nF:PT :=
  %[.ife (.and (.cmp .NotEq (.vz 5) (.vz 2)) (.cmp .NotEq (.vz 5) (.vz 6))) %[.expr (.call "add_name" %[.vz 3,.vz 5|1]),.expr (.call "add_name" %[.vz 3,.vz 6|1]),.expr (.call "add_way" %[.vz 3,.tup %[.vz 5,.str "from"|1],.tup %[.vz 6,.str "to"|1],.glo "WIDE"|1])|2] .nil|2]
noncomputable def RM:PT :=
  %[.own 3 (.dsp (.glo "BEGIN") (.dnew true)),.for_ (.nm 4) .val %[.vz 1|1] oF,.for_ (.tp [5,6]) .val %[.vz 0|1] nF,.ret (.vz 3)|2]
theorem mT:eB EU RM xN fK (top 4)=true:=by kernel_rfl
def lN:LS:=["rooms","name"]
def rK:LS:=["rooms","name"]
def uV:Need:=⟨["add_way"],[],[]⟩
noncomputable def EH:PT :=
  %[.expr (.call "add_way" %[.vz 0,.tup %[.vz 1,.str "to"|1],.tup %[.vz 1,.str "from"|1],.int 1|1])|2]
theorem YT:eB uV EH lN rK (top 5)=true:=by kernel_rfl
def uP:LS:=["rooms","here","there","room"]
def jM:LS:=["rooms","here","there","room"]
def EY:Need:=⟨[],[],[]⟩
noncomputable def EO:PT :=
  %[.sdf 0 (.vz 1),.sdf 0 (.vz 2),.six (.idx (.vz 0) (.vz 1)) (.vz 2) (.vz 3),.six (.idx (.vz 0) (.vz 2)) (.vz 1) (.int 0)|2]
theorem jW:eB EY EO uP jM (top 6)=true:=by kernel_rfl
def RE:LS:=["rooms","came_from","waiting","here","there","room"]
def OD:LS:=["rooms"]
def HJ:Need:=⟨[],["BEGIN"],["len"]⟩
noncomputable def EA:PT :=
  %[.ife (.and (.cmp .Gt (.vz 5) (.int 0)) (.cmp .NotIn (.vz 4) (.vz 1))) %[.six (.vz 1) (.vz 4) (.vz 3),.expr (.mt .append (.vz 2) %[.vz 4|1])|2] .nil|2]
noncomputable def BD:PT :=
  %[.set 3 (.mt .pop (.vz 2) %[.int 0|1]),.for_ (.tp [4,5]) .itm %[.idx (.vz 0) (.vz 3)|1] EA|2]
noncomputable def ME:PT :=
  %[.own 1 (.dsp (.glo "BEGIN") .non),.own 2 (.lst %[.glo "BEGIN"|1]),.whl (.cmp .Gt (.bi .len %[.vz 2|1]) (.int 0)) BD,.ret (.vz 1)|2]
theorem AI:eB HJ ME RE OD (top 7)=true:=by kernel_rfl
def BK:LS:=["rooms","came_from","last","there","here"]
def oI:LS:=["rooms","came_from","last"]
def bS:Need:=⟨[],["BEGIN"],[]⟩
noncomputable def nE:PT :=
  %[.set 4 (.idx (.vz 1) (.vz 3)),.six (.idx (.vz 0) (.vz 4)) (.vz 3) (.bin .Sub (.idx (.idx (.vz 0) (.vz 4)) (.vz 3)) (.int 1)),.six (.idx (.vz 0) (.vz 3)) (.vz 4) (.bin .Add (.idx (.idx (.vz 0) (.vz 3)) (.vz 4)) (.int 1)),.set 3 (.vz 4)|2]
def pG:PT :=
  %[.set 3 (.vz 2),.whl (.cmp .NotEq (.vz 3) (.glo "BEGIN")) nE|2]
theorem GQ:eB bS pG BK oI (top 8)=true:=by kernel_rfl
def mJ:LS:=["rooms","first","goal","chain","name"]
def lH:LS:=["rooms","first","goal"]
def mQ:Need:=⟨["name_behind"],[],[]⟩
noncomputable def FD:PT :=
  %[.expr (.mt .append (.vz 3) %[.vz 4|1]),.set 4 (.call "name_behind" %[.vz 0,.vz 4|1])|2]
def YF:PT :=
  %[.own 3 (.lst .nz),.set 4 (.vz 1),.whl (.cmp .NotEq (.vz 4) (.vz 2)) FD,.ret (.vz 3)|2]
theorem PN:eB mQ YF mJ lH (top 9)=true:=by kernel_rfl
def pH:LS:=["rooms","name","here"]
def TF:LS:=["rooms","name"]
def YN:Need:=⟨[],[],[]⟩
noncomputable def mE:PT :=
  %[.set 2 (.tup %[.vz 1,.str "from"|1]),.ret (.idx (.comp [] ["there"] (.nm 0) .val %[.idx (.vz 0) (.vz 2)|1] (.and (.cmp .NotEq (.idx (.vz 0) (.int 0)) (.vz 2)) (.cmp .Gt (.idx (.idx (.vz 1) (.vz 0)) (.vz 3)) (.int 0))) (.idx (.vz 0) (.int 0))) (.int 0))|2]
theorem MM:eB YN mE pH TF (top 10)=true:=by kernel_rfl
def lJ:LS:=["came_from"]
def gH:LS:=["came_from"]
def lQ:Need:=⟨[],[],["sorted"]⟩
noncomputable def JF:PT :=
  %[.ret (.bi .sorted %[.comp [] ["point"] (.nm 0) .val %[.vz 0|1] (.and (.cmp .Eq (.idx (.vz 0) (.int 1)) (.str "to")) (.cmp .NotIn (.tup %[.idx (.vz 0) (.int 0),.str "from"|1]) (.vz 1))) (.idx (.vz 0) (.int 0))|1])|2]
theorem ON:eB lQ JF lJ gH (top 11)=true:=by kernel_rfl
def ZG:LS:=["edges","seers","needs","ground","found","grown","name","number","chains"]
def KF:LS:=["edges","seers","needs"]
def mM:Need:=⟨["told_through"],[],["len"]⟩
noncomputable def KC:PT :=
  %[.ife (.cmp .NotIn (.vz 6) (.vz 4)) %[.set 8 (.idx (.call "told_through" %[.vz 0,.vz 1,.vz 4,.vz 6|1]) (.int 0)),.ife (.cmp .GtE (.bi .len %[.vz 8|1]) (.vz 7)) %[.expr (.mt .append (.vz 3) %[.tup %[.vz 6,.slc (.vz 8) .nop (.vz 7)|1]|1]),.expr (.mt .append (.vz 4) %[.vz 6|1]),.set 5 (.bl true)|2] .nil|2] .nil|2]
def ZC:PT :=
  %[.set 5 (.bl false),.for_ (.tp [6,7]) .val %[.vz 2|1] KC|2]
noncomputable def eG:PT :=
  %[.own 3 (.comp [false,false,false,false,false,false,true,true] ["name","number"] (.tp [0,1]) .val %[.vz 2|1] (.cmp .In (.vz 0) (.vz 3)) (.tup %[.vz 0,.lst .nz|1])),.own 4 (.comp [false,false,false,false,false,false,true,false,true] ["name","chains"] (.tp [0,1]) .val %[.vz 3|1] .nop (.vz 0)),.set 5 (.bl true),.whl (.vz 5) ZC,.ret (.vz 3)|2]
theorem MK:eB mM eG ZG KF (top 13)=true:=by kernel_rfl
def YG:LS:=["edges","seers","people","goal"]
def ZF:LS:=["edges","seers","people","goal"]
def lM:Need:=⟨["apart_chains"],[],[]⟩
noncomputable def UD:PT :=
  %[.ret (.call "apart_chains" %[.comp [] ["edge"] (.nm 0) .val %[.vz 0|1] (.cmp .In (.idx (.vz 0) (.int 0)) (.vz 3)) (.vz 0),.vz 1,.vz 3|1])|2]
theorem LK:eB lM UD YG ZF (top 14)=true:=by kernel_rfl
def O7:LS:=["world","events","past","taken","wrong","held","known","steps","number","believed","live"]
def RW:LS:=["world"]
def Vi:Need:=⟨["going_order","is_taken","wrong_among","live_among","held_among"],[],[]⟩
noncomputable def yK:PT :=
  %[.own 4 (.call "wrong_among" %[.vz 0,.vz 2|1]),.set 10 (.call "live_among" %[.vz 1,.vz 3,.vz 4|1]),.set 5 (.call "held_among" %[.vz 0,.vz 2,.vz 10,.vz 6|1]),.expr (.mt .append (.vz 7) %[.tup %[.vz 8,.vz 9,.vz 10,.vz 5|1]|1])|2]
noncomputable def IM:PT :=
  (.seq (.set 9 (.call "is_taken" %[.vz 0,.idx (.vz 1) (.vz 8),.vz 4,.vz 5|1]))
  (.seq (.expr (.mt .append (.vz 2) %[.vz 8|1]))
  (.seq (.ife (.and (.vz 9) (.cmp .Eq (.idx (.idx (.vz 1) (.vz 8)) (.int 0)) (.str "tell"))) %[.expr (.mt .append (.vz 3) %[.vz 8|1])|2] .nil)
  yK)))
noncomputable def xW:PT :=
  %[.set 1 (.idx (.vz 0) (.int 3)),.own 2 (.lst .nz),.own 3 (.lst .nz),.own 4 (.dnew true),.set 5 (.lst .nz),.own 6 (.dnew true),.own 7 (.lst .nz),.for_ (.nm 8) .val %[.call "going_order" %[.vz 1|1]|1] IM,.ret (.vz 7)|2]
theorem kc:eB Vi xW O7 RW (top 17)=true:=by kernel_rfl
def bJ:LS:=["world","time","events"]
def uH:LS:=["world","time"]
def bQ:Need:=⟨[],[],["list"]⟩
noncomputable def lF:PT :=
  %[.own 2 (.comp [] ["event"] (.nm 0) .val %[.idx (.vz 0) (.int 3)|1] (.cmp .LtE (.idx (.vz 0) (.int 1)) (.vz 2)) (.vz 0)),.ret (.tup %[.bi .list %[.idx (.vz 0) (.int 0)|1],.bi .list %[.idx (.vz 0) (.int 1)|1],.bi .list %[.idx (.vz 0) (.int 2)|1],.mv 2|1])|2]
theorem FN:eB bQ lF bJ uH (top 18)=true:=by kernel_rfl
def dN:LS:=["world","event","wrong","held","teller","hearer","matter"]
def nK:LS:=["world","event","wrong","held"]
def zV:Need:=⟨["has_against","rank_of","floor_of"],[],[]⟩
noncomputable def aF:PT :=
  %[.ife (.cmp .Eq (.idx (.vz 1) (.int 0)) (.str "see")) %[.ret (.bl true)|2] .nil,.set 4 (.idx (.vz 1) (.int 2)),.set 5 (.idx (.vz 1) (.int 3)),.set 6 (.idx (.vz 1) (.int 4)),.ife (.or (.cmp .NotIn (.tup %[.vz 4,.vz 6|1]) (.vz 3)) (.cmp .In (.tup %[.vz 4,.vz 5|1]) (.vz 2))) %[.ret (.bl false)|2] .nil,.ret (.and (.cmp .GtE (.call "rank_of" %[.vz 0,.vz 4|1]) (.call "floor_of" %[.vz 0,.vz 5|1])) (.not (.call "has_against" %[.vz 0,.vz 3,.vz 5,.vz 6|1])))|2]
theorem eT:eB zV aF dN nK (top 19)=true:=by kernel_rfl
def zP:LS:=["world","name"]
def SL:LS:=["world","name"]
def RY:Need:=⟨[],[],[]⟩
noncomputable def AJ:PT :=
  %[.ret (.idx (.comp [] ["person"] (.nm 0) .val %[.idx (.vz 0) (.int 0)|1] (.cmp .Eq (.idx (.vz 0) (.int 0)) (.vz 2)) (.idx (.vz 0) (.int 1))) (.int 0))|2]
theorem SV:eB RY AJ zP SL (top 20)=true:=by kernel_rfl
def fN:LS:=["world","name"]
def oK:LS:=["world","name"]
def vV:Need:=⟨[],[],[]⟩
noncomputable def TH:PT :=
  %[.ret (.idx (.comp [] ["person"] (.nm 0) .val %[.idx (.vz 0) (.int 0)|1] (.cmp .Eq (.idx (.vz 0) (.int 0)) (.vz 2)) (.idx (.vz 0) (.int 2))) (.int 0))|2]
theorem iT:eB vV TH fN oK (top 21)=true:=by kernel_rfl
def rH:LS:=["world","pairs","name","matter","rivals"]
def AF:LS:=["world","pairs","name","matter"]
def ZN:Need:=⟨[],[],["any"]⟩
noncomputable def oE:PT :=
  %[.own 4 (.comp [] ["first","second"] (.tp [0,1]) .val %[.idx (.vz 0) (.int 2)|1] (.cmp .Eq (.vz 0) (.vz 5)) (.vz 1)),.expr (.mt .extend (.vz 4) %[.comp [] ["first","second"] (.tp [0,1]) .val %[.idx (.vz 0) (.int 2)|1] (.cmp .Eq (.vz 1) (.vz 5)) (.vz 0)|1]),.ret (.bi .any %[.comp [] ["rival"] (.nm 0) .val %[.vz 4|1] .nop (.cmp .In (.tup %[.vz 3,.vz 0|1]) (.vz 2))|1])|2]
theorem NM:eB ZN oE rH AF (top 22)=true:=by kernel_rfl
def oH:LS:=["world","past","seen","wrong","number","event"]
def SF:LS:=["world","past"]
def JN:Need:=⟨["seen_among","has_against"],[],[]⟩
noncomputable def UF:PT :=
  %[.set 5 (.idx (.idx (.vz 0) (.int 3)) (.vz 4)),.ife (.and (.cmp .Eq (.idx (.vz 5) (.int 0)) (.str "tell")) (.cmp .NotIn (.tup %[.idx (.vz 5) (.int 3),.idx (.vz 5) (.int 4)|1]) (.vz 2))) %[.ife (.call "has_against" %[.vz 0,.vz 2,.idx (.vz 5) (.int 3),.idx (.vz 5) (.int 4)|1]) %[.six (.vz 3) (.tup %[.idx (.vz 5) (.int 2),.idx (.vz 5) (.int 3)|1]) (.bl true)|2] .nil|2] .nil|2]
noncomputable def lE:PT :=
  %[.own 2 (.call "seen_among" %[.idx (.vz 0) (.int 3),.vz 1|1]),.own 3 (.dnew true),.for_ (.nm 4) .val %[.vz 1|1] UF,.ret (.vz 3)|2]
theorem LM:eB JN lE oH SF (top 23)=true:=by kernel_rfl
def cJ:LS:=["events","past","seen","number"]
def bH:LS:=["events","past"]
def cQ:Need:=⟨[],[],[]⟩
noncomputable def oG:PT :=
  %[.ife (.cmp .Eq (.idx (.idx (.vz 0) (.vz 3)) (.int 0)) (.str "see")) %[.six (.vz 2) (.tup %[.idx (.idx (.vz 0) (.vz 3)) (.int 2),.idx (.idx (.vz 0) (.vz 3)) (.int 3)|1]) (.bl true)|2] .nil|2]
def mF:PT :=
  %[.own 2 (.dnew true),.for_ (.nm 3) .val %[.vz 1|1] oG,.ret (.vz 2)|2]
theorem GN:eB cQ mF cJ bH (top 24)=true:=by kernel_rfl
def dJ:LS:=["events","taken","wrong"]
def cH:LS:=["events","taken","wrong"]
def dQ:Need:=⟨[],[],["sorted"]⟩
noncomputable def rF:PT :=
  %[.ret (.bi .sorted %[.comp [] ["number"] (.nm 0) .val %[.vz 1|1] (.cmp .NotIn (.tup %[.idx (.idx (.vz 1) (.vz 0)) (.int 2),.idx (.idx (.vz 1) (.vz 0)) (.int 3)|1]) (.vz 3)) (.vz 0)|1])|2]
theorem HN:eB dQ rF dJ cH (top 25)=true:=by kernel_rfl
def gJ:LS:=["world","past","live","known","seen","holders","matter","web","held","person"]
def fH:LS:=["world","past","live","known"]
def gQ:Need:=⟨["seen_among","edges_of","seers_of","holders_in"],[],[]⟩
def TC:PT :=
  %[.six (.vz 5) (.vz 6) (.idx (.vz 3) (.vz 7))|2]
noncomputable def DD:PT :=
  (.seq (.set 7 (.tup %[.call "seers_of" %[.vz 0,.vz 4,.vz 6|1],.call "edges_of" %[.idx (.vz 0) (.int 3),.vz 2,.vz 6|1]|1]))
  (.seq (.ife (.cmp .NotIn (.vz 7) (.vz 3)) %[.six (.vz 3) (.vz 7) (.call "holders_in" %[.vz 0,.vz 7|1])|2] .nil)
  TC))
noncomputable def CD:PT :=
  %[.expr (.mt .extend (.vz 8) %[.comp [false,false,false,false,false,false,true] ["matter"] (.nm 0) .val %[.idx (.vz 0) (.int 1)|1] (.cmp .In (.idx (.vz 10) (.int 0)) (.idx (.vz 6) (.vz 0))) (.tup %[.idx (.vz 10) (.int 0),.vz 0|1])|1])|2]
noncomputable def iF:PT :=
  %[.own 4 (.call "seen_among" %[.idx (.vz 0) (.int 3),.vz 1|1]),.own 5 (.dnew false),.for_ (.nm 6) .val %[.idx (.vz 0) (.int 1)|1] DD,.own 8 (.lst .nz),.for_ (.nm 9) .val %[.idx (.vz 0) (.int 0)|1] CD,.ret (.vz 8)|2]
theorem NN:eB gQ iF gJ fH (top 26)=true:=by kernel_rfl
def vN:LS:=["world","seen","matter"]
def cK:LS:=["world","seen","matter"]
def AU:Need:=⟨[],[],["tuple"]⟩
noncomputable def NH:PT :=
  %[.ret (.bi .tuple %[.comp [] ["person"] (.nm 0) .val %[.idx (.vz 0) (.int 0)|1] (.cmp .In (.tup %[.idx (.vz 0) (.int 0),.vz 3|1]) (.vz 2)) (.idx (.vz 0) (.int 0))|1])|2]
theorem lT:eB AU NH vN cK (top 27)=true:=by kernel_rfl
def gN:LS:=["events","live","matter","tells"]
def pK:LS:=["events","live","matter"]
def xV:Need:=⟨[],[],["tuple"]⟩
noncomputable def AH:PT :=
  %[.set 3 (.comp [] ["number"] (.nm 0) .val %[.vz 1|1] (.cmp .Eq (.idx (.idx (.vz 1) (.vz 0)) (.int 4)) (.vz 3)) (.idx (.vz 1) (.vz 0))),.ret (.bi .tuple %[.comp [] ["event"] (.nm 0) .val %[.vz 3|1] .nop (.tup %[.idx (.vz 0) (.int 2),.idx (.vz 0) (.int 3)|1])|1])|2]
theorem JT:eB xV AH gN pK (top 28)=true:=by kernel_rfl
def fJ:LS:=["world","web"]
def dH:LS:=["world","web"]
def fQ:Need:=⟨["ground_alone","needs_of"],[],[]⟩
noncomputable def eF:PT :=
  %[.ret (.comp [] ["name","chains"] (.tp [0,1]) .val %[.call "ground_alone" %[.idx (.vz 1) (.int 1),.idx (.vz 1) (.int 0),.call "needs_of" %[.vz 0|1]|1]|1] .nop (.vz 0))|2]
theorem MN:eB fQ eF fJ dH (top 29)=true:=by kernel_rfl
def uN:LS:=["world"]
def gK:LS:=["world"]
def IU:Need:=⟨[],[],[]⟩
noncomputable def OH:PT :=
  %[.ret (.comp [] ["person"] (.nm 0) .val %[.idx (.vz 0) (.int 0)|1] .nop (.tup %[.idx (.vz 0) (.int 0),.idx (.vz 0) (.int 3)|1]))|2]
theorem oT:eB IU OH uN gK (top 30)=true:=by kernel_rfl
def ET:LS:=["_law_script","_law_k","_law_many","_law_cell","_law_number"]
def lO:LS:=["_law_script","_law_k","_law_many"]
def K5:Need:=⟨[],[],["len"]⟩
noncomputable def aG:PT :=
  %[.set 4 (.bin .Mod (.bin .Mult (.bin .Add (.bin .Add (.bin .Mod (.vz 3) (.int 2147483647)) (.bin .Mult (.int 7) (.vz 1))) (.int 3)) (.bin .Add (.int 48271) (.bin .Mult (.bin .Mult (.int 1103) (.vz 1)) (.vz 1)))) (.int 2147483629)),.ret (.bin .Mod (.bin .FloorDiv (.vz 4) (.int 64)) (.vz 2))|2]
noncomputable def AM:PT :=
  (.seq (.set 3 (.int 0))
  (.seq (.ife (.cmp .Gt (.bi .len %[.vz 0|1]) (.int 0)) %[.set 3 (.idx (.vz 0) (.bin .Mod (.vz 1) (.bi .len %[.vz 0|1])))|2] .nil)
  aG))
theorem XZ:eB K5 AM ET lO (top 32)=true:=by kernel_rfl
def vP:LS:=["_law_script","_law_letters","_law_ahead","_law_behind","_law_first"]
def AL:LS:=["_law_script"]
def TY:Need:=⟨["_law_draw"],[],["range"]⟩
noncomputable def IJ:PT :=
  %[.set 1 (.str "bcdfgjkmnpqvwxyz"),.set 2 (.bin .Mult (.str "zq") (.call "_law_draw" %[.vz 0,.int 901,.int 2|1])),.set 3 (.slc (.str "vzb") .nop (.call "_law_draw" %[.vz 0,.int 902,.int 4|1])),.set 4 (.call "_law_draw" %[.vz 0,.int 903,.int 16|1]),.ret (.comp [] ["_law_k"] (.nm 0) .rng1 %[.int 16|1] .nop (.bin .Add (.bin .Add (.vz 3) (.idx (.vz 2) (.bin .Mod (.bin .Add (.vz 5) (.vz 0)) (.int 16)))) (.vz 4)))|2]
theorem EV:eB TY IJ vP AL (top 33)=true:=by kernel_rfl
noncomputable def bN:LS:=["_law_script","_law_names_here","_law_people_here","_law_wide","_law_k","_law_name","_law_rank","_law_floor"]
def lK:LS:=["_law_script","_law_names_here"]
def jV:Need:=⟨["_law_draw"],[],["enumerate","int"]⟩
noncomputable def zJ:PT :=
  %[.set 6 (.call "_law_draw" %[.vz 0,.bin .Add (.int 910) (.vz 4),.vz 3|1]),.set 7 (.bin .Mult (.call "_law_draw" %[.vz 0,.bin .Add (.int 920) (.vz 4),.vz 3|1]) (.bi .int %[.cmp .Eq (.call "_law_draw" %[.vz 0,.bin .Add (.int 930) (.vz 4),.int 3|1]) (.int 0)|1])),.expr (.mt .append (.vz 2) %[.tup %[.vz 5,.vz 6,.vz 7,.idx (.lst %[.int 1,.int 1,.int 1,.int 2,.int 2,.int 3|1]) (.call "_law_draw" %[.vz 0,.bin .Add (.int 940) (.vz 4),.int 6|1])|1]|1])|2]
noncomputable def PH:PT :=
  %[.own 2 (.lst .nz),.set 3 (.idx (.lst %[.int 4,.int 100|1]) (.call "_law_draw" %[.vz 0,.int 904,.int 2|1])),.for_ (.tp [4,5]) .enum %[.vz 1|1] zJ,.ret (.vz 2)|2]
theorem pT:eB jV PH bN lK (top 34)=true:=by kernel_rfl
noncomputable def xP:LS:=["_law_script","_law_k","_law_people_here","_law_matters","_law_last","_law_at","_law_matter","_law_word","_law_times","_law_time","_law_teller","_law_others","_law_hearer","_law_by","_law_j"]
def EL:LS:=["_law_script","_law_k","_law_people_here","_law_matters","_law_last"]
def AY:Need:=⟨["_law_draw"],[],["len","range","tuple"]⟩
noncomputable def UK:PT :=
  %[.expr (.mt .append (.vz 13) %[.idx (.idx (.vz 2) (.call "_law_draw" %[.vz 0,.bin .Add (.bin .Add (.bin .Mult (.int 11) (.vz 1)) (.int 8)) (.vz 14),.bi .len %[.vz 2|1]|1])) (.int 0)|1])|2]
noncomputable def tF:PT :=
  %[.set 11 (.comp [] ["_law_person"] (.nm 0) .val %[.vz 2|1] (.cmp .NotEq (.idx (.vz 0) (.int 0)) (.vz 11)) (.idx (.vz 0) (.int 0))),.set 12 (.idx (.vz 11) (.call "_law_draw" %[.vz 0,.bin .Add (.bin .Mult (.int 11) (.vz 1)) (.int 6),.bi .len %[.vz 11|1]|1])),.own 13 (.lst .nz),.for_ (.nm 14) .rng1 %[.call "_law_draw" %[.vz 0,.bin .Add (.bin .Mult (.int 11) (.vz 1)) (.int 7),.int 3|1]|1] UK,.ret (.tup %[.str "tell",.vz 9,.vz 10,.vz 12,.vz 6,.vz 7,.bi .tuple %[.vz 13|1]|1])|2]
noncomputable def jK:PT :=
  (.seq (.set 5 (.call "_law_draw" %[.vz 0,.bin .Mult (.int 11) (.vz 1),.bi .len %[.vz 2|1]|1]))
  (.seq (.set 6 (.idx (.vz 3) (.call "_law_draw" %[.vz 0,.bin .Add (.bin .Mult (.int 11) (.vz 1)) (.int 1),.bi .len %[.vz 3|1]|1])))
  (.seq (.set 7 (.slc (.str "abcdef") (.call "_law_draw" %[.vz 0,.bin .Add (.bin .Mult (.int 11) (.vz 1)) (.int 2),.int 6|1]) .nop))
  (.seq (.set 8 (.lst %[.vz 1,.bin .Mult (.int 2) (.bin .FloorDiv (.vz 1) (.int 2)),.call "_law_draw" %[.vz 0,.bin .Add (.bin .Mult (.int 11) (.vz 1)) (.int 3),.int 9|1],.bin .Sub (.int 100) (.vz 1)|1]))
  (.seq (.set 9 (.idx (.vz 8) (.call "_law_draw" %[.vz 0,.int 905,.int 4|1])))
  (.seq (.ife (.or (.cmp .Is (.vz 4) .non) (.cmp .Eq (.call "_law_draw" %[.vz 0,.bin .Add (.bin .Mult (.int 11) (.vz 1)) (.int 4),.int 4|1]) (.int 0))) %[.ret (.tup %[.str "see",.vz 9,.idx (.idx (.vz 2) (.vz 5)) (.int 0),.vz 6,.vz 7|1])|2] .nil)
  (.seq (.set 10 (.idx (.idx (.vz 2) (.vz 5)) (.int 0)))
  (.seq (.ife (.cmp .Gt (.call "_law_draw" %[.vz 0,.bin .Add (.bin .Mult (.int 11) (.vz 1)) (.int 5),.int 3|1]) (.int 0)) %[.set 10 (.idx (.vz 4) (.int 0)),.set 6 (.idx (.vz 4) (.int 1))|2] .nil)
  tF))))))))
theorem IV:eB AY jK xP EL (top 35)=true:=by kernel_rfl
def cN:LS:=["_law_script","_law_most","_law_cells","_law_k","_law_cell"]
def mK:LS:=["_law_script","_law_most"]
def yV:Need:=⟨[],[],["enumerate"]⟩
noncomputable def kJ:PT :=
  %[.ife (.cmp .Lt (.vz 3) (.vz 1)) %[.expr (.mt .append (.vz 2) %[.vz 4|1])|2] %[.six (.vz 2) (.bin .Mod (.vz 3) (.vz 1)) (.bin .Add (.bin .Mult (.idx (.vz 2) (.bin .Mod (.vz 3) (.vz 1))) (.int 31)) (.vz 4))|2]|2]
def RH:PT :=
  %[.own 2 (.lst .nz),.for_ (.tp [3,4]) .enum %[.vz 0|1] kJ,.ret (.vz 2)|2]
theorem rT:eB yV RH cN mK (top 36)=true:=by kernel_rfl
noncomputable def kP:LS:=["_law_script","_law_most","_law_names_here","_law_people_here","_law_matters","_law_against","_law_k","_law_j","_law_both","_law_events","_law_last","_law_event_here"]
def TL:LS:=["_law_script","_law_most"]
def SY:Need:=⟨["_law_folded","_law_names","_law_people","_law_draw","_law_event"],[],["len","range"]⟩
noncomputable def tG:PT :=
  %[.set 8 (.lst %[.tup %[.idx (.vz 4) (.vz 6),.idx (.vz 4) (.vz 7)|1],.tup %[.idx (.vz 4) (.vz 7),.idx (.vz 4) (.vz 6)|1]|1]),.ife (.cmp .Gt (.call "_law_draw" %[.vz 0,.bin .Add (.bin .Add (.int 950) (.bin .Mult (.int 3) (.vz 6))) (.vz 7),.int 3|1]) (.int 0)) %[.expr (.mt .append (.vz 5) %[.idx (.vz 8) (.call "_law_draw" %[.vz 0,.bin .Add (.bin .Add (.int 960) (.bin .Mult (.int 3) (.vz 6))) (.vz 7),.int 2|1])|1])|2] .nil|2]
def sG:PT :=
  %[.for_ (.nm 7) .rng1 %[.vz 6|1] tG|2]
noncomputable def rG:PT :=
  %[.set 11 (.call "_law_event" %[.vz 0,.vz 6,.vz 3,.vz 4,.vz 10|1]),.expr (.mt .append (.vz 9) %[.vz 11|1]),.set 10 (.tup %[.idx (.vz 11) (.int 2),.idx (.vz 11) (.int 3)|1]),.ife (.cmp .Eq (.idx (.vz 11) (.int 0)) (.str "tell")) %[.set 10 (.tup %[.idx (.vz 11) (.int 3),.idx (.vz 11) (.int 4)|1])|2] .nil|2]
noncomputable def sF:PT :=
  %[.own 5 (.lst .nz),.for_ (.nm 6) .rng1 %[.bi .len %[.vz 4|1]|1] sG,.own 9 (.lst .nz),.set 10 .non,.for_ (.nm 6) .rng1 %[.bi .len %[.vz 0|1]|1] rG,.frz [5,9] (.ret (.tup %[.vz 3,.vz 4,.vz 5,.vz 9|1]))|2]
noncomputable def EJ:PT :=
  (.seq (.set 0 (.call "_law_folded" %[.vz 0,.int 24|1]))
  (.seq (.set 2 (.call "_law_names" %[.vz 0|1]))
  (.seq (.set 3 (.call "_law_people" %[.vz 0,.slc (.vz 2) .nop (.bin .Add (.int 2) (.call "_law_draw" %[.vz 0,.int 906,.bin .Sub (.vz 1) (.int 1)|1]))|1]))
  (.seq (.set 4 (.slc (.vz 2) (.int 6) (.bin .Add (.int 7) (.call "_law_draw" %[.vz 0,.int 907,.int 3|1]))))
  (.seq (.ife (.cmp .Eq (.call "_law_draw" %[.vz 0,.int 908,.int 3|1]) (.int 0)) %[.set 4 (.slc (.vz 2) .nop (.bi .len %[.vz 4|1]))|2] .nil)
  sF)))))
theorem TV:eB SY EJ kP TL (top 37)=true:=by kernel_rfl
def IT:LS:=["_law_kept","_law_steps","_law_rows","_law_number","_law_taken","_law_live","_law_held"]
def mO:LS:=["_law_kept","_law_steps"]
def V5:Need:=⟨[],[],[]⟩
noncomputable def SH:PT :=
  %[.expr (.mt .append (.vz 2) %[.tup %[.idx (.vz 0) (.vz 3),.vz 4,.comp [] ["_law_one"] (.nm 0) .val %[.vz 5|1] .nop (.idx (.vz 1) (.vz 0)),.vz 6|1]|1])|2]
def EM:PT :=
  %[.own 2 (.lst .nz),.for_ (.tp [3,4,5,6]) .val %[.vz 1|1] SH,.ret (.vz 2)|2]
theorem UZ:eB V5 EM IT mO (top 38)=true:=by kernel_rfl
noncomputable def Tf:LS:=["_law_script","_law_world_here","_law_steps","_law_times","_law_k","_law_time","_law_kept","_law_cut","_law_part"]
def C3:LS:=["_law_script"]
noncomputable def uo:Need:=⟨["_law_world","gone","_law_draw","until_time","_law_back"],[],["range","len","enumerate","isinstance","tuple","list"]⟩
noncomputable def DT:PT :=
  %[.hs (.for_ (.nm 8) .val %[.vz 7|1] %[.expr (.mt .append (.vz 8) %[.non|1])|2]),.ife (.cmp .NotEq (.vz 1) (.call "_law_world" %[.vz 0,.int 6|1])) %[.ret (.bl false)|2] .nil|2]
noncomputable def SM:PT :=
  (.seq (.hs (.ife (.cmp .NotEq (.call "_law_back" %[.vz 6,.call "gone" %[.vz 7|1]|1]) (.slc (.vz 2) .nop (.bi .len %[.vz 6|1]))) %[.ret (.bl false)|2] .nil))
  DT)
noncomputable def TM:PT :=
  (.seq (.hs (.ife (.or (.not (.isi (.vz 7) (.bty "tuple" "tuple"))) (.or (.cmp .NotEq (.bi .len %[.vz 7|1]) (.int 4)) (.cmp .NotEq (.vz 1) (.call "_law_world" %[.vz 0,.int 6|1])))) %[.ret (.bl false)|2] .nil))
  (.seq (.hs (.ife (.cmp .NotEq (.bi .list %[.vz 7|1]) (.lst %[.idx (.vz 1) (.int 0),.idx (.vz 1) (.int 1),.idx (.vz 1) (.int 2),.comp [] ["_law_number"] (.nm 0) .val %[.vz 6|1] .nop (.idx (.idx (.vz 2) (.int 3)) (.vz 0))|1])) %[.ret (.bl false)|2] .nil))
  SM))
noncomputable def MQ:PT :=
  (.seq (.set 5 (.idx (.vz 3) (.call "_law_draw" %[.vz 0,.bin .Add (.int 980) (.vz 4),.bi .len %[.vz 3|1]|1])))
  (.seq (.set 6 (.comp [] ["_law_number","_law_event_here"] (.tp [0,1]) .enum %[.idx (.vz 1) (.int 3)|1] (.cmp .LtE (.idx (.vz 1) (.int 1)) (.vz 7)) (.vz 0)))
  (.seq (.own 7 (.call "until_time" %[.vz 1,.vz 5|1]))
  TM)))
noncomputable def J7:PT :=
  %[.set 1 (.call "_law_world" %[.vz 0,.int 6|1]),.set 2 (.call "gone" %[.vz 1|1]),.set 3 (.bin .Add (.comp [] ["_law_event_here"] (.nm 0) .val %[.idx (.vz 1) (.int 3)|1] .nop (.idx (.vz 0) (.int 1))) (.lst %[.int 0,.int 7,.int 101|1])),.for_ (.nm 4) .rng1 %[.int 3|1] MQ,.ret (.bl true)|2]
theorem Fj:eB uo J7 Tf C3 (top 39)=true:=by kernel_rfl
theorem CQ(a b:Str):Qw (.str a) (.str b)=decide (a=b):=by rw[qD,decide_eq_true_iff];simp[Qw]
theorem uL(l:LS)(z:Str):((l.map PyData.str).any λy=>Qw y (.str z))=decide (z∈l):=by rw[QCG,qD,Ws,decide_eq_true_iff];constructor;rintro⟨x,u,e⟩;have e:Qw (.str x) (.str z)=true:=e;rw[CQ,decide_eq_true_iff]at e;exact e▸u;intro h;exact⟨z,h,by show Qw (.str z) (.str z)=true;rw[CQ];exact dT rfl⟩
theorem HI(l:LS):(l.map PyData.str).all LB=true:=by rw[List.all_map,Qv];exact λ_ _=>rfl
def Db(g:Str)(cut:LS)(s:Str):Bool:=!decide (s=g)&&!decide (s∈cut)
inductive Led(es:dC)(st:LS)(g:Str)(cut:LS):Str->Prop
 |st {s:Str}:s∈st->Db g cut s=true->Led es st g cut s
 |ed {a b:Str}:Led es st g cut a->(a,b)∈es->Db g cut b=true->Led es st g cut b
theorem xQ:∀{ks ns:LS},ks.Nodup->(∀s∈ks,s∈ns)->ks.length<=ns.length
 |[],_,_,_=>Qs _|s::r,ns,h,hs=>by obtain⟨k,u⟩:=Qj.mp h;have z:=hs s QF;have:=xQ (ks:=r) (ns:=ns.erase s) u λx y=>(QBH (λ(e:x=s)=>k (e▸y))).mpr (hs x (QE _ y));rw[QAe z]at this;have f:=Wb z;rw[QM];omega
def one(y:Str):Prop:=∃c,c<128/\y=⟨#[c]⟩
def pr(p:Str×Str):D:=.tuple [.str p.1,.str p.2]
theorem kL{α h:Type}(f:α->h)(l:List α)(a b:Option Int):gE (l.map f) a b=(gE l a b).map f:=by unfold gE;rw[QD,List.map_take,List.map_drop]
noncomputable abbrev Pt:=Str×Str
theorem VP(h:pr p=pr q):p=q:=by obtain⟨a,b⟩:=p;obtain⟨c,d⟩:=q;injection h with h;injection h with h1 h;injection h with h2 _;injection h1 with h1;injection h2 with h2;exact QCQ h1 h2
theorem G6{x k:D}{r:List D}(h:x≠k):bA (x::r) k=(bA r k).map (·+1):=by unfold bA;rw[if_neg h];cases r<;>rfl
theorem Ye{x k:D}{r:List D}(h:x=k):bA (x::r) k=some 0:=by unfold bA;rw[if_pos h]
def look{α:Type}:List (Pt×α)->Pt->Option α
 |[],_=>none|e::l,p=>if e.1=p then some e.2 else look l p
noncomputable def put{α:Type}:List (Pt×α)->Pt->α->List (Pt×α)
 |[],p,v=>[(p,v)]|e::l,p,v=>if e.1=p then(e.1,v)::l else e::put l p v
def OC{α:Type}(l:List (Pt×α)):List D:=l.map λe=>pr e.1
theorem RJ{α:Type}{p:Pt}:∀{l:List (Pt×α)},look l p=none->bA (OC l) (pr p)=none/\∀w,put l p w=l++[(p,w)]
 |[],_=>⟨rfl,λ_=>rfl⟩|e::l,h=>by unfold look at h;by_cases c:e.1=p;rw[if_pos c]at h;cases h;rw[if_neg c]at h;obtain⟨y,x⟩:=RJ h;refine⟨?_,λw=>?_⟩;show bA (pr e.1::OC l) (pr p)=none;rw[G6 (λz=>c (VP z)),y];rfl;show(if e.1=p then(e.1,w)::l else e::put l p w)=_;rw[if_neg c,x];rfl
theorem YC{α:Type}{p:Pt}{v:α}(f:α->T):∀{l:List (Pt×α)},look l p=some v->∃n,bA (OC l) (pr p)=some n/\(l.map λe=>f e.2)[n]?=some (f v)/\∀w,OC (put l p w)=OC l/\(l.map λe=>f e.2).set n (f w)=(put l p w).map λe=>f e.2
 |[],h=>by cases h|e::l,h=>by unfold look at h;by_cases c:e.1=p;rw[if_pos c]at h;injection h with h;refine⟨0,?_,?_,λw=>?_⟩;exact Ye (congrArg pr c);show some (f e.2)=_;rw[h];have:put (e::l) p w=(e.1,w)::l:=if_pos c;rw[this];exact⟨rfl,rfl⟩;rw[if_neg c]at h;obtain⟨n,i,k,u⟩:=YC f h;refine⟨n+1,?_,k,λw=>?_⟩;show bA (pr e.1::OC l) (pr p)=some (n+1);rw[G6 (λz=>c (VP z)),i];rfl;have:put (e::l) p w=e::put l p w:=if_neg c;rw[this];obtain⟨y,x⟩:=u w;refine⟨?_,?_⟩;show pr e.1::OC (put l p w)=pr e.1::OC l;rw[y];show f e.2::(l.map λe=>f e.2).set n (f w)=f e.2::(put l p w).map λe=>f e.2;rw[x]
theorem iD{α:Type}{p q:Pt}{w:α}:∀{l:List (Pt×α)},look (put l p w) q=if p=q then some w else look l q
 |[]=>rfl|e::l=>by
  by_cases c:e.1=p;have h:put (e::l) p w=(e.1,w)::l:=if_pos c;rw[h];show(if e.1=q then some w else look l q)=if p=q then some w else(if e.1=q then some e.2 else look l q)
  rw[c];split<;>rfl;have h:put (e::l) p w=e::put l p w:=if_neg c;rw[h];show(if e.1=q then some e.2 else look (put l p w) q)=if p=q then some w else(if e.1=q then some e.2 else look l q)
  rw[iD];by_cases d:e.1=q;rw[if_pos d,if_pos d,if_neg (λz=>c (d.trans z.symm))];rw[if_neg d,if_neg d]
theorem NW{α:Type}{p:Pt}{w:α}:∀{l:List (Pt×α)},(put l p w).length<=l.length+1
 |[]=>QS _|e::l=>by by_cases c:e.1=p;rw[show put (e::l) p w=(e.1,w)::l from if_pos c,QM,QM];omega;have:=NW (p:=p) (w:=w) (l:=l);rw[show put (e::l) p w=e::put l p w from if_neg c,QM,QM];omega
theorem PB(p:Pt):HD true (pr p):=⟨[.s p.1,.s p.2],rfl,by simp[u5,nkds]⟩
noncomputable abbrev Inn:=List (Pt×Int)
noncomputable abbrev Rm:=List (Pt×Inn)
def YD(l:Inn):T:=.dct true (OC l) (l.map λe=>T.d (.int e.2))
def UA(r:Rm):T:=.dct true (OC r) (r.map λe=>YD e.2)
def sdf(r:Rm)(p:Pt):Rm:=match look r p with
 |some _=>r|none=>r++[(p,[])]
theorem CW(hl:r.length<sizeLine)(q:Q (UA (sdf r p))):Sm (.d (pr p)) (UA r) Q:=by
 refine⟨OC r,_,rfl,PB p,by unfold OC;rw[QD];exact hl,?_⟩;unfold sdf at q;cases h:look r p with
 |some v=>rw[h]at q;obtain⟨n,x,_⟩:=YC YD h;exact .inl ⟨n,x,q⟩|none =>
  rw[h]at q;refine .inr ⟨(RJ h).1,?_⟩;have e:UA (r++[(p,[])])=.dct true (OC r++[pr p]) ((r.map λe=>YD e.2)++[.dct true [] []]):=by unfold UA OC;rw[QO,QO];rfl
  show Q (T.dct true (OC r++[pr p]) ((r.map λe=>YD e.2)++[.dct true [] []]));rw[<- e];exact q
theorem lP(hl:l.length<sizeLine)(q:Q (YD (put l p v))):Ic (YD l) (.d (pr p)) (.d (.int v)) Q:=by
 refine⟨PB p,by unfold OC;rw[QD];exact hl,?_⟩;have e:CJ true (OC l) (l.map λe=>T.d (.int e.2)) (pr p) (.d (.int v))=YD (put l p v):=by
  unfold CJ;cases h:look l p with|none=>obtain⟨x,y⟩:=RJ h;rw[x,y];unfold YD OC;rw[QO,QO];rfl|some u=>obtain⟨n,x,y,f⟩:=YC (λi:Int=>T.d (.int i)) h;rw[x];obtain⟨k,z⟩:=f v;show T.dct true (OC l) ((l.map λe=>T.d (.int e.2)).set n (T.d (.int v)))=_;unfold YD;rw[k,z]
 show Q (CJ true (OC l) (l.map λe=>T.d (.int e.2)) (pr p) (.d (.int v)));rw[e];exact q
theorem xI{Q:T->(T->T)->Prop}(h:look r p=some l)(q:∀f:T->T,(∀x,f (YD x)=UA (put r p x))->Q (YD l) f):Bm (.d (pr p)) (UA r) Q:=by obtain⟨n,i,k,u⟩:=YC YD h;refine⟨true,OC r,_,n,YD l,rfl,PB p,i,k,q _ λx=>?_⟩;obtain⟨z,y⟩:=u x;show T.dct true (OC r) ((r.map λe=>YD e.2).set n (YD x))=_;unfold UA;rw[z,y]
def VA:Pt:=("","begin")
def tO(n:Str):Pt:=(n,"to")
def fR(n:Str):Pt:=(n,"from")
theorem Us:("begin":Str)≠"to":=by decide +kernel
theorem Bs:("begin":Str)≠"from":=by decide +kernel
theorem Xs:("to":Str)≠"from":=by decide +kernel
theorem MB:VA≠tO a:=λh=>Us (congrArg Prod.snd h)
theorem HE:VA≠fR a:=λh=>Bs (congrArg Prod.snd h)
theorem GA:tO a≠fR b:=λh=>Xs (congrArg Prod.snd h)
theorem BB(h:tO a=tO b):a=b:=congrArg qy h
theorem HH(h:fR a=fR b):a=b:=congrArg qy h
def EZ(p q:Pt):Prop:=(p=VA/\∃n,q=tO n)∨(∃n,p=tO n/\q=fR n)∨(∃a b,a≠b/\p=fR a/\q=tO b)
theorem cF(h:EZ p q):¬ EZ q p:=by
 rintro k;rcases h with⟨rfl,n,rfl⟩| ⟨n,rfl,rfl⟩| ⟨a,b,u,rfl,rfl⟩<;>rcases k with⟨x,m,y⟩| ⟨m,x,y⟩| ⟨c,d,z,x,y⟩
 exact MB x.symm;exact HE y;exact GA x;exact HE x.symm;exact GA x.symm;exact z ((HH x).symm.trans (BB y));exact MB x.symm;exact u ((HH y).trans (BB x).symm);exact GA x
theorem xG(h:EZ p q):p≠q:=λe=>cF h (by rw[e]at h ⊢;exact h)
noncomputable abbrev Wy:=Pt×Pt×Int
def lk(r:Rm)(p:Pt):Inn:=(look r p).getD []
noncomputable def oB(r:Rm)(w:Wy):Rm:=put (put (sdf (sdf r w.1) w.2.1) w.1 (put (lk (sdf (sdf r w.1) w.2.1) w.1) w.2.1 w.2.2)) w.2.1 (put (lk (put (sdf (sdf r w.1) w.2.1) w.1 (put (lk (sdf (sdf r w.1) w.2.1) w.1) w.2.1 w.2.2)) w.2.1) w.1 0)
theorem nS{α:Type}{p q:Pt}{v:α}:∀{l:List (Pt×α)},look (l++[(p,v)]) q=(look l q).or (if p=q then some v else none)
 |[]=>rfl|e::l=>by show(if e.1=q then some e.2 else look (l++[(p,v)]) q)=(if e.1=q then some e.2 else look l q).or (if p=q then some v else none);by_cases c:e.1=q;rw[if_pos c,if_pos c];rfl;rw[if_neg c,if_neg c];exact nS
theorem mS:look (sdf r p) q=(look r q).or (if p=q then some [] else none):=by
 unfold sdf;cases h:look r p with
 |some v =>
  show look r q=_;cases y:look r q with
  |some x=>rfl|none =>
   show none=if p=q then some [] else none
   rw[if_neg];intro e;rw[e,y]at h;cases h
 |none=>show look (r++[(p,[])]) q=_;exact nS
theorem sP:(sdf r p).length<=r.length+1:=by unfold sdf;split;omega;rw[QI,qF];omega
theorem mI{α:Type}{p:Pt}{w:α}{e:Pt×α}:∀{l:List (Pt×α)},e∈put l p w->e=(p,w)∨e∈l
 |[],h=>.inl (QJ.mp h)|x::l,h=>by by_cases c:x.1=p;rw[show put (x::l) p w=(x.1,w)::l from if_pos c]at h;rcases QL.mp h with h|h;exact .inl (by rw[h,c]);exact .inr (QE _ h);rw[show put (x::l) p w=x::put l p w from if_neg c]at h;rcases QL.mp h with h|h;exact .inr (by rw[h];exact QF);exact(mI h).imp_right (QE _)
theorem JP{α:Type}{p:Pt}{w:α}{q:Pt}:∀{l:List (Pt×α)},(∃v,(q,v)∈put l p w)↔q=p∨∃v,(q,v)∈l
 |[]=>by
  constructor;rintro⟨v,h⟩;exact .inl (congrArg qy (QJ.mp h));rintro(rfl|⟨v,h⟩)
  ·exact⟨w,QJ.mpr rfl⟩
  exact(nomatch h)
 |x::l=>by
  by_cases c:x.1=p;rw[show put (x::l) p w=(x.1,w)::l from if_pos c];constructor;rintro⟨v,h⟩;rcases QL.mp h with h|h;exact .inl ((congrArg qy h).trans c);exact .inr ⟨v,QE _ h⟩;rintro(rfl|⟨v,h⟩)
  ·exact⟨w,by rw[c];exact QF⟩
  rcases QL.mp h with h|h
  ·exact⟨w,by rw[<- h];exact QF⟩
  exact⟨v,QE _ h⟩;rw[show put (x::l) p w=x::put l p w from if_neg c];have y:=JP (p:=p) (w:=w) (q:=q) (l:=l);constructor;rintro⟨v,h⟩;rcases QL.mp h with h|h;exact .inr ⟨v,by rw[h];exact QF⟩;exact(y.mp ⟨v,h⟩).imp_right λ⟨v,h⟩=>⟨v,QE _ h⟩
  rintro(h|⟨v,h⟩)
  ·obtain⟨v,h⟩:=y.mpr (.inl h)
   exact⟨v,QE _ h⟩
  rcases QL.mp h with h|h
  ·exact⟨v,by rw[h];exact QF⟩
  obtain⟨v,h⟩:=y.mpr (.inr ⟨v,h⟩);exact⟨v,QE _ h⟩
def IZ(r:Rm)(p q:Pt):Prop:=∃v,(q,v)∈lk r p
def Key(r:Rm)(p:Pt):Prop:=∃l,look r p=some l
def Pos(r:Rm):Prop:=∀p,∀e∈lk r p,(0<e.2↔EZ p e.1)
def j8(r:Rm):Prop:=∀p q,IZ r p q->Key r q
def Sz(r:Rm)(n:Nat):Prop:=r.length<=n/\∀p,(lk r p).length<=n
theorem dE:lk (put r p l) q=if p=q then l else lk r q:=by unfold lk;rw[iD];split<;>rfl
theorem cE:lk (sdf r p) q=lk r q:=by
 unfold lk;rw[mS];cases look r q with|some x=>rfl|none=>show(if p=q then some [] else none).getD []=[];split<;>rfl
theorem UI:Key (put r p l) q↔p=q∨Key r q:=by unfold Key;rw[iD];by_cases h:p=q;rw[if_pos h];exact⟨λ_=>.inl h,λ_=>⟨_,rfl⟩⟩;rw[if_neg h];exact⟨.inr,λz=>z.resolve_left h⟩
theorem ID:Key (sdf r p) q↔p=q∨Key r q:=by
 unfold Key;rw[mS];cases look r q with|some x=>exact⟨λ_=>.inr ⟨_,rfl⟩,λ_=>⟨_,rfl⟩⟩|none=>show(∃l,(if p=q then some [] else none)=some l)↔_;by_cases h:p=q;rw[if_pos h];exact⟨λ_=>.inl h,λ_=>⟨_,rfl⟩⟩;rw[if_neg h];exact⟨λ⟨_,e⟩=>(nomatch e),λz=>(z.resolve_left h)⟩
theorem VI(h:w.1≠w.2.1)(p:Pt):lk (oB r w) p=if w.2.1=p then put (lk r p) w.1 0 else if w.1=p then put (lk r p) w.2.1 w.2.2 else lk r p:=by unfold oB;rw[dE,dE,dE,cE,cE,cE,cE,if_neg h,cE,cE];by_cases y:w.2.1=p;rw[if_pos y,if_pos y,y];rw[if_neg y,if_neg y];by_cases x:w.1=p;rw[if_pos x,if_pos x,x];rw[if_neg x,if_neg x]
theorem bG:Key (oB r w) p↔p=w.1∨p=w.2.1∨Key r p:=by
 unfold oB;rw[UI,UI,ID,ID];constructor;rintro(h|h|h|h|h)
 ·exact .inr (.inl h.symm)
 exact .inl h.symm;exact .inr (.inl h.symm);exact .inl h.symm;exact .inr (.inr h);rintro(h|h|h)
 ·exact .inr (.inl h.symm)
 exact .inl h.symm;exact .inr (.inr (.inr (.inr h)))
theorem MI(h:w.1≠w.2.1):IZ (oB r w) p q↔IZ r p q∨(p=w.1/\q=w.2.1)∨(p=w.2.1/\q=w.1):=by
 unfold IZ;rw[VI h];by_cases x:w.2.1=p;rw[if_pos x,JP];constructor;rintro(e|e)
 ·exact .inr (.inr ⟨x.symm,e⟩)
 exact .inl e;rintro(e|⟨u,y⟩| ⟨u,y⟩)
 ·exact .inr e
 exact absurd (u.symm.trans x.symm) h;exact .inl y;rw[if_neg x];by_cases k:w.1=p;rw[if_pos k,JP];constructor;rintro(e|e)
 ·exact .inr (.inl ⟨k.symm,e⟩)
 exact .inl e;rintro(e|⟨u,y⟩| ⟨u,y⟩)
 ·exact .inr e
 exact .inl y;exact absurd u.symm x;rw[if_neg k];exact⟨.inl,λz=>z.elim id λz=>z.elim (λe=>absurd e.1.symm k) λe=>absurd e.1.symm x⟩
def UG(w:Wy):Prop:=EZ w.1 w.2.1/\0<w.2.2
theorem N3(g:UG w)(y:Pos r):Pos (oB r w):=by intro p e h;rw[VI (xG g.1)]at h;by_cases k:w.2.1=p;rw[if_pos k]at h;rcases mI h with z|z;rw[z,<- k];exact⟨λx=>absurd x (wg 0),λx=>absurd x (cF g.1)⟩;exact y p e z;rw[if_neg k]at h;by_cases u:w.1=p;rw[if_pos u]at h;rcases mI h with z|z;rw[z,<- u];exact⟨λ_=>g.1,λ_=>g.2⟩;exact y p e z;rw[if_neg u]at h;exact y p e h
theorem S6(g:UG w)(x:j8 r):j8 (oB r w):=by
 intro p q h;rw[bG];rcases(MI (xG g.1)).mp h with h|⟨_,h⟩| ⟨_,h⟩
 exact .inr (.inr (x p q h));exact .inr (.inl h);exact .inl h
theorem NL{α:Type}{w:α}{l:List (Pt×α)}{n:Nat}(h:l.length<=n):(put l p w).length<=n+1:=QV NW (by omega)
theorem ZP{α:Type}{p:Pt}{w:α}:∀{l:List (Pt×α)},(look l p).isSome=true->(put l p w).length=l.length
 |[],h=>by cases h|e::l,h=>by by_cases c:e.1=p;rw[show put (e::l) p w=(e.1,w)::l from if_pos c];rfl;rw[show put (e::l) p w=e::put l p w from if_neg c,QM,QM];rw[show look (e::l) p=look l p from if_neg c]at h;rw[ZP h]
theorem JS(h:Key r p):(look r p).isSome=true:=by obtain⟨l,e⟩:=h;rw[e];rfl
theorem G5:(oB r w).length<=r.length+2:=by have x:Key (sdf (sdf r w.1) w.2.1) w.1:=ID.mpr (.inr (ID.mpr (.inl rfl)));have h:Key (sdf (sdf r w.1) w.2.1) w.2.1:=ID.mpr (.inl rfl);unfold oB;rw[ZP (JS (UI.mpr (.inr h))),ZP (JS x)];have:=sP (r:=r) (p:=w.1);have:=sP (r:=sdf r w.1) (p:=w.2.1);omega
theorem vI{n:Nat}(g:w.1≠w.2.1)(h:Sz r n):Sz (oB r w) (n+2):=by
 refine⟨QV G5 (by have:=h.1;omega),λp=>?_⟩;rw[VI g];have x:=h.2 p;split;exact QV (NL x) (by omega);split
 ·exact QV (NL x) (by omega)
 omega
theorem BX:∀{ws:List Wy}{r:Rm},(∀w∈ws,UG w)->∀{p q:Pt},IZ (ws.foldl oB r) p q↔IZ r p q∨(∃v,(p,q,v)∈ws)∨∃v,(q,p,v)∈ws
 |[],r,_,p,q=>⟨.inl,λz=>z.elim id λz=>z.elim (λ⟨_,z⟩=>(nomatch z)) λ⟨_,z⟩=>(nomatch z)⟩
 |w::ws,r,h,p,q=>by
  rw[QAC,BX (λw x=>h w (QE _ x)),MI (xG (h w QF).1)];constructor;rintro((z|⟨rfl,rfl⟩| ⟨rfl,rfl⟩)|⟨v,z⟩| ⟨v,z⟩)
  ·exact .inl z
  exact .inr (.inl ⟨_,QF⟩);exact .inr (.inr ⟨_,QF⟩);exact .inr (.inl ⟨v,QE _ z⟩);exact .inr (.inr ⟨v,QE _ z⟩);rintro(z|⟨v,z⟩| ⟨v,z⟩)
  ·exact .inl (.inl z)
  rcases QL.mp z with z|z
  ·rw[<- z]
   exact .inl (.inr (.inl ⟨rfl,rfl⟩))
  exact .inr (.inl ⟨v,z⟩);rcases QL.mp z with z|z
  ·rw[<- z]
   exact .inl (.inr (.inr ⟨rfl,rfl⟩))
  exact .inr (.inr ⟨v,z⟩)
theorem OT:∀{ws:List Wy}{r:Rm}{n:Nat},(∀w∈ws,UG w)->Pos r->j8 r->Key r VA->Sz r n->Pos (ws.foldl oB r)/\j8 (ws.foldl oB r)/\Key (ws.foldl oB r) VA/\Sz (ws.foldl oB r) (n+2 * ws.length)
 |[],r,n,_,h1,h2,h3,h4=>⟨h1,h2,h3,h4⟩|w::ws,r,n,h,h1,h2,h3,h4=>by have g:=h w QF;have:=OT (ws:=ws) (r:=oB r w) (n:=n+2) (λw x=>h w (QE _ x)) (N3 g h1) (S6 g h2) (bG.mpr (.inr (.inr h3))) (vI (xG g.1) h4);rw[QAC,QM,show n+2 * (ws.length+1)=n+2+2 * ws.length by omega];exact this
def zR(g:Str)(n:Str):List Wy:=if n=g then[] else[(tO n,fR n,1),(VA,tO n,2)]
noncomputable def uU(g:Str)(e:Str×Str):List Wy:=if e.1=g∨e.1=e.2 then[] else[(tO e.1,fR e.1,1),(tO e.2,fR e.2,1),(fR e.1,tO e.2,2)]
def xH:Rm:=[(VA,[])]
def jA(es:dC)(st:LS)(g:Str):Rm:=(es.flatMap (uU g)).foldl oB ((st.flatMap (zR g)).foldl oB xH)
theorem cr:(0:Int)<1:=by decide
theorem gv:(0:Int)<2:=by decide
theorem nW:(zR g n).length<=2:=by unfold zR;split;exact Qs _;exact QS _
theorem pW:(uU g e).length<=3:=by unfold uU;split;exact Qs _;exact QS _
theorem cL:∀w∈zR g n,UG w:=by
 intro w h;unfold zR at h;split at h;exact(nomatch h);rcases QL.mp h with rfl|h
 ·exact⟨.inr (.inl ⟨n,rfl,rfl⟩),cr⟩
 rw[QJ.mp h];exact⟨.inl ⟨rfl,n,rfl⟩,gv⟩
theorem dL:∀w∈uU g e,UG w:=by
 intro w x;unfold uU at x;split at x;exact(nomatch x);rename_i h;rcases QL.mp x with rfl|x;exact⟨.inr (.inl ⟨e.1,rfl,rfl⟩),cr⟩;rcases QL.mp x with rfl|x
 ·exact⟨.inr (.inl ⟨e.2,rfl,rfl⟩),cr⟩
 rw[QJ.mp x];exact⟨.inr (.inr ⟨e.1,e.2,λz=>h (.inr z),rfl,rfl⟩),gv⟩
theorem BM{α:Type}{f:α->List Wy}{k:Nat}(h:∀x,(f x).length<=k):∀(l:List α),(l.flatMap f).length<=k * l.length
 |[]=>QS _|x::l=>by have:=BM h l;have:=h x;rw[We,QI,QM,Nat.mul_succ];omega
theorem SG{α:Type}{f:α->List Wy}(h:∀x,∀w∈f x,UG w)(l:List α):∀w∈l.flatMap f,UG w:=λw z=>by obtain⟨x,_,y⟩:=wn.mp z;exact h x w y
structure RmOk(r:Rm)(n:Nat):Prop where
 pos:Pos r
 dom:j8 r
 bg:Key r VA
 sz:Sz r n
theorem YE:RmOk xH 1:=by
 have e:∀p,lk xH p=[]:=λp=>by show(if VA=p then some [] else none).getD []=[];split<;>rfl
 refine⟨λp y x=>?_,λp q ⟨v,h⟩=>?_,⟨[],if_pos rfl⟩,QS _,λp=>?_⟩;rw[e]at x;exact(nomatch x);rw[e]at h;exact(nomatch h);rw[e];exact Qs _
theorem RmOk.add{r:Rm}{n:Nat}(h:RmOk r n){ws:List Wy}(g:∀w∈ws,UG w):RmOk (ws.foldl oB r) (n+2 * ws.length):=by obtain⟨u,z,y,x⟩:=OT g h.pos h.dom h.bg h.sz;exact⟨u,z,y,x⟩
theorem ER{es:dC}{st:LS}(z:es.length<=126)(y:st.length<=11):RmOk (jA es st g) 1000:=by have a:=(YE.add (SG (f:=zR g) (λ_=>cL) st)).add (SG (f:=uU g) (λ_=>dL) es);have x:=BM (f:=zR g) (k:=2) (λ_=>nW) st;have h:=BM (f:=uU g) (k:=3) (λ_=>pW) es;exact⟨a.pos,a.dom,a.bg,QV a.sz.1 (by omega),λp=>QV (a.sz.2 p) (by omega)⟩
def uf(r:Rm)(p q:Pt):Prop:=∃v,(q,v)∈lk r p/\0<v
inductive Rch(r:Rm):Pt->Prop
 |bg:Rch r VA
 |go {p q:Pt}:Rch r p->uf r p q->Rch r q
theorem Ao:(p,q,v)∈zR g n↔n≠g/\((p,q,v)=(tO n,fR n,1)∨(p,q,v)=(VA,tO n,2)):=by unfold zR;split;rename_i h;exact⟨λz=>(nomatch z),λz=>absurd h z.1⟩;rename_i h;rw[QL,QJ];exact⟨λz=>⟨h,z⟩,λz=>z.2⟩
theorem Eo:(p,q,v)∈uU g e↔(e.1≠g/\e.1≠e.2)/\((p,q,v)=(tO e.1,fR e.1,1)∨(p,q,v)=(tO e.2,fR e.2,1)∨(p,q,v)=(fR e.1,tO e.2,2)):=by unfold uU;split;rename_i h;exact⟨λz=>(nomatch z),λz=>h.elim (λh=>absurd h z.1.1) λh=>absurd h z.1.2⟩;rename_i h;rw[QL,QL,QJ];exact⟨λz=>⟨⟨λe=>h (.inl e),λe=>h (.inr e)⟩,z⟩,λz=>z.2⟩
theorem BE{cut:LS}{s:Str}:Db g cut s=true↔s≠g/\s∉cut:=by unfold Db;rw[Qc,Q9,Q9,decide_eq_false_iff_not,decide_eq_false_iff_not]
end
section
variable{es:dC}{st:LS}{g:Str}{x:LS}
theorem aM{s:Str}(h:Led es st g x s):s≠g/\s∉x:=by
 cases h with|st _ h=>exact BE.mp h|ed _ _ h=>exact BE.mp h
end
section
variable{r:Rm}{ks:List Pt}{vs:List D}
theorem D1:∀{ws:List Wy}{r:Rm}{n:Nat},(∀w∈ws,UG w)->Sz r n->Sz (ws.foldl oB r) (n+2 * ws.length)
 |[],r,n,_,h4=>h4|w::ws,r,n,h,h4=>by have:=D1 (ws:=ws) (r:=oB r w) (n:=n+2) (λw x=>h w (QE _ x)) (vI (xG (h w QF).1) h4);rw[QAC,QM,show n+2 * (ws.length+1)=n+2+2 * ws.length by omega];exact this
inductive CF(r:Rm):List Pt->List D->Prop
 |bg:CF r [VA] [.none]
 |add {ks:List Pt}{vs:List D}{p q:Pt}:CF r ks vs->p∈ks->uf r p q->q∉ks->CF r (ks++[q]) (vs++[pr p])
theorem CF.len(h:CF r ks vs):vs.length=ks.length:=by
 induction h with|bg=>rfl|add _ _ _ _ x=>rw[QI,QI,x];rfl
theorem CF.hb(h:CF r ks vs):VA∈ks:=by
 induction h with|bg=>exact QF|add _ _ _ _ x=>exact Qo _ x
theorem CF.rch(h:CF r ks vs):∀k∈ks,Rch r k:=by
 induction h with|bg=>intro k hk;rw[QJ.mp hk];exact .bg|add _ y w _ x=>intro k hk;rcases Qi.mp hk with z|z;exact x k z;rw[QJ.mp z];exact .go (x _ y) w
theorem CF.nd(h:CF r ks vs):ks.Nodup:=by
 induction h with
 |bg=>exact Qj.mpr ⟨λz=>(nomatch z),Q2⟩
 |add _ _ _ n x=>refine qj.mpr ⟨x,Qj.mpr ⟨λz=>(nomatch z),Q2⟩,λa y b hb z=>?_⟩;rw[QJ.mp hb]at z;exact n (z▸y)
theorem dI(x:j8 r)(hb:Key r VA){p:Pt}(h:Rch r p):Key r p:=by
 cases h with|bg=>exact hb|go _ w=>obtain⟨v,m,_⟩:=w;exact x _ _ ⟨v,m⟩
theorem tQ{p:Pt}{l:Inn}:∀{r:Rm},look r p=some l->p∈r.map (·.1)
 |[],h=>by cases h|e::r,h=>by by_cases c:e.1=p;rw[<- c];exact QF;rw[show look (e::r) p=look r p from if_neg c]at h;exact QE _ (tQ (r:=r) h)
theorem MG:∀{ks ns:List Pt},ks.Nodup->(∀s∈ks,s∈ns)->ks.length<=ns.length
 |[],_,_,_=>Qs _|s::r,ns,h,hs=>by obtain⟨v,u⟩:=Qj.mp h;have z:=hs s QF;have:=MG (ks:=r) (ns:=ns.erase s) u λx y=>(QBH (λ(e:x=s)=>v (e▸y))).mpr (hs x (QE _ y));rw[QAe z]at this;have w:=Wb z;rw[QM];omega
theorem CF.le(y:j8 r)(hb:Key r VA)(h:CF r ks vs):ks.length<=r.length:=by
 have:=MG (ns:=r.map (·.1)) h.nd λs x=>by obtain⟨l,e⟩:=dI y hb (h.rch s x);exact tQ e
 rw[QD]at this;exact this
structure Srch(r:Rm)(ks:List Pt)(vs:List D)(ws:List Pt):Prop where
 cf:CF r ks vs
 sub:∀w∈ws,w∈ks
 clo:∀k∈ks,k∉ws->∀q,uf r k q->q∈ks
structure Srch1(r:Rm)(here:Pt)(ks:List Pt)(vs:List D)(ws:List Pt)(l:Inn):Prop where
 cf:CF r ks vs
 sub:∀w∈ws,w∈ks
 clo:∀k∈ks,k∉ws->k≠here->∀q,uf r k q->q∈ks
 her:here∈ks
 don:∀e∈lk r here,0<e.2->e.1∈ks∨e∈l
 all:∀e∈l,e∈lk r here
end
section
variable{r:Rm}{ks ws:List Pt}{vs:List D}
theorem Hm:Srch r [VA] [.none] [VA]:=⟨.bg,λ_ h=>h,λk h n=>absurd h n⟩
theorem Srch.pop{w:Pt}(h:Srch r ks vs (w::ws)):Srch1 r w ks vs ws (lk r w):=by refine⟨h.cf,λx v=>h.sub x (QE _ v),λk hk n u=>h.clo k hk λz=>?_,h.sub w QF,λe y _=>.inr y,λe y=>y⟩;rcases QL.mp z with z|z;exact u z;exact n z
theorem Srch1.skip{y:Pt}{e:Pt×Int}{l:Inn}(h:Srch1 r y ks vs ws (e::l))(c:0<e.2->e.1∈ks):Srch1 r y ks vs ws l:=by
 refine⟨h.cf,h.sub,h.clo,h.her,λx u p=>?_,λx u=>h.all x (QE _ u)⟩;rcases h.don x u p with z|z;exact .inl z;rcases QL.mp z with z|z
 ·rw[z]at p ⊢;exact .inl (c p)
 exact .inr z
theorem Srch1.add{u:Pt}{e:Pt×Int}{l:Inn}(h:Srch1 r u ks vs ws (e::l))(c:0<e.2)(n:e.1∉ks):Srch1 r u (ks++[e.1]) (vs++[pr u]) (ws++[e.1]) l:=by
 have f:=h.all e QF;refine⟨h.cf.add h.her ⟨e.2,f,c⟩ n,λx v=>?_,λk hk a b q w=>?_,Qo _ h.her,λx v p=>?_,λx v=>h.all x (QE _ v)⟩;rcases Qi.mp v with z|z
 ·exact Qo _ (h.sub x z)
 exact Qb _ z;rcases Qi.mp hk with z|z
 ·exact Qo _ (h.clo k z (λy=>a (Qo _ y)) b q w)
 exact absurd (Qb _ z) a;rcases h.don x v p with z|z
 ·exact .inl (Qo _ z)
 rcases QL.mp z with z|z
 ·rw[z];exact .inl (Qb _ QF)
 exact .inr z
theorem Srch1.fin{x:Pt}(h:Srch1 r x ks vs ws []):Srch r ks vs ws:=by refine⟨h.cf,h.sub,λk hk n q w=>?_⟩;by_cases e:k=x;subst e;obtain⟨v,m,p⟩:=w;rcases h.don (q,v) m p with z|z;exact z;exact(nomatch z);exact h.clo k hk n e q w
theorem Srch.done(h:Srch r ks vs [])(p:Pt):p∈ks↔Rch r p:=by
 refine⟨h.cf.rch p,λz=>?_⟩;induction z with|bg=>exact h.cf.hb|go _ w x=>exact h.clo _ x (λz=>(nomatch z)) _ w
end
def eC(Q:T->LT->Prop):PEnds:={ nx:=λh=>CU (DA [0] h) (Q (.d .none)),rt:=λt h=>CU (DA [0] h) (Q t) }
theorem TJ{Ψ:PEv}{b:PT}{p:PSp}{N x:LS}{ds:LT}{Q:T->LT->Prop}(ρ:zA)(hl:ds.length=x.length)(hc:XB 0 p.md x.length=[0])(y:gB N p.md ds=ρ)(h:pF Ψ b (eC Q) ρ):ds.length=x.length/\pF Ψ b (ZD p x.length Q) (gB N p.md ds):=by
 have e:ZD p x.length Q=eC Q:=by unfold ZD;rw[hc];rfl
 rw[e,y];exact⟨hl,h⟩
def LZ(r:Rm)(h t:Pt)(v:Int):zA:=[oW (UA r),bD (pr h),bD (pr t),bD (.int v)]
section
variable{Ψ:PEv}{Z:PEnds}{q:PT}{r:Rm}{h t:Pt}{v:Int}
theorem Ku(hl:r.length<sizeLine)(k:pF Ψ q Z (LZ (sdf r h) h t v)):pF Ψ (.seq (.sdf 0 (.vz 1)) q) Z (LZ r h t v):=by delta LZ at k ⊢;simp_arith[↓vA];refine⟨rfl,CW hl ?_⟩;exact k
theorem Zu(hl:r.length<sizeLine)(k:pF Ψ q Z (LZ (sdf r t) h t v)):pF Ψ (.seq (.sdf 0 (.vz 2)) q) Z (LZ r h t v):=by delta LZ at k ⊢;simp_arith[↓vA];refine⟨rfl,CW hl ?_⟩;exact k
theorem Yu{l:Inn}(e:look r h=some l)(hl:l.length<sizeLine)(k:pF Ψ q Z (LZ (put r h (put l t v)) h t v)):pF Ψ (.seq (.six (.idx (.vz 0) (.vz 1)) (.vz 2) (.vz 3)) q) Z (LZ r h t v):=by delta LZ at k ⊢;simp_arith[↓vA];refine xI e λf x=>lP hl ?_;rw[x];exact k
theorem Ju{l:Inn}(e:look r t=some l)(hl:l.length<sizeLine)(k:pF Ψ q Z (LZ (put r t (put l h 0)) h t v)):pF Ψ (.seq (.six (.idx (.vz 0) (.vz 2)) (.vz 1) (.int 0)) q) Z (LZ r h t v):=by delta LZ at k ⊢;simp_arith[↓vA];refine xI e λf x=>lP hl ?_;rw[x];exact k
end
section
variable{r:Rm}{K:T->LT->Prop}{Ψ:PEv}
theorem UE{p:Pt}(h:Key r p):look r p=some (lk r p):=by obtain⟨l,e⟩:=h;unfold lk;rw[e];rfl
noncomputable def ND:PSp where
 md:=[.chg]
 run:=λx Q _=>∃(r:Rm) (w:Wy),x=[UA r,.d (pr w.1),.d (pr w.2.1),.d (.int w.2.2)]/\(w.1≠w.2.1/\Sz r 5000)/\Q (.d .none) [UA (oB r w)]
 mono:=λh _ z=>by obtain⟨r,w,e,l,q⟩:=z;exact⟨r,w,e,l,h _ _ q⟩
theorem GL(w:Wy){E:XE}(h:w.1≠w.2.1)(s:Sz r 5000)(q:K (.d .none) [UA (oB r w)]):aB ND [UA r,.d (pr w.1),.d (pr w.2.1),.d (.int w.2.2)] K E:=⟨r,w,rfl,⟨h,s⟩,q⟩
theorem Va(ds Q E)(h:ND.run ds Q E):kH Ψ EO ND uP jM ds Q:=by obtain⟨r,w,rfl,⟨u,x⟩,q⟩:=h;refine TJ (LZ r w.1 w.2.1 w.2.2) rfl rfl rfl ?_;have b:=x.1;have a:=sP (r:=r) (p:=w.1);have z:Key (sdf (sdf r w.1) w.2.1) w.1:=ID.mpr (.inr (ID.mpr (.inl rfl)));have y:Key (sdf (sdf r w.1) w.2.1) w.2.1:=ID.mpr (.inl rfl);have k:=x.2 w.1;have v:=x.2 w.2.1;refine Ku (by omega) (Zu (by omega) (Yu (UE z) (by rw[cE,cE];omega) (Ju (UE (UI.mpr (.inr y))) (by rw[dE,if_neg u,cE,cE];omega) ?_)));exact q
noncomputable def yF:PSp where
 md:=[.chg]
 run:=λx Q _=>∃(r:Rm) (n:Str),x=[UA r,.d (.str n)]/\Sz r 5000/\Q (.d .none) [UA (oB r (tO n,fR n,1))]
 mono:=λh _ z=>by obtain⟨r,w,e,l,q⟩:=z;exact⟨r,w,e,l,h _ _ q⟩
theorem HL{n:Str}{E:XE}(s:Sz r 5000)(q:K (.d .none) [UA (oB r (tO n,fR n,1))]):aB yF [UA r,.d (.str n)] K E:=⟨r,n,rfl,s,q⟩
theorem Xa(y:Ψ.sp "add_way"=ND)(ds Q E)(h:yF.run ds Q E):kH Ψ EH yF lN rK ds Q:=by obtain⟨r,n,rfl,x,q⟩:=h;refine TJ [oW (UA r),bD (.str n)] rfl rfl rfl ?_;delta EH;simp_arith[↓EG (md:=[]) y rfl rfl];refine⟨by omega,by omega,?_⟩;exact GL (tO n,fR n,1) GA x ⟨_,rfl,q⟩
noncomputable def RZ(es:dC)(st:LS)(g:Str)(r:Rm)(o4 o5 o6:Option Sl):zA:=[bD (.list (es.map pr)),bD (.tuple (st.map PyData.str)),bD (.str g),oW (UA r),o4,o5,o6]
end
section
variable{Ψ:PEv}{Z:PEnds}{es:dC}{st:LS}{g:Str}{r:Rm}
theorem Hs(h:Ψ.va "BEGIN"=some (pr VA)){q:PT}{o3 o4 o5 o6:Option Sl}(k:pF Ψ q Z (RZ es st g xH o4 o5 o6)) :
  pF Ψ (.seq (.own 3 (.dsp (.glo "BEGIN") (.dnew true))) q) Z [bD (.list (es.map pr)),bD (.tuple (st.map PyData.str)),bD (.str g),o3,o4,o5,o6]:=by
 simp_arith[↓tH h];exact⟨PB VA,k⟩
theorem Ds(b:Ψ.sp "add_name"=yF)(a:Ψ.sp "add_way"=ND)(v:Ψ.va "BEGIN"=some (pr VA))(u:Ψ.va "WIDE"=some (.int 2)){n:Str}{o5 o6:Option Sl}(h:Sz r 4900)(k:Z.nx (RZ es st g ((zR g n).foldl oB r) (bD (.str n)) o5 o6)) :
  pF Ψ oF Z (RZ es st g r (bD (.str n)) o5 o6):=by
 delta RZ at k ⊢;delta oF;simp_arith[↓tH v,↓tH u,↓EG (md:=[]) b rfl rfl,↓EG (md:=[]) a rfl rfl];by_cases e:n=g;rw[dT e];unfold zR at k;rw[if_pos e]at k;exact k;rw[dF e];unfold zR at k;rw[if_neg e]at k;have z:Sz r 5000:=⟨QV h.1 (by omega),λp=>QV (h.2 p) (by omega)⟩
 have x:=vI (w:=(tO n,fR n,1)) GA h;have y:Sz (oB r (tO n,fR n,1)) 5000:=⟨QV x.1 (by omega),λp=>QV (x.2 p) (by omega)⟩
 refine HL z ⟨_,rfl,?_⟩;refine⟨by omega,?_⟩;exact GL (VA,tO n,2) MB y ⟨_,rfl,k⟩
theorem Cs(j:Ψ.sp "add_name"=yF)(i:Ψ.sp "add_way"=ND)(f:Ψ.va "WIDE"=some (.int 2)){a b:Str}{o4:Option Sl}(y:Sz r 4900)(k:Z.nx (RZ es st g ((uU g (a,b)).foldl oB r) o4 (bD (.str a)) (bD (.str b)))) :
  pF Ψ nF Z (RZ es st g r o4 (bD (.str a)) (bD (.str b))):=by
 delta RZ at k ⊢;delta nF;simp_arith[↓tH f,↓EG (md:=[]) j rfl rfl,↓EG (md:=[]) i rfl rfl];unfold uU at k;by_cases e:a=g;rw[dT e];rw[if_pos (.inl e)]at k;exact k;rw[dF e];by_cases h:a=b;rw[dT h];rw[if_pos (.inr h)]at k;exact k;rw[dF h];rw[if_neg (λz=>z.elim e h)]at k;have v:Sz r 5000:=⟨QV y.1 (by omega),λp=>QV (y.2 p) (by omega)⟩
 have x:=vI (w:=(tO a,fR a,1)) GA y;have u:=vI (w:=(tO b,fR b,1)) GA x;refine HL v ⟨_,rfl,?_⟩;refine HL ⟨QV x.1 (by omega),λp=>QV (x.2 p) (by omega)⟩ ⟨_,rfl,?_⟩;refine⟨by omega,by omega,?_⟩;exact GL (fR a,tO b,2) GA.symm ⟨QV u.1 (by omega),λp=>QV (u.2 p) (by omega)⟩ ⟨_,rfl,k⟩
end
section
variable{E:XE}{Ψ:PEv}{r:Rm}{p q:Pt}{l:Inn}{n m:Bool}{R:T->Prop}{W:LT->Prop}{ρ:zA}{b:PX}{M:List (T×Bool)->zA->Prop}{md:List Md}{ks:List Pt}{vs:List D}
noncomputable def sE:PSp where
 md:=[]
 run:=λy Q _=>∃(x:dC) (st:LS) (g:Str),y=[.d (.list (x.map pr)),.d (.tuple (st.map PyData.str)),.d (.str g)]/\(x.length<=126/\st.length<=11)/\Q (UA (jA x st g)) []
 mono:=λh _ z=>by obtain⟨x,st,g,e,l,q⟩:=z;exact⟨x,st,g,e,l,h _ _ q⟩
theorem rY{es:dC}{st:LS}{g:Str}{K:T->LT->Prop}(x:es.length<=126)(h:st.length<=11)(q:K (UA (jA es st g)) []):aB sE [.d (.list (es.map pr)),.d (.tuple (st.map PyData.str)),.d (.str g)] K E:=⟨es,st,g,rfl,⟨x,h⟩,q⟩
theorem LY(X:Ψ.sp "add_name"=yF)(o:Ψ.sp "add_way"=ND)(j:Ψ.va "BEGIN"=some (pr VA))(i:Ψ.va "WIDE"=some (.int 2))(ds Q E)(h:sE.run ds Q E):kH Ψ RM sE xN fK ds Q:=by obtain⟨x,st,g,rfl,⟨Z,Y⟩,q⟩:=h;refine gA [bD (.list (x.map pr)),bD (.tuple (st.map PyData.str)),bD (.str g),none,none,none,none] rfl rfl rfl ?_;refine Hs j ?_;delta RZ;simp_arith[↓vA];rw[<- nA];refine jB (λ(s:Str)=>T.d (.str s)) (λl ρ=>∃r u,RmOk r (1+4 * (11 - l.length))/\l.length<=11/\(l.flatMap (zR g)).foldl oB r=(st.flatMap (zR g)).foldl oB xH/\ρ=RZ x st g r u none none) ?_ ?_ _ _ ⟨xH,_,?_,Y,rfl,rfl⟩;rintro ρ ⟨r,u,ok,_,e,rfl⟩;have e:r=(st.flatMap (zR g)).foldl oB xH:=e;delta RZ;simp_arith[↓vA];rw[<- nA];refine jB (λ(p:Str×Str)=>T.d (pr p)) (λl ρ=>∃r w v,Sz r (45+6 * (126 - l.length))/\l.length<=126/\(l.flatMap (uU g)).foldl oB r=jA x st g/\ρ=RZ x st g r (iM u) w v) ?_ ?_ _ _ ⟨r,_,_,?_,Z,by rw[e];rfl,rfl⟩;rintro ρ ⟨r,w,v,_,_,e,rfl⟩;have e:r=jA x st g:=e;subst e;delta RZ;simp_arith[↓vA];exact q;rintro⟨a,b⟩ l ρ N f ⟨r,w,v,s,k,e,rfl⟩;rw[QM]at s k;rw[We,QAf]at e;refine FF.mk rfl ?_;refine Cs (a:=a) (b:=b) X o i ⟨QV s.1 (by omega),λp=>QV (s.2 p) (by omega)⟩ (f _ ⟨_,_,_,?_,by omega,e,rfl⟩);have z:Sz ((uU g (a,b)).foldl oB r) (45+6 * (126 - (l.length+1))+2 * (uU g (a,b)).length):=D1 dL s;have y:=pW (g:=g) (e:=(a,b));exact⟨QV z.1 (by omega),λp=>QV (z.2 p) (by omega)⟩;exact⟨QV ok.sz.1 (by rw[wO];omega),λp=>QV (ok.sz.2 p) (by rw[wO];omega)⟩;rintro s l ρ N f ⟨r,u,ok,k,e,rfl⟩;rw[QM]at ok k;rw[We,QAf]at e;refine Ds (n:=s) X o j i ⟨QV ok.sz.1 (by omega),λp=>QV (ok.sz.2 p) (by omega)⟩ (f _ ⟨_,_,?_,by omega,e,rfl⟩);have z:=ok.add (ws:=zR g s) cL;have y:=nW (g:=g) (n:=s);exact⟨z.pos,z.dom,z.bg,QV z.sz.1 (by omega),λp=>QV (z.sz.2 p) (by omega)⟩;exact⟨YE.pos,YE.dom,YE.bg,QV YE.sz.1 (by omega),λp=>QV (YE.sz.2 p) (by omega)⟩
def eV(l:Inn):D:=.dict (l.map λe=>(pr e.1,.int e.2))
def Ni(r:Rm):List (D×D):=r.map λe=>(pr e.1,eV e.2)
theorem fZ(h:look r p=some l):JD (Ni r)=some true:=by
 cases r with|nil=>cases h|cons e r=>rfl
theorem j6(l:Inn):(l.map λe=>(pr e.1,PyData.int e.2))=[]∨JD (l.map λe=>(pr e.1,PyData.int e.2))=some true:=by
 cases l with|nil=>exact .inl rfl|cons e r=>exact .inr rfl
theorem Kg(h:Key r p)(k:R (.d (eV (lk r p)))):FA (.d (.dict (Ni r))) n (.d (pr p)) m R:=by
 have e:=UE h;obtain⟨i,u,y,_⟩:=YC (λl=>T.d (eV l)) e;have w:(Ni r).map (·.1)=OC r:=by unfold Ni OC;rw[QY];rfl
 refine El (fZ e) (PB p) (by rw[w];exact u) ?_ k;have v:(Ni r).map (·.2)=r.map λe=>eV e.2:=by unfold Ni;rw[QY];rfl
 rw[v];rw[QT]at y ⊢;cases z:r[i]? with|none=>rw[z]at y;cases y|some x=>rw[z]at y;injection y with y;injection y with y;show some (eV x.2)=_;rw[y]
theorem gm:IK .itm [(.d (eV l),n)] W=W (l.map λe=>.d (.tuple [pr e.1,.int e.2])):=by unfold eV;rw[cm (j6 l),QY];rfl
theorem IH{K:TK}:k8 (UA r) false Ψ b E ρ K=pB Ψ b E (lockA ρ) λy m _=>K y m ρ:=rfl
theorem IX{K:TK}:k8 (YD l) false Ψ b E ρ K=pB Ψ b E (lockA ρ) λy m _=>K y m ρ:=rfl
theorem IQ:v8 (UA r) false Ψ b E md ρ M=kM Ψ b E md (lockA ρ) λxs _=>M xs ρ:=rfl
theorem R7:v8 (YD l) false Ψ b E md ρ M=kM Ψ b E md (lockA ρ) λxs _=>M xs ρ:=rfl
def Uc(t:T)(r:Rm):Prop:=t=UA r∨t=.d (.dict (Ni r))
theorem Il{b:Bool}{ks:List D}{ts:LT}{n m:Bool}{k:D}{l:Nat}{t:T}(z:HD b k)(y:bA ks k=some l)(x:ts[l]?=some t)(h:R t):FA (.dct b ks ts) false (.d k) m R:=.inr ⟨b,ks,ts,l,t,rfl,z,y,x,h⟩
theorem EE(h:Key r p)(k:R (YD (lk r p))):FA (UA r) false (.d (pr p)) m R:=by obtain⟨i,y,x,_⟩:=YC YD (UE h);exact Il (n:=false) (PB p) y x k
theorem cP{v:Int}(h:look l p=some v)(k:R (.d (.int v))):FA (YD l) false (.d (pr p)) m R:=by obtain⟨i,y,x,_⟩:=YC (λv:Int=>T.d (.int v)) h;exact Il (n:=false) (PB p) y x k
theorem aW(l:Inn):LF (l.map λe=>T.d (.int e.2))=some (l.map λe=>.int e.2):=by rw[show(l.map λe=>T.d (.int e.2))=(l.map λe=>PyData.int e.2).map T.d by rw[QY];rfl,YA]
theorem Cg:IK .itm [(YD l,false)] W=W (l.map λe=>.d (.tuple [pr e.1,.int e.2])):=by
 refine(VS _ _).trans ?_;have e:((OC l).zip (l.map λe=>PyData.int e.2)).map (λp=>T.d (.tuple [p.1,p.2]))=l.map λe=>T.d (.tuple [pr e.1,.int e.2]):=by unfold OC;rw[List.zip_map',QY];rfl
 refine propext ⟨λ⟨x,h,k⟩=>?_,λk=>⟨_,aW l,by rw[e];exact k⟩⟩;rw[aW]at h;cases h;rw[e]at k;exact k
theorem J8{a:PX}:IG (.idx a b)=IG a:=rfl
theorem Vk:TQ [(YD l,false)]=false:=rfl
def g8(ks:List Pt)(vs:List D):T:=.dct true (ks.map pr) (vs.map T.d)
theorem KP:pr q∈ks.map pr↔q∈ks:=by constructor;intro h;obtain⟨x,y,e⟩:=QZ.mp h;rw[<- VP e];exact y;exact QBW
theorem LI(ks:List Pt)(q:Pt):(bA (ks.map pr) (pr q)).isSome=decide (q∈ks):=by rw[qD,DV,KP,decide_eq_true_iff]
theorem Ng{x:D}{Q:T->Prop}(n:q∉ks)(hl:ks.length<sizeLine)(k:Q (g8 (ks++[q]) (vs++[x]))):Ic (g8 ks vs) (.d (pr q)) (.d x) Q:=by refine⟨PB q,by rw[QD];exact hl,?_⟩;show Q (CJ true (ks.map pr) (vs.map T.d) (pr q) (.d x));unfold CJ;rw[AA.mpr (λz=>n (KP.mp z))];unfold g8 at k;rw[QO,QO]at k;exact k
theorem Pj{L:Bool->Prop}:iB .NotIn (.d (pr q)) (g8 ks vs) L=L (!decide (q∈ks)):=by unfold g8;rw[OM,LI];exact propext ⟨λh=>h.2,λh=>⟨PB q,h⟩⟩
noncomputable def nO(h:T)(ks:List Pt)(vs:List D)(ws:List Pt)(o3 o4 o5:Option Sl):zA:=[some (.ky h),some (.own (g8 ks vs)),some (.own (.lst ((ws.map pr).map T.d))),o3,o4,o5]
end
section
variable{Ψ:PEv}{Z:PEnds}{x:T}{r:Rm}{ks ws:List Pt}{vs:List D}
section
variable{w:Pt}{o3 o4 o5:Option Sl}
theorem Ss{p q:Pt}{v:Int}(hl:ks.length<sizeLine)(a:ws.length<sizeLine)(u:(0<v->q∈ks)->Z.nx (nO x ks vs ws (bD (pr p)) (bD (pr q)) (bD (.int v))))
  (k:0<v->q∉ks->Z.nx (nO x (ks++[q]) (vs++[pr p]) (ws++[q]) (bD (pr p)) (bD (pr q)) (bD (.int v)))) :
  pF Ψ EA Z (nO x ks vs ws (bD (pr p)) (bD (pr q)) (bD (.int v))):=by
 delta nO at u k ⊢;delta EA;simp_arith[↓Pj];by_cases h:0<v;rw[dT h];by_cases y:q∈ks;rw[dT y];exact u λ_=>y;rw[dF y];simp only[WA,↓reduceIte];refine Ng y hl ?_;refine⟨by rw[QD,QD];exact a,?_⟩;have:=k h y;rw[QO,QO]at this;exact this;rw[dF h];exact u λz=>absurd z h
theorem Jh{q:PT}(k:pF Ψ q Z (nO x ks vs ws (bD (pr w)) o4 o5)) :
  pF Ψ (.seq (.set 3 (.mt .pop (.vz 2) %[.int 0|1])) q) Z (nO x ks vs (w::ws) o3 o4 o5):=by
 delta nO at k ⊢;simp_arith[↓vA];refine⟨0,.d (pr w),?_,rfl,rfl,k⟩;unfold dU;rw[if_pos (by decide),if_pos (by rw[QD,QD,QM];omega)];rfl
theorem Yh(y:Uc x r)(hk:Key r w)
  (k:LH (pF Ψ EA) (.tp [4,5]) { Z with nx:=λh=>Z.nx (kill [4,5] h) } ((lk r w).map λe=>T.d (.tuple [pr e.1,.int e.2])) (nO x ks vs ws (bD (pr w)) o4 o5)) :
  pF Ψ %[.for_ (.tp [4,5]) .itm %[.idx (.vz 0) (.vz 3)|1] EA|2] Z (nO x ks vs ws (bD (pr w)) o4 o5):=by
 rcases y with rfl|rfl;delta nO at k ⊢;simp_arith[↓IH];refine EE hk ?_;simp_arith[↓R7,↓Cg,Vk,J8];exact k;delta nO at k ⊢;simp_arith[↓vA];refine Kg hk ?_;simp_arith[↓gm];exact k
theorem Rs(m:Uc x r)(a:j8 r)(hb:Key r VA)(W:r.length<=1000)(h:Srch r ks vs (w::ws))(K:2 * (r.length - ks.length)+ws.length+1<=3000)
  (o:∀z u y o3 o4 o5,Srch r z u y->2 * (r.length - z.length)+y.length<=2 * (r.length - ks.length)+ws.length->Z.nx (nO x z u y o3 o4 o5)) :
  pF Ψ BD Z (nO x ks vs (w::ws) o3 o4 o5):=by
 have A:sizeLine=16777216:=Q8;refine Jh ?_;have X:=h.pop;have hk:Key r w:=dI a hb (h.cf.rch w (h.sub w QF));refine Yh m hk ?_;refine jB (λ(e:Pt×Int)=>T.d (.tuple [pr e.1,.int e.2])) (λl k=>∃z u y o4 o5,Srch1 r w z u y l/\2 * (r.length - z.length)+y.length<=2 * (r.length - ks.length)+ws.length/\k=nO x z u y (bD (pr w)) o4 o5) ?_ ?_ _ _ ⟨ks,vs,ws,_,_,X,QS _,rfl⟩;rintro k ⟨z,u,y,g,f,s,l,rfl⟩;exact o z u y _ (iM g) (iM f) s.fin l;rintro⟨q,v⟩ l k N i ⟨z,u,y,g,f,s,e,rfl⟩;refine FF.mk rfl ?_;have Y:=s.cf.le a hb;refine Ss (p:=w) (q:=q) (v:=v) (by omega) (by omega) (λc=>i _ ⟨z,u,y,_,_,s.skip c,e,rfl⟩) λc n=>?_;have b:=s.add c n;have j:=b.cf.le a hb;rw[QI,qF]at j;exact i _ ⟨_,_,_,_,_,b,by rw[QI,QI,qF];omega,rfl⟩
theorem Ts(h:Ψ.va "BEGIN"=some (pr VA)){q:PT}(k:pF Ψ q Z (nO x [VA] [.none] [VA] none none none)) :
  pF Ψ (.seq (.own 1 (.dsp (.glo "BEGIN") .non)) (.seq (.own 2 (.lst %[.glo "BEGIN"|1])) q)) Z [some (.ky x),none,none,none,none,none]:=by
 have y:sizeLine=16777216:=Q8;simp_arith[↓tH h];exact⟨PB VA,by omega,k⟩
end
end
theorem zI{Ψ:PEv}{E:XE}{c:PX}{q:PT}{Z:PEnds}{ρ:zA}(W:Nat->zA->Prop)(m:Nat)(u:W m ρ)(z:∀m ρ,W m ρ->sN Ψ c E ρ λb x=>if b=true then cB Ψ E q { Z with nx:=λh=>∃y,y < m/\W y h,ct:=λh=>∃y,y < m/\W y h,bk:=Z.nx } x else Z.nx x):ym Ψ E c q Z ρ:=⟨W,⟨m,u⟩,z⟩
noncomputable def pD:PSp where
 md:=[.ky]
 run:=λv Q _=>∃(u:T) (r:Rm),v=[u]/\(Uc u r/\j8 r/\Key r VA/\r.length<=1000)/\∀x y,CF r x y->(∀p,p∈x↔Rch r p)->Q (g8 x y) []
 mono:=λh _ z=>by obtain⟨u,r,e,l,q⟩:=z;exact⟨u,r,e,l,λx y a b=>h _ _ (q x y a b)⟩
theorem cO{h:T}{r:Rm}{K:T->LT->Prop}{E:XE}(u:Uc h r)(z:j8 r)(y:Key r VA)(x:r.length<=1000)(q:∀ks vs,CF r ks vs->(∀p,p∈ks↔Rch r p)->K (g8 ks vs) []):aB pD [h] K E:=⟨h,r,rfl,⟨u,z,y,x⟩,q⟩
theorem C4{Ψ:PEv}(l:Ψ.va "BEGIN"=some (pr VA))(ds Q E)(h:pD.run ds Q E):kH Ψ ME pD RE OD ds Q:=by
 obtain⟨a,r,rfl,⟨n,j,hb,i⟩,q⟩:=h;refine gA [some (.ky a),none,none,none,none,none] rfl rfl rfl ?_;refine Ts l ?_;delta nO;simp_arith[↓vA];refine zI (λm k=>m<=3000/\∃x y ws o3 o4 o5,Srch r x y ws/\m=2 * (r.length - x.length)+ws.length/\k=nO a x y ws o3 o4 o5) (2 * (r.length - 1)+1) ⟨by omega,[VA],[.none],[VA],none,none,none,Hm,rfl,rfl⟩ ?_;rintro m k ⟨p,x,y,ws,o3,o4,o5,s,e,rfl⟩;cases ws with|nil=>delta nO;simp_arith[QD];rw[dF (by omega)];simp_arith[↓vA];exact q x y s.cf s.done|cons w ws=>rw[QM]at e;have b:=λ(Z:PEnds) g=>Rs (Ψ:=Ψ) (Z:=Z) (o3:=o3) (o4:=o4) (o5:=o5) n j hb i s (by omega) g;unfold nO at b;delta nO;simp_arith[QD];rw[dT (by omega)];refine b _ λv u z o3 o4 o5 f o=>⟨_,by omega,by omega,v,u,z,o3,o4,o5,f,rfl,rfl⟩
theorem Jk{α:Type}{x:α}{r:List α}:pE (x::r) 0=some x:=yE (j:=0) rfl
theorem Vu{α:Type}{x y:α}{r:List α}:pE (x::y::r) 1=some y:=yE (j:=1) rfl
def sm:List Pt->(Pt->Int)->Int
 |[],_=>0|x::l,f=>f x+sm l f
section
variable{f g:Pt->Int}
theorem SA:∀{l:List Pt},(∀x∈l,f x=g x)->sm l f=sm l g
 |[],_=>rfl|x::l,h=>by show f x+sm l f=g x+sm l g;rw[h x QF,SA λy z=>h y (QE _ z)]
theorem ZH:∀(l:List Pt),sm l (λx=>f x+g x)=sm l f+sm l g
 |[]=>rfl|x::l=>by show f x+g x+sm l _=f x+sm l f+(g x+sm l g);rw[ZH l];omega
theorem JJ:∀(l:List Pt),sm l (λx=>- f x)=- sm l f
 |[]=>rfl|x::l=>by show - f x+sm l _=- (f x+sm l f);rw[JJ l];omega
theorem FG:∀(l:List Pt),sm l (λ_=>0)=0
 |[]=>rfl|x::l=>by show 0+sm l _=0;rw[FG l];rfl
theorem vO:∀{l:List Pt},(∀x∈l,0<=f x)->0<=sm l f
 |[],_=>QCY _|x::l,h=>by have v:=h x QF;have u:=vO (l:=l) λy z=>h y (QE _ z);show 0<=f x+sm l f;omega
theorem YH:∀{l:List Pt},(∀x∈l,0<=f x)->∀{y:Pt},y∈l->f y<=sm l f
 |x::l,h,y,z=>by have w:=h x QF;have u:∀y∈l,0<=f y:=λy z=>h y (QE _ z);show f y<=f x+sm l f;rcases QL.mp z with e|e;have v:=vO u;rw[e];omega;have v:=YH u e;omega
theorem J2:∀{l:List Pt},(∀x∈l,0<=f x)->∀{y z:Pt},y∈l->z∈l->y≠z->f y+f z<=sm l f
 |x::l,h,y,z,v,hz,ne=>by
  have a:=h x QF;have w:∀y∈l,0<=f y:=λy v=>h y (QE _ v);show f y+f z<=f x+sm l f;rcases QL.mp v with e|e;rcases QL.mp hz with u|u
  ·exact absurd (e.trans u.symm) ne
  have k:=YH w u;rw[e];omega;rcases QL.mp hz with u|u
  ·have k:=YH w e
   rw[u];omega
  have k:=J2 w e u ne;omega
theorem Y2:∀{l:List Pt},0<sm l f->∃x∈l,0<f x
 |[],h=>absurd h (wg 0)|x::l,h=>by by_cases c:0<f x;exact⟨x,QF,c⟩;have h:0<f x+sm l f:=h;obtain⟨y,z,p⟩:=Y2 (l:=l) (by omega);exact⟨y,QE _ z,p⟩
theorem XW{k:Pt->Pt->Int}{m:List Pt}:∀(l:List Pt),sm l (λx=>sm m λy=>k x y)=sm m λy=>sm l λx=>k x y
 |[]=>(FG m).symm|x::l=>by show sm m (λy=>k x y)+sm l _=sm m λy=>k x y+sm l λx=>k x y;rw[XW l,ZH]
theorem mP{u:Pt}{k:Int}:∀{l:List Pt},u∉l->sm l (λx=>if x=u then k else 0)=0
 |[],_=>rfl|x::l,h=>by show(if x=u then k else 0)+sm l _=0;rw[if_neg (λ(e:x=u)=>h (e▸QF)),mP λz=>h (QE _ z)];rfl
theorem YJ{u:Pt}{k:Int}:∀{l:List Pt},l.Nodup->u∈l->sm l (λx=>if x=u then k else 0)=k
 |x::l,nd,h=>by obtain⟨v,y⟩:=Qj.mp nd;show(if x=u then k else 0)+sm l _=k;by_cases e:x=u;rw[if_pos e,mP (by rw[<- e];exact v)];omega;rw[if_neg e,YJ y ((QL.mp h).resolve_left λz=>e z.symm)];omega
theorem JR(p:Pt->Bool):∀(l:List Pt),sm l f=sm (l.filter p) f+sm (l.filter λx=>!p x) f
 |[]=>rfl|x::l=>by
  show f x+sm l f=_;rw[WF,WF,JR p l];cases p x with|true=>show _=(f x+sm (l.filter p) f)+sm (l.filter λx=>!p x) f;omega|false=>show _=sm (l.filter p) f+(f x+sm (l.filter λx=>!p x) f);omega
theorem R8{a:Pt->Pt->Int}(l:List Pt)(h:∀x∈l,∀y∈l,a x y=- a y x):sm l (λx=>sm l λy=>a x y)=0:=by
 have w:sm l (λx=>sm l λy=>a x y)=sm l λy=>sm l λx=>a x y:=XW l;have v:(sm l λy=>sm l λx=>a x y)=- sm l (λy=>sm l λx=>a y x):=by rw[<- JJ];refine SA λy z=>?_;rw[<- JJ];exact SA λx u=>h x u y z
 omega
end
section
variable{p q u v:Pt}{r:Rm}{w:Wy}{es:dC}{st:LS}{g:Str}
def rm(r:Rm)(p q:Pt):Int:=(look (lk r p) q).getD 0
def yI(r:Rm)(p q:Pt):Prop:=∃v,look (lk r p) q=some v
def Xc(r:Rm):Prop:=∀p,((lk r p).map (·.1)).Nodup
theorem NG{α:Type}{q:Pt}{v:α}:∀{l:List (Pt×α)},look l q=some v->(q,v)∈l
 |[],h=>by cases h|e::l,h=>by by_cases c:e.1=q;rw[show look (e::l) q=some e.2 from if_pos c]at h;injection h with h;rw[<- c,<- h];exact QF;rw[show look (e::l) q=look l q from if_neg c]at h;exact QE _ (NG h)
theorem JQ{α:Type}{q:Pt}{v:α}:∀{l:List (Pt×α)},(l.map (·.1)).Nodup->(q,v)∈l->look l q=some v
 |e::l,nd,h=>by obtain⟨k,y⟩:=Qj.mp nd;rcases QL.mp h with c|c;rw[<- c];exact if_pos rfl;have x:e.1≠q:=λz=>k (QZ.mpr ⟨(q,v),c,z.symm⟩);rw[show look (e::l) q=look l q from if_neg x];exact JQ y c
theorem put_keys{α:Type}{p:Pt}{w:α}:∀{l:List (Pt×α)},(put l p w).map (·.1)=if p∈l.map (·.1) then l.map (·.1) else l.map (·.1)++[p]
 |[]=>rfl|e::l=>by by_cases c:e.1=p;rw[show put (e::l) p w=(e.1,w)::l from if_pos c,if_pos (by rw[<- c];exact QF)];rfl;rw[show put (e::l) p w=e::put l p w from if_neg c];rw[QW,QW,put_keys];by_cases h:p∈l.map (·.1);rw[if_pos h,if_pos (QE _ h)];rw[if_neg h,if_neg (λz=>(QL.mp z).elim (λz=>c z.symm) h)];rfl
theorem GG{α:Type}{w:α}{l:List (Pt×α)}(h:(l.map (·.1)).Nodup):((put l p w).map (·.1)).Nodup:=by rw[put_keys];split;exact h;rename_i n;refine qj.mpr ⟨h,Qj.mpr ⟨λz=>(nomatch z),Q2⟩,λa x b hb z=>?_⟩;rw[QJ.mp hb]at z;exact n (z▸x)
theorem nU(nd:Xc r):uf r p q↔0<rm r p q:=by
 unfold uf rm;constructor;rintro⟨v,m,h⟩;rw[JQ (nd p) m];exact h;intro h;cases e:look (lk r p) q with|none=>rw[e]at h;exact absurd h (wg 0)|some v=>rw[e]at h;exact⟨v,NG e,h⟩
noncomputable def XY(r:Rm)(u v:Pt):Rm:=put (put r u (put (lk r u) v (rm r u v - 1))) v (put (lk (put r u (put (lk r u) v (rm r u v - 1))) v) u (rm (put r u (put (lk r u) v (rm r u v - 1))) v u+1))
theorem nV(h:u≠v)(p:Pt):lk (XY r u v) p=if v=p then put (lk r v) u (rm r v u+1) else if u=p then put (lk r u) v (rm r u v - 1) else lk r p:=by
 have e:rm (put r u (put (lk r u) v (rm r u v - 1))) v u=rm r v u:=by unfold rm;rw[dE,if_neg h]
 unfold XY;rw[e,dE,dE,dE,if_neg h]
theorem ZU(h:u≠v)(p q:Pt):rm (XY r u v) p q=rm r p q+(if p=v/\q=u then 1 else 0) - (if p=u/\q=v then 1 else 0):=by show(look (lk (XY r u v) p) q).getD 0=_;rw[nV h];by_cases y:v=p;rw[if_pos y,iD,if_neg (c:=p=u/\q=v) (λz=>h (z.1.symm.trans y.symm))];by_cases x:u=q;rw[if_pos x,if_pos ⟨y.symm,x.symm⟩,<- y,<- x];show rm r v u+1=rm r v u+1 - 0;omega;rw[if_neg x,if_neg (λz=>x z.2.symm),y];show rm r p q=rm r p q+0 - 0;omega;rw[if_neg y,if_neg (c:=p=v/\q=u) (λz=>y z.1.symm)];by_cases x:u=p;rw[if_pos x,iD];by_cases k:v=q;rw[if_pos k,if_pos ⟨x.symm,k.symm⟩,<- x,<- k];show rm r u v - 1=rm r u v+0 - 1;omega;rw[if_neg k,if_neg (λz=>k z.2.symm),x];show rm r p q=rm r p q+0 - 0;omega;rw[if_neg x,if_neg (λz=>x z.1.symm)];show rm r p q=rm r p q+0 - 0;omega
theorem fB:yI r p q↔IZ r p q:=by
 unfold yI IZ;constructor;rintro⟨v,h⟩;exact⟨v,NG h⟩;rintro⟨v,h⟩;generalize lk r p=l at h;induction l with
 |nil=>exact(nomatch h)
 |cons e l x =>
  by_cases c:e.1=q;exact⟨e.2,if_pos c⟩;rcases QL.mp h with z|z
  ·exact absurd (by rw[<- z]) c
  obtain⟨w,y⟩:=x z;exact⟨w,(show look (e::l) q=look l q from if_neg c).trans y⟩
theorem Yc(h:u≠v)(a:yI r u v)(k:yI r v u):yI (XY r u v) p q↔yI r p q:=by unfold yI;rw[nV h];by_cases y:v=p;rw[if_pos y,iD];by_cases x:u=q;rw[if_pos x,<- y,<- x];exact⟨λ_=>k,λ_=>⟨_,rfl⟩⟩;rw[if_neg x,y];rw[if_neg y];by_cases x:u=p;rw[if_pos x,iD];by_cases z:v=q;rw[if_pos z,<- x,<- z];exact⟨λ_=>a,λ_=>⟨_,rfl⟩⟩;rw[if_neg z,x];rw[if_neg x]
theorem Ha(h:u≠v)(nd:Xc r):Xc (XY r u v):=by
 intro p;rw[nV h];split;exact GG (nd v);split
 ·exact GG (nd u)
 exact nd p
theorem tP(h:¬ yI r p q):rm r p q=0:=by
 unfold rm;cases e:look (lk r p) q with|none=>rfl|some v=>exact absurd ⟨v,e⟩ h
def Hq(p q:Pt)(v:Int):Prop:=(∃n,p=tO n/\q=fR n/\v=1)∨(∃n,p=VA/\q=tO n/\v=2)∨(∃a b,a≠b/\p=fR a/\q=tO b/\v=2)∨(¬ EZ p q/\v=0)
def Nk(P:Pt->Pt->Int->Prop)(r:Rm):Prop:=∀p,∀e∈lk r p,P p e.1 e.2
theorem ZZ{P:Pt->Pt->Int->Prop}(a:w.1≠w.2.1)(f:P w.1 w.2.1 w.2.2)(b:P w.2.1 w.1 0)(h:Nk P r):Nk P (oB r w):=by intro p e x;rw[VI a]at x;by_cases k:w.2.1=p;rw[if_pos k]at x;rcases mI x with z|z;rw[z,<- k];exact b;exact h p e z;rw[if_neg k]at x;by_cases y:w.1=p;rw[if_pos y]at x;rcases mI x with z|z;rw[z,<- y];exact f;exact h p e z;rw[if_neg y]at x;exact h p e x
theorem BR(h:(r.map (·.1)).Nodup):((sdf r p).map (·.1)).Nodup:=by
 unfold sdf;cases e:look r p with|some v=>exact h|none=>show(List.map (λe:Pt×Inn=>e.1) (r++[(p,[])])).Nodup;rw[QO];refine qj.mpr ⟨h,Qj.mpr ⟨λz=>(nomatch z),Q2⟩,λa y b hb z=>?_⟩;have hb:b=p:=QJ.mp hb;rw[z,hb]at y;obtain⟨x,k,f⟩:=QZ.mp y;have:=JQ h (show(p,x.2)∈r by rw[<- f];exact k);rw[e]at this;cases this
theorem i5(x:w.1≠w.2.1)(h:Xc r):Xc (oB r w):=by
 intro p;rw[VI x];split;exact GG (h p);split
 ·exact GG (h p)
 exact h p
theorem IA:Key r p↔p∈r.map (·.1):=by
 constructor;rintro⟨l,e⟩;exact tQ e;intro h;induction r with
 |nil=>exact(nomatch h)
 |cons e r x =>
  by_cases c:e.1=p;exact⟨e.2,if_pos c⟩;rcases QL.mp h with z|z
  ·exact absurd z.symm c
  obtain⟨l,hl⟩:=x z;exact⟨l,(show look (e::r) p=look r p from if_neg c).trans hl⟩
structure Tbl0(r:Rm):Prop where
 ndk:(r.map (·.1)).Nodup
 ndi:Xc r
 cap:Nk Hq r
 kind:∀p,Key r p->p=VA∨∃n,p=tO n∨p=fR n
 sym:∀p q,IZ r p q->IZ r q p/\Key r p
theorem eS(h:EZ p q):(p=VA∨∃n,p=tO n∨p=fR n)/\(q=VA∨∃n,q=tO n∨q=fR n):=by
 rcases h with⟨h,n,e⟩| ⟨n,h,e⟩| ⟨a,b,_,h,e⟩
 exact⟨.inl h,.inr ⟨n,.inl e⟩⟩;exact⟨.inr ⟨n,.inl h⟩,.inr ⟨n,.inr e⟩⟩;exact⟨.inr ⟨a,.inr h⟩,.inr ⟨b,.inl e⟩⟩
theorem D8(k:EZ w.1 w.2.1)(f:Hq w.1 w.2.1 w.2.2)(t:Tbl0 r):Tbl0 (oB r w):=by
 have y:=xG k;refine⟨?_,i5 y t.ndi,ZZ y f (.inr (.inr (.inr ⟨cF k,rfl⟩))) t.cap,λp h=>?_,λp q h=>?_⟩;unfold oB;exact GG (GG (BR (BR t.ndk)));rcases bG.mp h with z|z|z
 ·rw[z];exact(eS k).1
 rw[z];exact(eS k).2;exact t.kind p z;rw[MI y,bG];rcases(MI y).mp h with z|⟨x,a⟩| ⟨x,a⟩
 obtain⟨e,b⟩:=t.sym p q z;exact⟨.inl e,.inr (.inr b)⟩;exact⟨.inr (.inr ⟨a,x⟩),.inl x⟩;exact⟨.inr (.inl ⟨a,x⟩),.inr (.inl x)⟩
theorem ZW:∀{ws:List Wy}{r:Rm},(∀w∈ws,EZ w.1 w.2.1/\Hq w.1 w.2.1 w.2.2)->Tbl0 r->Tbl0 (ws.foldl oB r)
 |[],_,_,t=>t|w::ws,r,h,t=>ZW (ws:=ws) (λw x=>h w (QE _ x)) (D8 (h w QF).1 (h w QF).2 t)
theorem AK{p:Pt}:∀{ws:List Wy}{r:Rm},Key (ws.foldl oB r) p↔Key r p∨∃w∈ws,p=w.1∨p=w.2.1
 |[],r=>⟨.inl,λz=>z.elim id λ⟨_,m,_⟩=>(nomatch m)⟩
 |w::ws,r=>by
  rw[QAC,AK (ws:=ws),bG];constructor;rintro((z|z|z)|⟨x,m,z⟩)
  ·exact .inr ⟨w,QF,.inl z⟩
  exact .inr ⟨w,QF,.inr z⟩;exact .inl z;exact .inr ⟨x,QE _ m,z⟩;rintro(z|⟨x,m,z⟩)
  ·exact .inl (.inr (.inr z))
  rcases QL.mp m with rfl|m
  ·rcases z with z|z
   ·exact .inl (.inl z)
   exact .inl (.inr (.inl z))
  exact .inr ⟨x,m,z⟩
def PZ(es:dC)(st:LS)(g:Str):List Wy:=st.flatMap (zR g)++es.flatMap (uU g)
theorem JE:jA es st g=(PZ es st g).foldl oB xH:=by unfold jA PZ;rw[QAf]
theorem fE{v:Int}:(p,q,v)∈PZ es st g↔(∃n∈st,n≠g/\((p,q,v)=(tO n,fR n,1)∨(p,q,v)=(VA,tO n,2)))∨(∃e∈es,(e.1≠g/\e.1≠e.2)/\((p,q,v)=(tO e.1,fR e.1,1)∨(p,q,v)=(tO e.2,fR e.2,1)∨(p,q,v)=(fR e.1,tO e.2,2))):=by
 unfold PZ;rw[Qi,wn,wn];constructor;rintro(⟨n,m,h⟩| ⟨e,m,h⟩)
 ·exact .inl ⟨n,m,Ao.mp h⟩
 exact .inr ⟨e,m,Eo.mp h⟩;rintro(⟨n,m,h⟩| ⟨e,m,h⟩)
 ·exact .inl ⟨n,m,Ao.mpr h⟩
 exact .inr ⟨e,m,Eo.mpr h⟩
theorem yC:∀w∈PZ es st g,EZ w.1 w.2.1/\Hq w.1 w.2.1 w.2.2:=by
 rintro⟨p,q,v⟩ h;rcases fE.mp h with⟨n,_,_,e|e⟩| ⟨e,_,⟨_,x⟩,z|z|z⟩
 cases e;exact⟨.inr (.inl ⟨n,rfl,rfl⟩),.inl ⟨n,rfl,rfl,rfl⟩⟩;cases e;exact⟨.inl ⟨rfl,n,rfl⟩,.inr (.inl ⟨n,rfl,rfl,rfl⟩)⟩;cases z;exact⟨.inr (.inl ⟨_,rfl,rfl⟩),.inl ⟨_,rfl,rfl,rfl⟩⟩;cases z;exact⟨.inr (.inl ⟨_,rfl,rfl⟩),.inl ⟨_,rfl,rfl,rfl⟩⟩;cases z;exact⟨.inr (.inr ⟨_,_,x,rfl,rfl⟩),.inr (.inr (.inl ⟨_,_,x,rfl,rfl,rfl⟩))⟩
theorem KI(p:Pt):lk xH p=[]:=by show(if VA=p then some [] else none).getD []=[];split<;>rfl
theorem am:Tbl0 xH:=by refine⟨Qj.mpr ⟨λz=>(nomatch z),Q2⟩,λp=>?_,λp e x=>?_,λp h=>?_,λp q h=>?_⟩;rw[KI];exact Q2;rw[KI]at x;exact(nomatch x);exact .inl (QJ.mp (IA.mp h));obtain⟨v,h⟩:=h;rw[KI]at h;exact(nomatch h)
end
section
variable{es:dC}{st:LS}{g:Str}
section
variable{p q:Pt}{n:Str}
theorem cD:Tbl0 (jA es st g):=by rw[JE];exact ZW yC am
theorem X6:∀w∈PZ es st g,UG w:=λw h=>by unfold PZ at h;rcases Qi.mp h with z|z;exact SG (f:=zR g) (λ_=>cL) st w z;exact SG (f:=uU g) (λ_=>dL) es w z
theorem cC:IZ (jA es st g) p q↔(∃v,(p,q,v)∈PZ es st g)∨∃v,(q,p,v)∈PZ es st g:=by
 rw[JE,BX X6];constructor;rintro(⟨v,h⟩| h)
 ·rw[KI]at h;exact(nomatch h)
 exact h;exact .inr
theorem aO(h:Key (jA es st g) (tO n)):IZ (jA es st g) (tO n) (fR n):=by
 rw[JE]at h;rcases AK.mp h with z|⟨⟨p,q,v⟩,m,z⟩
 exact absurd (QJ.mp (IA.mp z)).symm MB;refine cC.mpr (.inl ⟨1,fE.mpr ?_⟩);have z:tO n=p∨tO n=q:=z;rcases fE.mp m with⟨k,mk,x,e|e⟩| ⟨e,u,x,y|y|y⟩
 cases e;rcases z with z|z;rw[BB z];exact .inl ⟨k,mk,x,.inl rfl⟩;exact absurd z GA;cases e;rcases z with z|z;exact absurd z.symm MB;rw[BB z];exact .inl ⟨k,mk,x,.inl rfl⟩;cases y;rcases z with z|z;rw[BB z];exact .inr ⟨e,u,x,.inl rfl⟩;exact absurd z GA;cases y;rcases z with z|z;rw[BB z];exact .inr ⟨e,u,x,.inr (.inl rfl)⟩;exact absurd z GA;cases y;rcases z with z|z;exact absurd z GA;rw[BB z];exact .inr ⟨e,u,x,.inr (.inl rfl)⟩
theorem FZ:Hq p q (rm (jA es st g) p q)∨(¬ yI (jA es st g) p q/\rm (jA es st g) p q=0):=by by_cases h:yI (jA es st g) p q;obtain⟨v,e⟩:=h;have:=cD (es:=es) (st:=st) (g:=g) |>.cap p (q,v) (NG e);unfold rm;rw[e];exact .inl this;exact .inr ⟨h,tP h⟩
theorem lu:0<=rm (jA es st g) p q:=by rcases FZ (es:=es) (st:=st) (g:=g) (p:=p) (q:=q) with(⟨_,_,_,e⟩| ⟨_,_,_,e⟩| ⟨_,_,_,_,_,e⟩| ⟨_,e⟩)|⟨_,e⟩<;>rw[e]<;>decide
theorem yJ(h:¬ EZ p q):rm (jA es st g) p q=0:=by
 rcases FZ (es:=es) (st:=st) (g:=g) (p:=p) (q:=q) with(⟨n,y,x,_⟩| ⟨n,y,x,_⟩| ⟨a,b,z,y,x,_⟩| ⟨_,e⟩)|⟨_,e⟩
 exact absurd (.inr (.inl ⟨n,y,x⟩)) h;exact absurd (.inl ⟨y,n,x⟩) h;exact absurd (.inr (.inr ⟨a,b,z,y,x⟩)) h;exact e;exact e
theorem Lj(h:q≠fR n):rm (jA es st g) (tO n) q=0:=yJ λl=>by
 rcases l with⟨e,_⟩| ⟨m,y,x⟩| ⟨a,b,_,e,_⟩
 exact MB e.symm;exact h (by rw[x,BB y]);exact GA e
theorem Mp:rm (jA es st g) (tO n) (fR n)<=1:=by
 rcases FZ (es:=es) (st:=st) (g:=g) (p:=tO n) (q:=fR n) with(⟨_,_,_,e⟩| ⟨m,h,_,_⟩| ⟨a,b,x,h,y,_⟩| ⟨_,e⟩)|⟨_,e⟩
 rw[e];decide;exact absurd h.symm MB;exact absurd h GA;rw[e];decide;rw[e];decide
theorem Mj(h:Key (jA es st g) (tO n)):rm (jA es st g) (tO n) (fR n)=1:=by
 have a:=fB.mpr (aO h);rcases FZ (es:=es) (st:=st) (g:=g) (p:=tO n) (q:=fR n) with(⟨_,_,_,e⟩| ⟨m,x,_,_⟩| ⟨a,b,y,x,u,_⟩| ⟨l,e⟩)|⟨z,e⟩
 exact e;exact absurd x.symm MB;exact absurd x GA;exact absurd (.inr (.inl ⟨n,rfl,rfl⟩)) l;exact absurd a z
theorem su(h:p≠tO n):rm (jA es st g) p (fR n)=0:=yJ λl=>by
 rcases l with⟨_,m,e⟩| ⟨m,y,x⟩| ⟨a,b,_,_,e⟩
 exact GA e.symm;exact h (by rw[y,HH x]);exact GA e.symm
theorem tu:rm (jA es st g) p VA=0:=yJ λl=>by
 rcases l with⟨_,m,e⟩| ⟨m,x,h⟩| ⟨a,b,_,_,e⟩
 exact MB e;exact HE h;exact MB e
theorem Lp(h:p≠fR n):rm (jA es st g) p (tO n)=0∨rm (jA es st g) p (tO n)=2:=by
 rcases FZ (es:=es) (st:=st) (g:=g) (p:=p) (q:=tO n) with(⟨_,_,e,_⟩| ⟨m,_,_,e⟩| ⟨a,b,_,_,_,e⟩| ⟨l,e⟩)|⟨_,e⟩
 exact absurd e GA;exact .inr e;exact .inr e;exact .inl e;exact .inl e
theorem Hj{v:Int}(h:(p,tO n,v)∈PZ es st g):rm (jA es st g) p (tO n)=2:=by
 have a:yI (jA es st g) p (tO n):=fB.mpr (cC.mpr (.inl ⟨v,h⟩));have l:EZ p (tO n):=(yC _ h).1;rcases FZ (es:=es) (st:=st) (g:=g) (p:=p) (q:=tO n) with(⟨_,_,e,_⟩| ⟨m,_,_,e⟩| ⟨a,b,_,_,_,e⟩| ⟨x,e⟩)|⟨z,e⟩
 exact absurd e GA;exact e;exact e;exact absurd l x;exact absurd a z
end
end
section
variable{es:dC}{st:LS}{g:Str}
def vs0(es:dC)(st:LS)(g:Str):List Pt:=(jA es st g).map (·.1)
def fl(es:dC)(st:LS)(g:Str)(r:Rm)(p q:Pt):Int:=rm (jA es st g) p q - rm r p q
def out(es:dC)(st:LS)(g:Str)(r:Rm)(p:Pt):Int:=sm (vs0 es st g) (fl es st g r p)
structure Base(es:dC)(st:LS)(g:Str)(r:Rm):Prop where
 ndi:Xc r
 adj:∀p q,yI r p q↔yI (jA es st g) p q
 keys:r.map (·.1)=vs0 es st g
 nn:∀p q,0<=rm r p q
 anti:∀p q,fl es st g r p q=- fl es st g r q p
structure Flow(es:dC)(st:LS)(g:Str)(r:Rm):Prop extends Base es st g r where
 cons:∀x,x≠VA->x≠tO g->out es st g r x=0
theorem HF:(vs0 es st g).Nodup:=cD.ndk
theorem Je:Flow es st g (jA es st g):=by
 have e:∀p q,fl es st g (jA es st g) p q=0:=λp q=>by unfold fl;omega
 refine⟨⟨cD.ndi,λp q=>WT,rfl,λp q=>lu,λp q=>by rw[e,e];rfl⟩,λx _ _=>?_⟩;unfold out;rw[SA (g:=λ_=>0) λq _=>e x q];exact FG _
theorem UB{p q:Pt}(h:yI (jA es st g) p q):yI (jA es st g) q p:=fB.mpr (cD.sym p q (fB.mp h)).1
theorem dB{p q:Pt}(h:yI (jA es st g) p q):p∈vs0 es st g:=IA.mp (cD.sym p q (fB.mp h)).2
theorem AQ{p q:Pt}(h:yI (jA es st g) p q):p≠q:=by
 rcases cC.mp (fB.mp h) with⟨v,m⟩| ⟨v,m⟩
 exact xG (yC _ m).1;exact(xG (yC _ m).1).symm
section
variable{r:Rm}
theorem Base.dom(b:Base es st g r):j8 r:=λp q h=>by have a:=(b.adj p q).mp (fB.mpr h);rw[IA,b.keys];exact dB (UB a)
theorem Base.bg(b:Base es st g r):Key r VA:=by rw[IA,b.keys];refine IA.mp ?_;show Key (jA es st g) VA;rw[JE];exact AK.mpr (.inl ⟨[],if_pos rfl⟩)
theorem Base.len(b:Base es st g r):r.length=(jA es st g).length:=by have:=congrArg wE b.keys;unfold vs0 at this;rw[QD,QD]at this;exact this
theorem Base.adjw(b:Base es st g r){p q:Pt}(h:0<rm r p q):yI (jA es st g) p q:=(b.adj p q).mp (by
 unfold rm at h;cases e:look (lk r p) q with|none=>rw[e]at h;exact absurd h (wg 0)|some v=>exact⟨v,e⟩)
theorem nQ{u:Pt}{l:Inn}(h:u∈r.map (·.1)):(put r u l).map (·.1)=r.map (·.1):=by rw[put_keys,if_pos h]
theorem Base.pushed(b:Base es st g r){u v:Pt}(h:0<rm r u v):Base es st g (XY r u v):=by
 have a:=b.adjw h;have y:=AQ a;have e:=ZU (r:=r) y;refine⟨Ha y b.ndi,λp q=>?_,?_,λp q=>?_,λp q=>?_⟩;rw[Yc y ((b.adj u v).mpr a) ((b.adj v u).mpr (UB a))];exact b.adj p q;have k:u∈r.map (·.1):=by rw[b.keys];exact dB a
 have f:v∈r.map (·.1):=by rw[b.keys];exact dB (UB a)
 unfold XY;rw[nQ (by rw[nQ k];exact f),nQ k];exact b.keys;rw[e];have:=b.nn p q;by_cases c:p=u/\q=v;rw[if_pos c,c.1,c.2];split<;>omega;rw[if_neg c];split<;>omega;unfold fl;rw[e,e];have:=b.anti p q;unfold fl at this;by_cases x:p=v/\q=u;rw[if_pos x,if_pos (c:=q=u/\p=v) ⟨x.2,x.1⟩,if_neg (c:=p=u/\q=v) (λz=>y (z.1.symm.trans x.1)),if_neg (c:=q=v/\p=u) (λz=>y (z.2.symm.trans x.1))];omega;rw[if_neg x,if_neg (c:=q=u/\p=v) (λz=>x ⟨z.2,z.1⟩)];by_cases w:p=u/\q=v;rw[if_pos w,if_pos (c:=q=v/\p=u) ⟨w.2,w.1⟩];omega;rw[if_neg w,if_neg (c:=q=v/\p=u) (λz=>w ⟨z.2,z.1⟩)];omega
theorem jX(b:Base es st g r){u v:Pt}(h:0<rm r u v)(x:Pt):out es st g (XY r u v) x=out es st g r x+(if x=u then 1 else 0) - (if x=v then 1 else 0):=by
 have a:=b.adjw h;have f:=AQ a;unfold out;have e:∀q,fl es st g (XY r u v) x q=fl es st g r x q+((if q=v then(if x=u then 1 else 0) else 0)+-(if q=u then(if x=v then 1 else 0) else 0)):=λq=>by unfold fl;rw[ZU f];by_cases k:x=u;have w:x≠v:=λz=>f (k.symm.trans z);rw[if_neg (c:=x=v/\q=u) (λz=>w z.1),if_pos k,if_neg w];by_cases y:q=v;rw[if_pos (c:=x=u/\q=v) ⟨k,y⟩,if_pos y];split<;>omega;rw[if_neg (c:=x=u/\q=v) (λz=>y z.2),if_neg y];split<;>omega;rw[if_neg (c:=x=u/\q=v) (λz=>k z.1),if_neg k];by_cases w:x=v;rw[if_pos w];by_cases y:q=u;rw[if_pos (c:=x=v/\q=u) ⟨w,y⟩,if_pos y];split<;>omega;rw[if_neg (c:=x=v/\q=u) (λz=>y z.2),if_neg y];split<;>omega;rw[if_neg (c:=x=v/\q=u) (λz=>w z.1),if_neg w];split<;>split<;>omega
 rw[SA λq _=>e q,ZH,ZH,JJ,YJ HF (dB (UB a)),YJ HF (dB a)];omega
end
section
variable{r y:Rm}{ks:List Pt}
theorem CF.find{vs:List D}(h:CF r ks vs){q:Pt}(m:q∈ks)(b:q≠VA):∃z u p k v,CF r z u/\p∈z/\uf r p q/\q∉z/\ks=z++q::k/\vs=u++pr p::v:=by
 induction h with|bg=>exact absurd (QJ.mp m) b|@add ks vs p x c i w n f=>by_cases e:q∈ks;obtain⟨z,u,a,k,v,Z,Y,X,s,o,l⟩:=f e;exact⟨z,u,a,k++[x],v++[pr p],Z,Y,X,s,by rw[o,Qz];rfl,by rw[l,Qz];rfl⟩;have j:q=x:=QJ.mp ((Qi.mp m).resolve_left e);subst j;exact⟨ks,vs,p,[],[],c,i,w,n,rfl,rfl⟩
structure LC(es:dC)(st:LS)(g:Str)(y r:Rm)(here:Pt)(ks:List Pt):Prop extends Base es st g r where
 cons:∀x,x≠VA->x≠tO g->out es st g r x=if x=here then 1 else 0
 val:out es st g r VA=out es st g y VA+if here=VA then 1 else 0
 fresh:∀p,∀q∈ks,rm y p q<=rm r p q
theorem L5(f:Flow es st g y)(ks:List Pt):LC es st g y y (tO g) ks:=by refine⟨f.toBase,λx u h=>?_,?_,λp q _=>QCY _⟩;rw[if_neg h];exact f.cons x u h;rw[if_neg (λz=>MB z.symm)];omega
theorem yb{h p:Pt}{u:List Pt}(nd:Xc y)(l:LC es st g y r h ks)(i:h∈ks)(hb:h≠VA)(w:uf y p h)(f:h∉u)(e:∀q∈u,q∈ks):0<rm r p h/\LC es st g y (XY r p h) p u:=by have v:0<rm r p h:=Int.lt_of_lt_of_le ((nU nd).mp w) (l.fresh p h i);have b:=AQ (l.adjw v);refine⟨v,l.toBase.pushed v,λx a j=>?_,?_,λx q k=>?_⟩;rw[jX l.toBase v,l.cons x a j];split<;>split<;>omega;rw[jX l.toBase v,l.val,if_neg hb,if_neg (c:=VA=h) (λz=>hb z.symm)];by_cases c:p=VA;rw[if_pos c,if_pos c.symm];omega;rw[if_neg c,if_neg (λz=>c z.symm)];omega;have a:=l.fresh x q (e q k);rw[ZU b,if_neg (c:=x=p/\q=h) (λz=>f (z.2▸k))];split<;>omega
theorem Hi(l:LC es st g y r VA ks):Flow es st g r/\out es st g r VA=out es st g y VA+1:=by refine⟨⟨l.toBase,λx h z=>?_⟩,?_⟩;rw[l.cons x h z,if_neg h];rw[l.val,if_pos rfl]
end
end
section
variable{es:dC}{st:LS}{g:Str}{r:Rm}
section
variable{p q y:Pt}{n a:Str}{ks:List Pt}
theorem yL(b:Base es st g r)(h:rm (jA es st g) q p=0):fl es st g r p q=rm r q p:=by have:=b.anti p q;unfold fl at this ⊢;omega
def bU(r:Rm)(n:Str):Int:=rm r (fR n) (tO n)
theorem eU(b:Base es st g r)(n:Str):fl es st g r (tO n) (fR n)=bU r n:=yL b (yJ λl=>cF (.inr (.inl ⟨n,rfl,rfl⟩)) l)
theorem ZL(b:Base es st g r)(n:Str):bU r n<=1:=by rw[<- eU b];have x:=Mp (es:=es) (st:=st) (g:=g) (n:=n);have h:=b.nn (tO n) (fR n);unfold fl;omega
theorem x3(b:Base es st g r)(h:p∉vs0 es st g∨q∉vs0 es st g):rm r p q=0:=by refine tP λa=>?_;have a:=(b.adj p q).mp a;rcases h with h|h;exact h (dB a);exact h (dB (UB a))
theorem jd(l:List Pt)(nd:l.Nodup)(u:Pt)(k:Int)(h:u∉l->k=0):sm l (λx=>if x=u then k else 0)=k:=by by_cases m:u∈l;exact YJ nd m;rw[mP m,h m]
def inn(r:Rm)(n:Str)(y:Pt):Int:=if y=fR n then 0 else rm r (tO n) y
theorem iQ(f:Flow es st g r)(h:n≠g):sm (vs0 es st g) (inn r n)=bU r n:=by
 have c:=f.cons (tO n) (λz=>MB z.symm) (λz=>h (BB z));unfold out at c;have e:∀y,fl es st g r (tO n) y=(if y=fR n then bU r n else 0)+- inn r n y:=λy=>by unfold inn;by_cases e:y=fR n;rw[if_pos e,if_pos e,e,eU f.toBase];omega;rw[if_neg e,if_neg e];unfold fl;rw[Lj e];omega
 rw[SA λy _=>e y,ZH,JJ,jd _ HF (fR n) (bU r n) (λz=>x3 f.toBase (.inl z))]at c;omega
theorem eQ(b:Base es st g r)(n:Str)(y:Pt):0<=inn r n y:=by unfold inn;split;decide;exact b.nn _ _
def L9(r:Rm)(n:Str)(y:Pt):Int:=if y=tO n then 0 else rm r y (fR n)
theorem IW(f:Flow es st g r)(n:Str):sm (vs0 es st g) (L9 r n)=bU r n:=by
 have c:=f.cons (fR n) (λz=>HE z.symm) (λz=>GA z.symm);unfold out at c;have e:∀y,fl es st g r (fR n) y=- (if y=tO n then bU r n else 0)+L9 r n y:=λy=>by unfold L9;by_cases e:y=tO n;rw[if_pos e,if_pos e,e];have:=f.anti (fR n) (tO n);rw[eU f.toBase]at this;omega;rw[if_neg e,if_neg e,yL f.toBase (su e)];omega
 rw[SA λy _=>e y,ZH,JJ,jd _ HF (tO n) (bU r n) (λz=>x3 f.toBase (.inr z))]at c;omega
theorem Hh(b:Base es st g r)(n:Str)(y:Pt):0<=L9 r n y:=by unfold L9;split;decide;exact b.nn _ _
def jU(r:Rm)(n:Str):Prop:=0<rm r (tO n) VA
def N7(r:Rm)(a b:Str):Prop:=a≠b/\0<rm r (tO b) (fR a)
theorem OJ(b:Base es st g r)(h:jU r n):n∈st/\n≠g:=by
 rcases cC.mp (fB.mp (b.adjw h)) with⟨v,m⟩| ⟨v,m⟩
 exact absurd (yC _ m).1 λl=>by
  rcases l with⟨e,_⟩| ⟨_,_,e⟩| ⟨_,_,_,e,_⟩
  exact MB e.symm;exact HE e;exact GA e
 rcases fE.mp m with⟨k,mk,x,e|e⟩| ⟨e,_,_,y|y|y⟩
 ·exact absurd (congrArg qy e) MB
 have:=congrArg (λw:Wy=>w.2.1) e;rw[BB this];exact⟨mk,x⟩;exact absurd (congrArg qy y) MB;exact absurd (congrArg qy y) MB;exact absurd (congrArg qy y) HE
theorem si(b:Base es st g r){c:Str}(h:N7 r a c):(a,c)∈es/\a≠g:=by
 rcases cC.mp (fB.mp (b.adjw h.2)) with⟨v,m⟩| ⟨v,m⟩
 exact absurd (yC _ m).1 λl=>by
  rcases l with⟨e,_⟩| ⟨k,z,x⟩| ⟨_,_,_,e,_⟩
  exact MB e.symm;exact h.1 ((HH x).trans (BB z).symm);exact GA e
 rcases fE.mp m with⟨k,mk,u,e|e⟩| ⟨e,f,u,y|y|y⟩
 ·exact absurd (congrArg qy e).symm GA
 exact absurd (congrArg qy e).symm HE;exact absurd (congrArg qy y).symm GA;exact absurd (congrArg qy y).symm GA;have z:a=e.1:=HH (congrArg qy y);have x:c=e.2:=BB (congrArg (λw:Wy=>w.2.1) y);rw[z,x];exact⟨f,u.1⟩
theorem JV:inn r n VA=rm r (tO n) VA:=by unfold inn;exact if_neg HE
theorem OP(h:a≠n):inn r n (fR a)=rm r (tO n) (fR a):=by unfold inn;exact if_neg λz=>h (HH z)
theorem Ca(h:a≠n):L9 r a (tO n)=rm r (tO n) (fR a):=by unfold L9;exact if_neg λz=>h (BB z).symm
theorem tI(b:Base es st g r)(h:0<rm r p q):p∈vs0 es st g/\q∈vs0 es st g:=⟨dB (b.adjw h),dB (UB (b.adjw h))⟩
theorem iX(f:Flow es st g r)(n:Str)(h:n≠g):rm r (tO n) VA<=1:=by by_cases c:0<rm r (tO n) VA;have z:=YH (λx _=>eQ f.toBase n x) (tI f.toBase c).2;rw[iQ f h,JV]at z;exact QAN z (ZL f.toBase n);omega
theorem Hb(f:Flow es st g r)(h:jU r n):bU r n=1:=by have ng:=(OJ f.toBase h).2;have z:=YH (λx _=>eQ f.toBase n x) (tI f.toBase h).2;rw[iQ f ng,JV]at z;have:=ZL f.toBase n;unfold jU at h;omega
theorem Ba(f:Flow es st g r)(h:N7 r a n)(ng:n≠g):bU r n=1:=by have z:=YH (λx _=>eQ f.toBase n x) (tI f.toBase h.2).2;rw[iQ f ng,OP h.1]at z;have:=ZL f.toBase n;have:=h.2;omega
theorem Y1(f:Flow es st g r)(ng:n≠g){x:Pt}(u:0<inn r n x)(h:0<inn r n y):x=y:=by
 have w:x∈vs0 es st g:=by unfold inn at u;split at u;exact absurd u (wg 0);exact(tI f.toBase u).2
 have v:y∈vs0 es st g:=by unfold inn at h;split at h;exact absurd h (wg 0);exact(tI f.toBase h).2
 by_cases e:x=y;exact e;have k:=J2 (λz _=>eQ f.toBase n z) w v e;rw[iQ f ng]at k;have:=ZL f.toBase n;omega
theorem vX(f:Flow es st g r){b:Str}(ng:n≠g)(x:N7 r a n)(h:N7 r b n):a=b :=
 HH (Y1 f ng (by rw[OP x.1];exact x.2) (by rw[OP h.1];exact h.2))
theorem BQ(f:Flow es st g r)(x:jU r n)(h:N7 r a n):False :=
 HE (Y1 f (OJ f.toBase x).2 (by rw[JV];exact x) (by rw[OP h.1];exact h.2))
theorem P4(f:Flow es st g r)(h:bU r n=1):∃y,y≠tO n/\0<rm r y (fR n):=by obtain⟨y,_,x⟩:=Y2 (f:=L9 r n) (l:=vs0 es st g) (by rw[IW f,h];decide);unfold L9 at x;split at x;exact absurd x (wg 0);rename_i ne;exact⟨y,ne,x⟩
theorem Pd(b:Base es st g r)(h:yI r y (fR n)):∃m,y=tO m:=by
 rcases cC.mp (fB.mp ((b.adj _ _).mp h)) with⟨v,m⟩| ⟨v,m⟩
 rcases(yC _ m).1 with⟨_,k,e⟩| ⟨k,e,_⟩| ⟨_,k,_,_,e⟩
 ·exact absurd e.symm GA
 exact⟨k,e⟩;exact absurd e.symm GA;rcases(yC _ m).1 with⟨e,_⟩| ⟨k,e,_⟩| ⟨_,k,_,_,e⟩
 ·exact absurd e.symm HE
 exact absurd e.symm GA;exact⟨k,e⟩
theorem Y5(b:Base es st g r)(h:yI r y VA):∃m,y=tO m:=by
 rcases cC.mp (fB.mp ((b.adj _ _).mp h)) with⟨v,m⟩| ⟨v,m⟩
 rcases(yC _ m).1 with⟨_,k,e⟩| ⟨k,_,e⟩| ⟨_,k,_,_,e⟩
 ·exact absurd e MB
 exact absurd e HE;exact absurd e MB;rcases(yC _ m).1 with⟨_,k,e⟩| ⟨k,e,_⟩| ⟨_,k,_,e,_⟩
 ·exact⟨k,e⟩
 exact absurd e MB;exact absurd e HE
theorem fi(f:Flow es st g r)(h:bU r n=1):∃m,N7 r n m:=by obtain⟨y,z,x⟩:=P4 f h;obtain⟨m,rfl⟩:=Pd f.toBase ((f.adj _ _).mpr (f.toBase.adjw x));exact⟨m,λe=>z (by rw[e]),x⟩
theorem AN(f:Flow es st g r){v:Int}(m:(p,tO n,v)∈PZ es st g):0<rm r p (tO n):=by
 have c:=Hj m;have l:=(yC _ m).1;have h:fl es st g r p (tO n)=rm r (tO n) p:=yL f.toBase (yJ (cF l));unfold fl at h;rw[c]at h;have key:rm r (tO n) p<=1:=by
  rcases fE.mp m with⟨k,mk,z,e|e⟩| ⟨e,o,z,y|y|y⟩
  exact absurd (congrArg (λw:Wy=>w.2.1) e) GA;have b:p=VA:=congrArg qy e;have u:n=k:=BB (congrArg (λw:Wy=>w.2.1) e);rw[b];exact iX f n (by rw[u];exact z);exact absurd (congrArg (λw:Wy=>w.2.1) y) GA;exact absurd (congrArg (λw:Wy=>w.2.1) y) GA;have b:p=fR e.1:=congrArg qy y;have u:n=e.2:=BB (congrArg (λw:Wy=>w.2.1) y);rw[b];by_cases c:0<rm r (tO n) (fR e.1);have j:e.1≠n:=by rw[u];exact z.2
  have i:=YH (λx _=>Hh f.toBase e.1 x) (tI f.toBase c).1;rw[IW f,Ca j]at i;exact QAN i (ZL f.toBase _);omega
 omega
theorem DR{l m:List Pt}(v:l.Nodup)(u:m.Nodup)(h:∀x,x∈l↔x∈m):l.length=m.length:=by have a:=MG v λx z=>(h x).mp z;have b:=MG u λx z=>(h x).mpr z;omega
def lG(ks:List Pt)(x:Pt):Bool:=decide (x.2="to")&&!decide (fR x.1∈ks)
theorem jE{x:Pt}:lG ks x=true↔∃n,x=tO n/\fR n∉ks:=by unfold lG;rw[Qc,Q9,decide_eq_true_iff,decide_eq_false_iff_not];constructor;rintro⟨u,z⟩;exact⟨x.1,QCQ rfl u,z⟩;rintro⟨n,rfl,h⟩;exact⟨rfl,h⟩
theorem oP(p:Pt->Bool):∀(l:List Pt),sm l (λx=>if p x=true then 1 else 0)=(l.filter p).length
 |[]=>rfl|x::l=>by show(if p x=true then 1 else 0)+sm l _=_;rw[oP p l,WF];by_cases c:p x=true;rw[if_pos c,if_pos c,QM];omega;rw[if_neg c,if_neg c];omega
theorem zT(f:Flow es st g r)(nd:ks.Nodup)(hk:∀p,p∈ks↔Rch r p)(M:tO g∉ks):out es st g r VA=(ks.filter (lG ks)).length:=by
 have sub:∀p∈ks,p∈vs0 es st g:=λp L=>by have:=IA.mp (dI f.toBase.dom f.toBase.bg ((hk p).mp L));rw[f.keys]at this;exact this
 have o:∀x∈ks,∀y,y∉ks->rm r x y=0:=λx w y u=>by have:=f.nn x y;by_cases c:0<rm r x y;exact absurd ((hk y).mpr (.go ((hk x).mp w) ((nU f.ndi).mpr c))) u;omega
 have I:sm ((vs0 es st g).filter λx=>decide (x∈ks)) (λx=>out es st g r x)=out es st g r VA:=by
  have hb:VA∈ks:=(hk VA).mpr .bg;have e:∀x∈(vs0 es st g).filter (λx=>decide (x∈ks)),out es st g r x=if x=VA then out es st g r VA else 0:=λx w=>by by_cases c:x=VA;rw[if_pos c,c];rw[if_neg c];exact f.cons x c λz=>M (z▸of_decide_eq_true (Qa.mp w).2)
  rw[SA e];exact YJ (HF.sublist qB) (Qa.mpr ⟨sub _ hb,dT hb⟩)
 have G:∀x∈(vs0 es st g).filter (λx=>decide (x∈ks)),sm ((vs0 es st g).filter λy=>!decide (y∈ks)) (fl es st g r x)=if lG ks x=true then 1 else 0:=λx w=>by
  have W:x∈ks:=of_decide_eq_true (Qa.mp w).2;have Z:=(Qa.mp w).1;have k:∀y∈(vs0 es st g).filter (λy=>!decide (y∈ks)),y∉ks/\fl es st g r x y=rm (jA es st g) x y:=λy u=>by have:=(Qa.mp u).2;rw[Q9,decide_eq_false_iff_not]at this;refine⟨this,?_⟩;unfold fl;rw[o x W y this];omega
  have B:∀y∈(vs0 es st g).filter (λy=>!decide (y∈ks)),∀n,y=tO n->fl es st g r x y=0:=λy u n e=>by
   obtain⟨C,O⟩:=k y u;rw[O,e];by_cases A:x=fR n;rw[A];exact yJ λl=>cF (.inr (.inl ⟨n,rfl,rfl⟩)) l;rcases Lp (es:=es) (st:=st) (g:=g) A with z|z
   ·exact z
   have a:yI (jA es st g) x (tO n):=by refine wN λJ=>?_;rw[tP J]at z;exact absurd z (by decide)
   rcases cC.mp (fB.mp a) with⟨v,m⟩| ⟨v,m⟩
   have:=AN f m;rw[o x W (tO n) (e▸C)]at this;exact absurd this (wg 0);rw[yJ (cF (yC _ m).1)]
  rcases cD.kind x (IA.mpr Z) with e|⟨n,e|e⟩
  have i:¬ lG ks x=true:=λz=>by obtain⟨n,j,_⟩:=jE.mp z;exact MB (e.symm.trans j)
  rw[if_neg i];rw[SA (g:=λ_=>0),FG];intro y u;by_cases t:∃n,y=tO n;obtain⟨n,t⟩:=t;exact B y u n t;rw[(k y u).2,e];exact yJ λl=>by
   rcases l with⟨_,z⟩| ⟨n,z,_⟩| ⟨_,b,_,_,z⟩
   exact t z;exact MB z;exact t ⟨b,z⟩
  by_cases X:fR n∈ks
  ·have i:¬ lG ks x=true:=λz=>by
    obtain⟨m,j,h⟩:=jE.mp z;rw[<- BB (e.symm.trans j)]at h;exact h X
   rw[if_neg i,SA (g:=λ_=>0),FG];intro y u;rw[(k y u).2,e];exact Lj λz=>(k y u).1 (z▸X)
  rw[if_pos (jE.mpr ⟨n,e,X⟩)];have K:Key (jA es st g) (tO n):=by rw[<- e];exact IA.mpr Z
  have N:fR n∈vs0 es st g:=dB (UB (fB.mpr (aO K)));rw[SA (g:=λy=>if y=fR n then 1 else 0)];exact YJ (HF.sublist qB) (Qa.mpr ⟨N,by rw[dF X];rfl⟩);intro y u;rw[(k y u).2,e];by_cases c:y=fR n;rw[if_pos c,c,Mj K];rw[if_neg c,Lj c];have i:¬ lG ks x=true:=λz=>by obtain⟨m,j,_⟩:=jE.mp z;exact GA (j.symm.trans e)
  rw[if_neg i,SA (g:=λ_=>0),FG];intro y u;by_cases t:∃n,y=tO n;obtain⟨n,t⟩:=t;exact B y u n t;rw[(k y u).2,e];exact yJ λl=>by
   rcases l with⟨z,_⟩| ⟨n,z,_⟩| ⟨_,b,_,_,z⟩
   exact HE z.symm;exact GA z.symm;exact t ⟨b,z⟩
 have F:∀x,out es st g r x=sm ((vs0 es st g).filter λy=>decide (y∈ks)) (fl es st g r x)+sm ((vs0 es st g).filter λy=>!decide (y∈ks)) (fl es st g r x):=λx=>JR _ _;have E:sm ((vs0 es st g).filter λx=>decide (x∈ks)) (λx=>out es st g r x)=sm ((vs0 es st g).filter λx=>decide (x∈ks)) (λx=>if lG ks x=true then 1 else 0):=by rw[SA λx _=>F x,ZH,R8 _ λx _ y _=>f.anti x y,SA G];omega
 rw[<- I,E,oP];have:(((vs0 es st g).filter λx=>decide (x∈ks)).filter (lG ks)).length=(ks.filter (lG ks)).length:=by refine DR ((HF.sublist qB).sublist qB) (nd.sublist qB) λx=>?_;rw[Qa,Qa,Qa,decide_eq_true_iff];exact⟨λ⟨⟨_,s⟩,Y⟩=>⟨s,Y⟩,λ⟨s,Y⟩=>⟨⟨sub x s,s⟩,Y⟩⟩
 rw[this]
theorem Lb(f:Flow es st g r):out es st g r VA=(((lk r VA).map (·.1)).filter λy=>decide (0<rm r y VA)).length:=by
 have e:∀y∈vs0 es st g,fl es st g r VA y=if decide (0<rm r y VA)=true then 1 else 0:=λy x=>by rw[yL f.toBase tu];have z:=f.nn y VA;by_cases c:0<rm r y VA;rw[dT c,if_pos rfl];obtain⟨n,e⟩:=Y5 f.toBase ((f.adj _ _).mpr (f.toBase.adjw c));rw[e]at c ⊢;have:=iX f n (OJ f.toBase c).2;omega;rw[dF c,if_neg (by decide)];omega
 unfold out;rw[SA e,oP];have:((vs0 es st g).filter λy=>decide (0<rm r y VA)).length=(((lk r VA).map (·.1)).filter λy=>decide (0<rm r y VA)).length:=by refine DR (HF.sublist qB) ((f.ndi VA).sublist qB) λy=>?_;rw[Qa,Qa,decide_eq_true_iff];refine⟨λ⟨_,h⟩=>⟨?_,h⟩,λ⟨_,h⟩=>⟨(tI f.toBase h).1,h⟩⟩;obtain⟨v,hv⟩:=(f.adj VA y).mpr (UB (f.toBase.adjw h));exact QZ.mpr ⟨(y,v),NG hv,rfl⟩
 rw[this]
theorem Ab(f:Flow es st g r)(hk:∀p,p∈ks↔Rch r p)(o:tO g∉ks){cut:LS}(hc:∀n,tO n∈ks->fR n∉ks->n∈cut):¬ ∃a,(a,g)∈es/\Led es st g cut a:=by
 have u:∀p∈ks,∀n v,(p,tO n,v)∈PZ es st g->tO n∈ks:=λp j n v m=>(hk _).mpr (.go ((hk _).mp j) ((nU f.ndi).mpr (AN f m)));have key:∀n,Led es st g cut n->fR n∈ks:=λn h=>by
  induction h with|@st s h k=>obtain⟨w,x⟩:=BE.mp k;have t:=u VA ((hk _).mpr .bg) s 2 (fE.mpr (.inl ⟨s,h,w,.inr rfl⟩));exact wN λz=>x (hc s t z)|@ed a b l m k i=>obtain⟨w,x⟩:=BE.mp k;by_cases e:a=b;rw[<- e];exact i;have t:=u (fR a) i b 2 (fE.mpr (.inr ⟨(a,b),m,⟨(aM l).1,e⟩,.inr (.inr rfl)⟩));exact wN λz=>x (hc b t z)
 rintro⟨a,m,l⟩;exact o (u (fR a) (key a l) g 2 (fE.mpr (.inr ⟨(a,g),m,⟨(aM l).1,(aM l).1⟩,.inr (.inr rfl)⟩)))
end
end
inductive Run(r:Rm)(g f:Str):LS->Str->Prop
 |nil:Run r g f [] f
 |go {c:LS}{n m:Str}:Run r g f c n->n≠g->N7 r n m->Run r g f (c++[n]) m
inductive Chn(es:dC)(st:LS)(g:Str):LS->Str->Prop
 |st {f:Str}:f∈st->f≠g->Chn es st g [] f
 |go {c:LS}{n m:Str}:Chn es st g c n->n≠g->(n,m)∈es->Chn es st g (c++[n]) m
section
variable{es:dC}{st:LS}{g:Str}{r:Rm}
section
variable{s n:Str}{c:LS}
theorem Run.chn(f:Flow es st g r)(x:jU r s)(h:Run r g s c n):Chn es st g c n:=by
 induction h with|nil=>exact .st (OJ f.toBase x).1 (OJ f.toBase x).2|go _ ng y z=>exact .go z ng (si f.toBase y).1
theorem Run.thr1(f:Flow es st g r)(y:jU r s)(h:Run r g s c n)(ng:n≠g):bU r n=1:=by
 cases h with|nil=>exact Hb f y|go _ _ x=>exact Ba f x ng
theorem Run.pred(h:Run r g s c n):∀x,x∈c∨x=n->x=s∨∃y∈c,N7 r y x:=by
 induction h with
 |nil=>intro x u;exact u.elim (λz=>(nomatch z)) .inl
 |@go c n m _ _ v w =>
  intro x u;rcases u with u|rfl;have:x∈c∨x=n:=(Qi.mp u).imp_right QJ.mp;rcases w x this with z|⟨y,k,z⟩
  exact .inl z;exact .inr ⟨y,Qo _ k,z⟩;exact .inr ⟨n,Qb _ QF,v⟩
theorem Run.ng(h:Run r g s c n):∀x∈c,x≠g:=by
 induction h with
 |nil=>exact λx y=>(nomatch y)
 |go _ k _ u=>intro x y;rcases Qi.mp y with z|z;exact u x z;rw[QJ.mp z];exact k
theorem Run.nd(f:Flow es st g r)(w:jU r s)(h:Run r g s c n):c.Nodup/\n∉c:=by
 induction h with
 |nil=>exact⟨Q2,λz=>(nomatch z)⟩
 |@go c n m h k x u =>
  have nd:(c++[n]).Nodup:=qj.mpr ⟨u.1,Qj.mpr ⟨λz=>(nomatch z),Q2⟩,λa i b hb z=>by rw[QJ.mp hb]at z;exact u.2 (z▸i)⟩;refine⟨nd,λz=>?_⟩;rcases Qi.mp z with z|z;rcases h.pred m (.inl z) with e|⟨y,v,e⟩
  ·rw[e]at x;exact BQ f w x
  rw[vX f (h.ng m z) e x]at v;exact u.2 v;exact x.1 (QJ.mp z).symm
theorem Run.apart(f:Flow es st g r){s':Str}(q:jU r s)(b:jU r s'){l:LS}{p:Str}(h:Run r g s c n)(h':Run r g s' l p):∀x∈c,x∈l->s=s':=by
 induction h with
 |nil=>exact λx a=>(nomatch a)
 |@go c n m h k X i =>
  intro x a v;rcases Qi.mp a with z|z;exact i x z v;have z:=QJ.mp z;subst z;rcases h.pred x (.inr rfl) with e|⟨y,j,e⟩<;>rcases h'.pred x (.inl v) with u|⟨o,w,u⟩
  exact e.symm.trans u;rw[e]at u;exact(BQ f q u).elim;rw[u]at e;exact(BQ f b e).elim;rw[vX f k e u]at j;exact i o j w
end
end
section
variable{es:dC}{st:LS}{g:Str}
theorem jc{cut:LS}{c:LS}{n:Str}(h:Chn es st g c n)(hc:∀x∈c,x∉cut)(ng:n≠g)(y:n∉cut):Led es st g cut n:=by
 induction h with|st h _=>exact .st h (BE.mpr ⟨ng,y⟩)|@go c n m _ k e z=>exact .ed (z (λx u=>hc x (Qo _ u)) k (hc n (Qb _ QF))) e (BE.mpr ⟨ng,y⟩)
theorem b7{cut:LS}{c:LS}(h:Chn es st g c g)(hl:¬ ∃a,(a,g)∈es/\Led es st g cut a):∃x∈c,x∈cut:=by
 refine wN λz=>?_;have hc:∀x∈c,x∉cut:=λx y m=>z ⟨x,y,m⟩;cases h with|st _ e=>exact e rfl|@go c n _ h k e=>exact hl ⟨n,e,jc h (λx y=>hc x (Qo _ y)) k (hc n (Qb _ QF))⟩
def pJ:List (LS)->Prop
 |[]=>True|c::cs=>(∀d∈cs,∀x∈c,x∉d)/\pJ cs
theorem Yd{cut:LS}:∀{cs:List (LS)},pJ cs->(∀c∈cs,∃x∈c,x∈cut)->∃u:LS,u.length=cs.length/\u.Nodup/\(∀p∈u,p∈cut)/\∀p∈u,∃c∈cs,p∈c
 |[],_,_=>⟨[],rfl,Q2,λ_ z=>(nomatch z),λ_ z=>(nomatch z)⟩
 |c::cs,a,h=>by
  obtain⟨u,f,e,b,k⟩:=Yd (cs:=cs) a.2 λd v=>h d (QE _ v);obtain⟨x,w,hc⟩:=h c QF;refine⟨x::u,by rw[QM,QM,f],Qj.mpr ⟨λz=>?_,e⟩,λp y=>?_,λp y=>?_⟩;obtain⟨d,v,y⟩:=k x z;exact a.1 d v x w y;rcases QL.mp y with z|z
  ·rw[z];exact hc
  exact b p z;rcases QL.mp y with z|z
  ·exact⟨c,QF,by rw[z];exact w⟩
  obtain⟨d,v,y⟩:=k p z;exact⟨d,QE _ v,y⟩
theorem VZ{cut:LS}{cs:List (LS)}(a:pJ cs)(h:∀c∈cs,Chn es st g c g)(hl:¬ ∃a,(a,g)∈es/\Led es st g cut a):cs.length<=cut.length:=by obtain⟨u,z,y,x,_⟩:=Yd a λc hc=>b7 (h c hc) hl;rw[<- z];exact xQ y x
end
section
variable{ks:List Pt}{vs:List D}{p:Pt}
def sC(ks:List Pt)(vs:List D):List (D×D):=(ks.map pr).zip vs
theorem Gj(ks:List Pt)(vs:List D):(g8 ks vs).er=.dict (sC ks vs):=by show PyData.dict ((ks.map pr).zip (ersT (vs.map T.d)))=_;rw[uB];rfl
theorem xL(h:vs.length=ks.length):(sC ks vs).map (·.1)=ks.map pr:=Wr (by rw[QD];omega)
theorem vc(h:vs.length=ks.length):(sC ks vs).map (·.2)=vs:=WD (by rw[QD];omega)
theorem EI(h:vs.length=ks.length)(m:p∈ks):JD (sC ks vs)=some true:=by
 cases ks with
 |nil=>exact(nomatch m)
 |cons x ks=>cases vs with|nil=>cases h|cons y vs=>rfl
theorem ES{q:Pt}{u:List Pt}:∀{y:List Pt},q∉y->bA ((y++q::u).map pr) (pr q)=some y.length
 |[],_=>Ye rfl|x::y,h=>by show bA (pr x::(y++q::u).map pr) (pr q)=_;rw[G6 (λz=>h (by rw[VP z];exact QF)),ES λz=>h (QE _ z)];rfl
theorem jm{h z:List Pt}{y x:List D}{q:Pt}{n m:Bool}{R:T->Prop}(u:y.length=h.length)(w:x.length=z.length)(v:q∉h)(k:R (.d (pr p))):FA (.d (.dict (sC (h++q::z) (y++pr p::x)))) n (.d (pr q)) m R:=by
 have hl:(y++pr p::x).length=(h++q::z).length:=by rw[QI,QI,QM,QM,u,w]
 refine El (EI hl (p:=q) (Qb _ QF)) (PB q) (by rw[xL hl];exact ES v) ?_ k;rw[vc hl,<- u,qH (QS _),Nat.sub_self];rfl
theorem FV(a b:Pt):Qw (pr a) (pr b)=decide (a=b):=by
 rw[qD,decide_eq_true_iff];have e:Qw (pr a) (pr b)=(Qw (.str a.1) (.str b.1)&&(Qw (.str a.2) (.str b.2)&&true)):=by simp[pr,Qw,PyData.eqvAll]
 rw[e,CQ,CQ,QBc,Qc,decide_eq_true_iff,decide_eq_true_iff];exact⟨λh=>QCQ h.1 h.2,λh=>by rw[h];exact⟨rfl,rfl⟩⟩
def JG(es:dC)(st:LS):Prop:=(∀s∈st,qX s=true)/\∀e∈es,qX e.1=true/\qX e.2=true
theorem SD{a b:Str}(x:qX a=true)(h:qX b=true):vF (pr (a,b)):=by refine⟨?_,?_⟩;simp only[pr,QAT,qk,x,h,Bool.and_self];simp only[pr,QA4,wW];decide
theorem iR:qX "to"=true:=by decide +kernel
theorem VW:qX "from"=true:=by decide +kernel
theorem kO:qX ""=true/\qX "begin"=true:=by decide +kernel
theorem y6{es:dC}{st:LS}{g:Str}(h:JG es st)(k:p∈vs0 es st g):vF (pr p):=by
 have k:Key (jA es st g) p:=IA.mpr k;rw[JE]at k;rcases AK.mp k with z|⟨⟨u,v,c⟩,m,z⟩
 rw[QJ.mp (IA.mp z)];exact SD kO.1 kO.2;have z:p=u∨p=v:=z;rcases fE.mp m with⟨n,w,_,e|e⟩| ⟨e,x,_,y|y|y⟩
 cases e;rcases z with z|z<;>subst z;exact SD (h.1 n w) iR;exact SD (h.1 n w) VW;cases e;rcases z with z|z<;>subst z;exact SD kO.1 kO.2;exact SD (h.1 n w) iR;cases y;rcases z with z|z<;>subst z;exact SD (h.2 e x).1 iR;exact SD (h.2 e x).1 VW;cases y;rcases z with z|z<;>subst z;exact SD (h.2 e x).2 iR;exact SD (h.2 e x).2 VW;cases y;rcases z with z|z<;>subst z;exact SD (h.2 e x).1 VW;exact SD (h.2 e x).2 iR
noncomputable def kR(r:Rm)(x:List (D×D))(last:D)(h:Pt)(o4:Option Sl):zA:=[oW (UA r),bD (.dict x),bD last,bD (pr h),o4]
end
section
variable{Ψ:PEv}{Z:PEnds}{q:PT}{r:Rm}{h:List (D×D)}{last:D}{u v:Pt}
theorem ft(hk:Key r u)(w:yI r u v)(hl:(lk r u).length<sizeLine)(k:pF Ψ q Z (kR (put r u (put (lk r u) v (rm r u v - 1))) h last v (bD (pr u)))) :
  pF Ψ (.seq (.six (.idx (.vz 0) (.vz 4)) (.vz 3) (.bin .Sub (.idx (.idx (.vz 0) (.vz 4)) (.vz 3)) (.int 1))) q) Z (kR r h last v (bD (pr u))):=by
 obtain⟨x,y⟩:=w;have e:rm r u v=x:=by unfold rm;rw[y];rfl
 rw[e]at k;delta kR at k ⊢;simp_arith[↓IH];refine EE hk ?_;simp_arith[↓IX];refine cP y ?_;simp_arith[↓vA];refine xI (UE hk) λf z=>lP hl ?_;rw[z];exact k
theorem bt(hk:Key r v)(w:yI r v u)(hl:(lk r v).length<sizeLine)(k:pF Ψ q Z (kR (put r v (put (lk r v) u (rm r v u+1))) h last v (bD (pr u)))) :
  pF Ψ (.seq (.six (.idx (.vz 0) (.vz 3)) (.vz 4) (.bin .Add (.idx (.idx (.vz 0) (.vz 3)) (.vz 4)) (.int 1))) q) Z (kR r h last v (bD (pr u))):=by
 obtain⟨x,y⟩:=w;have e:rm r v u=x:=by unfold rm;rw[y];rfl
 rw[e]at k;delta kR at k ⊢;simp_arith[↓IH];refine EE hk ?_;simp_arith[↓IX];refine cP y ?_;simp_arith[↓vA];refine xI (UE hk) λf z=>lP hl ?_;rw[z];exact k
end
theorem Base.inn{es:dC}{st:LS}{g:Str}{r:Rm}(b:Base es st g r)(p:Pt):(lk r p).length<=(jA es st g).length:=by
 have:=MG (ns:=vs0 es st g) (b.ndi p) λq h=>by obtain⟨e,x,z⟩:=QZ.mp h;have a:yI r p q:=fB.mpr ⟨e.2,by rw[<- z];exact x⟩;exact dB (UB ((b.adj p q).mp a))
 unfold vs0 at this;rw[QD,QD]at this;exact this
section
variable{Ψ:PEv}{Z:PEnds}{es:dC}{st:LS}{g:Str}
theorem Aa{m r:Rm}{ks:List Pt}{vs:List D}{x:Pt}{last:D}{o4:Option Sl}{z v:List Pt}{b u:List D}(hsz:(jA es st g).length<=1000)(R:Xc m)(I:CF m z b)(S:ks=z++v)(ev:vs=b++u)(h9:u.length=v.length)(F:x∈z)(hb:x≠VA)(i:LC es st g m r x z)
  (k:∀h y n l p A,CF m h y->ks=h++n->vs=y++l->l.length=n.length->h.length<z.length->p∈h->LC es st g m A p h->Z.nx (kR A (sC ks vs) last p (bD (pr p)))) :
  pF Ψ nE Z (kR r (sC ks vs) last x o4):=by
 obtain⟨h,y,p,j,e,J,Q,w,B,X,G⟩:=I.find F hb;have M:=I.len;have L:=J.len;have H:e.length=j.length:=by rw[X,G,QI,QI,QM,QM]at M;omega
 have s:ks=h++x::(j++v):=by rw[S,X,Qz];rfl
 have o:vs=y++pr p::(e++u):=by rw[ev,G,Qz];rfl
 obtain⟨W,K⟩:=yb R i F hb w B λq P=>by rw[X];exact Qo _ P
 have a:=i.adjw W;have C:=AQ a;have O:Key r p:=by rw[IA,i.keys];exact dB a
 have N:Key r x:=by rw[IA,i.keys];exact dB (UB a)
 have E:=i.toBase.inn;have Y:pF Ψ %[.set 3 (.vz 4)|2] Z (kR (XY r p x) (sC ks vs) last x (bD (pr p))):=by have:=k h y (x::(j++v)) (pr p::(e++u)) p (XY r p x) J s o (by rw[QM,QM,QI,QI];omega) (by rw[X,QI,QM];omega) Q K;unfold kR at this;delta kR;simp_arith[↓vA];exact this
 have f:pF Ψ %[.six (.idx (.vz 0) (.vz 4)) (.vz 3) (.bin .Sub (.idx (.idx (.vz 0) (.vz 4)) (.vz 3)) (.int 1)),.six (.idx (.vz 0) (.vz 3)) (.vz 4) (.bin .Add (.idx (.idx (.vz 0) (.vz 3)) (.vz 4)) (.int 1)),.set 3 (.vz 4)|2] Z (kR r (sC ks vs) last x (bD (pr p))):=by have i1:=E p;have i2:=E x;refine ft O ((i.adj _ _).mpr a) (by omega) (bt ?_ ?_ ?_ Y);exact UI.mpr (.inr N);show yI _ x p;have:=(i.adj x p).mpr (UB a);unfold yI at this ⊢;rw[dE,if_neg C];exact this;rw[dE,if_neg C];omega
 unfold kR at f;delta kR;delta nE;simp_arith[↓vA];rw[s,o]at f ⊢;refine jm L (by rw[QI,QI];omega) B ?_;simp_arith[↓vA];exact f
end
section
variable{es:dC}{st c:LS}{g a f:Str}{ks:List Pt}{vs:List D}{K:T->LT->Prop}{E:XE}{Ψ:PEv}{W:LT->Prop}{n m:Bool}{ρ:zA}{R:T->Prop}{r:Rm}{Z:PEnds}{L:Bool->Prop}{Q:T->Bool->Prop}{i:Nat}{cs:List (LS)}
noncomputable def aJ:PSp where
 md:=[.chg]
 run:=λu Q _=>∃(es:dC) (st:LS) (g:Str) (x:Rm) (ks:List Pt) (vs:List D),u=[UA x,.d (.dict (sC ks vs)),.d (pr (tO g))]/\((jA es st g).length<=1000/\JG es st/\Flow es st g x/\CF x ks vs/\tO g∈ks)/\∀y,Flow es st g y->out es st g y VA=out es st g x VA+1->Q (.d .none) [UA y]
 mono:=λh _ z=>by obtain⟨es,st,g,x,ks,vs,e,l,q⟩:=z;exact⟨es,st,g,x,ks,vs,e,l,λy a b=>h _ _ (q y a b)⟩
theorem z9{h:Rm}(w:(jA es st g).length<=1000)(v:JG es st)(u:Flow es st g h)(z:CF h ks vs)(y:tO g∈ks)(q:∀x,Flow es st g x->out es st g x VA=out es st g h VA+1->K (.d .none) [UA x]):aB aJ [UA h,.d (.dict (sC ks vs)),.d (pr (tO g))] K E:=⟨es,st,g,h,ks,vs,rfl,⟨w,v,u,z,y⟩,q⟩
theorem zi(F:Ψ.va "BEGIN"=some (pr VA))(ds Q E)(h:aJ.run ds Q E):kH Ψ pG aJ BK oI ds Q:=by
 obtain⟨es,st,g,b,ks,vs,rfl,⟨P,O,fl,cf,M⟩,q⟩:=h;refine TJ [oW (UA b),bD (.dict (sC ks vs)),bD (pr (tO g)),none,none] rfl rfl rfl ?_;delta pG;simp_arith[↓vA];refine zI (λm ρ=>∃r x y w v z o4,m=x.length/\CF b x y/\ks=x++w/\vs=y++v/\v.length=w.length/\z∈x/\LC es st g b r z x/\ρ=kR r (sC ks vs) (pr (tO g)) z o4) ks.length ⟨b,ks,vs,[],[],tO g,_,rfl,cf,by rw[qA],by rw[qA],rfl,M,L5 fl ks,rfl⟩ ?_;rintro m ρ ⟨r,x,y,w,v,z,o4,em,G,ek,ev,N,B,A,rfl⟩;have s:vF (pr z):=y6 O (by have:=dI fl.toBase.dom fl.toBase.bg (G.rch z B);rw[IA,fl.keys]at this;exact this);have X:vF (pr VA):=SD kO.1 kO.2;have u:∀L:Bool->Prop,L (!decide (z=VA))->iB .NotEq (.d (pr z)) (.d (pr VA)) L:=λL l=>by show vF (pr z)/\vF (pr VA)/\L (!PyData.eqv (pr z) (pr VA));rw[FV];exact⟨s,X,l⟩
 by_cases e:z=VA;subst e;delta kR;simp_arith[↓tH F];refine u _ ?_;rw[dT rfl];obtain⟨H,S⟩:=Hi A;exact q r H S;have C:=λ(Z:PEnds) J=>Aa (Ψ:=Ψ) (Z:=Z) (last:=pr (tO g)) (o4:=o4) P fl.ndi G ek ev N B e A J;unfold kR at C;delta kR;simp_arith[↓tH F];refine u _ ?_;rw[dF e];refine C _ λk o Y j p I a1 a2 a3 a4 a5 a6 a7=>⟨k.length,by omega,I,k,o,Y,j,p,_,rfl,a1,a2,a3,a4,a6,a7,rfl⟩
theorem N0{l:Inn}:IK .val [(YD l,false)] W=W ((l.map λe=>pr e.1).map T.d):=KS _ _
theorem Bg{kvs:List (D×D)}(h:JD kvs=some true):IK .val [(.d (.dict kvs),n)] W=W ((kvs.map (·.1)).map T.d):=by unfold IK TB;rw[oA];show FB .val [vC kvs] W=_;unfold vC;rw[h];exact KS _ _
theorem xf{a b h:PX}{t:Str}{x:T}{R:Option T->Prop}:SI Ψ E [] [t] (.nm 0) (.and a b) h ρ x R=sN Ψ (.and a b) E (some (.ky x)::lockA ρ) λk z=>if k=true then pB Ψ h E z λy n _=>RC y n (R (some y)) else R none:=rfl
theorem vR{p:Pt}:FA (.d (pr p)) n (.d (.int 0)) m R=R (.d (.str p.1)):=by delta pr;rw[K0,Jk,CB]
theorem Nl{p:Pt}:FA (.d (pr p)) n (.d (.int 1)) m R=R (.d (.str p.2)):=by delta pr;rw[K0,Vu,CB]
theorem Jd:(T.d (.tuple [.str a,.str "from"]))=.d (pr (fR a)):=rfl
theorem M3:(T.d (.tuple [.str a,.str "to"]))=.d (pr (tO a)):=rfl
noncomputable def dD:PSp where
 md:=[.ky]
 run:=λx Q _=>∃(es:dC) (st:LS) (g:Str) (r:Rm) (n:Str),x=[UA r,.d (.str n)]/\((jA es st g).length<=1000/\Flow es st g r/\bU r n=1)/\∀m,N7 r n m->Q (.d (.str m)) []
 mono:=λh _ z=>by obtain⟨es,st,g,r,n,e,l,q⟩:=z;exact⟨es,st,g,r,n,e,l,λm a=>h _ _ (q m a)⟩
theorem YU{n:Str}(y:(jA es st g).length<=1000)(x:Flow es st g r)(h:bU r n=1)(q:∀m,N7 r n m->K (.d (.str m)) []):aB dD [UA r,.d (.str n)] K E:=⟨es,st,g,r,n,rfl,⟨y,x,h⟩,q⟩
theorem NY(ds Q E)(h:dD.run ds Q E):kH Ψ mE dD pH TF ds Q:=by
 obtain⟨es,st,g,r,n,rfl,⟨O,fl,C⟩,q⟩:=h;have N:=fl.toBase.inn (fR n);obtain⟨j,b⟩:=fi fl C;have s:yI r (fR n) (tO j):=(fl.adj _ _).mpr (UB (fl.toBase.adjw b.2));have Y:Key r (fR n):=by rw[IA,fl.keys];exact dB ((fl.adj _ _).mp s)
 refine gA [some (.ky (UA r)),bD (.str n),none] rfl rfl rfl ?_;delta mE;simp_arith[Jd,↓IH];refine⟨by omega,EE Y ?_⟩;simp_arith[↓R7,↓N0];have I:((lk r (fR n)).map λe=>pr e.1).map T.d=((lk r (fR n)).map (·.1)).map λp=>T.d (pr p):=by rw[QY,QY];rfl
 rw[I];refine fA (λp=>T.d (pr p)) (λ(p:Pt)=>T.d (.str p.1)) (λp=>!decide (p.1=n)&&decide (0<rm r p (fR n))) ((lk r (fR n)).map (·.1)) [] _ (λx B R w=>?_) (by show 0+((lk r (fR n)).map (·.1)).length<=_;rw[QD];omega) ?_;obtain⟨e,F,G⟩:=QZ.mp B;have J:yI r (fR n) x:=fB.mpr ⟨e.2,by rw[<- G];exact F⟩;have k:yI r x (fR n):=(fl.adj _ _).mpr (UB ((fl.adj _ _).mp J));have X:Key r x:=by rw[IA,fl.keys];exact dB ((fl.adj _ _).mp k)
 obtain⟨v,hv⟩:=k;have ev:rm r x (fR n)=v:=by unfold rm;rw[hv];rfl
 rw[ev]at w;simp_arith[↓xf,↓vR,↓IH];by_cases c:x.1=n;rw[dT c]at w ⊢;exact w;rw[dF c]at w ⊢;simp only[WA,↓reduceIte];refine EE X ?_;simp_arith[↓IX];refine cP hv ?_;simp_arith[↓vR];by_cases d:0<v;rw[dT d]at w ⊢;exact w;rw[dF d]at w ⊢;exact w;have l:tO j∈((lk r (fR n)).map (·.1)).filter λp=>!decide (p.1=n)&&decide (0<rm r p (fR n)):=by obtain⟨v,hv⟩:=s;refine Qa.mpr ⟨QZ.mpr ⟨_,NG hv,rfl⟩,?_⟩;rw[dF (show ¬ (tO j).1=n from λz=>b.1 z.symm),dT b.2];rfl
 cases o:((lk r (fR n)).map (·.1)).filter λp=>!decide (p.1=n)&&decide (0<rm r p (fR n)) with
 |nil=>rw[o]at l;exact(nomatch l)
 |cons y M =>
  have A:y∈((lk r (fR n)).map (·.1)).filter λp=>!decide (p.1=n)&&decide (0<rm r p (fR n)):=by rw[o];exact QF
  have u:=(Qa.mp A).2;rw[Qc,Q9,decide_eq_false_iff_not,decide_eq_true_iff]at u;obtain⟨m,rfl⟩:=Pd fl.toBase ((fl.adj _ _).mpr (fl.toBase.adjw u.2));rw[Qh,nA (λp:Pt=>PyData.str p.1)];simp_arith[↓vA];rw[QW,Jk];simp_arith[↓vA];exact q m ⟨λz=>u.1 z.symm,u.2⟩
noncomputable def aE:PSp where
 md:=[.ky]
 run:=λx Q _=>∃(es:dC) (st:LS) (g:Str) (r:Rm) (f:Str),x=[UA r,.d (.str f),.d (.str g)]/\((jA es st g).length<=1000/\Flow es st g r/\jU r f)/\∀c,Run r g f c g->Q (.lst ((c.map PyData.str).map T.d)) []
 mono:=λh _ z=>by obtain⟨es,st,g,r,n,e,l,q⟩:=z;exact⟨es,st,g,r,n,e,l,λm a=>h _ _ (q m a)⟩
theorem aY(y:(jA es st g).length<=1000)(x:Flow es st g r)(h:jU r f)(q:∀c,Run r g f c g->K (.lst ((c.map PyData.str).map T.d)) []):aB aE [UA r,.d (.str f),.d (.str g)] K E:=⟨es,st,g,r,f,rfl,⟨y,x,h⟩,q⟩
theorem bh(fl:Flow es st g r)(w:jU r f){n:Str}(h:Run r g f c n):(∀x∈c,tO x∈vs0 es st g)/\tO n∈vs0 es st g:=by
 induction h with
 |nil=>exact⟨λx y=>(nomatch y),(tI fl.toBase w).1⟩
 |go _ _ v u=>refine⟨λx y=>?_,(tI fl.toBase v.2).1⟩;rcases Qi.mp y with z|z;exact u.1 x z;rw[QJ.mp z];exact u.2
theorem DW(fl:Flow es st g r)(y:jU r f){n:Str}(h:Run r g f c n):c.length<=(jA es st g).length:=by
 have nd:=(h.nd fl y).1;have:=MG (ks:=c.map tO) (ns:=vs0 es st g) (Wf tO (λa b u z=>u (BB z)) nd) λp w=>by obtain⟨x,v,e⟩:=QZ.mp w;rw[<- e];exact(bh fl y h).1 x v
 unfold vs0 at this;rw[QD,QD]at this;exact this
noncomputable def Dj(r:Rm)(f g:Str)(c:LS)(n:Str):zA:=[some (.ky (UA r)),bD (.str f),bD (.str g),oW (.lst ((c.map PyData.str).map T.d)),bD (.str n)]
theorem yc(y:Ψ.sp "name_behind"=dD){n:Str}(x:(jA es st g).length<=1000)(fl:Flow es st g r)(h:bU r n=1)(hl:c.length<=1000)(k:∀m,N7 r n m->Z.nx (Dj r f g (c++[n]) m)) :
  pF Ψ FD Z (Dj r f g c n):=by
 delta Dj at k ⊢;delta FD;simp_arith[↓IQ,↓xA (md:=[.ky]) y rfl rfl];refine⟨by rw[QD,QD];omega,YU x fl h λm nx=>?_⟩;have:=k m nx;rw[QO,QO]at this;simp_arith[↓vA];exact this
theorem M4(l:Ψ.sp "name_behind"=dD)(ds Q E)(h:aE.run ds Q E):kH Ψ YF aE mJ lH ds Q:=by
 obtain⟨es,st,g,r,f,rfl,⟨j,fl,u⟩,q⟩:=h;have v:sizeLine=16777216:=Q8;refine gA [some (.ky (UA r)),bD (.str f),bD (.str g),none,none] rfl rfl rfl ?_;delta YF
 simp_arith[↓vA];refine⟨Qs _,zI (λm ρ=>∃c n,m+c.length=1001/\Run r g f c n/\ρ=Dj r f g c n) 1001 ⟨[],f,rfl,.nil,rfl⟩ ?_⟩;rintro m ρ ⟨c,n,o,y,rfl⟩;have hl:=DW fl u y;by_cases e:n=g;subst e;delta Dj;simp_arith[↓vA];exact q c y;have w:=λ(Z:PEnds) v=>yc (Ψ:=Ψ) (Z:=Z) (f:=f) (g:=g) (c:=c) l j fl (y.thr1 fl u e) (by omega) v;unfold Dj at w;delta Dj;simp_arith[↓vA];rw[dF e];refine w _ λb k=>?_;have x:=y.go e k;have z:=DW fl u x;rw[QI,qF]at z;exact⟨m - 1,by omega,c++[n],b,by rw[QI,qF];omega,x,rfl⟩
theorem Oj{q:Pt}(hv:vs.length=ks.length)(hb:VA∈ks):iB .NotIn (.d (pr q)) (.d (.dict (sC ks vs))) L=L (!decide (q∈ks)):=by show(∃b,JD (sC ks vs)=some b/\HD b (pr q)/\L (!(bA ((sC ks vs).map (·.1)) (pr q)).isSome))=_;rw[EI hv hb,xL hv,LI];exact propext ⟨λ⟨_,_,_,h⟩=>h,λh=>⟨true,rfl,PB q,h⟩⟩
theorem Oe{q:Pt}(hv:vs.length=ks.length)(hb:VA∈ks):iB .In (.d (pr q)) (.d (.dict (sC ks vs))) L=L (decide (q∈ks)):=by show(∃b,JD (sC ks vs)=some b/\HD b (pr q)/\L (bA ((sC ks vs).map (·.1)) (pr q)).isSome)=_;rw[EI hv hb,xL hv,LI];exact propext ⟨λ⟨_,_,_,h⟩=>h,λh=>⟨true,rfl,PB q,h⟩⟩
theorem jo{x:LS}(y:x.length<64)(q:∀h:LS,h.Perm x->sortedS h=true->Q (.lst ((h.map PyData.str).map T.d)) true):rJ .sorted [(.lst ((x.map PyData.str).map T.d),n)] Q:=by unfold rJ TB;rw[bE];exact .inl ⟨_,x,rfl,YA _,y,q⟩
theorem yo{ls:List (LS)}(x:ls.length<64)(q:∀h:List (LS),h.Perm ls->Q (.lst ((h.map IC).map T.d)) true):rJ .sorted [(.d (.list (ls.map IC)),n)] Q:=by unfold rJ TB;rw[oA];exact .inr (.inl ⟨_,ls,rfl,YA _,x,q⟩)
def HK(ks:List Pt):LS:=(ks.filter (lG ks)).map λp=>p.1
noncomputable def bI:PSp where
 md:=[]
 run:=λx Q _=>∃(ks:List Pt) (vs:List D),x=[.d (.dict (sC ks vs))]/\(vs.length=ks.length/\VA∈ks/\ks.length<=1000/\(ks.filter (lG ks)).length<64)/\∀cut:LS,cut.Perm (HK ks)->sortedS cut=true->Q (.lst ((cut.map PyData.str).map T.d)) []
 mono:=λh _ z=>by obtain⟨ks,vs,e,l,q⟩:=z;exact⟨ks,vs,e,l,λm a b=>h _ _ (q m a b)⟩
theorem E2(z:vs.length=ks.length)(y:VA∈ks)(x:ks.length<=1000)(h:(ks.filter (lG ks)).length<64)(q:∀cut:LS,cut.Perm (HK ks)->sortedS cut=true->K (.lst ((cut.map PyData.str).map T.d)) []):aB bI [.d (.dict (sC ks vs))] K E:=⟨ks,vs,rfl,⟨z,y,x,h⟩,q⟩
theorem aa(ds Q E)(h:bI.run ds Q E):kH Ψ JF bI lJ gH ds Q:=by obtain⟨ks,vs,rfl,⟨hv,hb,b,w⟩,q⟩:=h;refine gA [bD (.dict (sC ks vs))] rfl rfl rfl ?_;delta JF;simp_arith[↓Bg (EI hv hb),xL hv];rw[<- nA];refine fA (λp=>T.d (pr p)) (λ(p:Pt)=>T.d (.str p.1)) (lG ks) ks [] _ (λx k R y=>?_) (by show 0+ks.length<=_;omega) ?_;have y:R (if(decide (x.2="to")&&!decide (fR x.1∈ks))=true then some (T.d (.str x.1)) else none):=y;simp_arith[↓xf,↓vR,↓Nl,Jd,↓Oj hv hb];by_cases c:x.2="to";rw[dT c]at y ⊢;refine⟨by omega,?_⟩;by_cases d:fR x.1∈ks;rw[dT d]at y ⊢;exact y;rw[dF d]at y ⊢;exact y;rw[dF c]at y ⊢;exact y;rw[Qh,nA (λp:Pt=>PyData.str p.1),show((ks.filter (lG ks)).map λp=>PyData.str p.1)=(HK ks).map PyData.str by unfold HK;rw[QY];rfl];refine jo (by unfold HK;rw[QD];exact w) λz v u=>?_;simp_arith[↓vA];exact q z v u
theorem iZ(f:Flow es st g r):(((lk r VA).map (·.1)).filter λy=>decide (0<rm r y VA)).length<=st.length:=by
 have u:∀y∈((lk r VA).map (·.1)).filter (λy=>decide (0<rm r y VA)),y=tO y.1/\jU r y.1:=λy x=>by have h:=of_decide_eq_true (Qa.mp x).2;obtain⟨n,rfl⟩:=Y5 f.toBase ((f.adj _ _).mpr (f.toBase.adjw h));exact⟨rfl,h⟩
 have nd:(((lk r VA).map (·.1)).filter λy=>decide (0<rm r y VA)).Nodup:=(f.ndi VA).sublist qB;have:=xQ (ks:=(((lk r VA).map (·.1)).filter λy=>decide (0<rm r y VA)).map (·.1)) (ns:=st) (by
  refine Wf _ (λa b h=>h) (wZ (λ{a b} k hb v z=>?_) nd);exact v (by rw[(u a k).1,(u b hb).1,z])) λs w=>by
  obtain⟨y,x,e⟩:=QZ.mp w;rw[<- e];exact(OJ f.toBase (u y x).2).1
 rw[QD]at this;exact this
theorem CO{α v:Type}{body:T->(Option T->Prop)->Prop}(P:α->v->Prop)(g:α->T)(f:v->T):∀(l:List α) (h:LT) (Q:LT->Prop),(∀x∈l,∀R:Option T->Prop,(∀y,P x y->R (some (f y)))->body (g x) R)->h.length+l.length<=sizeLine->(∀u,Paired P l u->Q (h++u.map f))->VD body (l.map g) h Q
 |[],h,Q,_,hl,q=>by have:=q [] .nil;rw[WJ,qA]at this;exact⟨by rw[wO]at hl;omega,this⟩|x::r,h,Q,hb,hl,q=>by
  rw[QM]at hl;refine hb x QF _ λy k=>⟨by omega,?_⟩
  refine CO P g f r _ Q (λz w=>hb z (QE _ w)) (by rw[QI,qF];omega) λu b=>?_;have:=q (y::u) (.cons k b);rw[QW]at this;rw[Qz];exact this
theorem Ef{r:PT}:CL Ψ E r Z i (g8 ks vs) true ρ=cB Ψ E r Z (ρ.set i (bD (.dict (sC ks vs)))):=by unfold CL;rw[Gj];exact propext ⟨λh=>h.2,λh=>⟨rfl,h⟩⟩
def Gp(c:LS):T:=.lst ((c.map PyData.str).map T.d)
theorem Cj(cs:List (LS)):ersT (cs.map Gp)=cs.map IC:=by rw[zL,QY];congr 1;funext c;show PyData.list (ersT ((c.map PyData.str).map T.d))=_;rw[uB];rfl
theorem Tu{r:PT}:CL Ψ E r Z i (.lst (cs.map Gp)) true ρ=cB Ψ E r Z (ρ.set i (bD (.list (cs.map IC)))):=by
 have e:(T.lst (cs.map Gp)).er=.list (cs.map IC):=by show PyData.list (ersT (cs.map Gp))=_;rw[Cj]
 unfold CL;rw[e];exact propext ⟨λh=>h.2,λh=>⟨rfl,h⟩⟩
theorem Ko{a b:LT}:AD [.lst a,.lst b]=.tup [.lst a,.lst b]:=rfl
theorem zK:∀{cs:List (LS)},pJ cs↔cs.Pairwise λc d=>∀x∈c,x∉d
 |[]=>⟨λ_=>.nil,λ_=>trivial⟩|c::cs=>by rw[QBr,<- zK];exact WT
theorem bW{ds:List (LS)}(h:ds.Perm cs)(a:pJ cs):pJ ds:=zK.mpr ((h.pairwise_iff (λ{a b} z x u y=>z x y u)).mpr (zK.mp a))
structure Good(es:dC)(st:LS)(g:Str)(cs:List (LS))(cut:LS):Prop where
 chn:∀c∈cs,Chn es st g c g/\c.Nodup/\∀x∈c,x≠g
 apart:pJ cs
 len:cs.length=cut.length
 few:cut.length<=11
 nd:cut.Nodup
 srt:sortedS cut=true
 ng:g∉cut
 led:¬ ∃a,(a,g)∈es/\Led es st g cut a
 okn:∀s∈cut,qX s=true
end
section
variable{es:dC}{st:LS}{g:Str}{r:Rm}
theorem FL(f:Flow es st g r):∀{fs:LS}{cs:List (LS)},fs.Nodup->(∀s∈fs,jU r s)->Paired (λs c=>Run r g s c g) fs cs->pJ cs/\(∀c∈cs,∃s∈fs,Run r g s c g)
 |_,_,_,_,.nil=>⟨trivial,λ_ h=>(nomatch h)⟩
 |s::fs,c::cs,nd,hf,.cons h t=>by
  obtain⟨b,a⟩:=Qj.mp nd;obtain⟨l,k⟩:=FL f a (λs j=>hf s (QE _ j)) t;refine⟨⟨λd w x i e=>?_,l⟩,λd w=>?_⟩;obtain⟨u,y,v⟩:=k d w;have:=Run.apart f (hf s QF) (hf u (QE _ y)) h v x i e;exact b (this▸y);rcases QL.mp w with z|z
  ·rw[z];exact⟨s,QF,h⟩
  obtain⟨u,y,v⟩:=k d z;exact⟨u,QE _ y,v⟩
def yr(r:Rm):List Pt:=((lk r VA).map λe=>e.1).filter λy=>decide (0<rm r y VA)
def ZV(r:Rm):LS:=(yr r).map λp=>p.1
theorem U6(f:Flow es st g r):∀y∈yr r,y=tO y.1/\jU r y.1:=λy x=>by have h:=of_decide_eq_true (Qa.mp x).2;obtain⟨n,rfl⟩:=Y5 f.toBase ((f.adj _ _).mpr (f.toBase.adjw h));exact⟨rfl,h⟩
theorem Yp(f:Flow es st g r):(ZV r).Nodup:=by have nd:(yr r).Nodup:=(f.ndi VA).sublist qB;refine Wf _ (λa b h=>h) (wZ (λ{a b} y hb x z=>?_) nd);exact x (by rw[(U6 f a y).1,(U6 f b hb).1,z])
theorem YV(f:Flow es st g r):∀s∈ZV r,jU r s:=λs x=>by obtain⟨y,h,e⟩:=QZ.mp x;rw[<- e];exact(U6 f y h).2
theorem PJ(f:Flow es st g r):out es st g r VA=(ZV r).length/\(ZV r).length<=st.length:=by have x:=Lb f;have h:=iZ f;unfold ZV;rw[QD];exact⟨x,h⟩
theorem uM{α x:Type}{P:α->x->Prop}{l:List α}{m:List x}(h:Paired P l m):l.length=m.length:=qJ h
theorem Cb(f:Flow es st g r)(C:JG es st)(F:st.length<=11){ks:List Pt}{vs:List D}(W:CF r ks vs)(hk:∀p,p∈ks↔Rch r p)(q:tO g∉ks){cs ds:List (LS)}(Y:Paired (λs c=>Run r g s c g) (ZV r) cs)(j:ds.Perm cs){cut:LS}(w:cut.Perm (HK ks))(sc:sortedS cut=true):Good es st g ds cut:=by
 obtain⟨J,I⟩:=FL f (Yp f) (YV f) Y;obtain⟨P,O⟩:=PJ f;have N:=zT f W.nd hk q;have M:(HK ks).length=(ks.filter (lG ks)).length:=by unfold HK;rw[QD]
 have L:=uM Y;have u:∀s,s∈HK ks↔tO s∈ks/\fR s∉ks:=λs=>by unfold HK;rw[QZ];constructor;rintro⟨y,B,e⟩;obtain⟨v,x⟩:=Qa.mp B;obtain⟨n,X,k⟩:=jE.mp x;subst X;have e:n=s:=e;subst e;exact⟨v,k⟩;rintro⟨v,x⟩;exact⟨tO s,Qa.mpr ⟨v,jE.mpr ⟨s,rfl,x⟩⟩,rfl⟩
 have l:(HK ks).Nodup:=by unfold HK;refine Wf _ (λa b h=>h) (wZ (λ{a b} E hb A z=>?_) (W.nd.sublist (qB (p:=lG ks))));obtain⟨n,G,_⟩:=jE.mp (Qa.mp E).2;obtain⟨m,X,_⟩:=jE.mp (Qa.mp hb).2;subst G X;have z:n=m:=z;exact A (by rw[z])
 have K:=w.length_eq;refine⟨λc hc=>?_,bW j J,by rw[j.length_eq,K];omega,by omega,w.nodup_iff.mpr l,sc,λz=>q ((u g).mp (w.mem_iff.mp z)).1,?_,λs o=>?_⟩;obtain⟨s,o,i⟩:=I c (j.mem_iff.mp hc);have Z:=YV f s o;exact⟨i.chn f Z,(i.nd f Z).1,i.ng⟩;exact Ab f hk q λn v x=>w.mem_iff.mpr ((u n).mpr ⟨v,x⟩);have v:=((u s).mp (w.mem_iff.mp o)).1;have x:=IA.mp (dI f.toBase.dom f.toBase.bg ((hk _).mp v));rw[f.keys]at x;have k:=(y6 C x).1;simp only[pr,tO,QAT,qk,Qc]at k;exact k.1
end
noncomputable def RQ(es:dC)(st:LS)(g:Str)(r:Rm)(h:List (D×D))(o5 o6:Option Sl):zA:=[bD (.list (es.map pr)),bD (.tuple (st.map PyData.str)),bD (.str g),oW (UA r),bD (.dict h),o5,o6]
section
variable{Ψ:PEv}{Z:PEnds}{es:dC}{st:LS}{g:Str}{r:Rm}
section
variable{q:PT}{h:List (D×D)}{o6:Option Sl}
theorem Cu(u:Ψ.sp "rooms_of"=sE)(z:Ψ.sp "points_reached"=pD)(y:es.length<=126)(x:st.length<=11)(k:∀ks vs,CF (jA es st g) ks vs->(∀p,p∈ks↔Rch (jA es st g) p)->pF Ψ q Z (RQ es st g (jA es st g) (sC ks vs) none none)) :
  pF Ψ (.seq (.own 3 (.call "rooms_of" %[.vz 0,.vz 1,.vz 2|1])) (.seq (.set 4 (.call "points_reached" %[.vz 3|1])) q)) Z [bD (.list (es.map pr)),bD (.tuple (st.map PyData.str)),bD (.str g),none,none,none,none]:=by
 have ok:=ER (g:=g) y x;delta RQ at k;simp_arith[↓xA (md:=[]) u rfl rfl,↓xA (md:=[.ky]) z rfl rfl];refine rY y x ?_;simp_arith[↓IQ,↓xA (md:=[.ky]) z rfl rfl];refine cO (.inl rfl) ok.dom ok.bg ok.sz.1 λks vs hc hk=>?_;simp_arith[↓Ef];exact k ks vs hc hk
theorem Bu(w:Ψ.sp "points_reached"=pD)(i:Ψ.sp "lay_chain"=aJ){ks:List Pt}{vs:List D}(v:(jA es st g).length<=1000)(a:JG es st)(f:Flow es st g r)(j:CF r ks vs)(b:tO g∈ks)
  (k:∀z x y,Flow es st g z->out es st g z VA=out es st g r VA+1->CF z x y->(∀p,p∈x↔Rch z p)->Z.nx (RQ es st g z (sC x y) none none)) :
  pF Ψ VC Z (RQ es st g r (sC ks vs) none none):=by
 delta RQ at k ⊢;delta VC;simp_arith[M3,↓EG (md:=[]) i rfl rfl,↓xA (md:=[.ky]) w rfl rfl];refine⟨by omega,z9 v a f j b λz u e=>⟨_,rfl,?_⟩⟩;simp_arith[↓IQ,↓xA (md:=[.ky]) w rfl rfl];refine cO (.inl rfl) u.toBase.dom u.toBase.bg (by rw[u.toBase.len];exact v) λx y hc hk=>?_;simp_arith[↓Ef];exact k z x y u e hc hk
theorem Uu(w:Ψ.va "BEGIN"=some (pr VA)){o5:Option Sl}(o:(jA es st g).length<=1000)(f:Flow es st g r)(k:pF Ψ q Z (RQ es st g r h (bD (.list ((ZV r).map PyData.str))) o6)) :
  pF Ψ (.seq (.set 5 (.comp [] ["point"] (.nm 0) .val %[.idx (.vz 3) (.glo "BEGIN")|1] (.cmp .Gt (.idx (.idx (.vz 4) (.vz 0)) (.glo "BEGIN")) (.int 0)) (.idx (.vz 0) (.int 0)))) q) Z (RQ es st g r h o5 o6):=by
 have s:=f.toBase.inn VA;delta RQ at k ⊢;simp_arith[↓IH,↓tH w];refine EE f.toBase.bg ?_;simp_arith[↓R7,↓N0];have m:((lk r VA).map λe=>pr e.1).map T.d=((lk r VA).map λe=>e.1).map λp=>T.d (pr p):=by rw[QY,QY];rfl
 rw[m];refine fA (λp=>T.d (pr p)) (λ(p:Pt)=>T.d (.str p.1)) (λy=>decide (0<rm r y VA)) ((lk r VA).map λe=>e.1) [] _ (λx b R z=>?_) (by show 0+((lk r VA).map λe=>e.1).length<=_;rw[QD];omega) ?_;obtain⟨e,i,j⟩:=QZ.mp b;have n:yI r VA x:=fB.mpr ⟨e.2,by rw[<- j];exact i⟩;have u:yI r x VA:=(f.adj _ _).mpr (UB ((f.adj _ _).mp n));have a:Key r x:=by rw[IA,f.keys];exact dB ((f.adj _ _).mp u)
 obtain⟨v,hv⟩:=u;have ev:rm r x VA=v:=by unfold rm;rw[hv];rfl
 rw[ev]at z;simp_arith[↓IH,↓tH w];refine EE a ?_;simp_arith[↓IX,↓tH w];refine cP hv ?_;simp_arith[↓vR];by_cases d:0<v;rw[dT d]at z ⊢;exact z;rw[dF d]at z ⊢;exact z;rw[Qh,nA (λp:Pt=>PyData.str p.1)];have l:((((lk r VA).map λe=>e.1).filter λy=>decide (0<rm r y VA)).map λp=>PyData.str p.1)=(ZV r).map PyData.str:=by unfold ZV yr;rw[QY];rfl
 rw[l];simp_arith[↓vA];exact k
theorem Xu(a:Ψ.sp "chain_from"=aE)(u:(jA es st g).length<=1000)(b:st.length<=11)(f:Flow es st g r)(k:∀cs,Paired (λs c=>Run r g s c g) (ZV r) cs->pF Ψ q Z (RQ es st g r h (bD (.list ((ZV r).map PyData.str))) (bD (.list (cs.map IC))))) :
  pF Ψ (.seq (.set 6 (.comp [] ["first"] (.nm 0) .val %[.vz 5|1] .nop (.call "chain_from" %[.vz 4,.vz 0,.vz 3|1]))) q) Z (RQ es st g r h (bD (.list ((ZV r).map PyData.str))) o6):=by
 have hl:=(PJ f).2;delta RQ at k ⊢;simp_arith[↓vA];rw[<- nA PyData.str (ZV r)];refine CO (λs c=>Run r g s c g) (λs=>T.d (.str s)) Gp (ZV r) [] _ (λx z R w=>?_) (by show 0+(ZV r).length<=_;omega) λcs v=>?_;simp_arith[↓IQ,↓xA (md:=[.ky]) a rfl rfl];refine aY u f (YV f x z) λc y=>?_;simp_arith[↓vA];exact w c y;rw[Qh];simp_arith[↓Tu];exact k cs v
end
end
section
variable{es v:dC}{g x:Str}{F sr u:LS}{n:Int}
noncomputable def PF:PSp where
 md:=[]
 run:=λw Q _=>∃(es:dC) (st:LS) (g:Str),w=[.d (.list (es.map pr)),.d (.tuple (st.map PyData.str)),.d (.str g)]/\(es.length<=126/\st.length<=11/\JG es st)/\∀y cut,Good es st g y cut->Q (.tup [.lst ((y.map IC).map T.d),.lst ((cut.map PyData.str).map T.d)]) []
 mono:=λh _ z=>by obtain⟨es,st,g,e,l,q⟩:=z;exact⟨es,st,g,e,l,λy cut a=>h _ _ (q y cut a)⟩
theorem eY{st:LS}{K:T->LT->Prop}{E:XE}(z:es.length<=126)(y:st.length<=11)(h:JG es st)(q:∀cs cut,Good es st g cs cut->K (.tup [.lst ((cs.map IC).map T.d),.lst ((cut.map PyData.str).map T.d)]) []):aB PF [.d (.list (es.map pr)),.d (.tuple (st.map PyData.str)),.d (.str g)] K E:=⟨es,st,g,rfl,⟨z,y,h⟩,q⟩
theorem N4{Ψ:PEv}(S:Ψ.sp "rooms_of"=sE)(G:Ψ.sp "points_reached"=pD)(R:Ψ.sp "lay_chain"=aJ)(P:Ψ.sp "chain_from"=aE)(C:Ψ.sp "full_names"=bI)(O:Ψ.va "BEGIN"=some (pr VA))(ds Q E)(h:PF.run ds Q E):kH Ψ iG PF KG VF ds Q:=by
 obtain⟨es,st,g,rfl,⟨W,i,B⟩,q⟩:=h;have K:sizeLine=16777216:=Q8;have j:(jA es st g).length<=1000:=(ER (g:=g) W i).sz.1;refine gA [bD (.list (es.map pr)),bD (.tuple (st.map PyData.str)),bD (.str g),none,none,none,none] rfl rfl rfl ?_;refine Cu S G W i λo w H M=>?_;have b0:=PJ (Je (es:=es) (st:=st) (g:=g));delta RQ;simp_arith[↓vA];refine zI (λm Y=>∃r z b,(m:Int)+out es st g r VA=12/\Flow es st g r/\CF r z b/\(∀p,p∈z↔Rch r p)/\Y=RQ es st g r (sC z b) none none) (12 - out es st g (jA es st g) VA).toNat ⟨jA es st g,o,w,by omega,Je,H,M,rfl⟩ ?_;rintro m Y ⟨r,z,b,em,f,y,hk,rfl⟩;have bd:=PJ f;by_cases a:tO g∈z;have k:=λ(Z:PEnds) K=>Bu (Ψ:=Ψ) (Z:=Z) G R j B f y a K;unfold RQ at k;delta RQ;simp_arith[M3,↓Oe y.len y.hb];refine⟨by omega,?_⟩;rw[dT a];refine k _ λI s l X e c' N=>⟨m - 1,?_,I,s,l,?_,X,c',N,rfl⟩
 have:=PJ X;omega;have:=PJ X;omega;have A:pF Ψ %[.set 5 (.comp [] ["point"] (.nm 0) .val %[.idx (.vz 3) (.glo "BEGIN")|1] (.cmp .Gt (.idx (.idx (.vz 4) (.vz 0)) (.glo "BEGIN")) (.int 0)) (.idx (.vz 0) (.int 0))),.set 6 (.comp [] ["first"] (.nm 0) .val %[.vz 5|1] .nop (.call "chain_from" %[.vz 4,.vz 0,.vz 3|1])),.ret (.tup %[.bi .sorted %[.vz 6|1],.call "full_names" %[.vz 4|1]|1])|2] (eZ Q) (RQ es st g r (sC z b) none none):=by refine Uu O j f (Xu P j i f λcs k=>?_);have lc:=uM k;have l3:=zT f y.nd hk a;delta RQ;simp_arith[↓xA (md:=[]) C rfl rfl];refine yo (by omega) λds J=>?_;simp_arith[↓xA (md:=[]) C rfl rfl];refine E2 y.len y.hb (QV (y.le f.toBase.dom f.toBase.bg) (by rw[f.toBase.len];exact j)) (by omega) λcut L sc=>?_;simp_arith[Ko];exact⟨by omega,q ds cut (Cb f B i y hk a k J L sc)⟩
 unfold RQ at A;delta RQ;simp_arith[M3,↓Oe y.len y.hb];refine⟨by omega,?_⟩;rw[dF a];exact A
def IS(es:dC)(F:LS):dC:=es.filter λe=>decide (e.1∈F)
theorem YQ{e:Str×Str}:e∈IS es F↔e∈es/\e.1∈F:=by unfold IS;rw[Qa,decide_eq_true_iff]
def PK(es:dC)(sr:LS)(x:Str)(F:LS)(n:Int):Prop:=∃h:List (LS),pJ h/\(∀c∈h,Chn (IS es F) sr x c x)/\n<=(h.length:Int)
theorem Chn.sub(w:∀e∈es,e∈v)(z:∀s∈sr,s∈u){c:LS}{n:Str}(h:Chn es sr g c n):Chn v u g c n:=by
 induction h with|st a b=>exact .st (z _ a) b|go _ b c y=>exact .go y b (w _ c)
theorem PK.sub{w:LS}{z:Int}(m:∀e∈es,e∈v)(j:∀s∈sr,s∈u)(i:∀y∈F,y∈w)(k:z<=n)(h:PK es sr x F n):PK v u x w z:=by obtain⟨q,a,c,l⟩:=h;refine⟨q,a,λd f=>Chn.sub (λe b=>?_) j (c d f),QAN k l⟩;obtain⟨p,o⟩:=YQ.mp b;exact YQ.mpr ⟨m e p,i _ o⟩
theorem F5{cs:List (LS)}{cut:LS}(h:Good (IS es F) sr x cs cut):PK es sr x F n↔n<=(cs.length:Int):=by constructor;rintro⟨y,a,c,l⟩;have:=VZ a c h.led;rw[<- h.len]at this;exact QAN l (QA9.mpr this);exact λl=>⟨cs,h.apart,λc hc=>(h.chn c hc).1,l⟩
inductive Held(es:dC)(sr:LS)(nd:List (Str×Int)):Str->Prop
 |see {x:Str}{n:Int}:(x,n)∈nd->x∈sr->Held es sr nd x
 |tell {x:Str}{n:Int}(F:LS):(x,n)∈nd->(∀y∈F,Held es sr nd y)->PK es sr x F n->Held es sr nd x
end
section
variable{es v:dC}{sr y:LS}{nd u:List (Str×Int)}
theorem Z6{S:LS}(f:∀x∈S,Held es sr nd x)(e:∀x n,(x,n)∈nd->x∈sr->x∈S)(k:∀x n,(x,n)∈nd->x∉S->¬ PK es sr x S n)(x:Str):x∈S↔Held es sr nd x:=by
 refine⟨f x,λh=>?_⟩;induction h with|see a b=>exact e _ _ a b|@tell x n F a _ m w=>by_cases z:x∈S;exact z;exact absurd (m.sub (λ_ h=>h) (λ_ h=>h) w (QCY _)) (k x n a z)
theorem Vb{x:Str}(h:Held es sr nd x):∃n,(x,n)∈nd:=by
 cases h with|see a _=>exact⟨_,a⟩|tell _ a=>exact⟨_,a⟩
end
noncomputable def IE:PSp where
 md:=[.xy,.xy,.xz]
 run:=λv Q _=>∃(y:dC) (x F:LS) (g:Str),v=[.d (.tuple (y.map pr)),.d (.tuple (x.map PyData.str)),.lst ((F.map PyData.str).map T.d),.d (.str g)]/\(y.length<=126/\x.length<=11/\JG y x)/\∀u cut,Good (IS y F) x g u cut->Q (.tup [.lst ((u.map IC).map T.d),.lst ((cut.map PyData.str).map T.d)]) []
 mono:=λh _ z=>by obtain⟨y,x,F,g,e,l,q⟩:=z;exact⟨y,x,F,g,e,l,λu cut a=>h _ _ (q u cut a)⟩
theorem G2{es:dC}{sr F:LS}{g:Str}{K:T->LT->Prop}{E:XE}(y:es.length<=126)(x:sr.length<=11)(h:JG es sr)(q:∀cs cut,Good (IS es F) sr g cs cut->K (.tup [.lst ((cs.map IC).map T.d),.lst ((cut.map PyData.str).map T.d)]) []):aB IE [.d (.tuple (es.map pr)),.d (.tuple (sr.map PyData.str)),.lst ((F.map PyData.str).map T.d),.d (.str g)] K E:=⟨es,sr,F,g,rfl,⟨y,x,h⟩,q⟩
theorem ya{Ψ:PEv}(k:Ψ.sp "apart_chains"=PF)(ds Q E)(h:IE.run ds Q E):kH Ψ UD IE YG ZF ds Q:=by
 obtain⟨y,v,F,g,rfl,⟨f,b,w⟩,q⟩:=h;have a:(IS y F).length<=126:=QV (Q3 _ _) f;have u:JG (IS y F) v:=⟨w.1,λe i=>w.2 e (YQ.mp i).1⟩
 refine gA [bD (.tuple (y.map pr)),bD (.tuple (v.map PyData.str)),some (.ky (.lst ((F.map PyData.str).map T.d))),bD (.str g)] rfl rfl rfl ?_;delta UD;simp_arith[↓xA (md:=[]) k rfl rfl];rw[<- nA pr y];refine fA (λp=>T.d (pr p)) (λ(p:Str×Str)=>T.d (pr p)) (λp=>decide (p.1∈F)) y [] _ (λx m R z=>?_) (by show 0+y.length<=_;omega) ?_;simp_arith[↓vR,uL,HI,LB,true_or];by_cases d:x.1∈F;rw[dT d]at z ⊢;exact z;rw[dF d]at z ⊢;exact z;rw[Qh,nA pr];simp_arith[↓xA (md:=[]) k rfl rfl];refine eY a b u λl cut j=>?_;simp_arith[↓vA];exact q l cut j
section
variable{Ψ:PEv}{E:XE}{ρ:zA}{K:TK}{a b c h:PX}{ds:List D}{n m:Bool}{L:Bool->Prop}
def Om(x:T)(n:Bool)(Ψ:PEv)(b:PX)(E:XE)(ρ:zA)(K:TK):Prop:=sq (α:=Option Int) (rA x n) ρ (λρ R=>(pe Ψ b E).e ρ λu _ y=>EF u.er λo=>R o y) λu y=>iN (rA x n).vw none u λz k=>K z k y
def vM(x:T)(Q:Option Int->Prop):Prop:=EF x.er Q
theorem VY{i:Int}{Q:Option Int->Prop}:vM (.d (.int i)) Q=Q (some i):=rfl
theorem Rg{x:T}{R:Option Int->zA->Prop}:sq (α:=Option Int) x ρ (λρ (R:Option Int->zA->Prop)=>R none ρ) R=R none ρ:=by unfold sq;split<;>rfl
theorem Pk{j:Nat}:pB Ψ (.slc a .nop (.vz j)) E ρ K=pB Ψ a E ρ λx n v=>Om x n Ψ (.vz j) E v K:=by show(pe Ψ a E).e ρ (λx n v=>sq (α:=Option Int) (rA x n) v (λρ (R:Option Int->zA->Prop)=>R none ρ) λl w=>sq (α:=Option Int) (rA x n) w (λρ R=>(pe Ψ (.vz j) E).e ρ λu _ y=>EF u.er λo=>R o y) λu y=>iN (rA x n).vw l u λz k=>K z k y)=_;simp only[Rg];rfl
theorem uv{x:D}:Om (.d x) n Ψ b E ρ K=pB Ψ b E ρ λu _ y=>vM u λo=>eN (.d x) n none o λz k=>K z k y:=by cases n<;>rfl
theorem Ob(a b:List D):(T.tup [.lst (a.map T.d),.lst (b.map T.d)]).er=.tuple [.list a,.list b]:=by show PyData.tuple [.list (ersT (a.map T.d)),.list (ersT (b.map T.d))]=_;rw[uB,uB]
theorem dr{a b:List D}{m:Bool}{t:T}{R:T->Prop}:FA (.tup [.lst (a.map T.d),.lst (b.map T.d)]) true t m R=FA (.d (.tuple [.list a,.list b])) false t m R:=by
 have e:rA (.tup [.lst (a.map T.d),.lst (b.map T.d)]) true=.d (.tuple [.list a,.list b]):=by show T.d (T.tup [.lst (a.map T.d),.lst (b.map T.d)]).er=_;rw[Ob]
 unfold FA;rw[e];rfl
end
section
variable{Ψ:PEv}{E:XE}{ρ:zA}{a c h:PX}{W:LT->Prop}{R:Option T->Prop}{C:LT->Prop}{xs:List (T×Bool)}{ds:List D}{n m:Bool}
section
variable{md:List Md}{ts:LT}{b:Bool}{t u:Str}
theorem pC{v:PX}{M:List (T×Bool)->zA->Prop}:kM Ψ (.ny a v) E (.xy::md) ρ M=pB Ψ a E ρ λx n z=>v8 x n Ψ v E md z λxs y=>M ((x,n)::xs) y:=rfl
theorem Kc{d:D}:ZB (.xy::md) ((.d d,n)::xs) C=ZB md xs λts=>C (.d d::ts):=by
 have e:XA (.xy::md) ((.d d,n)::xs) []=(XA md xs []).map (.d d::·):=by cases n<;>rfl
 unfold ZB;rw[e,IF]
theorem xm:IK .val [(.lst ts,false)] W=W ts:=by unfold IK TB;exact BI ts
theorem cq{m:List Bool}{x y:D}{v:CmpOp}:SI Ψ E (b::m) [t,u] (.tp [0,1]) (.cmp v a c) h ρ (.d (.tuple [x,y])) R=sN Ψ (.cmp v a c) E (bD x::bD y::MC (b::m) (lockA ρ)) λk z=>if k=true then pB Ψ h E z λy n _=>RC y n (R (some y)) else R none:=CB
theorem Fu{m:List Bool}{x y:T}:SI Ψ E (b::m) [t,u] (.tp [0,1]) .nop h ρ (.tup [x,y]) R=pB Ψ h E (some (.ky x)::some (.ky y)::MC (b::m) (lockA ρ)) λy n _=>RC y n (R (some y)):=CB
theorem lx:tM ((.lst [],true)::xs) C=tM xs λts=>C (.lst []::ts):=Ru (ds:=[])
theorem Zo{d:D}:AD [.d d,.lst ts]=.tup [.d d,.lst ts]:=rfl
theorem Ap{i j:Int}{L:Bool->Prop}:iB .GtE (.d (.int i)) (.d (.int j)) L=L (decide (j<=i)):=rfl
end
end
noncomputable abbrev Rw:=Str×List (LS)
def KJ(r:Rw):T:=.tup [.d (.str r.1),.lst ((r.2.map IC).map T.d)]
def uQ(p:Str×Int):D:=.tuple [.str p.1,.int p.2]
noncomputable def aZ(es:dC)(sr:LS)(nd:List (Str×Int))(h:List Rw)(F:LS)(b:Bool)(o6 o7 o8:Option Sl):zA:=[bD (.tuple (es.map pr)),bD (.tuple (sr.map PyData.str)),bD (.list (nd.map uQ)),oW (.lst (h.map KJ)),oW (.lst ((F.map PyData.str).map T.d)),bD (.bool b),o6,o7,o8]
section
variable{Ψ:PEv}{Z:PEnds}{es:dC}{sr:LS}{nd:List (Str×Int)}{q:PT}
section
variable{o5 o6 o7 o8:Option Sl}{h:List Rw}
def UR(sr:LS)(nd:List (Str×Int)):List Rw:=(nd.filter λp=>decide (p.1∈sr)).map λp=>(p.1,[])
theorem At(hl:nd.length<=100){o4:Option Sl}(k:pF Ψ q Z [bD (.tuple (es.map pr)),bD (.tuple (sr.map PyData.str)),bD (.list (nd.map uQ)),oW (.lst ((UR sr nd).map KJ)),o4,o5,o6,o7,o8]) :
  pF Ψ (.seq (.own 3 (.comp [false,false,false,false,false,false,true,true] ["name","number"] (.tp [0,1]) .val %[.vz 2|1] (.cmp .In (.vz 0) (.vz 3)) (.tup %[.vz 0,.lst .nz|1]))) q) Z [bD (.tuple (es.map pr)),bD (.tuple (sr.map PyData.str)),bD (.list (nd.map uQ)),none,o4,o5,o6,o7,o8]:=by
 simp_arith[↓vA];rw[<- nA uQ nd];refine fA (λp=>T.d (uQ p)) (λ(p:Str×Int)=>KJ (p.1,[])) (λp=>decide (p.1∈sr)) nd [] _ (λx z R y=>?_) (by show 0+nd.length<=_;omega) ?_;obtain⟨x,n⟩:=x;delta uQ;simp_arith[↓cq,uL,HI,LB,true_or];by_cases d:x∈sr;rw[dT d]at y ⊢;simp_arith[↓lx,↓Zo];exact⟨by omega,by omega,y⟩;rw[dF d]at y ⊢;exact y;rw[Qh];have e:(nd.filter λp=>decide (p.1∈sr)).map (λp=>KJ (p.1,[]))=(UR sr nd).map KJ:=by unfold UR;rw[QY];rfl
 rw[e];exact k
theorem Tt(hl:h.length<=100)(k:pF Ψ q Z [bD (.tuple (es.map pr)),bD (.tuple (sr.map PyData.str)),bD (.list (nd.map uQ)),oW (.lst (h.map KJ)),oW (.lst (((h.map λr=>r.1).map PyData.str).map T.d)),o5,o6,o7,o8]) :
  pF Ψ (.seq (.own 4 (.comp [false,false,false,false,false,false,true,false,true] ["name","chains"] (.tp [0,1]) .val %[.vz 3|1] .nop (.vz 0))) q) Z [bD (.tuple (es.map pr)),bD (.tuple (sr.map PyData.str)),bD (.list (nd.map uQ)),oW (.lst (h.map KJ)),none,o5,o6,o7,o8]:=by
 simp_arith[↓xm];refine JB KJ (λr=>T.d (.str r.1)) h [] _ (λx z R y=>?_) (by show 0+h.length<=_;omega) ?_;delta KJ;simp_arith[↓Fu];exact y;rw[Qh,nA (λr:Rw=>PyData.str r.1)];have e:(h.map λr=>PyData.str r.1)=(h.map λr=>r.1).map PyData.str:=by rw[QY];rfl
 rw[e];exact k
theorem Ot(f:Ψ.sp "told_through"=IE){F:LS}{b:Bool}{x:Str}{n:Int}(a:es.length<=126)(k:sr.length<=11)(e:JG es sr)(j:h.length<=100)(i:F.length<=100)
  (w:x∈F->∀o8,Z.nx (aZ es sr nd h F b (bD (.str x)) (bD (.int n)) o8))
  (v:x∉F->¬ PK es sr x F n->∀o8,Z.nx (aZ es sr nd h F b (bD (.str x)) (bD (.int n)) o8))
  (u:x∉F->PK es sr x F n->∀cs o8,Z.nx (aZ es sr nd (h++[(x,cs)]) (F++[x]) true (bD (.str x)) (bD (.int n)) o8)) :
  pF Ψ KC Z (aZ es sr nd h F b (bD (.str x)) (bD (.int n)) o8):=by
 delta aZ at w v u ⊢;delta KC;simp_arith[uL,HI,LB,true_or];by_cases d:x∈F;rw[dT d];exact w d _;rw[dF d];simp_arith[↓pC,↓Kc,↓xA (md:=[.xy,.xy,.xz]) f rfl rfl];refine G2 a k e λcs cut g=>?_;have y:=F5 (n:=n) g;simp_arith[↓dr,↓Jk,↓Ap,QD];by_cases c:n<=(cs.length:Int);rw[dT c];simp_arith[↓Pk,↓uv,↓VY,↓Zo];rw[kL];refine⟨by omega,by omega,by rw[QD,QD];omega,?_⟩;have:=u d (y.mpr c) (gE cs none (some n)) (bD (.list (cs.map IC)));rw[QO,QO,QO]at this;exact this;rw[dF c];exact v d (λz=>c (y.mp z)) _
end
end
structure GI(es:dC)(sr:LS)(nd:List (Str×Int))(rs:List Rw)(F:LS):Prop where
 e:F=rs.map λr=>r.1
 ndp:F.Nodup
 held:∀x∈F,Held es sr nd x
 see:∀x n,(x,n)∈nd->x∈sr->x∈F
 non:∀r∈rs,r.1∈sr->r.2=[]
section
variable{es:dC}{sr:LS}{nd:List (Str×Int)}{u:List Rw}{F:LS}
theorem GI.len(g:GI es sr nd u F):F.length<=nd.length:=by
 have:=xQ (ns:=nd.map λp=>p.1) g.ndp λs x=>by obtain⟨n,h⟩:=Vb (g.held s x);exact QZ.mpr ⟨_,h,rfl⟩
 rw[QD]at this;exact this
theorem GI.rlen(g:GI es sr nd u F):u.length=F.length:=by rw[g.e,QD]
theorem Ht(h:(nd.map λp=>p.1).Nodup):GI es sr nd (UR sr nd) ((UR sr nd).map λr=>r.1):=by
 have e:((UR sr nd).map λr=>r.1)=(nd.filter λp=>decide (p.1∈sr)).map λp=>p.1:=by unfold UR;rw[QY];rfl
 refine⟨rfl,?_,λx y=>?_,λx n y v=>?_,λr z _=>?_⟩;rw[e];exact h.sublist (qB.map _);rw[e]at y;obtain⟨p,w,rfl⟩:=QZ.mp y;obtain⟨a,k⟩:=Qa.mp w;exact .see (n:=p.2) a (of_decide_eq_true k);rw[e];exact QZ.mpr ⟨(x,n),Qa.mpr ⟨y,dT v⟩,rfl⟩;unfold UR at z;obtain⟨p,_,rfl⟩:=QZ.mp z;rfl
theorem GI.add(g:GI es sr nd u F){x:Str}{n:Int}(w:(x,n)∈nd)(f:x∉F)(m:PK es sr x F n)(cs:List (LS)):GI es sr nd (u++[(x,cs)]) (F++[x]):=by
 refine⟨by rw[QO,<- g.e];rfl,qj.mpr ⟨g.ndp,Qj.mpr ⟨λz=>(nomatch z),Q2⟩,λa j b hb e=>?_⟩,λy v=>?_,λy k v h=>Qo _ (g.see y k v h),λr i h=>?_⟩;rw[QJ.mp hb]at e;exact f (e▸j);rcases Qi.mp v with z|z
 ·exact g.held y z
 rw[QJ.mp z];exact .tell F w g.held m;rcases Qi.mp i with z|z
 ·exact g.non r z h
 rw[QJ.mp z]at h;exact absurd (g.see x n w h) f
end
noncomputable def RF:PSp where
 md:=[]
 run:=λw Q _=>∃(u:dC) (y:LS) (nd:List (Str×Int)),w=[.d (.tuple (u.map pr)),.d (.tuple (y.map PyData.str)),.d (.list (nd.map uQ))]/\(u.length<=126/\y.length<=11/\JG u y/\nd.length<=90/\(nd.map λp=>p.1).Nodup)/\∀v F,GI u y nd v F->(∀x,x∈F↔Held u y nd x)->Q (.lst (v.map KJ)) []
 mono:=λh _ z=>by obtain⟨u,y,nd,e,l,q⟩:=z;exact⟨u,y,nd,e,l,λv F a b=>h _ _ (q v F a b)⟩
theorem iY{es:dC}{sr:LS}{nd:List (Str×Int)}{K:T->LT->Prop}{E:XE}(l:es.length<=126/\sr.length<=11/\JG es sr/\nd.length<=90/\(nd.map λp=>p.1).Nodup)(q:∀h F,GI es sr nd h F->(∀x,x∈F↔Held es sr nd x)->K (.lst (h.map KJ)) []):aB RF [.d (.tuple (es.map pr)),.d (.tuple (sr.map PyData.str)),.d (.list (nd.map uQ))] K E:=⟨es,sr,nd,rfl,l,q⟩
section
variable{Ψ:PEv}{Z:PEnds}{es:dC}{sr:LS}{nd:List (Str×Int)}{u:List Rw}{F:LS}
theorem Nt(L:Ψ.sp "told_through"=IE)(G:es.length<=126)(E:sr.length<=11)(J:JG es sr)(O:nd.length<=90){b:Bool}{o6 o7 o8:Option Sl}(g:GI es sr nd u F)
  (k:∀v w a o6 o7 o8,GI es sr nd v w->F.length<=w.length->(a=true->F.length<w.length)->(a=false->∀x n,(x,n)∈nd->x∉w->¬ PK es sr x w n)->Z.nx (aZ es sr nd v w a o6 o7 o8)) :
  pF Ψ ZC Z (aZ es sr nd u F b o6 o7 o8):=by
 delta aZ;delta ZC;simp_arith[↓vA];rw[<- nA uQ nd];refine jB (λ(p:Str×Int)=>T.d (uQ p)) (λl r=>∃v w a o6 o7 o8,GI es sr nd v w/\(∀p∈l,p∈nd)/\F.length<=w.length/\(a=true->F.length<w.length)/\(a=false->∀x n,(x,n)∈nd->(x,n)∈l∨x∈w∨¬ PK es sr x w n)/\r=aZ es sr nd v w a o6 o7 o8) ?_ ?_ _ _ ⟨u,F,false,_,_,_,g,λ_ z=>z,QS _,λz=>(nomatch z),λ_ x n h=>.inl h,rfl⟩;rintro r ⟨v,w,a,B,A,K,f,_,q,o,j,rfl⟩;exact k v w a _ _ _ f q o λhb x n Y i=>((j hb x n Y).resolve_left λz=>(nomatch z)).resolve_left i;rintro⟨x,n⟩ l r N W ⟨v,w,a,B,A,K,f,m,q,o,j,rfl⟩;have Y:=m _ QF;have s:∀p∈l,p∈nd:=λp I=>m p (QE _ I);have Q:=f.len;have P:=f.rlen;refine FF.mk rfl ?_;refine Ot (x:=x) (n:=n) L G E J (by omega) (by omega) (λi o8=>W _ ⟨v,w,a,_,_,_,f,s,q,o,λhb y k X=>?_,rfl⟩) (λi nm o8=>W _ ⟨v,w,a,_,_,_,f,s,q,o,λhb y k X=>?_,rfl⟩) λi C M o8=>W _ ⟨_,_,true,_,_,_,f.add Y i C M,s,?_,λ_=>?_,λz=>(nomatch z),rfl⟩;rcases j hb y k X with z|z
 ·rcases QL.mp z with e|z
  ·cases e
   exact .inr (.inl i)
  exact .inl z
 exact .inr z;rcases j hb y k X with z|z
 ·rcases QL.mp z with e|z
  ·cases e
   exact .inr (.inr nm)
  exact .inl z
 exact .inr z;rw[QI,qF];omega;rw[QI,qF];omega
end
theorem O4{Ψ:PEv}(r:Ψ.sp "told_through"=IE)(ds Q E)(h:RF.run ds Q E):kH Ψ eG RF ZG KF ds Q:=by
 obtain⟨es,sr,nd,rfl,⟨j,i,o,f,p⟩,q⟩:=h;refine gA [bD (.tuple (es.map pr)),bD (.tuple (sr.map PyData.str)),bD (.list (nd.map uQ)),none,none,none,none,none,none] rfl rfl rfl ?_;have g0:=Ht (es:=es) (sr:=sr) p;have A:=g0.len;have K:=g0.rlen;refine At (by omega) (Tt (by omega) ?_);simp_arith[↓vA];refine zI (λm v=>∃y F b o6 o7 o8,m=2 * (nd.length - F.length)+(if b=true then 1 else 0)/\GI es sr nd y F/\(b=false->∀x n,(x,n)∈nd->x∉F->¬ PK es sr x F n)/\v=aZ es sr nd y F b o6 o7 o8) _ ⟨_,_,true,none,none,none,rfl,g0,λz=>(nomatch z),rfl⟩ ?_;rintro m v ⟨y,F,b,o6,o7,o8,a,g,s,rfl⟩;cases b with
 |true =>
  have w:=λ(Z:PEnds) l=>Nt (Ψ:=Ψ) (Z:=Z) (b:=true) (o6:=o6) (o7:=o7) (o8:=o8) r j i o f g l;unfold aZ at w;delta aZ;simp_arith[↓vA];refine w _ λu W e o6 o7 o8 k B Y X=>⟨_,?_,u,W,e,o6,o7,o8,rfl,k,X,rfl⟩
  have:=k.len;cases e with|true=>have:=Y rfl;rw[a,if_pos rfl];omega|false=>rw[a,if_pos rfl,if_neg QG];omega
 |false=>delta aZ;simp_arith[↓vA];exact q y F g λx=>Z6 g.held g.see (s rfl) x
def mH(p:Str×Int×Int×Int):D:=.tuple [.str p.1,.int p.2.1,.int p.2.2.1,.int p.2.2.2]
inductive Evt where
 |see (t:Int) (p m w:Str)|tell (t:Int) (a b m w:Str) (by_:LS)
noncomputable def jC:Evt->D
 | .see t p m w=>.tuple [.str "see",.int t,.str p,.str m,.str w]|.tell t a b m w q=>.tuple [.str "tell",.int t,.str a,.str b,.str m,.str w,.tuple (q.map PyData.str)]
structure Wd where
 ps:List (Str×Int×Int×Int)
 ms:LS
 ag:dC
 es:List Evt
noncomputable def wD(w:Wd):D:=.tuple [.list (w.ps.map mH),.list (w.ms.map PyData.str),.list (w.ag.map pr),.list (w.es.map jC)]
section
variable{w:Wd}{p:Str×Int×Int×Int}{n m:Bool}{R:T->Prop}
theorem MA{ds:List D}{i:Nat}{d:D}(h:ds[i]?=some d):FA (.d (.tuple ds)) n (.d (.int (i:Int))) m R=R (.d d):=by rw[K0,show pE ds (i:Int)=some d from yE h,CB]
theorem fU:FA (.d (wD w)) n (.d (.int 0)) m R=R (.d (.list (w.ps.map mH))):=MA (i:=0) rfl
theorem o0:FA (.d (wD w)) n (.d (.int 1)) m R=R (.d (.list (w.ms.map PyData.str))):=MA (i:=1) rfl
theorem Yg:FA (.d (wD w)) n (.d (.int 2)) m R=R (.d (.list (w.ag.map pr))):=MA (i:=2) rfl
theorem bP:FA (.d (wD w)) n (.d (.int 3)) m R=R (.d (.list (w.es.map jC))):=MA (i:=3) rfl
theorem tN:FA (.d (mH p)) n (.d (.int 0)) m R=R (.d (.str p.1)):=MA (i:=0) rfl
theorem nr:FA (.d (mH p)) n (.d (.int 1)) m R=R (.d (.int p.2.1)):=MA (i:=1) rfl
theorem lr:FA (.d (mH p)) n (.d (.int 2)) m R=R (.d (.int p.2.2.1)):=MA (i:=2) rfl
theorem gr:FA (.d (mH p)) n (.d (.int 3)) m R=R (.d (.int p.2.2.2)):=MA (i:=3) rfl
end
def GJ(w:Wd):List (Str×Int):=w.ps.map λp=>(p.1,p.2.2.2)
noncomputable def UL:PSp where
 md:=[]
 run:=λx Q _=>∃w:Wd,x=[.d (wD w)]/\w.ps.length<=90/\Q (.lst (((GJ w).map uQ).map T.d)) []
 mono:=λh _ z=>by obtain⟨w,e,l,q⟩:=z;exact⟨w,e,l,h _ _ q⟩
theorem y9{w:Wd}{K:T->LT->Prop}{E:XE}(l:w.ps.length<=90)(q:K (.lst (((GJ w).map uQ).map T.d)) []):aB UL [.d (wD w)] K E:=⟨w,rfl,l,q⟩
theorem ji{Ψ:PEv}(ds Q E)(h:UL.run ds Q E):kH Ψ OH UL uN gK ds Q:=by
 obtain⟨w,rfl,l,q⟩:=h;refine gA [bD (wD w)] rfl rfl rfl ?_;delta OH;simp_arith[↓fU];rw[<- nA mH];refine JB (λp=>T.d (mH p)) (λp=>T.d (uQ (p.1,p.2.2.2))) w.ps [] _ (λx z R y=>?_) (by show 0+w.ps.length<=_;omega) ?_;simp_arith[↓tN,↓gr];exact⟨by omega,y⟩;rw[Qh,nA λp:Str×Int×Int×Int=>uQ (p.1,p.2.2.2)];have e:(w.ps.map λp=>uQ (p.1,p.2.2.2))=(GJ w).map uQ:=by unfold GJ;rw[QY];rfl
 rw[e];exact q
def kE(es:dC)(sr:LS):D:=.tuple [.tuple (sr.map PyData.str),.tuple (es.map pr)]
section
variable{es:dC}{sr:LS}{n m:Bool}{R:T->Prop}
theorem Vr:FA (.d (kE es sr)) n (.d (.int 0)) m R=R (.d (.tuple (sr.map PyData.str))):=MA (i:=0) rfl
theorem Kr:FA (.d (kE es sr)) n (.d (.int 1)) m R=R (.d (.tuple (es.map pr))):=MA (i:=1) rfl
end
noncomputable def DG:PSp where
 md:=[]
 run:=λv Q _=>∃(w:Wd) (u:dC) (y:LS),v=[.d (wD w),.d (kE u y)]/\(u.length<=126/\y.length<=11/\JG u y/\w.ps.length<=90/\(w.ps.map λp=>p.1).Nodup)/\∀l:LS,(∀x,x∈l↔Held u y (GJ w) x)->l.length<=90->Q (.lst ((l.map PyData.str).map T.d)) []
 mono:=λh _ z=>by obtain⟨w,u,y,e,l,q⟩:=z;exact⟨w,u,y,e,l,λl a b=>h _ _ (q l a b)⟩
theorem vm{ts:LT}{W:LT->Prop}:IK .val [(.lst ts,true)] W=W ((ersT ts).map T.d):=BI _
theorem ij(r:Rw):(KJ r).er=.tuple [.str r.1,.list (ersT ((r.2.map IC).map T.d))]:=rfl
theorem T2{w:Wd}{es:dC}{sr:LS}{K:T->LT->Prop}{E:XE}(l:es.length<=126/\sr.length<=11/\JG es sr/\w.ps.length<=90/\(w.ps.map λp=>p.1).Nodup)(q:∀l:LS,(∀x,x∈l↔Held es sr (GJ w) x)->l.length<=90->K (.lst ((l.map PyData.str).map T.d)) []):aB DG [.d (wD w),.d (kE es sr)] K E:=⟨w,es,sr,rfl,l,q⟩
theorem da{Ψ:PEv}(m:Ψ.sp "ground_alone"=RF)(l:Ψ.sp "needs_of"=UL)(ds Q E)(h:DG.run ds Q E):kH Ψ eF DG fJ dH ds Q:=by
 obtain⟨w,n,u,rfl,⟨b,a,f,z,nd⟩,q⟩:=h;have k:(GJ w).length<=90:=by unfold GJ;rw[QD];exact z
 have v:((GJ w).map λp=>p.1).Nodup:=by unfold GJ;rw[QY];exact nd
 refine gA [bD (wD w),bD (kE n u)] rfl rfl rfl ?_;delta eF;simp_arith[↓Vr,↓Kr,↓xA (md:=[]) m rfl rfl,↓xA (md:=[]) l rfl rfl];refine y9 z ?_;simp_arith[↓vA];refine iY ⟨b,a,f,k,v⟩ λy F g j=>?_;rw[vm];have fl:=g.len;have rl:y.length=F.length:=by rw[g.e,QD]
 rw[zL,QY,QY];refine⟨rfl,?_⟩;refine JB (λr=>T.d (KJ r).er) (λr=>T.d (.str r.1)) y [] _ (λx o R i=>?_) (by show 0+y.length<=_;omega) ?_;rw[ij];simp_arith[↓vA];exact i;rw[Qh,nA (λr:Rw=>PyData.str r.1)];have e:(y.map λr=>PyData.str r.1)=F.map PyData.str:=by rw[g.e,QY];rfl
 rw[e];exact q F j (by omega)
def pA(h:List Evt)(n:Nat):Evt:=(h[n]?).getD (.see 0 "" "" "")
def EC(e:Evt):Prop:=∃t a b m w q,e=.tell t a b m w q
def Bo:Evt->Str
 | .see _ _ m _=>m|.tell _ _ _ m _ _=>m
def zH:Evt->Str×Str
 | .see _ p m _=>(p,m)|.tell _ a b _ _ _=>(a,b)
def nD(n:Nat):D:=.int (n:Int)
theorem uR{x:List Evt}{i:Nat}{n m:Bool}{R:T->Prop}(h:i<x.length):FA (.d (.list (x.map jC))) n (.d (nD i)) m R=R (.d (jC (pA x i))):=by delta nD;rw[t8,show pE (x.map jC) (i:Int)=some (jC (pA x i)) from yE (by rw[QT,Qf h];unfold pA;rw[Qf h];rfl),CB]
section
variable{e:Evt}{n m:Bool}{R:T->Prop}
theorem Fc(h:EC e):FA (.d (jC e)) n (.d (.int 2)) m R=R (.d (.str (zH e).1)):=by obtain⟨t,a,b,x,w,q,rfl⟩:=h;exact MA (i:=2) rfl
theorem Dc(h:EC e):FA (.d (jC e)) n (.d (.int 3)) m R=R (.d (.str (zH e).2)):=by obtain⟨t,a,b,x,w,q,rfl⟩:=h;exact MA (i:=3) rfl
theorem Ml(h:EC e):FA (.d (jC e)) n (.d (.int 4)) m R=R (.d (.str (Bo e))):=by obtain⟨t,a,b,x,w,q,rfl⟩:=h;exact MA (i:=4) rfl
end
section
variable{Ψ:PEv}{x:Str}{r:Int}{K:T->LT->Prop}{ks:List Pt}{L:Bool->Prop}
theorem Sd{ds:List D}{Q:T->Bool->Prop}:rJ .tuple [(.lst (ds.map T.d),true)] Q=Q (.d (.tuple ds)) false:=by unfold rJ TB;show CT .tuple [.ls ((ersT (ds.map T.d)).map T.d)] Q=_;rw[uB,Ae];exact propext ⟨λ⟨_,e,q⟩=>by rw[YA]at e;cases e;exact q,λq=>⟨_,YA _,q⟩⟩
def GE(h:List Evt)(y:LN)(m:Str):dC:=(y.filter λn=>decide (Bo (pA h n)=m)).map λn=>zH (pA h n)
noncomputable def eJ:PSp where
 md:=[]
 run:=λv Q _=>∃(y:List Evt) (u:LN) (m:Str),v=[.d (.list (y.map jC)),.d (.list (u.map nD)),.d (.str m)]/\u.length<=100/\(∀n∈u,n<y.length/\EC (pA y n))/\Q (.d (.tuple ((GE y u m).map pr))) []
 mono:=λh _ z=>by obtain⟨y,u,m,e,l,a,q⟩:=z;exact⟨y,u,m,e,l,a,h _ _ q⟩
theorem xi(ds Q E)(h:eJ.run ds Q E):kH Ψ AH eJ gN pK ds Q:=by
 obtain⟨y,z,m,rfl,l,a,q⟩:=h;refine gA [bD (.list (y.map jC)),bD (.list (z.map nD)),bD (.str m),none] rfl rfl rfl ?_;delta AH;simp_arith[↓vA];rw[<- nA nD];refine fA (λn=>T.d (nD n)) (λn=>T.d (jC (pA y n))) (λn=>decide (Bo (pA y n)=m)) z [] _ (λx w R v=>?_) (by show 0+z.length<=_;omega) ?_;simp_arith[↓uR (a x w).1,↓Ml (a x w).2];split at v;rename_i c;rw[if_pos c];exact v;rename_i c;rw[if_neg c];exact v;rw[Qh,nA λn=>jC (pA y n)];simp_arith[↓vA];rw[<- nA λn=>jC (pA y n)];refine JB (λn=>T.d (jC (pA y n))) (λn=>T.d (pr (zH (pA y n)))) _ [] _ (λx w R v=>?_) (by show 0+(List.filter _ z).length<=_;have:=Q3 (λn=>decide (Bo (pA y n)=m)) z;omega) ?_;have u:=(Qa.mp w).1;simp_arith[↓Fc (a x u).2,↓Dc (a x u).2];exact⟨by omega,v⟩;rw[Qh,nA λn=>pr (zH (pA y n)),Sd];have e:((z.filter λn=>decide (Bo (pA y n)=m)).map λn=>pr (zH (pA y n)))=(GE y z m).map pr:=by unfold GE;rw[QY];rfl
 rw[e];simp_arith[↓vA];exact q
def fI(w:Wd)(x:Str):LJ:=(w.ps.filter λp=>decide (p.1=x)).map λp=>p.2.1
noncomputable def uI:PSp where
 md:=[]
 run:=λy Q _=>∃(w:Wd) (x:Str) (r:Int),y=[.d (wD w),.d (.str x)]/\w.ps.length<=90/\(fI w x)[0]?=some r/\Q (.d (.int r)) []
 mono:=λh _ z=>by obtain⟨w,x,r,e,l,a,q⟩:=z;exact⟨w,x,r,e,l,a,h _ _ q⟩
theorem N2{w:Wd}{E:XE}(l:w.ps.length<=90)(a:(fI w x)[0]?=some r)(q:K (.d (.int r)) []):aB uI [.d (wD w),.d (.str x)] K E:=⟨w,x,r,rfl,l,a,q⟩
theorem ba(ds Q E)(h:uI.run ds Q E):kH Ψ AJ uI zP SL ds Q:=by
 obtain⟨w,x,r,rfl,l,a,q⟩:=h;refine gA [bD (wD w),bD (.str x)] rfl rfl rfl ?_;delta AJ;simp_arith[↓fU];rw[<- nA mH];refine fA (λp=>T.d (mH p)) (λp=>T.d (.int p.2.1)) (λp=>decide (p.1=x)) w.ps [] _ (λp u R y=>?_) (by show 0+w.ps.length<=_;omega) ?_;simp_arith[↓tN,↓nr];split at y;rename_i c;rw[if_pos c];exact y;rename_i c;rw[if_neg c];exact y;rw[Qh,nA λp:Str×Int×Int×Int=>PyData.int p.2.1];have e:((w.ps.filter λp=>decide (p.1=x)).map λp=>PyData.int p.2.1)=(fI w x).map PyData.int:=by unfold fI;rw[QY];rfl
 rw[e];have z:pE ((fI w x).map PyData.int) 0=some (.int r):=yE (j:=0) (by rw[QT,a];rfl);simp_arith[z];exact q
def gF(w:Wd)(x:Str):LJ:=(w.ps.filter λp=>decide (p.1=x)).map λp=>p.2.2.1
noncomputable def OF:PSp where
 md:=[]
 run:=λy Q _=>∃(w:Wd) (x:Str) (r:Int),y=[.d (wD w),.d (.str x)]/\w.ps.length<=90/\(gF w x)[0]?=some r/\Q (.d (.int r)) []
 mono:=λh _ z=>by obtain⟨w,x,r,e,l,a,q⟩:=z;exact⟨w,x,r,e,l,a,h _ _ q⟩
theorem tY{w:Wd}{E:XE}(l:w.ps.length<=90)(a:(gF w x)[0]?=some r)(q:K (.d (.int r)) []):aB OF [.d (wD w),.d (.str x)] K E:=⟨w,x,r,rfl,l,a,q⟩
theorem G4(ds Q E)(h:OF.run ds Q E):kH Ψ TH OF fN oK ds Q:=by
 obtain⟨w,x,r,rfl,l,a,q⟩:=h;refine gA [bD (wD w),bD (.str x)] rfl rfl rfl ?_;delta TH;simp_arith[↓fU];rw[<- nA mH];refine fA (λp=>T.d (mH p)) (λp=>T.d (.int p.2.2.1)) (λp=>decide (p.1=x)) w.ps [] _ (λp u R y=>?_) (by show 0+w.ps.length<=_;omega) ?_;simp_arith[↓tN,↓lr];split at y;rename_i c;rw[if_pos c];exact y;rename_i c;rw[if_neg c];exact y;rw[Qh,nA λp:Str×Int×Int×Int=>PyData.int p.2.2.1];have e:((w.ps.filter λp=>decide (p.1=x)).map λp=>PyData.int p.2.2.1)=(gF w x).map PyData.int:=by unfold gF;rw[QY];rfl
 rw[e];have z:pE ((gF w x).map PyData.int) 0=some (.int r):=yE (j:=0) (by rw[QT,a];rfl);simp_arith[z];exact q
def YI(ks:List Pt):T:=.dct true (ks.map pr) (ks.map λ_=>T.d (.bool true))
def EQ(ks:List Pt)(p:Pt):List Pt:=if p∈ks then ks else ks++[p]
theorem RT(ks:List Pt)(p:Pt):(EQ ks p).length<=ks.length+1:=by unfold EQ;split;omega;simp
theorem xO{α h:Type}(c:h):∀(l:List α) (n:Nat),(l.map λ_=>c).set n c=l.map λ_=>c
 |[],_=>rfl|_::_,0=>rfl|x::l,n+1=>by show c::(l.map λ_=>c).set n c=_;rw[xO c l n];rfl
theorem Ac{p:Pt}{Q:T->Prop}(hl:ks.length<sizeLine)(q:Q (YI (EQ ks p))):Ic (YI ks) (.d (pr p)) (.d (.bool true)) Q:=by
 refine⟨PB p,by rw[QD];exact hl,?_⟩;show Q (CJ true (ks.map pr) (ks.map λ_=>T.d (.bool true)) (pr p) (.d (.bool true)));unfold EQ at q;unfold CJ;by_cases c:p∈ks;rw[if_pos c]at q;cases e:bA (ks.map pr) (pr p) with|none=>exact absurd (KP.mpr c) (AA.mp e)|some n=>show Q (.dct true (ks.map pr) ((ks.map λ_=>T.d (.bool true)).set n (.d (.bool true))));rw[xO];exact q
 rw[if_neg c]at q;rw[AA.mpr λz=>c (KP.mp z)];unfold YI at q;rw[QO,QO]at q;exact q
theorem Rp{q:Pt}:iB .In (.d (pr q)) (YI ks) L=L (decide (q∈ks)):=by unfold YI;rw[t7,LI];exact propext ⟨λh=>h.2,λh=>⟨PB q,h⟩⟩
theorem Nj{q:Pt}:iB .NotIn (.d (pr q)) (YI ks) L=L (!decide (q∈ks)):=by unfold YI;rw[OM,LI];exact propext ⟨λh=>h.2,λh=>⟨PB q,h⟩⟩
def iE(h:List Evt)(ks:List Pt)(n:Nat):List Pt:=match pA h n with
 | .see _ p m _=>EQ ks (p,m)|_=>ks
def xB(h:List Evt)(l:LN):List Pt:=l.foldl (iE h) []
def SZ:Evt->Str
 | .see _ _ _ _=>"see"|.tell _ _ _ _ _ _=>"tell"
end
section
variable{e:Evt}{n m:Bool}{R:T->Prop}{t:Int}{p h w:Str}
theorem xR:FA (.d (jC e)) n (.d (.int 0)) m R=R (.d (.str (SZ e))):=by cases e;exact MA (i:=0) rfl;exact MA (i:=0) rfl
theorem Gc:FA (.d (jC (.see t p h w))) n (.d (.int 2)) m R=R (.d (.str p)):=MA (i:=2) rfl
theorem V0:FA (.d (jC (.see t p h w))) n (.d (.int 3)) m R=R (.d (.str h)):=MA (i:=3) rfl
end
section
variable{Ψ:PEv}{ks v:List Pt}{a b x:Str}{L:Bool->Prop}{E:XE}{ns:LJ}{K:T->LT->Prop}{w:Wd}
theorem YM{c a b:Prop}[Decidable c](h:¬ c)(q:b):if c then a else b:=by rw[if_neg h];exact q
noncomputable def Vs(h:List Evt)(l:LN)(ks:List Pt)(o3:Option Sl):zA:=[bD (.list (h.map jC)),some (.ky (.lst (l.map λn=>T.d (nD n)))),oW (YI ks),o3]
noncomputable def CG:PSp where
 md:=[.xy,.xz]
 run:=λu Q _=>∃(y:List Evt) (l:LN),u=[.d (.list (y.map jC)),.lst ((l.map nD).map T.d)]/\l.length<=100/\(∀n∈l,n<y.length)/\Q (YI (xB y l)) []
 mono:=λh _ z=>by obtain⟨y,l,e,a,b,q⟩:=z;exact⟨y,l,e,a,b,h _ _ q⟩
theorem ua(ds Q E)(h:CG.run ds Q E):kH Ψ mF CG cJ bH ds Q:=by
 obtain⟨y,l,rfl,hl,o,q⟩:=h;refine gA [bD (.list (y.map jC)),some (.ky (.lst ((l.map nD).map T.d))),none,none] rfl rfl rfl ?_;delta mF;simp_arith[↓vA];rw[<- nA nD];refine jB (λn=>T.d (nD n)) (λr z=>∃ks u,r.foldl (iE y) ks=xB y l/\ks.length+r.length<=100/\(∀n∈r,n<y.length)/\z=Vs y l ks u) ?_ ?_ l _ ⟨[],none,rfl,by simpa using hl,o,rfl⟩;rintro z ⟨ks,u,e,_,_,rfl⟩;have e:ks=xB y l:=e;subst e;delta Vs;simp_arith[↓vA];exact q;rintro n r z N j ⟨ks,u,e,hk,f,rfl⟩;have i:ks.length+(r.length+1)<=100:=hk;have g:=f n QF;delta Vs;delta oG;simp_arith[↓uR g,↓xR];have e:r.foldl (iE y) (iE y ks n)=xB y l:=e;unfold iE at e;cases ev:pA y n with|see t p m w=>rw[ev]at e;simp_arith[SZ,↓Gc,↓V0];rw[uR g,ev];simp_arith[↓V0];exact⟨by omega,Ac (p:=(p,m)) (by omega) (j _ ⟨EQ ks (p,m),_,e,by have:=RT ks (p,m);omega,λx k=>f x (QE _ k),rfl⟩)⟩|tell t a b m w s=>rw[ev]at e;refine YM (show decide ((QR "tell")=(QR "see"))≠true by decide) ?_;exact j _ ⟨ks,_,e,by omega,λx k=>f x (QE _ k),rfl⟩
theorem kW:iB .In (.d (.tuple [.str a,.str b])) (YI ks) L=L (decide ((a,b)∈ks)):=Rp (q:=(a,b))
theorem NX:iB .NotIn (.d (.tuple [.str a,.str b])) (YI ks) L=L (!decide ((a,b)∈ks)):=Nj (q:=(a,b))
def MF(w:Wd)(ks:List Pt)(m:Str):LS:=(w.ps.filter λp=>decide ((p.1,m)∈ks)).map λp=>p.1
noncomputable def tJ:PSp where
 md:=[.xy,.ky]
 run:=λy Q _=>∃(w:Wd) (ks:List Pt) (m:Str),y=[.d (wD w),YI ks,.d (.str m)]/\w.ps.length<=90/\Q (.d (.tuple ((MF w ks m).map PyData.str))) []
 mono:=λh _ z=>by obtain⟨w,ks,m,e,l,q⟩:=z;exact⟨w,ks,m,e,l,h _ _ q⟩
theorem Ah(ds Q E)(h:tJ.run ds Q E):kH Ψ NH tJ vN cK ds Q:=by
 obtain⟨w,ks,m,rfl,l,q⟩:=h;refine gA [bD (wD w),some (.ky (YI ks)),bD (.str m)] rfl rfl rfl ?_;delta NH;simp_arith[↓fU];rw[<- nA mH];refine fA (λp=>T.d (mH p)) (λp=>T.d (.str p.1)) (λp=>decide ((p.1,m)∈ks)) w.ps [] _ (λp z R y=>?_) (by show 0+w.ps.length<=_;omega) ?_;simp_arith[↓tN,↓kW];refine⟨by omega,?_⟩;split at y;rename_i c;rw[if_pos c];exact y;rename_i c;rw[if_neg c];exact y;rw[Qh,nA λp:Str×Int×Int×Int=>PyData.str p.1,Sd];have e:((w.ps.filter λp=>decide ((p.1,m)∈ks)).map λp=>PyData.str p.1)=(MF w ks m).map PyData.str:=by unfold MF;rw[QY];rfl
 rw[e];simp_arith[↓vA];exact q
theorem Bk{ρ:zA}{a c h:PX}{t u:Str}{x y:D}{e:CmpOp}{R:Option T->Prop}:SI Ψ E [] [t,u] (.tp [0,1]) (.cmp e a c) h ρ (.d (.tuple [x,y])) R=sN Ψ (.cmp e a c) E (bD x::bD y::lockA ρ) λk z=>if k=true then pB Ψ h E z λy n _=>RC y n (R (some y)) else R none:=CB
theorem gX:∀{l:List D},(∀x∈l,x.canLay0=true/\x.depth<=1)->qk l=true/\wW l<=1
 |[],_=>by simp[qk,wW]|x::l,h=>by obtain⟨k,f⟩:=h x QF;obtain⟨z,e⟩:=gX (l:=l) λy u=>h y (QE _ u);simp only[qk,wW,k,z,Bool.and_self,true_and];omega
theorem yi{l:List D}(h:∀x∈l,x.canLay0=true/\x.depth<=1):vF (.list l):=by obtain⟨y,z⟩:=gX h;refine⟨?_,?_⟩;simp only[QAT];exact y;simp only[QA4];omega
def XJ(w:Wd)(m:Str):LS:=(w.ag.filter λp=>decide (p.1=m)).map λp=>p.2
def VJ(w:Wd)(m:Str):LS:=(w.ag.filter λp=>decide (p.2=m)).map λp=>p.1
def OkS(a:Str):Prop:=qX a=true
def Bc(h:T)(f:Pt->Bool):Prop:=∀a b (L:Bool->Prop),OkS a->OkS b->L (f (a,b))->iB .In (.d (.tuple [.str a,.str b])) h L
theorem To(ks:List Pt):Bc (YI ks) λq=>decide (q∈ks):=λa b L _ _ h=>by rw[kW];exact h
theorem Eh(h:∀p∈v,OkS p.1/\OkS p.2):vF (.list (v.map pr)):=yi λx z=>by obtain⟨p,y,rfl⟩:=QZ.mp z;have q:=SD (h p y).1 (h p y).2;exact⟨q.1,by simp[pr,QA4,wW]⟩
theorem t6(h:∀p∈v,OkS p.1/\OkS p.2):Bc (.d (.list (v.map pr))) λq=>decide (q∈v):=λa b L u hb q=>by
 refine⟨.inr ⟨SD u hb,Eh h⟩,?_⟩;have e:((v.map pr).any λy=>Qw y (.tuple [.str a,.str b]))=decide ((a,b)∈v):=by rw[QCG,qD,Ws,decide_eq_true_iff];constructor;rintro⟨p,z,e⟩;have e:Qw (pr p) (pr (a,b))=true:=e;rw[FV,decide_eq_true_iff]at e;exact e▸z;intro z;refine⟨(a,b),z,?_⟩;show Qw (pr (a,b)) (pr (a,b))=true;rw[FV];exact dT rfl
 show L ((v.map pr).any λy=>Qw y (.tuple [.str a,.str b]));rw[e];exact q
noncomputable def iJ:PSp where
 md:=[.xy,.ky]
 run:=λu Q _=>∃(w:Wd) (y:T) (f:Pt->Bool) (x m:Str),u=[.d (wD w),y,.d (.str x),.d (.str m)]/\(Bc y f/\OkS x/\∀p∈w.ag,OkS p.1/\OkS p.2)/\w.ag.length<=100/\Q (.d (.bool ((XJ w m++VJ w m).any λr=>f (x,r)))) []
 mono:=λh _ z=>by obtain⟨w,y,f,x,m,e,a,l,q⟩:=z;exact⟨w,y,f,x,m,e,a,l,h _ _ q⟩
theorem ui(ds Q E)(h:iJ.run ds Q E):kH Ψ oE iJ rH AF ds Q:=by
 obtain⟨w,u,f,x,m,rfl,⟨i,k,z⟩,l,q⟩:=h;have Y:=Q3 (λp:Str×Str=>decide (p.1=m)) w.ag;have X:=Q3 (λp:Str×Str=>decide (p.2=m)) w.ag;have s:(XJ w m).length<=100:=by unfold XJ;rw[QD];omega
 have o:(VJ w m).length<=100:=by unfold VJ;rw[QD];omega
 refine gA [bD (wD w),some (.ky u),bD (.str x),bD (.str m),none] rfl rfl rfl ?_;delta oE;simp_arith[↓Yg];rw[<- nA pr w.ag];refine fA (λp=>T.d (pr p)) (λ(p:Str×Str)=>T.d (.str p.2)) (λp=>decide (p.1=m)) w.ag [] _ (λp e R y=>?_) (by show 0+w.ag.length<=_;omega) ?_;delta pr;simp_arith[↓Bk];split at y;rename_i c;rw[if_pos c];exact y;rename_i c;rw[if_neg c];exact y;rw[Qh,nA λp:Str×Str=>PyData.str p.2];have n:((w.ag.filter λp=>decide (p.1=m)).map λp=>PyData.str p.2)=(XJ w m).map PyData.str:=by unfold XJ;rw[QY];rfl
 rw[n];refine fA (λp=>T.d (pr p)) (λ(p:Str×Str)=>T.d (.str p.1)) (λp=>decide (p.2=m)) w.ag [] _ (λp e R y=>?_) (by show 0+w.ag.length<=_;omega) ?_;delta pr;simp_arith[↓Bk];split at y;rename_i c;rw[if_pos c];exact y;rename_i c;rw[if_neg c];exact y;rw[Qh,nA λp:Str×Str=>PyData.str p.1];have j:((w.ag.filter λp=>decide (p.2=m)).map λp=>PyData.str p.1)=(VJ w m).map PyData.str:=by unfold VJ;rw[QY];rfl
 rw[j,<- QO,<- QO];refine⟨by rw[QD,QD,QD,QD];omega,?_⟩;simp_arith[↓vA];rw[<- nA PyData.str];refine JB (λr=>T.d (.str r)) (λr=>T.d (.bool (f (x,r)))) (XJ w m++VJ w m) [] _ (λr e R y=>?_) (by show 0+(XJ w m++VJ w m).length<=_;rw[QI];omega) ?_;simp_arith[↓vA];refine⟨by omega,i _ _ _ k ?_ y⟩;rcases Qi.mp e with h|h;obtain⟨p,g,rfl⟩:=QZ.mp h;exact(z p (Qa.mp g).1).2;obtain⟨p,g,rfl⟩:=QZ.mp h;exact(z p (Qa.mp g).1).1;rw[Qh,nA λr=>PyData.bool (f (x,r)),fo];refine⟨(XJ w m++VJ w m).map λr=>f (x,r),by rw[QY];rfl,?_⟩;rw[QCG];simp_arith[↓vA];exact q
theorem zo{n:Bool}{Q:T->Bool->Prop}(y:ns.length<64)(q:∀h:LJ,h.Perm ns->h.Pairwise (·<=·)->Q (.lst ((h.map PyData.int).map T.d)) true):rJ .sorted [(.lst ((ns.map PyData.int).map T.d),n)] Q:=by unfold rJ TB;rw[bE];exact .inr (.inr ⟨_,ns,rfl,YA _,y,q⟩)
theorem La{l:LN}(h:ns.Perm (l.map λ(n:Nat)=>(n:Int)))(z:ns.Pairwise (·<=·)):∃y:LN,ns=y.map (λ(n:Nat)=>(n:Int))/\y.Perm l/\y.Pairwise (·<=·):=by
 have e:ns=(ns.map QCe).map λ(n:Nat)=>(n:Int):=by rw[QY];refine(QCX ns).symm.trans (qm λx u=>?_);obtain⟨n,_,rfl⟩:=QZ.mp (h.mem_iff.mp u);rfl
 refine⟨ns.map QCe,e,?_,?_⟩;have:=h.map QCe;rw[QY]at this;refine this.trans (QCZ ?_);exact(qm λn _=>rfl).trans (QCX l);rw[e]at z;exact(Wg.mp z).imp λh=>by omega
def vG(h:List Evt)(y:LN)(ks:List Pt):LN:=y.filter λn=>!decide (((zH (pA h n)).1,(zH (pA h n)).2)∈ks)
noncomputable def jF:PSp where
 md:=[.xy,.xz,.ky]
 run:=λf Q _=>∃(y:List Evt) (u:LN) (ks:List Pt),f=[.d (.list (y.map jC)),.lst ((u.map nD).map T.d),YI ks]/\u.length<64/\(∀n∈u,n<y.length/\EC (pA y n))/\∀k:LN,k.Perm (vG y u ks)->k.Pairwise (·<=·)->Q (.lst ((k.map nD).map T.d)) []
 mono:=λh _ z=>by obtain⟨y,u,ks,e,l,a,q⟩:=z;exact⟨y,u,ks,e,l,a,λk b c=>h _ _ (q k b c)⟩
theorem ca(ds Q E)(h:jF.run ds Q E):kH Ψ rF jF dJ cH ds Q:=by
 obtain⟨y,z,ks,rfl,l,a,q⟩:=h;refine gA [bD (.list (y.map jC)),some (.ky (.lst ((z.map nD).map T.d))),some (.ky (YI ks))] rfl rfl rfl ?_;delta rF;simp_arith[↓vA];rw[<- nA nD];refine fA (λn=>T.d (nD n)) (λn=>T.d (nD n)) (λn=>!decide (((zH (pA y n)).1,(zH (pA y n)).2)∈ks)) z [] _ (λn k R f=>?_) (by show 0+z.length<=_;omega) ?_;simp_arith[↓uR (a n k).1,↓Fc (a n k).2,↓Dc (a n k).2,↓NX];refine⟨by omega,?_⟩;split at f;rename_i c;rw[if_pos c];exact f;rename_i c;rw[if_neg c];exact f;rw[Qh,nA nD];have e:(vG y z ks).map nD=((vG y z ks).map λ(n:Nat)=>(n:Int)).map PyData.int:=by rw[QY];rfl
 have fl:=Q3 (λn=>!decide (((zH (pA y n)).1,(zH (pA y n)).2)∈ks)) z;show rJ .sorted [(.lst (((vG y z ks).map nD).map T.d),true)] _;rw[e];refine zo (by rw[QD];unfold vG;omega) λj i g=>?_;obtain⟨u,rfl,o,m⟩:=La i g;have p:(u.map λ(n:Nat)=>(n:Int)).map PyData.int=u.map nD:=by rw[QY];rfl
 rw[p];simp_arith[↓vA];exact q u o m
theorem FR{h:List Evt}{l:LN}(a:l.length<=100)(b:∀n∈l,n<h.length)(q:K (YI (xB h l)) []):aB CG [.d (.list (h.map jC)),.lst ((l.map nD).map T.d)] K E:=⟨h,l,rfl,a,b,q⟩
theorem FW{h:T}{f:Pt->Bool}{m:Str}(a:Bc h f/\OkS x/\∀p∈w.ag,OkS p.1/\OkS p.2)(l:w.ag.length<=100)(q:K (.d (.bool ((XJ w m++VJ w m).any λr=>f (x,r)))) []):aB iJ [.d (wD w),h,.d (.str x),.d (.str m)] K E:=⟨w,h,f,x,m,rfl,a,l,q⟩
def gU(w:Wd)(h:List Pt)(b m:Str):Bool:=!decide ((b,m)∈h)&&(XJ w m++VJ w m).any λr=>decide ((b,r)∈h)
noncomputable def fL(w:Wd)(h ks:List Pt)(n:Nat):List Pt:=match pA w.es n with
 | .tell _ a b m _ _=>if gU w h b m=true then EQ ks (a,b) else ks|_=>ks
def CK(w:Wd)(l:LN):List Pt:=l.foldl (fL w (xB w.es l)) []
def Mk(w:Wd)(x:Str):Prop:=∃p∈w.ps,p.1=x
noncomputable def T7(w:Wd):Evt->Prop
 | .see _ p m h=>Mk w p/\m∈w.ms/\OkS h|.tell _ a b m h q=>Mk w a/\Mk w b/\m∈w.ms/\a≠b/\OkS h/\∀x∈q,Mk w x
structure WOk(w:Wd):Prop where
 ag:∀p∈w.ag,OkS p.1/\OkS p.2
 al:w.ag.length<=100
 pl:w.ps.length<=11
 pn:(w.ps.map λp=>p.1).Nodup
 po:∀p∈w.ps,OkS p.1
 ml:w.ms.length<=10
 mo:∀m∈w.ms,OkS m
 mn:w.ms.Nodup
 el:w.es.length<=60
 eo:∀e∈w.es,T7 w e
theorem WOk.ev(h:WOk w){n:Nat}(y:n<w.es.length):T7 w (pA w.es n):=by unfold pA;rw[Qf y];exact h.eo _ (wG y)
theorem WOk.nm(h:WOk w)(y:Mk w x):OkS x:=by obtain⟨p,z,rfl⟩:=y;exact h.po p z
end
section
variable{Ψ:PEv}{E:XE}{ρ:zA}{M:List (T×Bool)->zA->Prop}{a z:PX}{md:List Md}{d:D}{n m:Bool}{xs:List (T×Bool)}{C:LT->Prop}{R:T->Prop}{t:Int}{x b h y:Str}{q:LS}
theorem Xq{ks:List Pt}:v8 (YI ks) false Ψ z E md ρ M=kM Ψ z E md (lockA ρ) λxs _=>M xs ρ:=rfl
theorem Z0:FA (.d (jC (.tell t x b h y q))) n (.d (.int 2)) m R=R (.d (.str x)):=MA (i:=2) rfl
theorem Y0:FA (.d (jC (.tell t x b h y q))) n (.d (.int 3)) m R=R (.d (.str b)):=MA (i:=3) rfl
theorem i0:FA (.d (jC (.tell t x b h y q))) n (.d (.int 4)) m R=R (.d (.str h)):=MA (i:=4) rfl
end
section
variable{w:Wd}{K:T->LT->Prop}{Ψ:PEv}{u es:List Pt}{x:Str}{sr:LS}{f:Kn}
noncomputable def Cr(w:Wd)(l:LN)(ks:List Pt)(o4 o5:Option Sl):zA:=[bD (wD w),some (.ky (.lst (l.map λn=>T.d (nD n)))),oW (YI (xB w.es l)),oW (YI ks),o4,o5]
noncomputable def oD:PSp where
 md:=[.xy,.xz]
 run:=λy Q _=>∃(w:Wd) (l:LN),y=[.d (wD w),.lst ((l.map nD).map T.d)]/\WOk w/\l.length<=100/\(∀n∈l,n<w.es.length)/\Q (YI (CK w l)) []
 mono:=λh _ z=>by obtain⟨w,l,e,a,b,c,q⟩:=z;exact⟨w,l,e,a,b,c,h _ _ q⟩
theorem oY{l:LN}{E:XE}(h:WOk w)(a:l.length<=100)(b:∀n∈l,n<w.es.length)(q:K (YI (CK w l)) []):aB oD [.d (wD w),.lst ((l.map nD).map T.d)] K E:=⟨w,l,rfl,h,a,b,q⟩
theorem X4(C:Ψ.sp "seen_among"=CG)(B:Ψ.sp "has_against"=iJ)(ds Q E)(h:oD.run ds Q E):kH Ψ lE oD oH SF ds Q:=by
 obtain⟨w,l,rfl,g,hl,Z,q⟩:=h;refine gA [bD (wD w),some (.ky (.lst ((l.map nD).map T.d))),none,none,none,none] rfl rfl rfl ?_;delta lE;simp_arith[↓bP,↓xA (md:=[.xy,.xz]) C rfl rfl,↓pC,↓Kc];refine FR hl Z ?_;simp_arith[↓vA];rw[<- nA nD];refine jB (λn=>T.d (nD n)) (λr o=>∃y X s,r.foldl (fL w (xB w.es l)) y=CK w l/\y.length+r.length<=100/\(∀n∈r,n<w.es.length)/\o=Cr w l y X s) ?_ ?_ l _ ⟨[],none,none,rfl,by simpa using hl,Z,rfl⟩;rintro o ⟨y,X,s,e,_,_,rfl⟩;have e:y=CK w l:=e;subst e;delta Cr;simp_arith[↓vA];exact q;rintro n r o N i ⟨y,X,s,e,hk,v,rfl⟩;have W:y.length+(r.length+1)<=100:=hk;have Y:=v n QF;have k:=g.ev Y;have e:r.foldl (fL w (xB w.es l)) (fL w (xB w.es l) y n)=CK w l:=e;unfold fL at e;delta Cr;delta UF;simp_arith[↓bP,↓uR Y,↓xR];cases ev:pA w.es n with|see t p m A=>rw[ev]at e;refine YM (show decide ((QR "see")=(QR "tell"))≠true by decide) ?_;exact i _ ⟨y,_,_,e,by omega,λx z=>v x (QE _ z),rfl⟩|tell t a b m A F=>rw[ev]at e k;obtain⟨I,hb,G,_⟩:=k;simp_arith[SZ,↓Z0,↓Y0,↓i0,↓NX,↓xA (md:=[.xy,.ky]) B rfl rfl,↓pC,↓Kc,↓Xq];refine⟨by omega,?_⟩;unfold gU at e;by_cases c:(b,m)∈xB w.es l;simp_arith[dT c];simp only[dT c,Wx,QAO,Qq,if_false]at e;exact i _ ⟨y,_,_,e,by omega,λx z=>v x (QE _ z),rfl⟩;simp_arith[dF c];refine FW ⟨To _,g.nm hb,g.ag⟩ g.al ?_;simp_arith[↓vA];by_cases j:((XJ w m++VJ w m).any λr=>decide ((b,r)∈xB w.es l))=true;simp_arith[j];simp only[dF c,j,WA,WM,if_true]at e;exact⟨by omega,Ac (p:=(a,b)) (by omega) (i _ ⟨EQ y (a,b),_,_,e,by have:=RT y (a,b);omega,λx z=>v x (QE _ z),rfl⟩)⟩;rw[if_neg j];simp only[dF c,WA,WM]at e;rw[if_neg j]at e;exact i _ ⟨y,_,_,e,by omega,λx z=>v x (QE _ z),rfl⟩
theorem Ga(h:∀p∈u,OkS p.1/\OkS p.2){a b:Str}{L:Bool->Prop}(y:OkS a)(hb:OkS b)(q:L (!decide ((a,b)∈u))):iB .NotIn (.d (.tuple [.str a,.str b])) (.d (.list (u.map pr))) L:=t6 h a b (λc=>L (!c)) y hb q
def LR(w:Wd)(x:Str):Int:=((fI w x)[0]?).getD 0
def UM(w:Wd)(x:Str):Int:=((gF w x)[0]?).getD 0
theorem b9(h:Mk w x):(fI w x)[0]?=some (LR w x):=by
 obtain⟨p,z,rfl⟩:=h;have y:p.2.1∈fI w p.1:=QZ.mpr ⟨p,Qa.mpr ⟨z,dT rfl⟩,rfl⟩;unfold LR;cases e:fI w p.1 with|nil=>rw[e]at y;cases y|cons x r=>rfl
theorem D6(h:Mk w x):(gF w x)[0]?=some (UM w x):=by
 obtain⟨p,z,rfl⟩:=h;have y:p.2.2.1∈gF w p.1:=QZ.mpr ⟨p,Qa.mpr ⟨z,dT rfl⟩,rfl⟩;unfold UM;cases e:gF w p.1 with|nil=>rw[e]at y;cases y|cons x r=>rfl
noncomputable def Pq(w:Wd)(wr u:List Pt):Evt->Bool
 | .see _ _ _ _=>true|.tell _ a b m _ _=>decide ((a,m)∈u)&&!decide ((a,b)∈wr)&&decide (UM w b<=LR w a)&&!((XJ w m++VJ w m).any λr=>decide ((b,r)∈u))
def lW(u:List Pt):Prop:=∀p∈u,OkS p.1/\OkS p.2
noncomputable def zO:PSp where
 md:=[.xy,.xy,.ky,.xy]
 run:=λv Q _=>∃(w:Wd) (e:Evt) (y u:List Pt),v=[.d (wD w),.d (jC e),YI y,.d (.list (u.map pr))]/\WOk w/\T7 w e/\lW u/\Q (.d (.bool (Pq w y u e))) []
 mono:=λh _ z=>by obtain⟨w,e,y,u,a,b,c,d,q⟩:=z;exact⟨w,e,y,u,a,b,c,d,h _ _ q⟩
theorem uh{e:Evt}{wr:List Pt}{E:XE}(h:WOk w)(z:T7 w e)(y:lW u)(q:K (.d (.bool (Pq w wr u e))) []):aB zO [.d (wD w),.d (jC e),YI wr,.d (.list (u.map pr))] K E:=⟨w,e,wr,u,rfl,h,z,y,q⟩
theorem Pn(Z:Ψ.sp "rank_of"=uI)(Y:Ψ.sp "floor_of"=OF)(X:Ψ.sp "has_against"=iJ)(ds Q E)(h:zO.run ds Q E):kH Ψ aF zO dN nK ds Q:=by
 obtain⟨w,e,g,u,rfl,y,s,j,q⟩:=h;refine gA [bD (wD w),bD (jC e),some (.ky (YI g)),bD (.list (u.map pr)),none,none,none] rfl rfl rfl ?_;cases e with|see t p m n=>delta aF;simp_arith[↓xR,SZ];exact q|tell t a b m n W=>obtain⟨l,hb,o,_⟩:=s;delta aF;simp_arith[↓xR,SZ];refine YM (show decide ((QR "tell")=(QR "see"))≠true by decide) ?_;simp_arith[↓Z0,↓Y0,↓i0,↓Zc];refine⟨by omega,Ga j (y.nm l) (y.mo _ o) ?_⟩;have q:Q (.d (.bool (decide ((a,m)∈u)&&!decide ((a,b)∈g)&&decide (UM w b<=LR w a)&&!((XJ w m++VJ w m).any λr=>decide ((b,r)∈u))))) []:=q;by_cases k:(a,m)∈u;simp_arith[dT k,↓kW];rw[dT k]at q;refine⟨by omega,?_⟩;by_cases v:(a,b)∈g;simp_arith[dT v];rw[dT v]at q;exact q;simp_arith[dF v,↓xA (md:=[]) Z rfl rfl,↓xA (md:=[]) Y rfl rfl];rw[dF v]at q;have i:w.ps.length<=90:=QV y.pl (by decide);refine N2 i (b9 l) ?_;simp_arith[↓vA];refine tY i (D6 hb) ?_;simp_arith[↓Ap];by_cases z:UM w b<=LR w a;simp_arith[dT z,↓xA (md:=[.xy,.ky]) X rfl rfl,↓pC,↓Kc];rw[dT z]at q;refine FW ⟨t6 j,y.nm hb,y.ag⟩ y.al ?_;simp_arith[↓vA];exact q;simp_arith[dF z];rw[dF z]at q;exact q;simp_arith[dF k];rw[dF k]at q;exact q
noncomputable abbrev Kn:=List ((List Pt×LS)×LS)
def dZ(f:Kn):List D:=f.map λx=>kE x.1.1 x.1.2
def Ri(f:Kn):LT:=f.map λx=>T.d (.list (x.2.map PyData.str))
def lX(f:Kn):T:=.dct true (dZ f) (Ri f)
def xK(w:Wd)(f:Kn):Prop:=∀x∈f,∀y,y∈x.2↔Held x.1.1 x.1.2 (GJ w) y
theorem Pc:∀l:LS,tDs (l.map NK.s)=l.map PyData.str
 |[]=>rfl|x::l=>by show PyData.str x::tDs (l.map NK.s)=_;rw[Pc l];rfl
theorem Rc:∀l:List Pt,tDs (l.map λp=>NK.t [.s p.1,.s p.2])=l.map pr
 |[]=>rfl|x::l=>by show pr x::tDs (l.map λp=>NK.t [.s p.1,.s p.2])=_;rw[Rc l];rfl
theorem Sn:∀l:LS,nkds (l.map NK.s)=0
 |[]=>rfl|x::l=>by show max 0 (nkds (l.map NK.s))=0;rw[Sn l];rfl
theorem An:∀l:List Pt,nkds (l.map λp=>NK.t [.s p.1,.s p.2])<=1
 |[]=>Qs _|x::l=>by show max 1 (nkds (l.map λp=>NK.t [.s p.1,.s p.2]))<=1;have:=An l;omega
theorem rQ(es:List Pt)(sr:LS):HD true (kE es sr):=by refine⟨[.t (sr.map NK.s),.t (es.map λp=>NK.t [.s p.1,.s p.2])],?_,?_⟩;show _=PyData.tuple [.tuple (tDs (sr.map NK.s)),.tuple (tDs (es.map λp=>NK.t [.s p.1,.s p.2]))];rw[Pc,Rc];rfl;show max (nkds (sr.map NK.s)+1) (max (nkds (es.map λp=>NK.t [.s p.1,.s p.2])+1) 0)+1<=6;rw[Sn];have:=An es;omega
theorem e8{v:List Pt}{z:LS}(h:kE es sr=kE v z):es=v/\sr=z:=by injection h with h;injection h with h1 h2;injection h2 with h2 _;injection h1 with h1;injection h2 with h2;refine⟨(WW λx y e=>?_).mp h2,(WW λx y e=>?_).mp h1⟩;injection e with e;injection e with e1 e2;injection e2 with e2 _;injection e1 with e1;injection e2 with e2;exact QCQ e1 e2;injection e
theorem Pi{v:LS}{Q:T->Prop}(hl:f.length<sizeLine)(h:bA (dZ f) (kE es sr)=none)(q:Q (lX (f++[((es,sr),v)]))):Ic (lX f) (.d (kE es sr)) (.lst ((v.map PyData.str).map T.d)) Q:=by refine⟨rQ es sr,by unfold dZ;rw[QD];exact hl,?_⟩;show Q (CJ true (dZ f) (Ri f) (kE es sr) (.d (.list (ersT ((v.map PyData.str).map T.d)))));unfold CJ;rw[h,uB];unfold lX dZ Ri at q;rw[QO,QO]at q;exact q
theorem be{k:Nat}(h:bA (dZ f) (kE es sr)=some k):∃v,((es,sr),v)∈f/\(Ri f)[k]?=some (T.d (.list (v.map PyData.str))):=by
 have e:=PC h;unfold dZ at e;unfold Ri;rw[QT]at e ⊢;cases z:f[k]? with|none=>rw[z]at e;cases e|some x=>rw[z]at e;obtain⟨g,y⟩:=e8 (Qm e);obtain⟨⟨a,b⟩,v⟩:=x;cases g;cases y;exact⟨v,qN z,rfl⟩
end
section
variable{Ψ:PEv}{E:XE}{ρ:zA}{K:TK}{M:List (T×Bool)->zA->Prop}{a b c i g:PX}{md:List Md}{m:Bool}{f:Kn}{es:List Pt}{sr:LS}{L:Bool->Prop}{R:T->Prop}
section
variable{u:List (Str×LS)}{w:Str}
theorem uc:iB .NotIn (.d (.tuple [.tuple (sr.map PyData.str),.tuple (es.map pr)])) (lX f) L=L (!(bA (dZ f) (kE es sr)).isSome):=by unfold lX;rw[OM];exact propext ⟨λh=>h.2,λh=>⟨rQ es sr,h⟩⟩
theorem Yr{v:LS}{k:Nat}(h:bA (dZ f) (kE es sr)=some k)(hv:(Ri f)[k]?=some (T.d (.list (v.map PyData.str))))(q:R (.d (.list (v.map PyData.str)))):FA (lX f) false (.d (.tuple [.tuple (sr.map PyData.str),.tuple (es.map pr)])) m R:=.inr ⟨true,_,_,k,_,rfl,rQ es sr,h,hv,q⟩
theorem cx:k8 (lX f) false Ψ b E ρ K=pB Ψ b E (lockA ρ) λy m _=>K y m ρ:=rfl
def rZ(u:List (Str×LS)):T:=.dct false (u.map λx=>.str x.1) (u.map λx=>T.d (.list (x.2.map PyData.str)))
theorem vp{v:LS}{Q:T->Prop}(hl:u.length<sizeLine)(h:w∉u.map λx=>x.1)(q:Q (rZ (u++[(w,v)]))):Ic (rZ u) (.d (.str w)) (.d (.list (v.map PyData.str))) Q:=by refine⟨⟨w,rfl⟩,by rw[QD];exact hl,?_⟩;show Q (CJ false (u.map λx=>.str x.1) (u.map λx=>T.d (.list (x.2.map PyData.str))) (.str w) (.d (.list (v.map PyData.str))));unfold CJ;rw[AA.mpr λz=>h (by obtain⟨x,y,e⟩:=QZ.mp z;injection e with e;exact QZ.mpr ⟨x,y,e⟩)];unfold rZ at q;rw[QO,QO]at q;exact q
theorem xp(h:w∈u.map λx=>x.1)(q:∀v,(w,v)∈u->R (.d (.list (v.map PyData.str)))):FA (rZ u) false (.d (.str w)) m R:=by
 cases e:bA (u.map λx=>PyData.str x.1) (.str w) with
 |none=>obtain⟨x,l,j⟩:=QZ.mp h;exact absurd (QZ.mpr ⟨x,l,congrArg PyData.str j⟩) (AA.mp e)|some k =>
  have j:=PC e;rw[QT]at j;cases z:u[k]? with|none=>rw[z]at j;cases j|some x=>rw[z]at j;have j:PyData.str x.1=.str w:=Qm j;injection j with j;obtain⟨y,v⟩:=x;cases j;exact .inr ⟨false,_,_,k,T.d (.list (v.map PyData.str)),rfl,⟨_,rfl⟩,e,by rw[QT,z];rfl,q v (qN z)⟩
theorem gx:k8 (rZ u) false Ψ b E ρ K=pB Ψ b E (lockA ρ) λy m _=>K y m ρ:=rfl
theorem Du{v:Bool}{mk:List Bool}{t:Str}{x:T}{z:CmpOp}{R:Option T->Prop}:SI Ψ E (v::mk) [t] (.nm 0) (.cmp z a c) g ρ x R=sN Ψ (.cmp z a c) E (some (.ky x)::MC (v::mk) (lockA ρ)) λk h=>if k=true then pB Ψ g E h λy n _=>RC y n (R (some y)) else R none:=rfl
end
end
section
variable{m:Str}{K:T->LT->Prop}
theorem db{c a b:Prop}[Decidable c](h:c)(q:a):if c then a else b:=by rw[if_pos h];exact q
theorem E8{w:Wd}{ks:List Pt}{E:XE}(l:w.ps.length<=90)(q:K (.d (.tuple ((MF w ks m).map PyData.str))) []):aB tJ [.d (wD w),YI ks,.d (.str m)] K E:=⟨w,ks,m,rfl,l,q⟩
theorem v9{h:List Evt}{x:LN}{E:XE}(l:x.length<=100)(a:∀n∈x,n<h.length/\EC (pA h n))(q:K (.d (.tuple ((GE h x m).map pr))) []):aB eJ [.d (.list (h.map jC)),.d (.list (x.map nD)),.d (.str m)] K E:=⟨h,x,m,rfl,l,a,q⟩
def mN(w:Wd)(l h:LN)(m x:Str):Prop:=Held (GE w.es h m) (MF w (xB w.es l) m) (GJ w) x
end
open Classical in
def Xb(w:Wd)(l h:LN)(x m:Str):Bool:=decide (mN w l h m x)
open Classical in
section
variable{Ψ:PEv}{Z:PEnds}{w:Wd}{l f:LN}{g:Kn}{i:List (Str×LS)}{m:Str}{o8 j o7:Option Sl}
theorem KQ(w:Wd)(l f:LN)(x m:Str):Xb w l f x m=true↔mN w l f m x:=by unfold Xb;exact decide_eq_true_iff
def oe(w:Wd)(l f:LN)(x:Str):List Pt:=(w.ms.filter (Xb w l f x)).map λm=>(x,m)
def nH(w:Wd)(l f:LN):List Pt:=w.ps.flatMap λp=>oe w l f p.1
def P7(w:Wd)(f:LN):Prop:=f.length<=100/\∀n∈f,n<w.es.length/\EC (pA w.es n)
def Gv(Q:T->LT->Prop):PEnds:={ nx:=λh=>CU (DA [3] h) (Q (.d .none)),rt:=λt h=>CU (DA [3] h) (Q t) }
noncomputable def tZ(w:Wd)(l f:LN)(g:Kn)(i:List (Str×LS))(o6 o7 o8 j:Option Sl):zA:=[bD (wD w),some (.ky (.lst ((l.map nD).map T.d))),bD (.list (f.map nD)),oW (lX g),oW (YI (xB w.es l)),oW (rZ i),o6,o7,o8,j]
def i8(w:Wd)(l f:LN)(m:Str):T:=.d (kE (GE w.es f m) (MF w (xB w.es l) m))
theorem ge{k:Nat}{v:LS}(hl:i.length<sizeLine)(y:m∉i.map λx=>x.1)(h:bA (dZ g) (kE (GE w.es f m) (MF w (xB w.es l) m))=some k)(hv:(Ri g)[k]?=some (T.d (.list (v.map PyData.str))))(q:Z.nx (tZ w l f g (i++[(m,v)]) (bD (.str m)) (some (.ky (i8 w l f m))) o8 j)):pF Ψ TC Z (tZ w l f g i (bD (.str m)) (some (.ky (i8 w l f m))) o8 j):=by delta tZ i8 kE;delta TC;simp_arith[↓cx];refine Yr h hv ?_;simp_arith[↓vA];exact vp hl y q
theorem Pg(w:Wd)(ks:List Pt)(m:Str):(MF w ks m).length<=w.ps.length:=by unfold MF;rw[QD];exact Q3 _ _
theorem Zj(h:List Evt)(f:LN)(m:Str):(GE h f m).length<=f.length:=by unfold GE;rw[QD];exact Q3 _ _
theorem Vg(h:WOk w)(hv:P7 w f)(m:Str):JG (GE w.es f m) (MF w (xB w.es l) m):=by constructor;intro s z;obtain⟨p,u,rfl⟩:=QZ.mp z;exact h.po p (Qa.mp u).1;intro e v;obtain⟨n,y,rfl⟩:=QZ.mp v;have y:=(Qa.mp y).1;obtain⟨a,t,x,b,o,k,q,e⟩:=hv.2 n y;have:=h.ev a;rw[e]at this ⊢;exact⟨h.nm this.1,h.nm this.2.1⟩
theorem Bt(F:Ψ.sp "seers_of"=tJ)(E:Ψ.sp "edges_of"=eJ)(r:Ψ.sp "holders_in"=DG)(a:WOk w)(hv:P7 w f)(hk:xK w g)(C:g.length<=20000)(hl:i.length<1000)(p:m∉i.map λx=>x.1)(q:∀h v,xK w h->h.length<=g.length+1->(∀y,y∈v↔mN w l f m y)->Z.nx (tZ w l f h (i++[(m,v)]) (bD (.str m)) (some (.ky (i8 w l f m))) o8 j)):pF Ψ DD Z (tZ w l f g i (bD (.str m)) o7 o8 j):=by
 have L:=a.pl;have J:=Pg w (xB w.es l) m;have I:=Zj w.es f m;have G:=hv.1;delta tZ;delta DD;simp_arith[↓bP,↓xA (md:=[.xy,.ky]) F rfl rfl,↓xA (md:=[]) E rfl rfl,↓xA (md:=[]) r rfl rfl,↓pC,↓Kc,↓Xq];refine E8 (by omega) ?_;simp_arith[↓vA];refine v9 hv.1 hv.2 ?_;simp_arith[↓uc];refine⟨by omega,?_⟩;cases e:bA (dZ g) (kE (GE w.es f m) (MF w (xB w.es l) m)) with
 |some k=>obtain⟨v,X,s⟩:=be e;refine YM (λz=>by cases z) ?_;exact ge (by omega) p e s (q g v hk (by omega) (hk _ X))|none =>
  refine db rfl ?_;simp_arith[↓xA (md:=[]) r rfl rfl];refine T2 ⟨by omega,by omega,Vg a hv m,by omega,a.pn⟩ λv b B=>?_;simp_arith[↓vA];refine Pi (by omega) e ?_;have A:bA (dZ (g++[((GE w.es f m,MF w (xB w.es l) m),v)])) (kE (GE w.es f m) (MF w (xB w.es l) m))≠none:=λz=>AA.mp z (QZ.mpr ⟨_,Qb _ (QJ.mpr rfl),rfl⟩);have o:xK w (g++[((GE w.es f m,MF w (xB w.es l) m),v)]):=λx u=>by rcases Qi.mp u with u|u;exact hk x u;rw[QJ.mp u];exact b
  cases n:bA (dZ (g++[((GE w.es f m,MF w (xB w.es l) m),v)])) (kE (GE w.es f m) (MF w (xB w.es l) m)) with|none=>exact absurd n A|some k=>obtain⟨Y,K,W⟩:=be n;exact ge (by omega) p n W (q _ Y o (by rw[QI];exact QS _) (o _ K))
theorem HZ{b:PT}{p:PSp}{N x:LS}{ds:LT}{Q:T->LT->Prop}(ρ:zA)(hl:ds.length=x.length)(hc:XB 0 p.md x.length=[3])(y:gB N p.md ds=ρ)(h:pF Ψ b (Gv Q) ρ):ds.length=x.length/\pF Ψ b (ZD p x.length Q) (gB N p.md ds):=by
 have e:ZD p x.length Q=Gv Q:=by unfold ZD;rw[hc];rfl
 rw[e,y];exact⟨hl,h⟩
noncomputable def UC:PSp where
 md:=[.xy,.xz,.xy,.chg]
 run:=λy Q _=>∃(w:Wd) (l f:LN) (g:Kn),y=[.d (wD w),.lst ((l.map nD).map T.d),.d (.list (f.map nD)),lX g]/\(WOk w/\l.length<=100/\∀n∈l,n<w.es.length)/\P7 w f/\(xK w g/\g.length<=10000)/\∀x,xK w x->x.length<=g.length+10->Q (.lst (((nH w l f).map pr).map T.d)) [lX x]
 mono:=λh _ z=>by obtain⟨w,l,f,g,e,a,b,c,q⟩:=z;exact⟨w,l,f,g,e,a,b,c,λx u v=>h _ _ (q x u v)⟩
theorem tX(h:WOk w)(l f:LN)(x:Str):(oe w l f x).length<=10:=by unfold oe;rw[QD];exact QV (Q3 _ _) h.ml
theorem Ut{h:List Pt}{o6:Option Sl}{p:Str×Int×Int×Int}(u:WOk w)(n:i.map (λx=>x.1)=w.ms)(b:∀x∈i,∀y,y∈x.2↔mN w l f x.1 y)(hl:h.length<=1000)(q:Z.nx (tZ w l f g i o6 o7 (oW (.lst (((h++oe w l f p.1).map pr).map T.d))) (bD (mH p)))):pF Ψ CD Z (tZ w l f g i o6 o7 (oW (.lst ((h.map pr).map T.d))) (bD (mH p))):=by
 have o:=u.ml;have k:=tX u l f p.1;delta tZ;delta CD;simp_arith[↓o0];rw[<- nA PyData.str];refine fA (λm=>T.d (.str m)) (λm=>T.d (pr (p.1,m))) (Xb w l f p.1) w.ms [] _ (λm a R z=>?_) (by show 0+w.ms.length<=_;omega) ?_;simp_arith[↓Du,↓tN,↓gx];refine xp (n▸a) λv hv=>?_;have e:decide (p.1∈v)=Xb w l f p.1 m:=by rw[qD,decide_eq_true_iff];exact(b _ hv p.1).trans (KQ w l f p.1 m).symm
 simp_arith[uL,HI,LB,true_or,e];split at z;rename_i c;rw[if_pos c];exact⟨by omega,z⟩;rename_i c;rw[if_neg c];exact z;rw[Qh,nA λm=>pr (p.1,m)];have e:((w.ms.filter (Xb w l f p.1)).map λm=>pr (p.1,m))=(oe w l f p.1).map pr:=by unfold oe;rw[QY];rfl
 rw[e,<- QO,<- QO];exact⟨by rw[QD,QD,QD,QD];omega,q⟩
theorem ga(O:Ψ.sp "seen_among"=CG)(M:Ψ.sp "seers_of"=tJ)(L:Ψ.sp "edges_of"=eJ)(J:Ψ.sp "holders_in"=DG)(ds Q E)(h:UC.run ds Q E):kH Ψ iF UC gJ fH ds Q:=by
 obtain⟨w,l,f,g,rfl,⟨o,hl,G⟩,hv,⟨hk,I⟩,q⟩:=h;have H:=o.ml;have S:=o.pl;refine HZ [bD (wD w),some (.ky (.lst ((l.map nD).map T.d))),bD (.list (f.map nD)),oW (lX g),none,none,none,none,none,none] rfl rfl rfl ?_;delta iF;simp_arith[↓bP,↓o0,↓xA (md:=[.xy,.xz]) O rfl rfl,↓pC,↓Kc];refine FR hl G ?_;simp_arith[↓o0];rw[<- nA PyData.str];refine jB (λm=>T.d (.str m)) (λr b=>∃u i a o7,i.map (λx=>x.1)++r=w.ms/\(xK w u/\u.length+r.length<=g.length+w.ms.length)/\(∀x∈i,∀y,y∈x.2↔mN w l f x.1 y)/\b=tZ w l f u i a o7 none none) ?_ ?_ w.ms _ ⟨g,[],none,none,rfl,⟨hk,QS _⟩,(λx n=>by cases n),rfl⟩;rintro b ⟨u,i,a,o7,e,⟨W,s⟩,A,rfl⟩;have e:i.map (λx=>x.1)=w.ms:=by rw[<- e,qA]
 have s:u.length<=g.length+w.ms.length:=s;delta tZ;simp_arith[↓fU];rw[<- nA mH];refine⟨by omega,?_⟩;refine jB (λp=>T.d (mH p)) (λr b=>∃k a o7 j,k++r.flatMap (λp=>oe w l f p.1)=nH w l f/\k.length+10 * r.length<=200/\b=tZ w l f u i a o7 (oW (.lst ((k.map pr).map T.d))) j) ?_ ?_ w.ps _ ⟨[],_,_,none,rfl,by show 0+10 * w.ps.length<=200;omega,rfl⟩;rintro b ⟨k,a,o7,j,X,_,rfl⟩;have X:k=nH w l f:=by rw[<- X];exact(qA k).symm
 subst X;delta tZ;simp_arith[↓vA];exact q u W (by omega);rintro p r b N K ⟨k,a,o7,j,X,B,rfl⟩;have B:k.length+10 * (r.length+1)<=200:=B;have C:=tX o l f p.1;refine Ut o e A (by omega) (K _ ⟨k++oe w l f p.1,a,o7,_,?_,by rw[QI];omega,rfl⟩);rw[Qz];exact X;rintro m r b N K ⟨u,i,a,o7,e,⟨W,s⟩,A,rfl⟩;have s:u.length+(r.length+1)<=g.length+w.ms.length:=s;have F:i.length+(r.length+1)=w.ms.length:=by rw[<- e,QI,QD];rfl
 have nd:=o.mn;rw[<- e]at nd;refine Bt M L J o hv W (by omega) (by omega) (λz=>(qj.mp nd).2.2 m z m QF rfl) λY v R g2 P=>K _ ⟨Y,i++[(m,v)],_,_,?_,⟨R,by omega⟩,?_,rfl⟩;rw[QO,Qz];exact e;intro x n;rcases Qi.mp n with n|n;exact A x n;rw[QJ.mp n];exact P
end
end L2.L3.K34
namespace L2.L3
open PySem PySem.Spec PyProof.Rows PySem.W
noncomputable def jI{α:Type}(n:Nat)(lt:Nat->Nat->Bool)(P:α->Prop):KasT α->Prop
 | .ret a=>P a|.ask i j k=>(i<n/\j<n/\i≠j)/\jI n lt P (k (lt i j))
theorem jI.bnd{α x:Type}{n:Nat}{lt:Nat->Nat->Bool}{P:α->Prop}{R:x->Prop}{f:α->KasT x}(y:∀a,P a->jI n lt R (f a)):∀{t:KasT α},jI n lt P t->jI n lt R (t.bind f)
 | .ret a,h=>y a h|.ask _ _ _,⟨h1,h⟩=>⟨h1,jI.bnd y h⟩
theorem jI.imp{α:Type}{n:Nat}{lt:Nat->Nat->Bool}{P R:α->Prop}(x:∀a,P a->R a):∀{t:KasT α},jI n lt P t->jI n lt R t
 | .ret a,h=>x a h|.ask _ _ _,⟨h1,h⟩=>⟨h1,jI.imp x h⟩
theorem jI.wp{α:Type}{n:Nat}{lt:Nat->Nat->Bool}{P:α->Prop}{x:Nat->Nat->(Bool->Shared->Prop)->Shared->Prop}{Q:α->Shared->Prop}{s:Shared}(y:∀i j,i<n->j<n->i≠j->∀C:Bool->Shared->Prop,C (lt i j) s->x i j C s)(z:∀a,P a->Q a s):∀{t:KasT α},jI n lt P t->t.kasWp x Q s
 | .ret a,h=>z a h|.ask i j _,⟨⟨h1,h2,h3⟩,h⟩=>y i j h1 h2 h3 _ (jI.wp y z h)
def XI(lt:Nat->Nat->Bool)(a b:Nat):Prop:=lt b a=false
structure Ord(lt:Nat->Nat->Bool):Prop where
 asy:∀a b,lt a b=true->lt b a=false
 tr:∀a b c,XI lt a b->XI lt b c->XI lt a c
def gD(p:Array Nat)(i:Nat):Nat:=p.getD i 0
theorem NS{p q:Array Nat}{i j:Nat}(h:p[i]?=q[j]?):gD p i=gD q j:=by unfold gD;rw[QAD,QAD,h]
def Up(lt:Nat->Nat->Bool)(p:Array Nat)(k:Nat):Prop:=∀i j,i<=j->j<k->XI lt (gD p i) (gD p j)
def Dn(lt:Nat->Nat->Bool)(p:Array Nat)(k:Nat):Prop:=∀i j,i<=j->j<k->XI lt (gD p j) (gD p i)
theorem Pm.two{n:Nat}{p:Array Nat}(h:Pm n p){a b:Nat}(w:a<n)(hb:b<n)(z:a≠b):p.getD a 0<n/\p.getD b 0<n/\p.getD a 0≠p.getD b 0:=by
 have u:p.size=n:=by have:=h.size_eq;simpa using this
 have x:0<n:=by omega
 refine⟨h.lt x a,h.lt x b,λe=>?_⟩;have nd:p.toList.Nodup:=(qI.mp h).nodup_iff.mpr (by simpa using QCP);have y:∀i,i<n->p.toList[i]?=some (p.getD i 0):=λi v=>by rw[ww,Array.getElem?_eq_getElem (by omega)];simp[QB3,u,v]
 exact z ((QB7 (by rw[Qr];omega) nd).mp ((y a w).trans ((congrArg some e).trans (y b hb).symm)))
section
variable{lt:Nat->Nat->Bool}{p:Array Nat}
theorem aP{i j:Nat}(h:j<=p.size)(k:Nat):gD (kas_rev p i j) k=if i<=k/\k<j then gD p (i+j - 1 - k) else gD p k:=by have:=getElem?_mirror_all (xs:=p) (i:=i) h k;split;rename_i c;rw[if_pos c]at this;exact NS this;rename_i c;rw[if_neg c]at this;exact NS this
theorem HV{a b k:Nat}(hb:b<=p.size)(hk:Dn lt p k)(e:∀x y,a<=x->x<b->a<=y->y<b->XI lt (gD p x) (gD p y))(w:b<=k):Dn lt (kas_rev p a b) k:=λi j v z=>by rw[aP hb,aP hb];by_cases u:a<=i/\i<b;rw[if_pos u];by_cases h:a<=j/\j<b;rw[if_pos h];exact e _ _ (by omega) (by omega) (by omega) (by omega);rw[if_neg h];exact hk _ _ (by omega) z;rw[if_neg u];by_cases h:a<=j/\j<b;rw[if_pos h];exact hk _ _ (by omega) (by omega);rw[if_neg h];exact hk _ _ v z
theorem Fg{k:Nat}(hk:k<=p.size)(h:Dn lt p k):Up lt (kas_rev p 0 k) k:=λi j y x=>by rw[aP hk,aP hk,if_pos (by omega),if_pos (by omega)];exact h _ _ (by omega) (by omega)
theorem i7{k d:Nat}(h:k<p.size)(x:d<=k)(i:Nat):gD (bubble p k d) i=if i=k - d then gD p k else if k - d<i/\i<=k then gD p (i - 1) else gD p i:=by have:=getElem?_bubble h d x i;split;rename_i c;rw[if_pos c]at this;exact NS this;rename_i c;rw[if_neg c]at this;split;rename_i c2;rw[if_pos c2]at this;exact NS this;rename_i c2;rw[if_neg c2]at this;exact NS this
end
section
variable{n:Nat}{lt:Nat->Nat->Bool}(o:Ord lt){p:Array Nat}
include o
theorem Ord.re(a:Nat):XI lt a a:=by
 unfold XI;cases h:lt a a with|false=>rfl|true=>exact(o.asy a a h).symm.trans h |>.symm▸rfl
theorem Ord.le{a b:Nat}(h:lt a b=true):XI lt a b:=o.asy a b h
theorem A0:Up lt p 1:=λi j x h=>by
 obtain rfl:i=j:=by omega
 exact o.re _
theorem X8{k:Nat}(z:1<=k)(h:Up lt p k)(l:XI lt (gD p (k - 1)) (gD p k)):Up lt p (k+1):=λi j x y=>by
 by_cases e:j<k;exact h i j x e;obtain rfl:j=k:=by omega
 by_cases e:i=j;subst e;exact o.re _;exact o.tr _ _ _ (h i (j - 1) (by omega) (by omega)) l
theorem OI{k:Nat}(z:1<=k)(h:Dn lt p k)(l:XI lt (gD p k) (gD p (k - 1))):Dn lt p (k+1):=λi j x y=>by
 by_cases e:j<k;exact h i j x e;obtain rfl:j=k:=by omega
 by_cases e:i=j;subst e;exact o.re _;exact o.tr _ _ _ l (h i (j - 1) (by omega) (by omega))
theorem OU(h:Pm n p)(v:0<n):∀(f m:Nat),1<=m->m+f<=n->Up lt p m->jI n lt (λr=>m<=r/\r<=m+f/\Up lt p r/\(r<m+f->lt (gD p r) (gD p (r - 1))=true)) (kas_asc p f m)
 |0,m,h1,h2,u=>⟨QS _,QS _,u,λz=>absurd z (by omega)⟩|f+1,m,h1,h2,u=>by
  refine⟨h.two (by omega) (by omega) (by omega),?_⟩;cases c:lt (p.getD m 0) (p.getD (m - 1) 0) with|true=>exact⟨QS _,by omega,u,λ_=>c⟩|false=>have y:=OU h v f (m+1) (by omega) (by omega) (X8 o h1 u c);show jI n lt _ (kas_asc p f (m+1));rw[show m+1+f=m+(f+1) by omega]at y;exact jI.imp (λr x=>⟨by omega,x.2.1,x.2.2.1,x.2.2.2⟩) y
theorem SK(w:0<n):∀(f:Nat) {p:Array Nat}(m q:Nat),Pm n p->q+1<=m->m+f<=n->Dn lt p m->(∀x y,m - (q+1)<=x->x<m->m - (q+1)<=y->y<m->XI lt (gD p x) (gD p y)) ->
  jI n lt (λr=>Pm n r.1/\r.2.2+1<=r.2.1/\r.2.1<=n/\Dn lt r.1 r.2.1/\∀x y,r.2.1 - (r.2.2+1)<=x->x<r.2.1->r.2.1 - (r.2.2+1)<=y->y<r.2.1->XI lt (gD r.1 x) (gD r.1 y)) (kas_desc f p m q)
 |0,p,m,q,h,hq,hm,d,al=>⟨h,hq,by omega,d,al⟩|f+1,p,m,q,h,hq,hm,d,al=>by
  have s:p.size=n:=by have:=h.size_eq;simpa using this
  refine⟨h.two (by omega) (by omega) (by omega),?_⟩;cases c:lt (p.getD m 0) (p.getD (m - 1) 0) with
  |true =>
   have l:XI lt (gD p m) (gD p (m - 1)):=o.le c;show jI n lt _ (if q > 0 then kas_desc f (kas_rev p (m - (q+1)) m) (m+1) 0 else kas_desc f p (m+1) 0);have one:∀{p:Array Nat}(x y:Nat),m+1 - (0+1)<=x->x<m+1->m+1 - (0+1)<=y->y<m+1->XI lt (gD p x) (gD p y):=λx y a v k u=>by
    obtain rfl:x=y:=by omega
    exact o.re _
   split;refine SK w f (m+1) 0 (h.rev _ _) (by omega) (by omega) ?_ one;exact HV (by omega) (OI o (by omega) d l) (λx y a v k u=>al x y a v k u) (by omega);exact SK w f (m+1) 0 h (by omega) (by omega) (OI o (by omega) d l) one
  |false =>
   refine⟨h.two (by omega) (by omega) (by omega),?_⟩;cases e:lt (p.getD (m - 1) 0) (p.getD m 0) with
   |true=>exact⟨h,hq,show m<=n by omega,d,al⟩|false =>
    have j:XI lt (gD p (m - 1)) (gD p m):=c;have g:XI lt (gD p m) (gD p (m - 1)):=e;refine SK w f (m+1) (q+1) h (by omega) (by omega) (OI o (by omega) d g) λx y a v k u=>?_;have b:∀x,m - (q+1)<=x->x<m+1->XI lt (gD p x) (gD p m)/\XI lt (gD p m) (gD p x):=λx i X=>by by_cases z:x=m;subst z;exact⟨o.re _,o.re _⟩;exact⟨o.tr _ _ _ (al x (m - 1) i (by omega) (by omega) (by omega)) j,o.tr _ _ _ g (al (m - 1) x (by omega) (by omega) i (by omega))⟩
    exact o.tr _ _ _ (b x (by omega) v).1 (b y (by omega) u).2
theorem TR(h:Pm n p)(z:0<n){a:Nat}(y:1<=a)(v:a<=n)(d:Dn lt p a):jI n lt (λr=>Pm n r.2/\r.1<=n/\Up lt r.2 r.1) (kas_tail3 a n p):=by
 have u:p.size=n:=by have:=h.size_eq;simpa using this
 refine jI.bnd (f:=λm=>.ret (m,kas_rev p 0 a)) (λm x=>?_) (OU o (h.rev 0 a) z (n - a) a y (by omega) (Fg (by omega) d));exact⟨h.rev _ _,by omega,x.2.2.1⟩
theorem aK(h:Pm n p)(z:0<n){a:Nat}(g:1<=a)(f:a+1<=n)(d:Dn lt p (a+1)):jI n lt (λr=>Pm n r.2/\r.1<=n/\Up lt r.2 r.1) (kas_descPart a n p):=by
 refine jI.bnd (λr k=>?_) (SK o z (n - (a+1)) (a+1) 0 h (by omega) (by omega) d λx y q m l j=>?_);obtain⟨u,i,w,v,b⟩:=k;have e:r.1.size=n:=by have:=u.size_eq;simpa using this
 split;exact TR o (u.rev _ _) z (by omega) w (HV (by omega) v b (QS _));exact TR o u z (by omega) w v;obtain rfl:x=y:=by omega
 exact o.re _
theorem L4(h:Pm n p)(z:0<n):jI n lt (λr=>Pm n r.2/\r.1<=n/\Up lt r.2 r.1) (kas_count n p):=by
 have Y:p.size=n:=by have:=h.size_eq;simpa using this
 refine jI.bnd (λm f=>?_) (OU o h z (n - 1) 1 (QS _) (by omega) (A0 o));obtain⟨w,s,u,st⟩:=f;split;exact⟨h,by omega,u⟩;rename_i v;have v:m≠n:=λe=>v (by rw[e];exact beq_self_eq_true _);have st:=st (by omega);have l:XI lt (gD p m) (gD p (m - 1)):=o.le st;split;rename_i g1;refine⟨h.two (by omega) (by omega) (by omega),?_⟩;cases c:lt (p.getD 0 0) (p.getD (m - 1) 0) with|true=>exact⟨h,by omega,u⟩|false=>have c:XI lt (gD p (m - 1)) (gD p 0):=c;have a:∀x y,x<m->y<m->XI lt (gD p x) (gD p y):=λx y X b=>o.tr _ _ _ (u x (m - 1) (by omega) (by omega)) (o.tr _ _ _ c (u 0 y (by omega) b));refine aK o (h.rev _ _) z w (by omega) (HV (by omega) (OI o w (λi j _ k=>a j i k (by omega)) l) (λx y _ q _ g=>a x y q g) (by omega))
 obtain rfl:m=1:=by omega
 refine aK o h z (QS _) (by omega) (OI o (QS _) (λi j Z k=>?_) l);obtain rfl:i=j:=by omega
 exact o.re _
theorem fM(h:Pm n p){k:Nat}(hk:k<n)(u:Up lt p k):∀(f l r:Nat),l<=r->r<=k->r - l<=f->(∀i,i<l->XI lt (gD p i) (gD p k))->(∀i,r<=i->i<k->XI lt (gD p k) (gD p i))->jI n lt (λl=>l<=k/\(∀i,i<l->XI lt (gD p i) (gD p k))/\∀i,l<=i->i<k->XI lt (gD p k) (gD p i)) (kas_place p k f l r)
 |0,l,r,h1,h2,h3,h4,h5=>⟨by omega,h4,λi x hk=>h5 i (by omega) hk⟩|f+1,l,r,h1,h2,h3,h4,h5=>by
  show jI n lt _ (if l ≥ r then _ else _);split;exact⟨by omega,h4,λi x hk=>h5 i (by omega) hk⟩;refine⟨h.two hk (by omega) (by omega),?_⟩;cases c:lt (p.getD k 0) (p.getD ((l+r) / 2) 0) with|true=>exact fM h hk u f _ _ (by omega) (by omega) (by omega) h4 λi x hk=>o.tr _ _ _ (o.le c) (u _ _ x hk)|false=>exact fM h hk u f _ _ (by omega) (by omega) (by omega) (λi x=>o.tr _ _ _ (u i ((l+r) / 2) (by omega) (by omega)) c) h5
theorem NU(e:0<n):∀(f:Nat) {p:Array Nat}(k:Nat),Pm n p->k+f=n->Up lt p k->jI n lt (λr=>Pm n r/\Up lt r n) (kas_bin f p k)
 |0,p,k,h,hk,u=>⟨h,by rw[<- hk];exact u⟩|f+1,p,k,h,hk,u=>by
  have m:p.size=n:=by have:=h.size_eq;simpa using this
  refine jI.bnd (λl hl=>?_) (fM o h (by omega) u k 0 k (Qs _) (QS _) (by omega) (λi y=>absurd y (by omega)) λi y hk=>absurd hk (by omega));obtain⟨g,b,a⟩:=hl;refine NU e f (k+1) ((bubble_perm _ _ _).trans h) (by omega) λi j y q=>?_;rw[i7 (by omega) (by omega),i7 (by omega) (by omega),show k - (k - l)=l by omega];by_cases w:i=l;rw[if_pos w];by_cases x:j=l;rw[if_pos x];exact o.re _;rw[if_neg x,if_pos (by omega)];exact a _ (by omega) (by omega);rw[if_neg w];by_cases x:j=l;rw[if_pos x,if_neg (by omega)];exact b _ (by omega);rw[if_neg x];by_cases v:l<i/\i<=k;rw[if_pos v,if_pos (by omega)];exact u _ _ (by omega) (by omega);rw[if_neg v];by_cases z:l<j/\j<=k;rw[if_pos z];exact u _ _ (by omega) (by omega);rw[if_neg z];exact u _ _ y (by omega)
theorem xa(y:0<n):jI n lt (λr=>Pm n r/\Up lt r n) (kas_sort n):=by
 refine jI.bnd (λr z=>?_) (L4 o (QA7 _) y);obtain⟨x,u,h⟩:=z;split;by_cases c:1<=r.1
 ·rw[Nat.max_eq_left c]
  exact NU o y _ _ x (by omega) h
 rw[Nat.max_eq_right (by omega)];exact NU o y _ _ x (by omega) (A0 o);rw[show r.1=n by omega]at h;exact⟨x,h⟩
end
open PySem.SeqAt
noncomputable def xZ(ks:List (Int×Int))(i j:Nat):Bool:=decide ((ks.getD i (0,0)).1<(ks.getD j (0,0)).1∨(ks.getD i (0,0)).1=(ks.getD j (0,0)).1/\(ks.getD i (0,0)).2<(ks.getD j (0,0)).2)
theorem Ea(ks:List (Int×Int)):Ord (xZ ks):=by refine⟨λa b h=>?_,λa b c y x=>?_⟩;unfold xZ at h ⊢;have:=of_decide_eq_true h;exact dF (by omega);unfold XI xZ at *;have y:=of_decide_eq_false y;have x:=of_decide_eq_false x;exact dF (by omega)
def GD(h:Heap)(v:Value)(p:Int×Int):Prop:=∃a o n t u,v=.ref a/\h.get? a=some o/\o.cls=.type "tuple"/\o.data=.seq (qG [Value.int p.1 t,Value.int p.2 u]) n
theorem GD.keep{h h':Heap}{v:Value}{x:Int×Int}{c:Addr}{u:Obj}(e:h.get? c=some u)(hc:u.cls≠.type "tuple")(k:∀b o,b≠c->h.get? b=some o->h'.get? b=some o)(t:GD h v x):GD h' v x:=by obtain⟨a,o,n,t,r,f,y,w,d⟩:=t;exact⟨a,o,n,t,r,f,k _ _ (λz=>by rw[z,e]at y;cases y;exact hc w) y,w,d⟩
section
variable{prog:Program}{w:World}{A:Around}{E:aC}{s:Shared}
section
variable{vs:LW}{r f:Addr}{a b c:Int}{t u v:Tok}{n:Nat}{kz:List (Int×Int)}
theorem Ci{v u:Value}{x y:Int×Int}{Q:Bool->Shared->Prop}(hv:GD s.heap v x)(z:GD s.heap u y)(q:Q (decide (x.1<y.1∨x.1=y.1/\x.2<y.2)) s):wpAny (model prog w) A (keyLt' (tuples' true) v u) Q E s:=by obtain⟨a,o,n,t,r,rfl,g,_,j⟩:=hv;obtain⟨b,p,X,l,m,rfl,k,_,i⟩:=z;refine kat_lt g j k i (kat_cons (QAr ?_));by_cases e:x.1=y.1;rw[e,beq_self_eq_true];refine kat_yes (kat_cons (QAr ?_));by_cases h:x.2=y.2;rw[h,beq_self_eq_true];refine kat_yes (kat_nil ?_);rw[show decide (x.1<y.1∨x.1=y.1/\x.2<y.2)=false from dF (by omega)]at q;exact q;rw[beq_false_of_ne h];refine kat_no (kat_one _ _ (PyProof.Rows.lt_int ?_));rw[show decide (x.1<y.1∨x.1=y.1/\x.2<y.2)=decide (x.2<y.2) from decide_eq_decide.mpr (by omega)]at q;exact q;rw[beq_false_of_ne e];refine kat_no (oneLt_int ?_);rw[show decide (x.1<y.1∨x.1=y.1/\x.2<y.2)=decide (x.1<y.1) from decide_eq_decide.mpr (by omega)]at q;exact q
theorem E5{ns:List (Int×Int)}{Q:SortKind->Shared->Prop}(l:Paired (GD s.heap) vs ns)(K:2<=vs.length)(q:Q (tuples' true) s):wpAny (model prog w) A (keyKind' vs.toArray) Q E s:=by
 have key:∀{vs:LW}{ns:List (Int×Int)},Paired (GD s.heap) vs ns->∃fs,KatTups s.heap vs fs/\fs.length=vs.length/\∀f∈fs,∃x t,f=.int x t:=by
  intro vs ns h;induction h with
  |nil=>exact⟨[],.nil,rfl,λ_ z=>(nomatch z)⟩
  |@cons v x Z Y h _ e=>obtain⟨fs,j,i,g⟩:=e;obtain⟨a,o,n,t,r,rfl,p,hc,X⟩:=h;refine⟨.int x.1 t::fs,.cons (f:=.int x.1 t) p hc X (by simp) j,by rw[QM,QM,i],λf m=>?_⟩;rcases QL.mp m with rfl|z;exact⟨_,_,rfl⟩;exact g f z
 obtain⟨fs,k,W,y⟩:=key l;exact kat_kind (T:=.type "int") k (by omega) (λv hv=>by obtain⟨x,t,rfl⟩:=y v hv;exact .of_pure rfl) (by decide) q
theorem VH{α x:Type}{R:α->x->Prop}{d:α}{e:x}:∀{l:List α}{m:List x},Paired R l m->∀i,i<l.length->R (l.getD i d) (m.getD i e)
 |_,_,.nil,i,h=>absurd h (Nat.not_lt_zero _)|_,_,.cons r _,0,_=>r|_,_,.cons _ t,i+1,h=>VH t i (wo h)
theorem sK{α x:Type}{R:α->x->Prop}:∀{l z:List α}{m y:List x},Paired R l m->Paired R z y->Paired R (l++z) (m++y)
 |_,_,_,_,.nil,h=>h|_,_,_,_,.cons r t,h=>.cons r (sK t h)
theorem BN{Q:LW->Shared->Prop}(Y:A.handled=none)(q:IsRange s.heap r a b c t u v)(x:QBX a b c=true)
  (X:WO a b c=n) (z:n<=2 ^ 24)
  (h:∀h' g y,(∀b o,s.heap.get? b=some o->h'.get? b=some o)->s.heap.objs.size<h'.objs.size->ItemsOf (λi v=>∃t,v=.int (a+i * c) t) y n->Q y.toList { s with heap:=h',toks:=g }) :
  wpAny (model prog w) A (collect (.ref r)) Q E s:=by
 unfold collect;refine QC (wpAny_runValue (W8 F.entry_proto_collect ?_));rw[w9 F.plain_proto_collect _];show wpAny _ A.in1 (newList [] >>= λl=>again (.builtin "list.__iadd__" ⟨[l,.ref r],[]⟩)) _ _ s;refine QC (Q0 ?_);refine QK ⟨QBp QB8 _,W8 F.entry_list_iadd ?_⟩;rw[w9 QB8 _];have Z:(s.heap.push { cls:=.type "list",data:=.seq ([]:LW).toArray }).get? s.heap.objs.size=some { cls:=.type "list",data:=.seq #[] }:=QU _ rfl;show wpAny _ A.in1 (Builtin.List.listExtendWith (.ref s.heap.objs.size) (.ref r) (.ref s.heap.objs.size)) _ _ _;refine wpAny_extend_range (R:=λr j=>match r with | .ok (.ret v)=>wpAny (model prog w) A (match v with | .ref a=>(do let o <- load a;match o.data with | .seq m _=>pure m.toList|_=>unsupported "internal:collect")|_=>unsupported "internal:collect") Q E j | .ok _=>False | .error e=>E e j) (s:={ s with heap:=s.heap.push { cls:=.type "list",data:=.seq ([]:LW).toArray } }) Y (QH _ q) x X z _ _ _ Z λh' g y W p k it=>?_;show wpAny _ A (load s.heap.objs.size >>= _) _ _ _;refine QC (wpAny_load k ?_);exact QK (h h' g y (λb o e=>p b o (Qk (QX e)) (QH _ e)) (QX k) it)
theorem Fi{a:Addr}{P:PySem.Fin->Shared->Prop}(ho:s.heap.get? a=some (seqObj "list" vs.toArray n))(h64:vs.length<64)(hl:kz.length=vs.length)
  (hf:∀(h:Heap) (g:Nat),(∀b o,b≠a->s.heap.get? b=some o->h.get? b=some o)->∀(i:Nat) (x:Value) (p:Int×Int),vs[i]?=some x->kz[i]?=some p->∀C:Value->Shared->Prop,
   (∀W m k,(∀b o,h.get? b=some o->W.get? b=some o)->GD W k p->C k { s with heap:=W,toks:=m })->wpAny (model prog w) A (call (.ref f) [x]) C (λ_ _=>False) { s with heap:=h,toks:=g })
  (k:∀(p:Array Nat) (h':Heap) (g c:Nat),Pm vs.length p->Up (xZ kz) p vs.length->(∀b o,b≠a->s.heap.get? b=some o->h'.get? b=some o)->h'.get? a=some (seqObj "list" (p.toList.map λi=>vs.getD i Value.none).toArray c)->P (.done (.ret .none)) { s with heap:=h',toks:=g }) :
  wpAny (model prog w) A (ksk_tree a (.ref f) false) P E s:=by
 have ha:a<s.heap.objs.size:=QX ho;have s1:=Q5 s.heap a (Q6 λ_=>(#[]:Array Value));obtain⟨G,ho1⟩:∃G,(s.heap.update a (Q6 λ_=>(#[]:Array Value))).get? a=some (seqObj "list" #[] G):=⟨_,W9 ho λ_=>#[]⟩
 generalize hH:((s.heap.update a (Q6 λ_=>(#[]:Array Value))).push (seqObj "tuple" vs.toArray 0))=hT;have S:hT.objs.size=s.heap.objs.size+1:=by rw[<- hH,size_push',QCO]
 have kS0:(hT.push (seqObj "list" #[] 0)).get? hT.objs.size=some (seqObj "list" #[] 0):=QU _ rfl;have a0:(hT.push (seqObj "list" #[] 0)).get? a=some (seqObj "list" #[] G):=QH _ (by rw[<- hH];exact QH _ ho1);have kp0:∀b o,b≠a->s.heap.get? b=some o->(hT.push (seqObj "list" #[] 0)).get? b=some o:=λb o hb e=>QH _ (by rw[<- hH];exact QH _ ((s1.2 b hb).trans e));have naK:a≠hT.objs.size:=by rw[S];exact Qk (w6 ha)
 unfold ksk_tree;refine QC (QCE ho rfl (QC (WS ho rfl ?_ (by rw[QN];omega) (Qs _))));refine QC (QBV ho1 rfl (QC (QBO ?_ (by show vs.length<=_;omega))));refine QC (QAl (qp ?_) (Qs _));rw[hH];generalize hK:hT.objs.size=kS at *;have fin:∀(y:LW) (e:Nat) (h:Heap) (g:Nat) (st:SortSt) (p:Array Nat),y.length=vs.length->h.get? kS=some (seqObj "list" (qG y) e)->h.get? a=some (seqObj "list" #[] G)->(∀b o,b≠a->s.heap.get? b=some o->h.get? b=some o)->Pm vs.length p->Up (xZ kz) p vs.length ->
   (arrOf st).map (·.2)=qG (p.toList.map λi=>vs.getD i Value.none)->failedOf st=none->wpAny (model prog w) A (ksk_tail a false G (.ref kS) st) P E { s with heap:=h,toks:=g }:=by
  intro y e h g st p Z hk l I pm H hout N;have t1:=Q5 h kS (Q6 λ_=>(#[]:Array Value));have R:=(t1.2 a naK).trans l;have t2:=Q5 (h.update kS (Q6 λ_=>(#[]:Array Value))) a (Q6 λ_=>qG (p.toList.map λi=>vs.getD i Value.none));have hps:(p.toList.map λi=>vs.getD i Value.none).length=vs.length:=by rw[QD,(qI.mp pm).length_eq];simp
  unfold ksk_tail;dsimp only;rw[hout];refine QC (WS hk rfl ?_ (by rw[QN,Q8];omega) (Qs _));refine QC (wpAny_letGo (QC (QBV R rfl (QC (WS R rfl ?_ (Qs _) (by simp only[Qq,if_false];rw[QN,Q8];omega))))));rw[N];simp only[bne_self_eq_false,Qq,if_false];refine QK (k p _ g _ pm H (λb o hb e=>?_) (W9 R λ_=>qG (p.toList.map λi=>vs.getD i Value.none)));have O:b≠kS:=λz=>by have:=QX e;rw[z,S]at this;exact absurd this (Nat.not_lt.mpr (we _))
  exact(t2.2 b hb).trans ((t1.2 b O).trans (I b o hb e))
 have L:∀(y:LW) (e:Nat) (h:Heap) (g:Nat),Paired (GD h) y kz->h.get? kS=some (seqObj "list" (qG y) e)->h.get? a=some (seqObj "list" #[] G)->(∀b o,b≠a->s.heap.get? b=some o->h.get? b=some o) ->
   wpAny (model prog w) A (ksk_end a false vs.toArray G (.ref kS) (qG y)) P E { s with heap:=h,toks:=g }:=by
  intro y e h g Y hk l I;have Z:y.length=vs.length:=(qJ Y).trans hl;unfold ksk_end;dsimp only;simp only[Qq,if_false];by_cases h2:vs.length<2;have F:vs.toArray.size<2:=by rw[QN];exact h2
  rw[if_pos F,if_pos F];refine QC (QK ?_);rw[QCW];refine QC (QK ?_);refine fin y e h g _ (qG (Ql vs.length)) Z hk l I (QA7 _) (λi j hi hj=>?_) ?_ rfl;have e:i=j:=by omega
  subst e;unfold XI xZ;exact dF (by omega);show((qG y).zip vs.toArray).map (·.2)=_;rw[gO];apply WC.mp;simp[WD,Z];have F:¬ vs.toArray.size<2:=by rw[QN];exact h2
  rw[if_neg F,if_neg F];refine QC (E5 (s:={ s with heap:=h,toks:=g }) Y (by omega) ?_);have tree:(kas_sort vs.length).kasWp (kas_ask prog w A (tuples' true) y) (λp K=>K={ s with heap:=h,toks:=g }/\Pm vs.length p/\Up (xZ kz) p vs.length) { s with heap:=h,toks:=g } :=
   jI.wp (lt:=xZ kz) (λi j hi hj _ C hC=>Ci (s:={ s with heap:=h,toks:=g }) (VH Y i (by omega)) (VH Y j (by omega)) hC) (λp Y=>⟨rfl,Y⟩) (xa (Ea kz) (by omega))
  refine QC (qw (kat_run (Q:=λB K=>∃p:Array Nat,arrOf B=p.map (kas_item ((qG y).zip vs.toArray))/\failedOf B=none/\K={ s with heap:=h,toks:=g }/\Pm vs.length p/\Up (xZ kz) p vs.length) Z (by omega) h64 (λp B K _ a2 a3 a4=>⟨p,a2,a3,a4⟩) tree) ?_ λ_ _ x=>x);rintro⟨⟨⟩,B⟩ K ⟨p,har,N,rfl,pm,H⟩;exact fin y e h g B p Z hk l I pm H (kat_snds Z har) N
 unfold ksk_rest;refine QC (QB1 ?_);rw[List.forIn_toArray];refine QC (ksk_fold (λj K=>∃(y:LW) (e:Nat) (h:Heap) (g:Nat),K={ s with heap:=h,toks:=g }/\Paired (GD h) y (kz.take j)/\h.get? kS=some (seqObj "list" (qG y) e)/\h.get? a=some (seqObj "list" #[] G)/\(∀b o,b≠a->s.heap.get? b=some o->h.get? b=some o)/\j<=vs.length) vs 0 _ ⟨[],0,_,s.toks,rfl,.nil,kS0,a0,kp0,Qs _⟩ (λj x K hx hI=>?_) λK hI=>?_);obtain⟨y,e,h,g,rfl,Y,hk,l,I,jl⟩:=hI;rw[WH]at Y jl ⊢;have jv:j<vs.length:=(Qg.mp hx).1;have hkl:y.length=j:=by rw[qJ Y,wj];omega
 have hzj:kz[j]?=some (kz[j]'(by omega)):=Qf _;refine QC (W0 (qw (hf h g I j x _ hx hzj (λJ K=>∃W m,K={ s with heap:=W,toks:=m }/\(∀b o,h.get? b=some o->W.get? b=some o)/\GD W J (kz[j]'(by omega))) λW m J X ka=>⟨W,m,rfl,X,ka⟩) (λJ K hc=>?_) λ_ _ z=>z.elim));obtain⟨W,m,rfl,X,ka⟩:=hc;have ea:(qG y).push J=qG (y++[J]):=by simp
 have s5:=Q5 W kS (Q6 (·.push J));have M:=X _ _ hk;dsimp only;refine QC (WS M rfl ?_ (by rw[QN,Q8];omega) (QV (wx (Array.size_push ..)) (by rw[QN,Q8];omega)));refine QK ⟨rfl,y++[J],_,_,m,rfl,?_,by rw[<- ea];exact W9 M (·.push J),(s5.2 a naK).trans (X _ _ l),λb o hb q=>?_,jv⟩;have H:∀{v:Value}{x:Int×Int},GD W v x->GD (W.update kS (Q6 (·.push J))) v x:=λt=>t.keep M (by show Value.type "list"≠Value.type "tuple";decide) λb o hb q=>(s5.2 b hb).trans q;rw[List.take_succ,hzj];exact sK (L2.Paired.mapP Y λ_ _ ⟨a1,o1,n1,t1,r1,G,g1,c1,d1⟩=>H ⟨a1,o1,n1,t1,r1,G,X _ _ g1,c1,d1⟩) (.cons (H ka) .nil);have O:b≠kS:=λz=>by have:=QX q;rw[z,S]at this;exact absurd this (Nat.not_lt.mpr (we _))
 exact(s5.2 b O).trans (X _ _ (I b o hb q));obtain⟨y,e,h,g,rfl,Y,hk,l,I,_⟩:=hI;rw[WH,<- hl,List.take_length]at Y;exact QC (QCE hk rfl (L y e h g Y hk l I))
theorem O8{Q:aC}(R:A.handled=none)(M:IsRange s.heap r a b c t u v)(y:QBX a b c=true)
  (P:WO a b c=n) (h64:n<64) (hl:kz.length=n)
  (S:∀(X:Heap) (z:Nat),(∀b o,s.heap.get? b=some o->X.get? b=some o)->∀(i:Nat) (Y:Tok) (p:Int×Int),kz[i]?=some p->∀C:Value->Shared->Prop,
   (∀G Z k,(∀b o,X.get? b=some o->G.get? b=some o)->GD G k p->C k { s with heap:=G,toks:=Z })->wpAny (model prog w) A.in1.in1 (call (.ref f) [Value.int (a+i * c) Y]) C (λ_ _=>False) { s with heap:=X,toks:=z })
  (k:∀(p:Array Nat) (vs:LW) (D:Addr) (h':Heap) (z e:Nat),Pm n p->Up (xZ kz) p n->(∀b o,s.heap.get? b=some o->h'.get? b=some o)->s.heap.objs.size<=D->vs.length=n->(∀(i:Nat) x,vs[i]?=some x->∃t,x=Value.int (a+i * c) t) ->
   h'.get? D=some (seqObj "list" (p.toList.map λi=>vs.getD i Value.none).toArray e)->Q (.ref D) { s with heap:=h',toks:=z }) :
  wpAny (model prog w) A (call (.builtin "sorted") [.ref r] [(QR "key",.ref f)]) Q E s:=by
 refine call_function_entry_kw kind_sorted plain_sorted entry_sorted (ksk_s1 _ _) ?_;unfold Builtin.«sorted»;refine QC (m:=checkCount "sorted" 1 1 _) (QK ?_);refine QC (BN R M y P (by omega) λg W h j F it=>?_);have L:h.toList.length=n:=by rw[Qr];exact it.1
 refine QC (QAl ?_ (by rw[Q8];omega));have l:(g.push (seqObj "list" h.toList.toArray 0)).get? g.objs.size=some (seqObj "list" h.toList.toArray 0):=QU _ rfl;have kpL:∀b o,s.heap.get? b=some o->(g.push (seqObj "list" h.toList.toArray 0)).get? b=some o:=λb o q=>QH _ (j b o q);refine QC (qp (wpAny_call_entry_kw slot_list_sort ⟨_,l,rfl⟩ entry_list_sort ?body (ksk_l1 _ _)))
 case body =>
  show wpAny (model prog w) A.in1.in1 (Builtin.«list.sort» ⟨[.ref g.objs.size],[(QR "key",.ref f)]⟩) _ _ _;rw[ksk_t1];have nD:∀b o,s.heap.get? b=some o->b≠g.objs.size:=λb o q=>Qk (QX (j b o q));refine Fi (s:={ s with heap:=g.push (seqObj "list" h.toList.toArray 0),toks:=W }) (kz:=kz) l (by omega) (by omega) (λX z K i x p B N C H=>?_) λp h' z c J I K O=>⟨_,rfl,QK ⟨_,rfl,?_⟩⟩
  obtain⟨Y,rfl⟩:=it.2 i x (by rw[<- B,ww]);exact S X z (λb o q=>K b o (nD b o q) (kpL b o q)) i Y p N C H;rw[L]at J I;exact k p h.toList _ h' z c J I (λb o q=>K b o (nD b o q) (kpL b o q)) (WI F) L (λi x B=>it.2 i x (by rw[<- B,ww])) O
end
end
section
variable{U Z p2 W V Y X K:Pos}
noncomputable abbrev S5(U Z p2 W V Y X:Pos):Expr:=.Tuple [.Subscript (.Subscript (.Name "events" U) (.Name "number" Z) p2) (.Constant (.int 1) 0 W) V,.Name "number" Y] 0 X
noncomputable abbrev vb(K:Pos):Arguments:={ posonlyargs:=[],args:=[{ arg:="number",annotation:=none,pos:=K }],vararg:=none,kwonlyargs:=[],kw_defaults:=[],kwarg:=none,defaults:=[] }
noncomputable abbrev oV:Scope:={ kind:=.function,names:=[(QR "number",.local),(QR "events",.free)],isGenerator:=false,isCoroutine:=false,more:=[] }
variable{prog:Program}{w:World}{A:Around}{E:aC}{s:Shared}
section
variable{h h':Heap}{y n:Addr}{i:Nat}{g:Int}{l:Tok}
def TN(h:Heap)(y:Addr)(i:Nat)(g:Int):Prop:=∃(x z:Array Value) (t:Addr) (u:Tok),(h.IsList y x∨IsTup h y x)/\x[i]?=some (.ref t)/\i<2 ^ 62/\x.size<2 ^ 62/\IsTup h t z/\z[1]?=some (.int g u)/\z.size<2 ^ 62
theorem TN.keepB{P:Addr}{m:Array Value}(p:h.get? P=some (tabObj m))(k:∀b o,b≠P->h.get? b=some o->h'.get? b=some o)(x:TN h y i g):TN h' y i g:=by
 obtain⟨f,j,t,u,a,b,c,q,⟨o,d⟩,e⟩:=x;have v:∀{b:Addr}{o:Obj}{T:String},h.get? b=some o->o.cls=.type T->b≠P:=λe c z=>by rw[z,p]at e;cases e;cases c
 refine⟨f,j,t,u,?_,b,c,q,⟨o,k _ _ (v d.1 d.2.1) d.1,d.2⟩,e⟩;rcases a with⟨o,a⟩| ⟨o,a⟩
 exact .inl ⟨o,k _ _ (v a.1 a.2.1) a.1,a.2⟩;exact .inr ⟨o,k _ _ (v a.1 a.2.1) a.1,a.2⟩
theorem TN.keep(z:∀b o,h.get? b=some o->h'.get? b=some o)(x:TN h y i g):TN h' y i g:=by
 obtain⟨v,k,t,u,a,b,c,f,⟨o,d⟩,e⟩:=x;refine⟨v,k,t,u,?_,b,c,f,⟨o,z _ _ d.1,d.2⟩,e⟩;rcases a with⟨o,a⟩| ⟨o,a⟩
 exact .inl ⟨o,z _ _ a.1,a.2⟩;exact .inr ⟨o,z _ _ a.1,a.2⟩
theorem P5{env:Env}{L:Addr}{m:Str->Option Value}{Q:aC}(hk:env.scope=oV)(G:env.cells.lookup (QR "events")=some n)(hc:s.heap.IsCell n (some (.ref y)))
  (S:env.locals=L) (P:s.heap.Ns L m) (R:m "number"=some (.int i l)) (F:TN s.heap y i g)
  (q:∀J u,Q (.ref s.heap.objs.size) { s with heap:=s.heap.push { cls:=.type "tuple",data:=.seq (qG [Value.int g u,Value.int i l]) },toks:=J }) :
  wpAny (model prog w) A (eval (S5 U Z p2 W V Y X) env) Q E s:=by
 have N:env.kindOf "number"=some .local:=by show env.scope.names.lookup _=_;rw[hk];rfl
 have O:env.kindOf "events"=some .free:=by show env.scope.names.lookup _=_;rw[hk];rfl
 have k:env.scope.kind=.function:=by rw[hk]
 obtain⟨C,B,t,u,a,b,c,c2,d,e,c3⟩:=F;subst S;have v:∀{p:Pos}{Q:aC}(z:Shared),z.heap=s.heap->Q (.int i l) z->wpAny (model prog w) A (eval (.Name "number" p) env) Q E z:=λz I q=>QBB (QBC k N (by rw[I];exact P) R q) (by decide);refine QBS ?_;show wpAny _ _ (spliced ((false,eval (.Subscript (.Subscript (.Name "events" U) (.Name "number" Z) p2) (.Constant (.int 1) 0 W) V) env)::backTo X (starEach [.Name "number" Y] env))) _ _ s;refine WP (QBx (QBx (QBB (QBR k O G hc (v _ rfl ?_) (by decide)) (by decide))));have o:(0:Int)<=(i:Int):=QBs i;have f:(i:Int)<2 ^ 63:=by omega (config:={})
 have M:∀{Q:aC},Q (.ref t) s->wpAny (model prog w) A (subscriptTail (.Name "events" U) (.Name "number" Z) (.ref y) (.int i l)) Q E s:=λ{Q} q=>by rcases a with a|a;exact item_listR a o f (by simpa using b) q;have I:i<C.size:=(QAJ.mp b).1;exact qg (x:=.ref t) a.typeIs QAK.lookup (QBl (j:=i) (Q:=λr z=>r=.ref t/\Q r z) a (by omega (config:={})) f (by rw[QAj o (by omega (config:={}))];simp) b ⟨rfl,q⟩)
 refine M (QBh ?_);have H:1<B.size:=(QAJ.mp e).1;refine qg (x:=.int g u) (s:={ s with toks:=s.toks+1 }) (show IsTup s.heap t B from d).typeIs QAK.lookup (QBl (j:=1) (show IsTup s.heap t B from d) (by decide) (by decide) (by rw[QAj (by decide) (by omega (config:={}))];rfl) e ⟨rfl,?_⟩);show wpAny _ _ (spliced ((false,eval (.Name "number" Y) env)::backTo X (starEach [] env))) _ _ _;exact WP (v _ rfl (QAb ⟨by rw[Q8];show 2<=_;decide,q _ _⟩))
theorem R5{f L:Addr}{z:Str}{N I:Value}{C:aC}(j:A.depth<recursionLimit)(P:s.heap.get? f=some (kla_obj "<lambda>" z (vb K) (S5 U Z p2 W V Y X) oV [(QR "events",n)] N L I))
  (F:s.heap.CodeRec (.ref L) z) (r:s.heap.NoLimit) (hc:s.heap.IsCell n (some (.ref y))) (B:TN s.heap y i g)
  (k:∀G p v,(∀b o,s.heap.get? b=some o->G.get? b=some o)->GD G v (g,(i:Int))->C v { s with heap:=G,toks:=p }) :
  wpAny (model prog w) A (call (.ref f) [.int i l]) C E s:=by
 refine wpAny_call (kla_callFunE j P rfl rfl rfl rfl F ?_);show wpAny _ _ (pure [(QR "number",Value.int i l)]) _ _ _;refine QK (QBD (show ∀x∈oV.names,x.2≠NameKind.cell by decide) (by intro x O;rcases QJ.mp O with rfl;rfl) (λJ q m=>⟨r.fresh _ m,kla_codeExpr ?_⟩) rfl);have a:∀b o,s.heap.get? b=some o->J.get? b=some o:=λb o e=>m.extBut b o (Qk (QX e)) (QH _ e);refine P5 (s:={ s with heap:=J,toks:=s.toks+1 }) rfl rfl (hc.keeps a) rfl q rfl (B.keep a) λM u=>?_;exact k _ M _ (λb o e=>QH _ (a b o e)) ⟨_,_,_,_,_,rfl,QU _ rfl,rfl,rfl⟩
end
end
theorem cW{pos:Pos}{a b:Int}{c y:Value}(l:LW)(h:TriplesOk l)(g:codeAmong pos (l++[rawInt a,rawInt b,c])=some y):codeAmong pos l=some y∨y=c:=by
 fun_induction TriplesOk l with
 |case1=>right;have g:codeAmong pos [rawInt a,rawInt b,c]=some y:=g;unfold rawInt codeAmong at g;split at g;exact(Qm g).symm;cases g|case2 i t f u x v w=>simp only[QAn,codeAmong]at g ⊢;split at g;rename_i z;rw[if_pos z];exact .inl g;rename_i z;rw[if_neg z];exact w h g|case3 l e k=>exact h.elim
section
variable{X:Cx}{h:NB}{σ:St}{H:Hp}{s:Shared}
theorem _root_.L2.Inv.tabbed{P x:Addr}{q:Str}{y:Array Value}{K W:Int}{h':Heap}{t':Nat}(I:Inv X h σ H s)(m:H P=some (.tbl q))(N:s.heap.get? P=some (tabObj y))(A:TriplesOk y.toList)(p:∀pos l,codeAmong pos y.toList=some l->∃c,l=.ref c/\H c=some (.own P)/\s.heap.CodeRec l q)
  (a:W7 P s.heap h') (i:s.heap.objs.size<=x) (B:h'.CodeRec (.ref x) q) (f:h'.get? P=some (tabObj (y++#[rawInt K,rawInt W,.ref x]))):H x=none/\Inv X h σ (BA H x (.own P)) { s with heap:=h',toks:=t' }:=by
 have C:H x=none:=I.hok.fresh i;have w:∀b o,H b=some o->b≠x:=λb o e z=>by rw[z,C]at e;cases e
 have Z:∀b,H b=none->b≠P:=λb e z=>by rw[z,m]at e;cases e
 refine⟨C,I.un ⟨λb o e n _ _=>a b o (Z b n) e,λb o e n _ _=>⟨o.slots,a b o (Z b n) e⟩,λb o e n _=>?_,λb o e _=>?_,λb F e=>?_,λb o u e=>?_,λb q e=>?_⟩ λb u e=>?_⟩;rw[kA (Qk (Qn (QX e) i))];exact n;by_cases hb:b=P
 ·exact⟨_,hb▸f⟩
 exact⟨o,a b o hb e⟩;rw[kA (w b _ e)];exact e;rw[kA (w b _ e)];exact e;rw[kA (w b _ e)];exact e;by_cases hb:b=x
 ·subst hb
  rw[aA]at e;cases e;obtain⟨c,o,Y,t,M,L,_⟩:=B;cases M;exact⟨o,L⟩
 rw[kA hb]at e;by_cases j:b=P;subst j;rw[m]at e;cases e;refine⟨_,f,?_,λpos l g=>?_⟩;simpa using TriplesOk_snoc K W _ y.toList A;rcases cW y.toList A (by simpa using g) with g|rfl
 ·obtain⟨c,rfl,o,O,ob,Y,G,E,J,r⟩:=p pos l g
  cases E;refine⟨c,rfl,by rw[kA (w c _ o)];exact o,c,ob,Y,G,rfl,a _ _ (λz=>?_) J,r⟩;rw[z,m]at o;cases o
 exact⟨x,rfl,aA,B⟩;refine(I.hok b u e).stay (λd v k g=>a d v (λz=>?_) g) (λd g=>by rw[kA (w d _ g)];exact g) λd F g=>by rw[kA (w d _ g)];exact g
 rcases k with k|k;exact j (k.symm.trans z);rw[z,m]at k;cases k
end
def Bv(K:QA)(H:Hp)(xs:LV)(kz:List (Int×Int)):Prop:=kz.length=xs.length/\∀(j:Nat) p,kz[j]?=some p->p.2=j/\∃t h,xs[j]?=some (.ref t)/\xD K H t h/\h[1]?=some (.int p.1)
noncomputable def Kv(K:QA)(P:Addr)(i:Nat):TE:=λz H Q=>∃ev h y,z[i]?=some (some (.ref ev))/\(FC K H ev h∨xD K H ev h)/\Bv K H h y/\h.length<64 /\
 ∀(p:Array Nat) x l,Pm h.length p->Up (xZ y) p h.length->(x=H∨∃c,H c=none/\x=BA H c (.own P))->x l=none->Q (.ref l) (BA x l (.lst (p.toList.map λ(i:Nat)=>V.int i)))
section
variable{X:Cx}{J G p2 F E B W U Z S M Y g d a O L:Pos}
section
variable{x:NB}{σ:St}{H:Hp}{s:Shared}{y:Addr}{kz:List (Int×Int)}{i:Nat}{q:Str}
theorem Vp{xs:LV}(I:Inv X x σ H s)(k:FC X.K H y xs∨xD X.K H y xs)(C:Bv X.K H xs kz):∀(j:Nat) p,kz[j]?=some p->TN s.heap y j p.1:=λj p N=>by obtain⟨_,t,ys,f,Q,P⟩:=C.2 j p N;have hz:=Q8;obtain⟨h,n,w,R⟩:=I.tuple Q;obtain⟨u2,o,A⟩:=n.get P;obtain⟨m,rfl⟩:=A;have l2:=n.length;have jl:j<xs.length:=(Qg.mp f).1;rcases k with k|k;obtain⟨v,r,b,z⟩:=I.list k;obtain⟨u,e,q⟩:=r.get f;cases q;have l:=r.length;exact⟨v.toArray,h.toArray,t,m,.inl b.isList,by simpa using e,by omega,by rw[QN];omega,w,by simpa using o,by rw[QN];omega⟩;obtain⟨v,r,b,z⟩:=I.tuple k;obtain⟨u,e,q⟩:=r.get f;cases q;have l:=r.length;exact⟨v.toArray,h.toArray,t,m,.inr b,by simpa using e,by omega,by rw[QN];omega,w,by simpa using o,by rw[QN];omega⟩
theorem zc(I:Inv X x σ H s)(w:X.N[i]?=some (QR "events"))(h:X.env.scope.names.lookup (QR "events")=some .cell)(hv:σ[i]?=some (some (.ref y))):∃v,X.env.cells.lookup (QR "events")=some v/\s.heap.IsCell v (some (.ref y)):=by
 obtain⟨m,_,hl⟩:=I.loc;obtain⟨u,r,l⟩:=hl i "events" _ w hv (.inr (.inl h));cases r;rcases l with⟨k,_⟩| ⟨_,c,e,z⟩
 have k:X.env.scope.names.lookup (QR "events")=some .local:=k;rw[h]at k;cases k;exact⟨c,e,z⟩
theorem bK{n:Nat}{vs:LW}(hv:∀i,i<n->∃t,vs.getD i Value.none=.int (i:Int) t):∀l:LN,(∀i∈l,i<n)->lA (l.map λ(i:Nat)=>V.int i) (l.map λi=>vs.getD i Value.none)
 |[],_=>.nil|i::l,h=>.cons (hv i (h i QF)) (bK hv l λj z=>h j (QE _ z))
theorem GS{R f ce c':Addr}{b ctv:Value}{t u v:Tok}{Q:VK}{n:Nat}(I:Inv X x σ H s)(hh:X.A.handled=none)(z:X.A.in1.in1.depth<recursionLimit)
  (ho:s.heap.get? f=some (kla_obj "<lambda>" q (vb U) (S5 J G p2 F E B W) oV [(QR "events",ce)] b c' ctv)) (m:s.heap.CodeRec (.ref c') q) (hc:s.heap.IsCell ce (some (.ref y))) (hev:∀(j:Nat) p,kz[j]?=some p->p.2=j/\TN s.heap y j p.1)
  (hl:kz.length=n) (h64:n<64) (hr:IsRange s.heap R 0 n 1 t u v) (k:∀(p:Array Nat) l,Pm n p->Up (xZ kz) p n->H l=none->Q (.ref l) (BA H l (.lst (p.toList.map λ(i:Nat)=>V.int i)))) :
  wpAny (model X.prog X.w) X.A (call (.builtin "sorted") [.ref R] [(QR "key",.ref f)]) (EP X x σ Q) X.xe s:=by
 refine O8 (n:=n) hh hr (small_one (by decide) (by decide) (by omega) (by omega)) (by rw[rangeSize_one];split<;>omega) h64 hl (λh3 P h j tx p hj C hC=>?_) λp K D h' P e b up h r vl hvs ho'=>?_;obtain⟨e2,ev'⟩:=hev j p hj;have e3:(0:Int)+(j:Int) * 1=(j:Int):=by omega
 rw[e3];refine R5 (s:={ s with heap:=h3,toks:=P }) z (h _ _ ho) (m.keeps h) (I.nolimit.keeps h) (hc.keeps h) (ev'.keep h) λh4 N v kp4 ka=>hC h4 N v kp4 ?_;rw[<- e2]at ka;exact ka;have pl:∀i∈p.toList,i<n:=λi hi=>by simpa using(qI.mp b).mem_iff.mp hi
 have ps:p.toList.length=n:=by rw[(qI.mp b).length_eq];simp
 refine⟨.ref D,BA H D (.lst (p.toList.map λ(i:Nat)=>V.int i)),I.laid (t':=P) h r ⟨by rw[QD,ps,Q8];omega,_,e,bK (λi hi=>?_) p.toList pl,ho'⟩,rfl,k p D b up (I.hok.fresh r)⟩;have o:i<K.length:=by omega
 obtain⟨t,e⟩:=hvs i (K[i]) (Qf o);refine⟨t,?_⟩;have:K.getD i Value.none=K[i]:=by simp[o]
 rw[this,e,show(0:Int)+(i:Int) * 1=(i:Int) by omega]
theorem K9{c P:Addr}(hN:X.N[i]?=some (QR "events"))(hs:X.env.scope.names.lookup (QR "events")=some .cell)(n:X.env.code=.ref c)(hC:CodeHd X.base c P)(hT:yP X.mg X.base P q)(hq:q=X.env.qual++"<lambda>")(hb:X.base.BuiltinsAt X.mg P)(hgP:mainGlobals≠P)
  (g1:Gl X "sorted") (m1:X.mg "sorted"=none) (g2:Gl X "range") (m2:X.mg "range"=none) (g3:Gl X "len") (m3:X.mg "len"=none) (hh:X.A.handled=none) (f:X.A.in1.in1.depth<recursionLimit) :
  PE X (.Call (.Name "sorted" S) [.Call (.Name "range" M) [.Call (.Name "len" Y) [.Name "events" g] [] d] [] a] [⟨some "key",.Lambda (vb U) (S5 J G p2 F E B W) oV Z,O⟩] L) (Kv X.K P i):=by
 rintro x s σ H Q I ⟨y,xs,kz,hv,hsq,m,h64,k⟩;refine wq (FH I g1 m1 boot_sorted ?_);refine callWith_kw ?_;show wpAny _ _ (spliced ((false,eval (.Call (.Name "range" M) [.Call (.Name "len" Y) [.Name "events" g] [] d] [] a) X.env)::backTo L (starEach [] X.env))) _ _ s;have paL:PA X [.Call (.Name "len" Y) [.Name "events" g] [] d] _:=sI (zM II g3 m3 boot_len (sI (BU hN (.inr (.inl hs))) BP)) BP;refine WP (Call_ (FH I g2 m2 boot_range (callWith_type1 (OB (paL a x s σ H (λvs H1=>vs=[.int xs.length]/\H1=H) I ?_) λus h ⟨vs,H1,I1,r1,q1⟩=>?_) rfl rfl)));exact⟨_,hv,y,xs,rfl,hsq,rfl,rfl⟩;obtain⟨rfl,rfl⟩:=q1;cases r1 with
 |cons r rr =>
 cases rr;obtain⟨t,rfl⟩:=r;refine call_range_1 (QAb (kws_cons (kla_eval rfl ?_)));have w:Inv X x σ H1 { h with heap:=h.heap.push { cls:=.type "range",data:=.fields #[.int 0 h.toks,.int xs.length t,.int 1 (h.toks+1)] },toks:=h.toks+1+1 }:=I1.kept λb o e=>QH _ e;have hr2:IsRange (h.heap.push { cls:=.type "range",data:=.fields #[.int 0 h.toks,.int xs.length t,.int 1 (h.toks+1)] }) h.heap.objs.size 0 xs.length 1 h.toks t (h.toks+1):=QU _ rfl;have hP:=w.tb P q hT;obtain⟨ps,hp,ht,hps⟩:=w.hok P _ hP;obtain⟨ce,hce,hcl⟩:=zc w hN hs hv;have R:closureFor oV X.env=pure [(QR "events",ce)]:=by unfold closureFor cellOf;simp[hce]
 obtain⟨bm,ob,b1,b2,b3,b4,b5,b6⟩:=hb;have hb2:=And.intro b1 (And.intro b2 (And.intro b3 (And.intro b4 (And.intro (w.bk _ _ b5) b6))));have evs:=Vp w hsq m;subst hq;cases e:codeAmong Z ps.toList with|none=>refine kla_makeFunction (mg:=X.mg) R I.ok.glob (w.mod.glob.keeps w.bk) n (hC.keeps w.bk) hp ht e hgP ⟨bm,ob,hb2⟩ λc' ctv h' tk hx hge hlt v htb=>evalAll_nil ?_;obtain⟨hn,I3⟩:=w.tabbed (t':=tk) hP hp ht hps hx hge v htb;have C:∀{oN:Obj}(b:Addr) (o:Obj),h'.get? b=some o->(h'.push oN).get? b=some o:=λb o e=>QH _ e;obtain⟨oc,c1,c2⟩:=hcl;show wpAny _ _ (call (.builtin "sorted") [.ref h.heap.objs.size] [(QR "key",.ref h'.objs.size)]) _ _ _;refine GS (I3.kept C) hh f (QU _ rfl) (v.push _) ⟨oc,C _ _ (hx _ _ (λz=>?_) c1),c2⟩ (λj p hj=>⟨(m.2 j p hj).1,((evs j p hj).keepB hp hx).keep C⟩) m.1 h64 (C _ _ (hx _ _ (λz=>?_) hr2)) λp l pm u hl=>k p _ l pm u (.inr ⟨c',hn,rfl⟩) hl;rw[z,hp]at c1;cases c1;cases c2;have z2:=hp.symm.trans (z▸hr2);cases z2|some cv=>obtain⟨c',rfl,_,v⟩:=hps _ _ e;refine kla_makeFunctionHit (mg:=X.mg) R I.ok.glob (w.mod.glob.keeps w.bk) n (hC.keeps w.bk) hp ht e ⟨bm,ob,hb2⟩ λctv h' tk kp hge=>evalAll_nil ?_;have C:∀{oN:Obj}(b:Addr) (o:Obj),(h.heap.push { cls:=.type "range",data:=.fields #[.int 0 h.toks,.int xs.length t,.int 1 (h.toks+1)] }).get? b=some o->(h'.push oN).get? b=some o:=λb o e=>QH _ (kp b o e);show wpAny _ _ (call (.builtin "sorted") [.ref h.heap.objs.size] [(QR "key",.ref h'.objs.size)]) _ _ _;exact GS (w.kept C) hh f (QU _ rfl) (v.keeps C) (hcl.keeps C) (λj p hj=>⟨(m.2 j p hj).1,(evs j p hj).keep C⟩) m.1 h64 (C _ _ hr2) λp l pm u hl=>k p _ l pm u (.inl rfl) hl
end
end
def SJ:D->Option Int
 | .tuple h=>(match h[1]? with|some (PyData.int t)=>some t|_=>none)
 |_=>none
def gG(h:List D):List (Int×Int):=(Ql h.length).map λ(i:Nat)=>(((h[i]?).bind SJ).getD 0,(i:Int))
theorem JZ{x:List D}{j:Nat}{p:Int×Int}(h:(gG x)[j]?=some p):j<x.length/\p=(((x[j]?).bind SJ).getD 0,(j:Int)):=by unfold gG at h;rw[QT]at h;by_cases c:j<x.length;rw[ql c]at h;exact⟨c,(Qm h).symm⟩;rw[Qe (by simpa using c)]at h;cases h
def Uq(h:List D)(ns:LN):Prop:=ns.Perm (Ql h.length)/\ns.Pairwise λa b=>xZ (gG h) b a=false
noncomputable def Cn:PSp where
 md:=[]
 run:=λz Q _=>∃x:List D,z=[.d (.list x)]/\x.length<64/\(∀e∈x,∃t,SJ e=some t)/\∀y,Uq x y->Q (.lst (y.map λ(i:Nat)=>.d (.int i))) []
 mono:=λh _ ⟨x,a,b,c,d⟩=>⟨x,a,b,c,λy q=>h _ _ (d y q)⟩
theorem D2{K:QA}{H x:Hp}{a:Addr}{xs:LV}(e:Same H x)(h:xD K H a xs):xD K x a xs:=by rcases h with(h|⟨o,h⟩)|h;exact .inl (.inl (e _ _ h));exact .inl (.inr ⟨o,e _ _ h⟩);exact .inr h
theorem T0{lt:Nat->Nat->Bool}{p:Array Nat}(h:Up lt p p.size):p.toList.Pairwise λa b=>lt b a=false:=by
 rw[QAY];intro i j x u y;have e:∀i (x:i<p.toList.length),gD p i=p.toList[i]:=λi x=>by
  have z:i<p.size:=by simpa using x
  unfold gD;simp[QB3,z]
 have:=h i j (WI y) (by simpa using u);unfold XI at this;rw[e i x,e j u]at this;exact this
section
variable{P:Program}{w:World}{K:QA}{mg:Str->Option Value}{base:Heap}{Ψ:PEv}{D C p2 B W U n m g a0 a1 R O N L J I y:Pos}
noncomputable abbrev Ct:Scope:={ kind:=.function,names:=[(QR "events",.cell),(QR "sorted",.globalImplicit),(QR "range",.globalImplicit),(QR "len",.globalImplicit)],isGenerator:=false,isCoroutine:=false,more:=[] }
noncomputable abbrev Fv(D C p2 B W U n m g a0 a1 R O N L J I y:Pos):List Stmt:=[.Return (some (.Call (.Name "sorted" a0) [.Call (.Name "range" a1) [.Call (.Name "len" R) [.Name "events" O] [] N] [] L] [⟨some "key",.Lambda (vb m) (S5 D C p2 B W U n) oV g,J⟩] I)) y]
theorem aX{H F:Hp}{vs:LV}{Q:VK}{E:XK}{T:Addr}(h:lift K Cn vs H Q E):vs.length=1/\Kv K T 0 (mD [QR "events"] vs) H λv H'=>Q v H':=by
 obtain⟨F,ts,M,Y,h1,h2,h3,h4,x,rfl,h64,he,q⟩:=h;cases h2 with
 |chg hm=>cases hm|@rd _ v vs' _ _ Z _ hr _ r =>
 cases r;refine⟨rfl,?_⟩;cases hr with
 |d rp hz =>
 cases rp with
 |@lst a xs _ hq rs =>
 have A:xs.length=x.length:=rs.length;have kl:(gG x).length=xs.length:=by unfold gG;rw[QD,Qu,A]
 refine⟨a,xs,gG x,rfl,.inl (h1.seq hq),⟨kl,λj p hj=>?_⟩,by rw[A];exact h64,λp H1 l pm up hH hl=>?_⟩;obtain⟨jl,rfl⟩:=JZ hj;have G:x[j]?=some (x[j]'jl):=Qf jl;obtain⟨t,k⟩:=he _ (wG jl);obtain⟨v,v1,v2⟩:=rs.get G;refine⟨rfl,?_⟩;rw[G];show ∃t ys,_/\_/\ys[1]?=some (V.int ((SJ x[j]).getD 0));rw[k];generalize x[j]=e at *;cases v2 with
 |@tup b ys ds sq rs2 =>
  have k:(match ds[1]? with|some (PyData.int t)=>some t|_=>none)=some t:=k;cases hd:ds[1]? with
  |none=>rw[hd]at k;cases k|some d =>
   rw[hd]at k;obtain⟨u,u1,u2⟩:=rs2.get hd;cases u2 with|int i=>cases k;exact⟨b,ys,v1,D2 h1 sq,u1⟩|_=>cases k
 |_=>cases k
 have pn:p.size=x.length:=by have:=pm.size_eq;simpa[A]using this
 have f:H l=none:=by
  rcases hH with rfl|⟨c,hc,rfl⟩
  exact hl;by_cases z:l=c
  ·rw[z];exact hc
  rw[kA z]at hl;exact hl
 have hs:Same H H1:=by
  rcases hH with rfl|⟨c,hc,rfl⟩
  exact λ_ _ e=>e;exact λb o e=>by rw[kA (iA e hc)];exact e
 have s:Same H (BA H1 l (.lst (p.toList.map λ(i:Nat)=>V.int i))):=λb o e=>by rw[kA (iA e f)];exact hs b o e
 have fl:F l=none:=by
  cases z:F l with|none=>rfl|some o=>rw[h1 l o z]at f;cases f
 have X:∀S:LN,Trs K F (BA H1 l (.lst (p.toList.map λ(i:Nat)=>V.int i))) true (S.map λ(i:Nat)=>V.int i) (S.map λ(i:Nat)=>.d (.int i)) λ_=>False:=λS=>by
  induction S with|nil=>exact .nil λ_ z=>z|cons i r ih=>exact .cons (.d (.int _) λ_ (z:False)=>z) ih (λ_ z=>z.elim) λb=>⟨Qd,λz=>z.elim id id⟩
 refine q p.toList ⟨?_,?_⟩ (.ref l) F (BA H1 l (.lst (p.toList.map λ(i:Nat)=>V.int i))) (λb=>b=l) (λ_=>False) ⟨λ_ _ e=>e,λb o e=>s b o (h1 b o e),λb u e _=>s b u e,λb e=>?_,λb e z=>absurd e z⟩ (.lst aA fl (X _) (λz=>z) λb=>⟨.inl,λz=>z.elim id Qd⟩) (.nil λ_ z=>z) (λ_ _ z=>z) λb z=>.inr (z.elim (λz=>z▸f) Qd);rw[A]at pm;exact qI.mp pm;rw[A,<- pn]at up;exact T0 up;cases z:H b with|none=>rfl|some o=>rw[s b o z]at e;cases e
theorem Bb{f c T:Addr}{oc kV v l ct:Value}{M Y:Option Addr}{b:Array (Option Value)}{z:Arguments}{k:Nat}(X:K.In base)(G:base.Ns mainGlobals mg)(p:mg "going_order"=some (.ref f))
  (lk:K.lookup f=some ⟨oc,M,.func (fnOf "going_order" "going_order" z (Fv D C p2 B W U n m g a0 a1 R O N L J I y) Ct .none kV v l Y (.ref c) ct),b⟩)
  (j:codeIn K (.ref c) "going_order"=true) (e:keepIn K (.ref f)=true) (r:CodeHd base c T) (hb:base.BuiltinsAt mg T) (i:mainGlobals≠T) (m1:mg "sorted"=none) (m2:mg "range"=none) (m3:mg "len"=none)
  (u:∀us:LW,us.length=1->bindArgs (fnOf "going_order" "going_order" z (Fv D C p2 B W U n m g a0 a1 R O N L J I y) Ct .none kV v l Y (.ref c) ct) ⟨us,[]⟩=pure ([QR "events"].zip us)) (hR:Ψ.sp "going_order"=Cn):XG P w K mg base Ψ (k+1) "going_order":=by
 have S:FnScope [QR "events"] [QR "events"] Ct:=⟨rfl,rfl,rfl,by decide,rfl,by intro x hx;rcases QJ.mp hx with rfl;exact .inr rfl,by decide⟩
 refine⟨f,_,[QR "events"],?_,p,e,.all u⟩;rw[hR];refine ae lk j S (λZ H Q E h=>(aX (T:=T) (F:=H) h).1) λA a s H Z Q E o h=>⟨_,OW (B3 (K9 (q:=(QR "going_order")++(QR ".<locals>.<lambda>")) rfl rfl rfl r ?_ ?_ hb i rfl m1 rfl m2 rfl m3 o.hd ?_)),(aX (F:=H) h).2⟩
 exact⟨f,_,_,c,p,X _ _ lk,rfl,rfl,r,rfl⟩;show QR "going_order"++QR ".<locals>.<lambda>"=(QR "going_order"++QR ".<locals>.")++QR "<lambda>";decide;exact WN (QV (QAs _ (3 * k)) (QAs _ 5)) o.dp
end
end L2.L3
namespace L2.L3.K34
open PySem PySem.Spec PyProof.Rows L2 L2.L3
def KN(a b:Nat):Bool:=decide (a<=b)
def srt(l:LN):LN:=l.mergeSort KN
theorem Mo(a b c:Nat)(x:KN a b=true)(y:KN b c=true):KN a c=true:=dT (QV (of_decide_eq_true x) (of_decide_eq_true y))
theorem No(a b:Nat):(KN a b||KN b a)=true:=by rcases Nat.le_total a b with z|z;rw[show KN a b=true from dT z];rfl;rw[show KN b a=true from dT z,QB9]
theorem E1(l:LN):(srt l).Pairwise λa b=>a<=b:=(List.pairwise_mergeSort Mo No l).imp λz=>of_decide_eq_true z
theorem y2{z l:LN}(h:z.Perm l)(u:z.Pairwise (·<=·)):z=srt l:=QAg (λa b _ _ x y=>Nat.le_antisymm x y) u (E1 l) (h.trans (QBY l KN).symm)
theorem KL(l:LN):(srt l).Perm l:=QBY l KN
noncomputable abbrev Stp:=Nat×Bool×LN×List Pt
structure Gs where
 past:LN
 taken:LN
 held:List Pt
 steps:List Stp
def fY(w:Wd)(g:Gs)(n:Nat):Bool:=Pq w (CK w g.past) g.held (pA w.es n)
noncomputable def nR(w:Wd)(g:Gs)(n:Nat):LN:=if(fY w g n&&decide (SZ (pA w.es n)="tell"))=true then g.taken++[n] else g.taken
def b8(w:Wd)(g:Gs)(n:Nat):LN:=srt (vG w.es (nR w g n) (CK w (g.past++[n])))
def Ub(w:Wd)(g:Gs)(n:Nat):List Pt:=nH w (g.past++[n]) (b8 w g n)
def xC(w:Wd)(g:Gs)(n:Nat):Gs:=⟨g.past++[n],nR w g n,Ub w g n,g.steps++[(n,fY w g n,b8 w g n,Ub w g n)]⟩
def XF(w:Wd)(ns:LN):Gs:=ns.foldl (xC w) ⟨[],[],[],[]⟩
def cU(s:Stp):D:=.tuple [nD s.1,.bool s.2.1,.list (s.2.2.1.map nD),.list (s.2.2.2.map pr)]
def x8(l:LN):T:=.lst ((l.map nD).map T.d)
noncomputable def Gb(w:Wd)(past taken:LN)(wr held:List Pt)(x:Kn)(st:List Stp)(o8 h o10:Option Sl):zA:=[bD (wD w),bD (.list (w.es.map jC)),oW (x8 past),oW (x8 taken),oW (YI wr),bD (.list (held.map pr)),oW (lX x),oW (.lst ((st.map cU).map T.d)),o8,h,o10]
theorem J5(l:LN)(n:Nat):x8 (l++[n])=.lst ((l.map nD).map T.d++[T.d (nD n)]):=by unfold x8;rw[QO,QO];rfl
theorem Og(l:List Stp)(n:Stp):((l++[n]).map cU).map T.d=(l.map cU).map T.d++[T.d (cU n)]:=by rw[QO,QO];rfl
theorem O2{h:List Evt}{x:LN}{ks:List Pt}{K:T->LT->Prop}{E:XE}(l:x.length<64)(a:∀n∈x,n<h.length/\EC (pA h n))(q:K (.lst (((srt (vG h x ks)).map nD).map T.d)) []):aB jF [.d (.list (h.map jC)),.lst ((x.map nD).map T.d),YI ks] K E:=⟨h,x,ks,rfl,l,a,λu z y=>by rw[y2 z y];exact q⟩
theorem A2{w:Wd}{l y:LN}{x:Kn}{K:T->LT->Prop}{E:XE}(z:WOk w)(a:l.length<=100)(b:∀n∈l,n<w.es.length)(c:P7 w y)(d:xK w x)(e:x.length<=10000)(q:∀h,xK w h->h.length<=x.length+10->K (.lst (((nH w l y).map pr).map T.d)) [lX h]):aB UC [.d (wD w),.lst ((l.map nD).map T.d),.d (.list (y.map nD)),lX x] K E:=⟨w,l,y,x,rfl,⟨z,a,b⟩,c,⟨d,e⟩,q⟩
section
variable{Ψ:PEv}{E:XE}{K:TK}{y x:D}{u:List D}{k:T}{g f e c b w v:Option Sl}
theorem Fb(h:Ψ.sp "held_among"=UC)(q:aB UC [.d y,.lst (u.map T.d),.d x,k] (λr j=>∃n,j=[n]/\K r true [bD y,g,oW (.lst (u.map T.d)),f,e,c,oW n,b,w,v,bD x]) E):pB Ψ (.call "held_among" %[.vz 0,.vz 2,.vz 10,.vz 6|1]) E [bD y,g,oW (.lst (u.map T.d)),f,e,c,oW k,b,w,v,bD x] K:=by show ∃j,DA (uA (Ψ.sp "held_among").md %[.vz 0,.vz 2,.vz 10,.vz 6|1]) [bD y,g,oW (.lst (u.map T.d)),f,e,c,oW k,b,w,v,bD x]=some j/\(uA (Ψ.sp "held_among").md %[.vz 0,.vz 2,.vz 10,.vz 6|1]).Nodup/\(pe Ψ %[.vz 0,.vz 2,.vz 10,.vz 6|1] E).a (Ψ.sp "held_among").md (clear (uA (Ψ.sp "held_among").md %[.vz 0,.vz 2,.vz 10,.vz 6|1]) [bD y,g,oW (.lst (u.map T.d)),f,e,c,oW k,b,w,v,bD x]) λp l=>∃o,XA (Ψ.sp "held_among").md p j=some o/\(Ψ.sp "held_among").run o (λr m=>∃i,zC (uA (Ψ.sp "held_among").md %[.vz 0,.vz 2,.vz 10,.vz 6|1]) m l=some i/\K r true i) E;rw[h];refine⟨[k],rfl,Qj.mpr ⟨WE,Q2⟩,?_⟩;refine⟨rfl,?_⟩;refine⟨[.d y,.lst (u.map T.d),.d x,k],?_,?_⟩;show(match eE (T.lst (u.map T.d)) with|some t=>(some [T.d x,k]).map (t::·)|none=>none).map (T.d y::·)=_;rw[K2];rfl;refine UC.mono (λr j z=>?_) (λ_ z=>z) q;obtain⟨n,rfl,z⟩:=z;exact⟨_,rfl,z⟩
end
section
variable{Ψ:PEv}{Z:PEnds}{w:Wd}{y:Kn}{n:Nat}{o10:Option Sl}{g:Gs}{ns:LN}{K:T->LT->Prop}{E:XE}
theorem bp(m:Ψ.sp "wrong_among"=oD)(k:Ψ.sp "live_among"=jF)(l:Ψ.sp "held_among"=UC){past taken:LN}{wr held:List Pt}{st:List Stp}{b:Bool}(z:WOk w)(r:past.length<=60)(v:∀n∈past,n<w.es.length)(o:taken.length<=60)(u:∀n∈taken,n<w.es.length/\EC (pA w.es n))(hk:xK w y)(e:y.length<=10000)(p:st.length<=60)
  (q:∀h,xK w h->h.length<=y.length+10->Z.nx (Gb w past taken (CK w past) (nH w past (srt (vG w.es taken (CK w past)))) h (st++[(n,b,srt (vG w.es taken (CK w past)),nH w past (srt (vG w.es taken (CK w past))))]) (bD (nD n)) (bD (.bool b)) (bD (.list ((srt (vG w.es taken (CK w past))).map nD))))) :
  pF Ψ yK Z (Gb w past taken wr held y st (bD (nD n)) (bD (.bool b)) o10):=by
 have x:=KL (vG w.es taken (CK w past));have fl:=Q3 (λn=>!decide (((zH (pA w.es n)).1,(zH (pA w.es n)).2)∈CK w past)) taken;have a:P7 w (srt (vG w.es taken (CK w past))):=⟨by rw[x.length_eq];unfold vG;omega,λn j=>u n (Qa.mp (x.mem_iff.mp j)).1⟩
 delta Gb x8;delta yK;simp_arith[↓xA (md:=[.xy,.xz]) m rfl rfl,↓xA (md:=[.xy,.xz,.ky]) k rfl rfl,↓pC,↓Kc,↓Xq];refine oY z (by omega) v ?_;simp_arith[↓xA (md:=[.xy,.xz,.ky]) k rfl rfl,↓pC,↓Kc,↓Xq];refine O2 (by omega) u ?_;simp_arith[↓vA];refine Fb l (A2 z (by omega) v a hk e λh i f=>⟨_,rfl,?_⟩);simp_arith[↓vA];rw[QD,QD];refine⟨by omega,by omega,?_⟩;have q:=q h i f;unfold Gb x8 at q;rw[Og]at q;exact q
structure GsOk(w:Wd)(g:Gs):Prop where
 p:∀n∈g.past,n<w.es.length
 tl:g.taken.length<=g.past.length
 t:∀n∈g.taken,n<w.es.length/\EC (pA w.es n)
 h:lW g.held
 s:g.steps.length=g.past.length
theorem sX(z:WOk w)(l u:LN):lW (nH w l u):=by intro p h;obtain⟨x,v,h⟩:=wn.mp h;obtain⟨m,k,rfl⟩:=QZ.mp h;exact⟨z.po x v,z.mo m (Qa.mp k).1⟩
theorem C8{e:Evt}(h:SZ e="tell"):EC e:=by
 cases e with|see t p m x=>exact absurd (show QR "see"=QR "tell" from h) (by decide)|tell t a b m x q=>exact⟨t,a,b,m,x,q,rfl⟩
theorem Oc(h:GsOk w g)(x:n<w.es.length):(nR w g n).length<=g.past.length+1/\∀k∈nR w g n,k<w.es.length/\EC (pA w.es k):=by have:=h.tl;unfold nR;split;rename_i c;rw[Qc,decide_eq_true_iff]at c;refine⟨by rw[QI];exact Wp this,λk hk=>?_⟩;rcases Qi.mp hk with hk|hk;exact h.t k hk;rw[QJ.mp hk];exact⟨x,C8 c.2⟩;exact⟨by omega,h.t⟩
theorem VQ(v:WOk w)(h:GsOk w g)(x:n<w.es.length):GsOk w (xC w g n):=by
 obtain⟨u,z⟩:=Oc h x;refine⟨λk hk=>?_,?_,z,sX v _ _,?_⟩;rcases Qi.mp hk with hk|hk
 ·exact h.p k hk
 rw[QJ.mp hk];exact x;show(nR w g n).length<=(g.past++[n]).length;rw[QI];exact u;show(g.steps++_).length=(g.past++[n]).length;rw[QI,QI,h.s];rfl
theorem Dt(F:Ψ.sp "is_taken"=zO)(C:Ψ.sp "wrong_among"=oD)(B:Ψ.sp "live_among"=jF)(A:Ψ.sp "held_among"=UC){j:Option Sl}(i:WOk w)(a:GsOk w g)(G:g.past.length<60)(v:n<w.es.length)(hk:xK w y)(X:y.length<=10000)
  (q:∀x j o10,xK w x->x.length<=y.length+10->Z.nx (Gb w (g.past++[n]) (nR w g n) (CK w (g.past++[n])) (Ub w g n) x (xC w g n).steps (bD (nD n)) j o10)) :
  pF Ψ IM Z (Gb w g.past g.taken (CK w g.past) g.held y g.steps (bD (nD n)) j o10):=by
 have I:=a.tl;have L:=a.s;obtain⟨J,m⟩:=Oc a v;have o:∀k∈g.past++[n],k<w.es.length:=(VQ i a v).p;have r:=λ{o10}=>bp (Z:=Z) (wr:=CK w g.past) (held:=g.held) (st:=g.steps) (n:=n) (b:=fY w g n) (o10:=o10) C B A i (past:=g.past++[n]) (by rw[QI];exact G) o (taken:=nR w g n) (by omega) m hk X (by omega) λx W Y=>q x _ _ W Y;delta Gb x8;delta IM;simp_arith[↓uR v,↓xA (md:=[.xy,.xy,.ky,.xy]) F rfl rfl,↓pC,↓Kc,↓Xq];refine uh i (i.ev v) a.h ?_;simp_arith[↓uR v,↓xR];rw[QD,QD,<- J5];refine⟨by omega,?_⟩;have e:Pq w (CK w g.past) g.held (pA w.es n)=fY w g n:=rfl;rw[e];cases u:fY w g n with
 |false=>have f:nR w g n=g.taken:=if_neg (by rw[u];exact λz=>by cases z);rw[f,u]at r;exact r|true =>
  cases l:decide (SZ (pA w.es n)="tell") with|false=>have f:nR w g n=g.taken:=if_neg (by rw[u,l];exact λz=>by cases z);rw[f,u]at r;exact r|true=>have f:nR w g n=g.taken++[n]:=if_pos (by rw[u,l];rfl);rw[f,u]at r;simp_arith[↓vA];rw[QD,QD,<- J5];exact⟨by omega,r⟩
theorem Nb(e:Evt):∃t,SJ (jC e)=some t:=by
 cases e with|see t p m h=>exact⟨t,rfl⟩|tell t a b m h q=>exact⟨t,rfl⟩
def vK(w:Wd)(ns:LN):Prop:=Uq (w.es.map jC) ns
theorem xX(h:vK w ns):∀n∈ns,n<w.es.length:=λn x=>by
 have:=Q7.mp (h.1.mem_iff.mp x)
 rwa [QD]at this
theorem j5(h:vK w ns):ns.length=w.es.length:=by rw[h.1.length_eq,Qu,QD]
theorem dh(x:WOk w)(q:∀ns,vK w ns->K (x8 ns) []):aB Cn [.d (.list (w.es.map jC))] K E:=⟨_,rfl,by rw[QD];exact WN x.el (by decide),λe z=>by
 obtain⟨v,_,rfl⟩:=QZ.mp z;exact Nb v,λns h=>by
 have:=q ns h;unfold x8 at this;rw[QY]at this;exact this⟩
noncomputable def LD:PSp where
 md:=[]
 run:=λx Q _=>∃w:Wd,x=[.d (wD w)]/\WOk w/\∀ns,vK w ns->Q (.lst (((XF w ns).steps.map cU).map T.d)) []
 mono:=λh _ z=>by obtain⟨w,e,a,q⟩:=z;exact⟨w,e,a,λns b=>h _ _ (q ns b)⟩
theorem GR(h:WOk w)(q:∀ns,vK w ns->K (.lst (((XF w ns).steps.map cU).map T.d)) []):aB LD [.d (wD w)] K E:=⟨w,rfl,h,q⟩
theorem Iu{r:PT}{i:Nat}{ρ:zA}:CL Ψ E r Z i (.lst []) true ρ=cB Ψ E r Z (ρ.set i (bD (.list []))):=Vq (ds:=[])
theorem ma(m:Ψ.sp "going_order"=Cn)(G:Ψ.sp "is_taken"=zO)(F:Ψ.sp "wrong_among"=oD)(C:Ψ.sp "live_among"=jF)(B:Ψ.sp "held_among"=UC)(ds Q E)(h:LD.run ds Q E):kH Ψ xW LD O7 RW ds Q:=by obtain⟨w,rfl,a,q⟩:=h;have M:=a.el;refine gA [bD (wD w),none,none,none,none,none,none,none,none,none,none] rfl rfl rfl ?_;delta xW;simp_arith[↓bP,↓xA (md:=[]) m rfl rfl];refine⟨by omega,by omega,by omega,?_⟩;simp_arith[↓Iu,↓xA (md:=[]) m rfl rfl];refine⟨by omega,dh a λns v=>?_⟩;delta x8;simp_arith[↓vA];rw[<- nA nD];have I:=j5 v;refine jB (λn=>T.d (nD n)) (λr b=>∃g y j i o10,r.foldl (xC w) g=XF w ns/\(GsOk w g/\g.past.length+r.length<=60/\∀n∈r,n<w.es.length)/\(xK w y/\y.length<=10 * g.past.length)/\b=Gb w g.past g.taken (CK w g.past) g.held y g.steps j i o10) ?_ ?_ ns _ ⟨⟨[],[],[],[]⟩,[],none,none,none,rfl,⟨⟨λ_ z=>(by cases z),QS _,λ_ z=>(by cases z),λ_ z=>(by cases z),rfl⟩,by show 0+ns.length<=60;omega,xX v⟩,⟨λ_ z=>(by cases z),QS _⟩,rfl⟩;rintro b ⟨g,y,j,i,o10,e,_,_,rfl⟩;have e:g=XF w ns:=e;subst e;delta Gb;simp_arith[↓vA];exact q ns v;rintro n r b N A ⟨g,y,j,i,o10,e,⟨s,p,o⟩,⟨X,J⟩,rfl⟩;have p:g.past.length+(r.length+1)<=60:=p;have l:=o n QF;refine Dt G F C B a s (by omega) l X (by omega) λu f k Y L=>A _ ⟨xC w g n,u,_,f,k,e,⟨VQ a s l,?_,λx W=>o x (QE _ W)⟩,⟨Y,?_⟩,rfl⟩;show(g.past++[n]).length+r.length<=60;rw[QI];show g.past.length+1+r.length<=60;omega;show u.length<=10 * (g.past++[n]).length;rw[QI];show u.length<=10 * (g.past.length+1);omega
def A1(w:Wd):Gs->LN->List Stp
 |_,[]=>[]|g,n::r=>(n,fY w g n,b8 w g n,Ub w g n)::A1 w (xC w g n) r
theorem aR(w:Wd):∀(ns:LN) (g:Gs),(ns.foldl (xC w) g).steps=g.steps++A1 w g ns
 |[],g=>(qA _).symm|n::r,g=>by show(r.foldl (xC w) (xC w g n)).steps=_;rw[aR w r];show(g.steps++[_])++_=g.steps++(_::_);rw[Qz];rfl
def g0:Gs:=⟨[],[],[],[]⟩
theorem jL(w:Wd)(ns:LN):(XF w ns).steps=A1 w g0 ns:=aR w ns g0
theorem bx(w:Wd):GsOk w g0:=⟨λ_ z=>(by cases z),QS _,λ_ z=>(by cases z),λ_ z=>(by cases z),rfl⟩
theorem KW(w:Wd):∀(k:Nat) (ns:LN) (g:Gs),(A1 w g ns).take k=A1 w g (ns.take k)
 |0,ns,g=>rfl|k+1,[],g=>rfl|k+1,n::r,g=>congrArg (_::·) (KW w k r _)
def wU(w:Wd)(es:List Evt):Wd:=⟨w.ps,w.ms,w.ag,es⟩
def ao(f:Nat->Nat)(s:Stp):Stp:=(f s.1,s.2.1,s.2.2.1.map f,s.2.2.2)
end
section
variable{w:Wd}{es:List Evt}{f:Nat->Nat}(y:∀n,pA es n=pA w.es (f n))
include y
theorem XR(l:LN):xB es l=xB w.es (l.map f):=by unfold xB;rw[List.foldl_map];congr 1;funext ks n;unfold iE;rw[y]
theorem B0(l:LN):CK (wU w es) l=CK w (l.map f):=by unfold CK;rw[List.foldl_map,<- XR y];congr 1;funext ks n;show(match pA es n with | .tell _ a b m _ _=>if gU w (xB es l) b m=true then EQ ks (a,b) else ks|_=>ks)=_;rw[y];rfl
theorem Yj(h:LN)(m:Str):GE es h m=GE w.es (h.map f) m:=by unfold GE;rw[QBA,QY];simp only[y];rfl
theorem mj(l h:LN):nH (wU w es) l h=nH w (l.map f) (h.map f):=by
 have e:∀x,Xb (wU w es) l h x=Xb w (l.map f) (h.map f) x:=λx=>funext λm=>by
  have e:mN (wU w es) l h m x=mN w (l.map f) (h.map f) m x:=by show Held (GE es h m) (MF w (xB es l) m) (GJ w) x=_;rw[Yj y,XR y];rfl
  exact qD.mpr (by rw[KQ,KQ,e])
 show(w.ps.flatMap λp=>(w.ms.filter (Xb (wU w es) l h p.1)).map λm=>(p.1,m))=_;simp only[e];rfl
theorem O1(z:∀a b,a<=b->f a<=f b):∀(ns:LN) (g' g:Gs),g.past=g'.past.map f->g.taken=g'.taken.map f->g.held=g'.held->(A1 (wU w es) g' ns).map (ao f)=A1 w g (ns.map f)
 |[],_,_,_,_,_=>rfl|n::r,g',g,hp,ht,hh=>by
  have x:g.past++[f n]=(g'.past++[n]).map f:=by rw[hp,QO];rfl
  have e:fY w g (f n)=fY (wU w es) g' n:=by unfold fY;rw[hp,hh,<- B0 y,<- y];rfl
  have k:nR w g (f n)=(nR (wU w es) g' n).map f:=by show(if(fY w g (f n)&&decide (SZ (pA w.es (f n))="tell"))=true then _ else _)=(if(fY (wU w es) g' n&&decide (SZ (pA es n)="tell"))=true then _ else _:LN).map f;rw[e,ht,<- y];split;rw[QO];rfl;rfl
  have v:b8 w g (f n)=(b8 (wU w es) g' n).map f:=by unfold b8;rw[k,x,<- B0 y];refine(y2 (((KL _).map f).trans (QCZ ?_)) (Wg.mpr ((E1 _).imp λh=>z _ _ h))).symm;unfold vG;rw[QBA];show(List.filter (λn=>!decide (((zH (pA es n)).1,(zH (pA es n)).2)∈_)) _).map f=_;simp only[y];rfl
  have u:Ub w g (f n)=Ub (wU w es) g' n:=by unfold Ub;rw[mj y,x,v]
  have i:=O1 z r (xC (wU w es) g' n) (xC w g (f n)) x k u;show ao f (n,fY (wU w es) g' n,b8 (wU w es) g' n,Ub (wU w es) g' n)::(A1 (wU w es) (xC (wU w es) g' n) r).map (ao f)=(f n,fY w g (f n),b8 w g (f n),Ub w g (f n))::A1 w (xC w g (f n)) (r.map f);rw[i,e,v,u];rfl
end
section
variable{es:List Evt}{n:Nat}{w:Wd}{l:List D}{x:D}
def oR:Evt->Int
 | .see t _ _ _=>t|.tell t _ _ _ _ _=>t
def ve(es:List Evt)(a b:Nat):Prop:=oR (pA es a)<oR (pA es b)∨oR (pA es a)=oR (pA es b)/\a<=b
theorem L6(h:n<es.length):(gG (es.map jC)).getD n (0,0)=(oR (pA es n),(n:Int)):=by
 have e:SJ (jC (es[n]'h))=some (oR (es[n]'h)):=by cases es[n]'h<;>rfl
 unfold gG pA;rw[QD,qe,QT,ql h];simp only[Qx,Wq];rw[QT,Qf h];simp only[Qx,Option.bind_some,Wq,e]
theorem E4{ns:LN}(h:vK w ns):ns.Pairwise (ve w.es):=by refine h.2.imp_of_mem λ{a b} y hb z=>?_;have z:=of_decide_eq_false z;rw[L6 (xX h a y),L6 (xX h b hb)]at z;unfold ve;dsimp only at z;omega
theorem Lh{l z:LN}(p:l.Perm z)(h:l.Pairwise (ve es))(h':z.Pairwise (ve es)):l=z:=QAg (λa b _ _ x y=>by unfold ve at x y;omega) h h' p
def YO(n:Nat)(x:D):Prop:=x.canLay0=true/\x.depth<=n
theorem sM{n:Nat}:∀{l:List D},(∀x∈l,YO n x)->qk l=true/\wW l<=n
 |[],_=>⟨rfl,Qs _⟩|x::l,h=>by obtain⟨a,k⟩:=h x QF;obtain⟨u,z⟩:=sM (l:=l) λy v=>h y (QE _ v);exact⟨by show(x.canLay0&&qk l)=true;rw[a,u];rfl,Nat.max_le.mpr ⟨k,z⟩⟩
theorem lV(h:∀x∈l,YO n x):YO (n+1) (.list l):=⟨(sM h).1,Wp (sM h).2⟩
theorem hV(h:∀x∈l,YO n x):YO (n+1) (.tuple l):=⟨(sM h).1,Wp (sM h).2⟩
theorem ZI{s:Str}(h:OkS s):YO n (.str s):=⟨h,Qs _⟩
theorem mV{i:Int}:YO n (.int i):=⟨rfl,Qs _⟩
theorem ze(h:YO n x)(y:n<=64):vF x:=⟨h.1,QV h.2 y⟩
theorem fX{m:Nat}(h:YO n x)(y:n<=m):YO m x:=⟨h.1,QV h.2 y⟩
theorem NC(h:YO n x)(u:∀y∈l,YO n y):∀y∈x::l,YO n y:=λy z=>by rcases QL.mp z with rfl|z;exact h;exact u y z
theorem kZ:∀y∈([]:List D),YO n y:=λy h=>by cases h
theorem gS{α:Type}{f:α->D}{l:List α}(h:∀a∈l,YO n (f a)):∀y∈l.map f,YO n y:=λy z=>by obtain⟨a,u,rfl⟩:=QZ.mp z;exact h a u
theorem ye{p:Pt}(h:OkS p.1/\OkS p.2):YO 1 (pr p):=hV (NC (ZI h.1) (NC (ZI h.2) kZ))
theorem Do{p:Str×Int×Int×Int}(h:OkS p.1):YO 1 (mH p):=hV (NC (ZI h) (NC mV (NC mV (NC mV kZ))))
theorem Sg:OkS "see":=(by decide +kernel:qX "see"=true)
theorem P8:OkS "tell":=(by decide +kernel:qX "tell"=true)
theorem Fo(y:WOk w){e:Evt}(h:T7 w e):YO 2 (jC e):=by
 cases e with|see t p m z=>exact hV (NC (ZI Sg) (NC mV (NC (ZI (y.nm h.1)) (NC (ZI (y.mo _ h.2.1)) (NC (ZI h.2.2) kZ)))))|tell t a b m z q=>exact hV (NC (ZI P8) (NC mV (NC (ZI (y.nm h.1)) (NC (ZI (y.nm h.2.1)) (NC (ZI (y.mo _ h.2.2.1)) (NC (ZI h.2.2.2.2.1) (NC (hV (gS λx u=>ZI (y.nm (h.2.2.2.2.2 x u)))) kZ)))))))
theorem Gd(h:WOk w):vF (wD w):=ze (n:=4) (hV (NC (fX (lV (gS λp y=>Do (h.po p y))) (by decide)) (NC (fX (lV (n:=0) (gS λm z=>ZI (h.mo m z))) (by decide)) (NC (fX (lV (gS λp y=>ye (h.ag p y))) (by decide)) (NC (lV (gS λe u=>Fo h (h.eo e u))) kZ))))) (by decide)
end
section
variable{ds es:List D}{L:Bool->Prop}{x:D}{y:CmpOp}
theorem t5(h:vF (.list ds))(q:L false):bT .NotEq (.list ds) (.list ds) L:=⟨h,h,by rw[QBI _ h.1];exact q⟩
end
def U1(es:List Evt)(t:Int)(n:Nat):Bool:=decide (oR (pA es n)<=t)
def kpL(es:List Evt)(t:Int):LN:=(Ql es.length).filter (U1 es t)
def wT(w:Wd)(t:Int):Wd:=wU w ((kpL w.es t).map (pA w.es))
def iS(es:List Evt)(t:Int)(n:Nat):Nat:=(kpL es t).getD n es.length
section
variable{w:Wd}{es:List Evt}{t:Int}
theorem T5{n:Nat}(h:n∈kpL es t):n<es.length:=Q7.mp (Qa.mp h).1
theorem KO{n:Nat}(h:n<(kpL es t).length):(kpL es t)[n]?=some (iS es t n):=by unfold iS;rw[qe,Qf h];rfl
theorem ue(a b:Nat)(h:a<=b):iS es t a<=iS es t b:=by
 by_cases hb:b<(kpL es t).length;have s:(kpL es t).Pairwise (· < ·):=List.pairwise_lt_range.filter _;rcases Nat.lt_or_eq_of_le h with h|rfl;have z:=KO (QA3 h hb);have y:=KO hb;rw[Qf (QA3 h hb)]at z;rw[Qf hb]at y;have:=QAY.mp s a b (QA3 h hb) hb h;rw[Qm z,Qm y]at this;exact WI this;exact QS _;have e:iS es t b=es.length:=by unfold iS;rw[qe,Qe (wk hb)];rfl
 rw[e];by_cases x:a<(kpL es t).length;exact WI (T5 (qN (KO x)));unfold iS;rw[qe,Qe (wk x)];exact QS _
theorem A5(n:Nat):pA ((kpL es t).map (pA es)) n=pA es (iS es t n):=by
 by_cases h:n<(kpL es t).length;have e:=KO h;unfold pA at *;rw[QT,e];rfl;have e:iS es t n=es.length:=by unfold iS;rw[qe,Qe (wk h)];rfl
 rw[e];unfold pA;rw[Qe (by rw[QD];exact wk h),Qe (QS _)]
theorem Oi:(Ql (kpL es t).length).map (iS es t)=kpL es t:=by apply qP;intro i;rw[QT];by_cases h:i<(kpL es t).length;rw[ql h,KO h];rfl;rw[Qe (by rw[Qu];omega),Qe (by omega)];rfl
theorem U0(h:WOk w):WOk (wT w t):=by
 refine⟨h.ag,h.al,h.pl,h.pn,h.po,h.ml,h.mo,h.mn,?_,λe y=>?_⟩;show((kpL w.es t).map (pA w.es)).length<=60;have:=Q3 (U1 w.es t) (Ql w.es.length);rw[Qu]at this;rw[QD];exact QV this h.el;obtain⟨n,x,rfl⟩:=QZ.mp (show e∈(kpL w.es t).map (pA w.es) from y);have:=h.ev (T5 x);cases z:pA w.es n with|see _ _ _ _=>rw[z]at this;exact this|tell _ _ _ _ _ _=>rw[z]at this;exact this
theorem YW:∀{l:LN},l.Pairwise (ve es)->l.filter (U1 es t)=l.take (l.filter (U1 es t)).length
 |[],_=>rfl|a::l,h=>by
  obtain⟨y,x⟩:=QBr.mp h;cases c:U1 es t a with
  |true=>rw[List.filter_cons_of_pos c];exact congrArg (a::·) (YW x)|false =>
   have e:(a::l).filter (U1 es t)=[]:=List.filter_eq_nil_iff.mpr λb hb z=>by have c:=of_decide_eq_false c;have z:=of_decide_eq_true z;rcases QL.mp hb with rfl|hb;exact c z;have:=y b hb;unfold ve at this;omega
   rw[e];rfl
theorem A4{ns x:LN}(h:vK w ns)(h':vK (wT w t) x):x.map (iS w.es t)=ns.take (kpL w.es t).length:=by
 have o:=E4 h;have u:(x.map (iS w.es t)).Perm (kpL w.es t):=by have:=h'.1.map (iS w.es t);rw[QD,show(wT w t).es.length=(kpL w.es t).length from QD _,Oi]at this;exact this
 have y:(ns.filter (U1 w.es t)).Perm (kpL w.es t):=by have:=h.1.filter (U1 w.es t);rw[QD]at this;exact this
 have e:x.map (iS w.es t)=ns.filter (U1 w.es t):=Lh (es:=w.es) (u.trans y.symm) (Wg.mpr ((E4 h').imp λ{a b} z=>by have f:=A5 (es:=w.es) (t:=t) a;have k:=A5 (es:=w.es) (t:=t) b;have v:=ue (es:=w.es) (t:=t) a b;unfold ve at *;rw[<- f,<- k];exact z.imp id λz=>⟨z.1,v z.2⟩)) (o.filter _);rw[e,YW o,y.length_eq]
theorem M1{ns x:LN}(h:vK w ns)(h':vK (wT w t) x):(XF (wT w t) x).steps.map (ao (iS w.es t))=(XF w ns).steps.take (kpL w.es t).length:=by rw[jL,jL,KW,<- A4 h h'];exact O1 (λn=>A5 n) ue x g0 g0 rfl rfl rfl
end
section
variable{i k m:Int}{cs:LJ}{K:T->LT->Prop}{E:XE}{Ψ:PEv}
def gI{α:Type}(l:List α)(i:Int)(d:α):α:=(pE l i).getD d
theorem zD{α:Type}{l:List α}{d:α}(z:0<=i)(y:i<l.length):pE l i=some (gI l i d)/\gI l i d∈l:=by obtain⟨v,x,h⟩:=NQ z y;unfold gI;rw[x];exact⟨rfl,qN h⟩
theorem iC{α:Type}{f:α->D}{l:List α}(d:α){K:D->Prop}(x:0<=i)(h:i<l.length)(q:K (f (gI l i d))):FF (pE (l.map f) i) K:=by rw[AG,(zD (d:=d) x h).1];exact⟨_,rfl,q⟩
def LO(cs:LJ)(k:Int):Int:=if 0<cs.length then gI cs (k % cs.length) 0 else 0
def ut(c k:Int):Int:=(c % 2147483647+7 * k+3) * (48271+1103 * k * k) % 2147483629
def cA(cs:LJ)(k m:Int):Int:=ut (LO cs k) k / 64 % m
theorem ZA(h:0<m):0<=cA cs k m/\cA cs k m<m:=⟨wz _ (by omega),wI _ h⟩
theorem dj{j:Nat}(h:j<100)(c:Int)(hc:decide (0<=c/\c<=4000)=true):0<=c+(j:Int)/\c+(j:Int)<=5000:=by have:=of_decide_eq_true hc;omega
theorem dk(h:0<=k/\k<=100)(c:Int)(hc:decide (0<=c/\c<=40)=true):0<=11 * k+c/\11 * k+c<=5000:=by have:=of_decide_eq_true hc;omega
noncomputable def YB:PSp where
 md:=[.xz]
 run:=λx Q _=>∃(cs:LJ) (k m:Int),x=[.lst ((cs.map PyData.int).map T.d),.d (.int k),.d (.int m)]/\((0<=k/\k<=5000)/\0<m)/\Q (.d (.int (cA cs k m))) []
 mono:=λh _ z=>by obtain⟨cs,k,m,e,a,q⟩:=z;exact⟨cs,k,m,e,a,h _ _ q⟩
theorem r6{a b:LJ}(h:(a.map PyData.int).map T.d=(b.map PyData.int).map T.d):a=b:=(WW λx y e=>by injection e).mp ((WW λx y e=>by injection e).mp h)
theorem tB:aB YB [.lst ((cs.map PyData.int).map T.d),.d (.int k),.d (.int m)] K E=(((0<=k/\k<=5000)/\0<m)/\K (.d (.int (cA cs k m))) []):=propext ⟨λ⟨h,_,_,e,a,q⟩=>by injection e with e1 e2;injection e1 with e1;cases r6 e1;cases e2;exact⟨a,q⟩,λq=>⟨cs,k,m,rfl,q⟩⟩
theorem kN{ds:List D}{n:Bool}{md:List Md}{xs:List (T×Bool)}{C:LT->Prop}:ZB (.xz::md) ((.d (.list ds),n)::xs) C=ZB md xs λts=>C (.lst (ds.map T.d)::ts):=Sv (by rw[oA];simp only[eE,T.vw,YA,Qx])
theorem Ja(ds Q E)(h:YB.run ds Q E):kH Ψ AM YB ET lO ds Q:=by
 obtain⟨cs,k,m,rfl,⟨⟨v,u⟩,y⟩,q⟩:=h;refine gA [some (.ky (.lst ((cs.map PyData.int).map T.d))),bD (.int k),bD (.int m),none,none] rfl rfl rfl ?_;have r:∀c,c=LO cs k->pF Ψ aG (eZ Q) [some (.ky (.lst ((cs.map PyData.int).map T.d))),bD (.int k),bD (.int m),bD (.int c),none]:=by rintro c rfl;delta aG;simp_arith[↓vA];have a:=wz (LO cs k) (show(2147483647:Int)≠0 by decide);have b:=wI (LO cs k) (show(0:Int)<2147483647 by decide);exact⟨pN.ok (.inl ⟨by decide,by decide⟩),pN.ok (.inl ⟨by decide,by decide⟩),pN.ok (.inr ⟨by omega,by omega⟩),pN.ok (.inl ⟨by omega,by omega⟩),y,q⟩
 delta AM;simp_arith[QD];by_cases c:0<cs.length;have x:(0:Int)<cs.length:=by omega
 rw[if_pos (dT x)];refine⟨x,iC 0 (wz _ (by omega)) (wI _ x) ?_⟩;exact r _ (by unfold LO;rw[if_pos c]);rw[if_neg (λz=>by have:=of_decide_eq_true z;omega)];exact r _ (by unfold LO;rw[if_neg c])
noncomputable def IB(m:Int)(cs:LJ)(p:Int×Nat):LJ:=if(p.2:Int)<m then cs++[p.1] else cs.set ((p.2:Int) % m).toNat (gI cs ((p.2:Int) % m) 0 * 31+p.1)
def VB(m:Int)(l:LJ):LJ:=l.zipIdx.foldl (IB m) []
theorem VM{m:Int}(y:0<m):∀(l:LJ) (i:Nat) (cs:LJ),(cs.length:Int)<=m->cs.length<=i->((i:Int)<m->cs.length=i)->((l.zipIdx i).foldl (IB m) cs).length<=m.toNat
 |[],i,cs,h,_,_=>by show cs.length<=_;omega|x::l,i,cs,h,h2,h3=>by show((l.zipIdx (i+1)).foldl (IB m) (IB m cs (x,i))).length<=_;unfold IB;split;rename_i c;have c:(i:Int)<m:=c;have:=h3 c;refine VM y l (i+1) _ ?_ ?_ λ_=>?_;rw[QI];show((cs.length+1:Nat):Int)<=m;omega;rw[QI];show cs.length+1<=i+1;omega;rw[QI];show cs.length+1=i+1;omega;rename_i c;have c:¬ (i:Int)<m:=c;refine VM y l (i+1) _ ?_ ?_ λz=>?_;rw[qM];exact h;rw[qM];omega;omega
noncomputable def tE:PSp where
 md:=[.xz]
 run:=λy Q _=>∃(x:LJ) (m:Int),y=[.lst ((x.map PyData.int).map T.d),.d (.int m)]/\(0<m/\m<=100)/\Q (.lst (((VB m x).map PyData.int).map T.d)) []
 mono:=λh _ z=>by obtain⟨x,m,e,a,q⟩:=z;exact⟨x,m,e,a,h _ _ q⟩
theorem JU{ns:LJ}(h:0<m/\m<=100)(q:K (.lst (((VB m ns).map PyData.int).map T.d)) []):aB tE [.lst ((ns.map PyData.int).map T.d),.d (.int m)] K E:=⟨ns,m,rfl,h,q⟩
noncomputable def Zp(ns:LJ)(m:Int)(cs:LJ)(o3 o4:Option Sl):zA:=[some (.ky (.lst ((ns.map PyData.int).map T.d))),bD (.int m),oW (.lst ((cs.map PyData.int).map T.d)),o3,o4]
def Cp{α:Type}(f:α->D)(p:α×Nat):T:=.d (.tuple [.int (p.2:Int),f p.1])
theorem R6{α:Type}(f:α->D)(l:List α):((l.map f).zipIdx.map λp=>T.d (.tuple [.int (p.2:Int),p.1]))=l.zipIdx.map (Cp f):=by rw[List.zipIdx_map,QY];rfl
theorem Gk{c:PX}{s y r:PT}{Z:PEnds}{o:Option Sl}{σ:zA}:cB Ψ E (.seq (.ife c s y) r) Z (o::σ)=sN Ψ c E (o::σ) λk x=>if k=true then cB Ψ E s { Z with nx:=λh=>cB Ψ E r Z h } x else cB Ψ E y { Z with nx:=λh=>cB Ψ E r Z h } x:=rfl
theorem MY(ds Q E)(h:tE.run ds Q E):kH Ψ RH tE cN mK ds Q:=by
 obtain⟨u,m,rfl,⟨n,X⟩,q⟩:=h;refine gA [some (.ky (.lst ((u.map PyData.int).map T.d))),bD (.int m),none,none,none] rfl rfl rfl ?_;delta RH;simp_arith[↓vA];refine⟨by omega,?_⟩;rw[R6];refine jB (Cp PyData.int) (λr w=>∃l i cs g f,r=List.zipIdx l i/\r.foldl (IB m) cs=VB m u/\((cs.length:Int)<=m/\((i:Int)<m->cs.length=i)/\(m<=(i:Int)->(cs.length:Int)=m))/\w=Zp u m cs g f) ?_ ?_ _ _ ⟨u,0,[],none,none,rfl,rfl,⟨by show(0:Int)<=m;omega,λ_=>rfl,λz=>by omega⟩,rfl⟩;rintro w ⟨l,i,cs,g,f,_,e,_,rfl⟩;have e:cs=VB m u:=e;subst e;delta Zp;simp_arith[↓vA];exact q;rintro⟨x,j⟩ r w N o ⟨l,i,cs,g,f,v,e,⟨Y,s,p⟩,rfl⟩;cases l with|nil=>cases v|cons y l=>injection v with v e3;injection v with e4 e5;subst e4;subst e5;have e:r.foldl (IB m) (IB m cs (x,j))=VB m u:=e;delta Zp Cp;delta kJ;simp_arith[↓Gk];by_cases c:(j:Int)<m;rw[show IB m cs (x,j)=cs++[x] from if_pos c]at e;have:=s c;simp_arith[dT c,QD];refine⟨by omega,o _ ⟨l,j+1,cs++[x],bD (.int (j:Int)),bD (.int x),e3,e,⟨?_,?_,?_⟩,?_⟩⟩;rw[QI];show((cs.length+1:Nat):Int)<=m;omega;rw[QI];intro z;show cs.length+1=j+1;omega;rw[QI];intro z;show((cs.length+1:Nat):Int)=m;omega;delta Zp;rw[QO,QO];rfl;rw[show IB m cs (x,j)=cs.set ((j:Int) % m).toNat (gI cs ((j:Int) % m) 0 * 31+x) from if_neg c]at e;have Z:(cs.length:Int)=m:=p (by omega);have a:=wz (j:Int) (show m≠0 by omega);have b:=wI (j:Int) n;rw[if_neg (λz=>c (of_decide_eq_true z))];refine⟨n,iC 0 a (by omega) ?_⟩;simp_arith[↓vA];refine⟨pN.ok (.inr ⟨by decide,by decide⟩),n,Ys a (by rw[QD];omega) (o _ ⟨l,j+1,cs.set ((j:Int) % m).toNat (gI cs ((j:Int) % m) 0 * 31+x),bD (.int (j:Int)),bD (.int x),e3,e,⟨?_,?_,?_⟩,?_⟩)⟩;rw[qM];omega;intro z;omega;intro z;rw[qM];omega;delta Zp;rw[QA8,QA8,QA8]
end
section
variable{Ψ:PEv}{E:XE}{ρ:zA}{K:TK}{a y v h b:PX}{x:D}{n:Bool}{f:Str}{w:Operator}{g:Bi}{i:Int}
def lY(x:T)(n:Bool)(Ψ:PEv)(y v:PX)(E:XE)(p:zA)(K:TK):Prop:=sq (α:=Option Int) (rA x n) p (if isNop y=true then λρ (R:Option Int->zA->Prop)=>R none ρ else λρ R=>(pe Ψ y E).e ρ λl _ m=>EF l.er λo=>R o m) λl m =>
   sq (α:=Option Int) (rA x n) m (if isNop v=true then λρ (R:Option Int->zA->Prop)=>R none ρ else λρ R=>(pe Ψ v E).e ρ λu _ j=>EF u.er λo=>R o j) λu j=>iN (rA x n).vw l u λz k=>K z k j
theorem nN:pB Ψ (.slc a y v) E ρ K=pB Ψ a E ρ λx n z=>lY x n Ψ y v E z K:=rfl
theorem Et:lY (.d x) n Ψ .nop (.call f h) E ρ K=pB Ψ (.call f h) E ρ λu _ e=>vM u λo=>eN (.d x) n none o λz k=>K z k e:=by cases n<;>rfl
theorem ju:lY (.d x) n Ψ .nop (.bin w a b) E ρ K=pB Ψ (.bin w a b) E ρ λu _ e=>vM u λo=>eN (.d x) n none o λz k=>K z k e:=by cases n<;>rfl
theorem Jp:lY (.d x) n Ψ .nop (.bi g h) E ρ K=pB Ψ (.bi g h) E ρ λu _ e=>vM u λo=>eN (.d x) n none o λz k=>K z k e:=by cases n<;>rfl
theorem zu:lY (.d x) n Ψ (.call f h) .nop E ρ K=pB Ψ (.call f h) E ρ λu _ e=>vM u λo=>eN (.d x) n o none λz k=>K z k e:=by cases n<;>rfl
theorem yu:lY (.d x) n Ψ (.int i) (.bin w a b) E ρ K=pB Ψ (.bin w a b) E ρ λu _ e=>vM u λo=>eN (.d x) n (some i) o λz k=>K z k e:=by cases n<;>rfl
end
section
variable{a k most:Int}{b d e c:D}{cs:LJ}{K:T->LT->Prop}{E:XE}{Ψ:PEv}{n m:Bool}{Q:T->Bool->Prop}{R:T->Prop}{i:Nat}{w:Ps}{o:LS}{X:Option (Str×Str)}{p:Str×Str}{Z:PEnds}{ρ:zA}
def oQ:Str:="bcdfgjkmnpqvwxyz"
noncomputable def Nd(a b f:Int)(k:Nat):Str:=BJ "zq" a++⟨#[gI oQ.cps.toList ((f+(k:Int)) % 16) 0]⟩++wm "vzb" none (some b)
def Rn(a b f:Int):LS:=(Ql 16).map (Nd a b f)
def Ek(s:Str):Bool:=decide (s.length<=3)&&s.cps.toList.all λc=>decide (c<128)
theorem p9:((Ql 2).all λ(a:Nat)=>Ek (BJ "zq" (a:Int)))=true:=by decide +kernel
theorem G8:((Ql 4).all λ(b:Nat)=>Ek (wm "vzb" none (some (b:Int))))=true:=by decide +kernel
theorem jb:(decide oQ.cps.toList.Nodup&&oQ.cps.toList.all λc=>decide (c<128))=true:=by decide +kernel
theorem G3(h:0<=a)(x:a<2):Ek (BJ "zq" a)=true:=by obtain⟨a,rfl⟩:=qb h;exact Qv.mp p9 a (Q7.mpr (by omega))
theorem G1(h:0<=a)(x:a<4):Ek (wm "vzb" none (some a))=true:=by obtain⟨a,rfl⟩:=qb h;exact Qv.mp G8 a (Q7.mpr (by omega))
theorem gM(a b f:Int)(k:Nat):(Nd a b f k).cps.toList=(BJ "zq" a).cps.toList++([gI oQ.cps.toList ((f+(k:Int)) % 16) 0]++(wm "vzb" none (some b)).cps.toList):=by show((BJ "zq" a).cps++#[gI oQ.cps.toList ((f+(k:Int)) % 16) 0]++(wm "vzb" none (some b)).cps).toList=_;rw[QBZ,QBZ,Qz]
theorem oj{l:LN}(h:l.Nodup){x y:Int}(j:0<=x)(g:x<l.length)(f:0<=y)(z:y<l.length)(e:gI l x 0=gI l y 0):x=y:=by obtain⟨v,Y,s⟩:=NQ j g;obtain⟨u,r,q⟩:=NQ f z;unfold gI at e;rw[Y,r]at e;have e:v=u:=e;subst e;have:=(QB7 (i:=x.toNat) (by omega) h).mp (s.trans q.symm);omega
theorem eK(f:Int)(k:Nat):0<=(f+(k:Int)) % 16/\(f+(k:Int)) % 16<oQ.cps.toList.length:=⟨wz _ (by decide),wI _ (by decide)⟩
theorem Zi{b f:Int}(q:0<=a)(l:a<2)(g:0<=b)(v:b<4)(Y:0<=f)(r:f<16):(Rn a b f).Nodup/\∀x∈Rn a b f,OkS x:=by
 have X:=jb;rw[Qc,decide_eq_true_iff]at X;have p:=G3 q l;have s:=G1 g v;unfold Ek at p s;rw[Qc]at p s;constructor;refine Wg.mpr (wZ (λ{i j} u z h e=>h ?_) QCP);have e:=congrArg (λs:Str=>s.cps.toList) e;have e:(Nd a b f i).cps.toList=(Nd a b f j).cps.toList:=e;rw[gM,gM]at e;have e:=List.append_cancel_left e;injection e with e _;have:=oj X.1 (eK f i).1 (eK f i).2 (eK f j).1 (eK f j).2 e;have:=Q7.mp u;have:=Q7.mp z;omega;intro x y;obtain⟨k,_,rfl⟩:=QZ.mp y;show(Nd a b f k).cps.all _=true;rw[<- Array.all_toList,gM,Qv];intro c hc;have:c<128:=by
  rcases Qi.mp hc with hc|hc;exact of_decide_eq_true (Qv.mp p.2 c hc);rcases Qi.mp hc with hc|hc
  ·rw[QJ.mp hc]
   exact of_decide_eq_true (Qv.mp X.2 _ (zD (eK f k).1 (eK f k).2).2)
  exact of_decide_eq_true (Qv.mp s.2 c hc)
 exact dT (by omega)
def JC(cs:LJ):LS:=Rn (cA cs 901 2) (cA cs 902 4) (cA cs 903 16)
theorem zG(cs:LJ):(JC cs).Nodup/\(∀x∈JC cs,OkS x)/\(JC cs).length=16:=by have a:=ZA (cs:=cs) (k:=901) (m:=2) (by decide);have b:=ZA (cs:=cs) (k:=902) (m:=4) (by decide);have c:=ZA (cs:=cs) (k:=903) (m:=16) (by decide);obtain⟨y,h⟩:=Zi a.1 a.2 b.1 b.2 c.1 c.2;exact⟨y,h,by unfold JC Rn;rw[QD,Qu]⟩
noncomputable def NF:PSp where
 md:=[]
 run:=λx Q _=>∃cs:LJ,x=[.d (.list (cs.map PyData.int))]/\Q (.lst (((JC cs).map PyData.str).map T.d)) []
 mono:=λh _ z=>by obtain⟨cs,e,q⟩:=z;exact⟨cs,e,h _ _ q⟩
theorem sY(q:K (.lst (((JC cs).map PyData.str).map T.d)) []):aB NF [.d (.list (cs.map PyData.int))] K E:=⟨cs,rfl,q⟩
theorem D4(v:Ψ.sp "_law_draw"=YB)(ds Q E)(h:NF.run ds Q E):kH Ψ IJ NF vP AL ds Q:=by
 obtain⟨cs,rfl,q⟩:=h;have a:=ZA (cs:=cs) (k:=901) (m:=2) (by decide);have b:=ZA (cs:=cs) (k:=902) (m:=4) (by decide);have c:=ZA (cs:=cs) (k:=903) (m:=16) (by decide);refine gA [bD (.list (cs.map PyData.int)),none,none,none,none] rfl rfl rfl ?_;delta IJ;simp_arith[↓nN,↓Et,↓VY,↓xA (md:=[.xz]) v rfl rfl,↓kN,↓tB];have z:(QR "zq").length=2:=rfl;have y:(QR "vzb").length=3:=rfl;have x:(QR "bcdfgjkmnpqvwxyz").length=16:=rfl;rw[z,y];refine⟨by omega,by omega,by omega,by omega,?_⟩;refine JB (λ(i:Nat)=>T.d (.int (i:Int))) (λi=>T.d (.str (Nd (cA cs 901 2) (cA cs 902 4) (cA cs 903 16) i))) _ [] _ (λi r R u=>?_) (by show 0+(Ql 16).length<=_;rw[Qu];omega) ?_;simp_arith[↓vA];have W:=wz (cA cs 903 16+(i:Int)) (show(16:Int)≠0 by decide);have Y:=wI (cA cs 903 16+(i:Int)) (show(0:Int)<16 by decide);rw[x];refine⟨by omega,?_⟩;have f:pE (QR "bcdfgjkmnpqvwxyz").cps.toList ((cA cs 903 16+(i:Int)) % 16)=some (gI oQ.cps.toList ((cA cs 903 16+(i:Int)) % 16) 0):=(zD (l:=oQ.cps.toList) (eK _ i).1 (eK _ i).2).1;refine⟨_,f,?_⟩;simp_arith[↓vA];have p:=G3 a.1 a.2;have s:=G1 b.1 b.2;unfold Ek at p s;rw[Qc,decide_eq_true_iff]at p s;have e:(BJ (QR "zq") (cA cs 901 2)++⟨#[gI oQ.cps.toList ((cA cs 903 16+(i:Int)) % 16) 0]⟩:Str).length=(BJ (QR "zq") (cA cs 901 2)).length+1:=Array.size_append;have j:(BJ (QR "zq") (cA cs 901 2)).length<=3:=p.1;have g:(wm (QR "vzb") none (some (cA cs 902 4))).length<=3:=s.1;rw[e];exact⟨by show _+1<=_;omega,by omega,u⟩;rw[Qh,nA λi=>PyData.str (Nd (cA cs 901 2) (cA cs 902 4) (cA cs 903 16) i)];have e:((Ql 16).map λi=>PyData.str (Nd (cA cs 901 2) (cA cs 902 4) (cA cs 903 16) i))=(JC cs).map PyData.str:=by unfold JC Rn;rw[QY];rfl
 exact e▸q
def Ll(b:Bool):Int:=if b then 1 else 0
theorem Ad{b:Bool}:rJ .int [(.d (.bool b),n)] Q=Q (.d (.int (Ll b))) false:=by unfold rJ TB;rw[oA];exact vq b
theorem Jr{f g h k:D}{t:T}:FA (.lst [.d d,.d e,.d f,.d g,.d h,.d k]) n t m R=FA (.lst ([d,e,f,g,h,k].map T.d)) n t m R:=rfl
noncomputable def Xh(cs:LJ)(h:Int)(p:Str×Nat):Str×Int×Int×Int:=(p.1,cA cs (910+(p.2:Int)) h,cA cs (920+(p.2:Int)) h * Ll (decide (cA cs (930+(p.2:Int)) 3=0)),gI [1,1,1,2,2,3] (cA cs (940+(p.2:Int)) 6) 0)
def lL(cs:LJ):Int:=gI [4,100] (cA cs 904 2) 0
def UP(cs:LJ)(ns:LS):List (Str×Int×Int×Int):=ns.zipIdx.map (Xh cs (lL cs))
noncomputable def VL:PSp where
 md:=[]
 run:=λy Q _=>∃(cs:LJ) (x:LS),y=[.d (.list (cs.map PyData.int)),.d (.list (x.map PyData.str))]/\x.length<=100/\Q (.lst (((UP cs x).map mH).map T.d)) []
 mono:=λh _ z=>by obtain⟨cs,x,e,a,q⟩:=z;exact⟨cs,x,e,a,h _ _ q⟩
theorem j9{ns:LS}(h:ns.length<=100)(q:K (.lst (((UP cs ns).map mH).map T.d)) []):aB VL [.d (.list (cs.map PyData.int)),.d (.list (ns.map PyData.str))] K E:=⟨cs,ns,rfl,h,q⟩
noncomputable def Tq(cs:LJ)(ns:LS)(w:List (Str×Int×Int×Int))(o4 o5 o6 o7:Option Sl):zA:=[bD (.list (cs.map PyData.int)),bD (.list (ns.map PyData.str)),oW (.lst ((w.map mH).map T.d)),bD (.int (lL cs)),o4,o5,o6,o7]
theorem G0(cs:LJ):0<lL cs:=by have a:=ZA (cs:=cs) (k:=904) (m:=2) (by decide);have:=(zD (l:=[(4:Int),100]) (d:=0) a.1 a.2).2;show 0<gI _ _ _;rcases QL.mp this with e|e;rw[e];decide;rw[QJ.mp e];decide
theorem Hl(b:Bool):-(2 ^ 64)<Ll b/\Ll b<2 ^ 64:=by cases b<;>decide
theorem Sa{α:Type}{l:List α}{p:α×Nat}(h:p∈l.zipIdx i):p.1∈l/\p.2<i+l.length:=by obtain⟨z,y,x⟩:=List.mem_zipIdx h;exact⟨x▸wG _,y⟩
theorem Ih(W:Ψ.sp "_law_draw"=YB)(ds Q E)(h:VL.run ds Q E):kH Ψ PH VL bN lK ds Q:=by
 obtain⟨cs,y,rfl,hl,q⟩:=h;have a:=ZA (cs:=cs) (k:=904) (m:=2) (by decide);have wp:=G0 cs;refine gA [bD (.list (cs.map PyData.int)),bD (.list (y.map PyData.str)),none,none,none,none,none,none] rfl rfl rfl ?_;delta PH;simp_arith[↓xA (md:=[.xz]) W rfl rfl,↓kN,↓tB];refine⟨by omega,by omega,iC (f:=PyData.int) (l:=[4,100]) 0 a.1 a.2 ?_⟩;rw[R6];refine jB (Cp PyData.str) (λr ρ=>∃w s g v u,w++r.map (Xh cs (lL cs))=UP cs y/\(w.length+r.length<=100/\∀p∈r,p.2<100)/\ρ=Tq cs y w s g v u) ?_ ?_ _ _ ⟨[],none,none,none,none,rfl,⟨by rw[List.length_zipIdx];show 0+_<=_;omega,λp Y=>by have:=(Sa Y).2;omega⟩,rfl⟩;rintro ρ ⟨w,s,g,v,u,e,_,rfl⟩;have e:w=UP cs y:=by rw[<- e];exact(qA _).symm
 subst e;delta Tq;simp_arith[↓vA];exact q;rintro⟨x,j⟩ r ρ N J ⟨w,s,g,v,u,e,⟨B,A⟩,rfl⟩;have B:w.length+(r.length+1)<=100:=B;have z:j<100:=A (x,j) QF;have b:=ZA (cs:=cs) (k:=940+(j:Int)) (m:=6) (by decide);delta Tq Cp;delta zJ;simp?[↓xA (md:=[.xz]) W rfl rfl,↓kN,↓tB,↓Ad,↓Jr,QD];have I:=dj z 910 rfl;have G:=dj z 920 rfl;have F:=dj z 930 rfl;have C:=dj z 940 rfl;refine⟨I.1,I.2,wp,G.1,G.2,wp,F.1,F.2,pN.ok (.inr (Hl _)),by omega,C.1,C.2,iC (f:=PyData.int) (l:=[1,1,1,2,2,3]) 0 b.1 b.2 ⟨by omega,by omega,J _ ⟨w++[Xh cs (lL cs) (x,j)],bD (.int (j:Int)),bD (.str x),bD (.int (cA cs (910+(j:Int)) (lL cs))),bD (.int (cA cs (920+(j:Int)) (lL cs) * Ll (decide (cA cs (930+(j:Int)) 3=0)))),?_,⟨?_,λp Y=>A p (QE _ Y)⟩,?_⟩⟩⟩;rw[Qz];exact e;rw[QI];show w.length+1+r.length<=100;omega;delta Tq;rw[QO,QO];rfl
theorem oO(cs:LJ)(ns:LS):(UP cs ns).map (λp=>p.1)=ns:=by unfold UP;rw[QY];exact List.zipIdx_map_fst 0 ns
noncomputable abbrev Ps:=List (Str×Int×Int×Int)
def yl:Str×Int×Int×Int:=("",0,0,0)
def zS(w:Ps)(i:Int):Str:=(gI w i yl).1
def t4(w:Ps)(x:Str):LS:=(w.filter λp=>!decide (p.1=x)).map λp=>p.1
def Lg(cs:LJ)(k:Int):Int:=gI [k,2 * (k / 2),cA cs (11 * k+3) 9,100 - k] (cA cs 905 4) 0
def zm(cs:LJ)(k:Int):Str:=wm "abcdef" (some (cA cs (11 * k+2) 6)) none
def ol(cs:LJ)(k:Int)(o:LS):Str:=gI o (cA cs (11 * k+1) (o.length:Int)) ""
noncomputable def au(cs:LJ)(k:Int)(w:Ps):LS:=(Ql (cA cs (11 * k+7) 3).toNat).map λ(j:Nat)=>zS w (cA cs (11 * k+8+(j:Int)) (w.length:Int))
noncomputable def VX(cs:LJ)(k:Int)(w:Ps)(o:LS):Evt:=.see (Lg cs k) (zS w (cA cs (11 * k) (w.length:Int))) (ol cs k o) (zm cs k)
noncomputable def fG(cs:LJ)(k:Int)(w:Ps)(a m:Str):Evt:=.tell (Lg cs k) a (gI (t4 w a) (cA cs (11 * k+6) ((t4 w a).length:Int)) "") m (zm cs k) (au cs k w)
noncomputable def Ke(cs:LJ)(k:Int)(w:Ps)(o:LS):Option (Str×Str)->Evt
 |none=>VX cs k w o|some (a,b)=>if cA cs (11 * k+4) 4=0 then VX cs k w o else if 0<cA cs (11 * k+5) 3 then fG cs k w a b else fG cs k w (zS w (cA cs (11 * k) (w.length:Int))) (ol cs k o)
def c8:Option (Str×Str)->D
 |none=>.none|some p=>pr p
def Hk(w:Ps)(o:LS):Option (Str×Str)->Prop
 |none=>True|some (a,b)=>(∃p∈w,p.1=a)/\b∈o
structure BdOk(w:Ps)(o:LS):Prop where
 p2:2<=w.length
 pl:w.length<=11
 nd:(w.map λp=>p.1).Nodup
 m1:1<=o.length
 ml:o.length<=10
theorem m4(h:BdOk w o)(x:Str):0<(t4 w x).length:=by
 have y:=h.p2;have nd:=h.nd;cases w with
 |nil=>simp at y|cons p r=>cases r with|nil=>simp at y|cons q r=>have z:p.1≠q.1:=λe=>(Qj.mp nd).1 (show p.1∈_ from e.symm▸QF);refine Wb (a:=if p.1=x then q.1 else p.1) ?_;unfold t4;split;rename_i c;exact QZ.mpr ⟨q,Qa.mpr ⟨QE _ QF,by rw[dF λe=>z (c.trans e.symm)];rfl⟩,rfl⟩;rename_i c;exact QZ.mpr ⟨p,Qa.mpr ⟨QF,by rw[dF c];rfl⟩,rfl⟩
noncomputable def JH:PSp where
 md:=[]
 run:=λx Q _=>∃(cs:LJ) (k:Int) (w:Ps) (o:LS) (X:Option (Str×Str)),x=[.d (.list (cs.map PyData.int)),.d (.int k),.d (.list (w.map mH)),.d (.list (o.map PyData.str)),.d (c8 X)]/\(0<=k/\k<=100)/\BdOk w o/\Q (.d (jC (Ke cs k w o X))) []
 mono:=λh _ z=>by obtain⟨cs,k,w,o,X,e,a,b,q⟩:=z;exact⟨cs,k,w,o,X,e,a,b,h _ _ q⟩
theorem k9(a:0<=k/\k<=100)(b:BdOk w o)(q:K (.d (jC (Ke cs k w o X))) []):aB JH [.d (.list (cs.map PyData.int)),.d (.int k),.d (.list (w.map mH)),.d (.list (o.map PyData.str)),.d (c8 X)] K E:=⟨cs,k,w,o,X,rfl,a,b,q⟩
theorem Vo{a:D}:AD [.d a,.d b,.d c,.d d,.d e]=.d (.tuple [a,b,c,d,e]):=rfl
theorem vt{a f g:D}:AD [.d a,.d b,.d c,.d d,.d e,.d f,.d g]=.d (.tuple [a,b,c,d,e,f,g]):=rfl
theorem En{ds:List D}:rJ .tuple [(.lst (ds.map T.d),n)] Q=Q (.d (.tuple ds)) false:=by unfold rJ TB;rw[bE];show CT .tuple [.ls (ds.map T.d)] Q=_;rw[Ae];exact propext ⟨λ⟨_,e,q⟩=>by rw[YA]at e;cases e;exact q,λq=>⟨_,YA _,q⟩⟩
theorem Xg:(QR "abcdef").length=6:=rfl
noncomputable def Vl(cs:LJ)(k:Int)(w:Ps)(o:LS)(X:Option (Str×Str))(mt:Str)(o8:Option Sl)(o10 z y x h:Option Sl):zA:=[bD (.list (cs.map PyData.int)),bD (.int k),bD (.list (w.map mH)),bD (.list (o.map PyData.str)),bD (c8 X),bD (.int (cA cs (11 * k) (w.length:Int))),bD (.str mt),bD (.str (zm cs k)),o8,bD (.int (Lg cs k)),o10,z,y,x,h]
theorem Ta:IntMulOk 11 k:=pN.ok (.inl ⟨by decide,by decide⟩)
theorem Ze(f:Ψ.sp "_law_draw"=YB){Q:T->LT->Prop}{a mt:Str}{o8 z y x h:Option Sl}(hk:0<=k/\k<=100)(hb:BdOk w o)(q:Q (.d (jC (fG cs k w a mt))) []):pF Ψ tF (eZ Q) (Vl cs k w o X mt o8 (bD (.str a)) z y x h):=by
 have G:=m4 hb a;have C:=hb.pl;have F:=hb.p2;delta Vl;delta tF;simp_arith[↓vA];rw[<- nA mH];refine fA (λp=>T.d (mH p)) (λ(p:Str×Int×Int×Int)=>T.d (.str p.1)) (λp=>!decide (p.1=a)) w [] _ (λp v R u=>?_) (by show 0+w.length<=_;omega) ?_;simp_arith[↓tN];split at u;rename_i c;rw[if_pos c];exact u;rename_i c;rw[if_neg c];exact u;rw[Qh,nA λp:Str×Int×Int×Int=>PyData.str p.1];have e:((w.filter λp=>!decide (p.1=a)).map λp=>PyData.str p.1)=(t4 w a).map PyData.str:=by unfold t4;rw[QY];rfl
 rw[e];simp?[↓xA (md:=[.xz]) f rfl rfl,↓kN,↓tB,QD];have W:=ZA (cs:=cs) (k:=11 * k+6) (m:=((t4 w a).length:Int)) (by omega);have J:=ZA (cs:=cs) (k:=11 * k+7) (m:=3) (by decide);have s:=dk hk 7 rfl;refine⟨Ta,(dk hk 6 rfl).1,(dk hk 6 rfl).2,by omega,iC (α:=Str) "" W.1 W.2 ?_⟩;refine⟨by omega,Ta,s.1,s.2,by omega,by omega,?_⟩;refine jB (λ(i:Nat)=>T.d (.int (i:Int))) (λr ρ=>∃bs h,bs++r.map (λ(j:Nat)=>zS w (cA cs (11 * k+8+(j:Int)) (w.length:Int)))=au cs k w/\(bs.length+r.length<=3/\∀j∈r,j<3)/\ρ=Vl cs k w o X mt o8 (bD (.str a)) (bD (.list ((t4 w a).map PyData.str))) (bD (.str (gI (t4 w a) (cA cs (11 * k+6) ((t4 w a).length:Int)) ""))) (oW (.lst ((bs.map PyData.str).map T.d))) h) ?_ ?_ _ _ ⟨[],h,rfl,⟨by rw[Qu];show 0+_<=3;omega,λj A=>by have:=Q7.mp A;omega⟩,rfl⟩;rintro ρ ⟨bs,h,e,_,rfl⟩;have e:bs=au cs k w:=by rw[<- e];exact(qA _).symm
 subst e;delta Vl;simp_arith[↓En,↓vt];exact⟨by omega,q⟩;rintro j r ρ N B ⟨bs,h,e,⟨l,g⟩,rfl⟩;have l:bs.length+(r.length+1)<=3:=l;have I:j<3:=g j QF;have Y:=ZA (cs:=cs) (k:=11 * k+8+(j:Int)) (m:=(w.length:Int)) (by omega);delta Vl;delta UK;simp?[↓xA (md:=[.xz]) f rfl rfl,↓kN,↓tB,QD];refine⟨Ta,by omega,by omega,by omega,iC yl Y.1 Y.2 ?_⟩;simp_arith[↓tN,QD];refine⟨by omega,B _ ⟨bs++[zS w (cA cs (11 * k+8+(j:Int)) (w.length:Int))],bD (.int (j:Int)),?_,⟨?_,λp v=>g p (QE _ v)⟩,?_⟩⟩;rw[Qz];exact e;rw[QI];show bs.length+1+r.length<=3;omega;delta Vl;rw[QO,QO];rfl
theorem Ge{L:Bool->Prop}:iB .Is (.d (c8 X)) (.d .none) L=L X.isNone:=by cases X<;>rfl
theorem Pl:FA (.d (c8 (some p))) n (.d (.int 0)) m R=R (.d (.str p.1)):=MA (i:=0) rfl
theorem Ol:FA (.d (c8 (some p))) n (.d (.int 1)) m R=R (.d (.str p.2)):=MA (i:=1) rfl
theorem Au{r:PT}{a:D}:CL Ψ E r Z i (.lst [.d a,.d b,.d c,.d d]) true ρ=cB Ψ E r Z (ρ.set i (bD (.list [a,b,c,d]))):=Vq (ds:=[a,b,c,d])
theorem vi(y:Ψ.sp "_law_draw"=YB)(ds Q E)(h:JH.run ds Q E):kH Ψ jK JH xP EL ds Q:=by
 obtain⟨cs,k,w,o,X,rfl,hk,hb,q⟩:=h;have B:=hb.pl;have C:=hb.p2;have F:=hb.m1;have x:=ZA (cs:=cs) (k:=11 * k) (m:=(w.length:Int)) (by omega);have A:=ZA (cs:=cs) (k:=11 * k+1) (m:=(o.length:Int)) (by omega);have G:=ZA (cs:=cs) (k:=11 * k+2) (m:=6) (by decide);have W:=ZA (cs:=cs) (k:=905) (m:=4) (by decide);refine gA [bD (.list (cs.map PyData.int)),bD (.int k),bD (.list (w.map mH)),bD (.list (o.map PyData.str)),bD (c8 X),none,none,none,none,none,none,none,none,none,none] rfl rfl rfl ?_;delta jK;simp?[↓nN,↓zu,↓VY,↓xA (md:=[.xz]) y rfl rfl,↓kN,↓tB,QD,↓Zc,↓Ge];have Y:=dk hk 1 rfl;have s:=dk hk 2 rfl;have r:=dk hk 3 rfl;refine⟨Ta,by omega,by omega,by omega,Ta,Y.1,Y.2,by omega,iC (α:=Str) "" A.1 A.2 ?_⟩;rw[Xg];refine⟨Ta,s.1,s.2,by omega,pN.ok (.inl ⟨by decide,by decide⟩),Ta,r.1,r.2,by omega,?_⟩;simp_arith[↓Au,↓xA (md:=[.xz]) y rfl rfl,↓kN,↓tB,↓Zc,↓Ge];refine iC (f:=PyData.int) (l:=[k,2 * (k / 2),cA cs (11 * k+3) 9,100 - k]) 0 W.1 W.2 ?_;cases X with|none=>simp_arith[Option.isNone_none];refine iC yl x.1 x.2 ?_;simp_arith[↓tN,↓Vo];exact⟨by omega,q⟩|some p=>simp_arith[Option.isNone_some];have j:=dk hk 4 rfl;refine⟨Ta,j.1,j.2,?_⟩;have q:Q (.d (jC (if cA cs (11 * k+4) 4=0 then VX cs k w o else if 0<cA cs (11 * k+5) 3 then fG cs k w p.1 p.2 else fG cs k w (zS w (cA cs (11 * k) (w.length:Int))) (ol cs k o)))) []:=q;by_cases v:cA cs (11 * k+4) 4=0;rw[if_pos v]at q;rw[if_pos (dT v)];refine iC yl x.1 x.2 ?_;simp_arith[↓tN,↓Vo];exact⟨by omega,q⟩;rw[if_neg v]at q;rw[if_neg (λz=>v (of_decide_eq_true z))];refine iC yl x.1 x.2 ?_;simp_arith[↓tN,↓xA (md:=[.xz]) y rfl rfl,↓kN,↓tB,↓Pl,↓Ol];have g:=dk hk 5 rfl;refine⟨Ta,g.1,g.2,?_⟩;by_cases u:0<cA cs (11 * k+5) 3;rw[if_pos u]at q;rw[if_pos (dT u)];exact Ze (mt:=p.2) y hk hb q;rw[if_neg u]at q;rw[if_neg (λz=>u (of_decide_eq_true z))];exact Ze (mt:=ol cs k o) y hk hb q
theorem Hd{i:Int}(x:0<=i)(h:i<(w.length:Int)):∃p∈w,p.1=zS w i:=⟨_,(zD (d:=yl) x h).2,rfl⟩
noncomputable def Fl(w:Ps)(o:LS):Evt->Prop
 | .see _ p m h=>(∃x∈w,x.1=p)/\m∈o/\OkS h|.tell _ a b m h q=>(∃x∈w,x.1=a)/\(∃x∈w,x.1=b)/\m∈o/\a≠b/\OkS h/\∀y∈q,∃x∈w,x.1=y
theorem Ug:((Ql 6).all λ(a:Nat)=>qX (wm "abcdef" (some (a:Int)) none))=true:=by decide +kernel
theorem L0(cs:LJ)(k:Int):OkS (zm cs k):=by have h:=ZA (cs:=cs) (k:=11 * k+2) (m:=6) (by decide);unfold zm;obtain⟨a,e⟩:=qb h.1;rw[e]at h ⊢;exact Qv.mp Ug a (Q7.mpr (by omega))
def O5:Evt->Str×Str
 | .see _ p m _=>(p,m)|.tell _ _ b m _ _=>(b,m)
theorem Kp(hb:BdOk w o)(hl:Hk w o X):Fl w o (Ke cs k w o X):=by
 have C:=hb.p2;have G:=hb.m1;have r:=ZA (cs:=cs) (k:=11 * k) (m:=(w.length:Int)) (by omega);have q:=ZA (cs:=cs) (k:=11 * k+1) (m:=(o.length:Int)) (by omega);have u:=Hd r.1 r.2;have h:ol cs k o∈o:=(zD q.1 q.2).2;have v:∀a m,(∃x∈w,x.1=a)->m∈o->Fl w o (fG cs k w a m):=λa m A W=>by have F:=m4 hb a;have l:=ZA (cs:=cs) (k:=11 * k+6) (m:=((t4 w a).length:Int)) (by omega);obtain⟨x,Y,e⟩:=QZ.mp (zD (d:=("":Str)) l.1 l.2).2;obtain⟨B,f⟩:=Qa.mp Y;refine⟨A,⟨x,B,e⟩,W,λz=>?_,L0 cs k,λy s=>?_⟩;rw[dT (e.trans z.symm)]at f;cases f;obtain⟨j,_,rfl⟩:=QZ.mp s;have g:=ZA (cs:=cs) (k:=11 * k+8+(j:Int)) (m:=(w.length:Int)) (by omega);exact Hd g.1 g.2
 cases X with
 |none=>exact⟨u,h,L0 cs k⟩|some p =>
  obtain⟨a,b⟩:=p;show Fl w o (if cA cs (11 * k+4) 4=0 then VX cs k w o else if 0<cA cs (11 * k+5) 3 then fG cs k w a b else fG cs k w (zS w (cA cs (11 * k) (w.length:Int))) (ol cs k o));split;exact⟨u,h,L0 cs k⟩;split
  ·exact v a b hl.1 hl.2
  exact v _ _ u h
theorem zb{e:Evt}(h:Fl w o e):Hk w o (some (O5 e)):=by
 cases e with|see t p m x=>exact⟨h.1,h.2.1⟩|tell t a b m x q=>exact⟨h.2.1,h.2.2.1⟩
theorem RI{α:Type}(xs:List α)(a b:Option Int):(gE xs a b).Sublist xs:=(QBw _ _).trans (List.drop_sublist _ _)
theorem Tb{α:Type}{xs:List α}{b:Int}(y:0<=a)(x:a<=b)(h:b<=xs.length):(gE xs (some a) (some b)).length=(b - a).toNat:=by obtain⟨a,rfl⟩:=qb y;obtain⟨b,rfl⟩:=qb (QAN y x);have x:a<=b:=QA9.mp x;have h:b<=xs.length:=QA9.mp h;unfold gE;rw[HT.sIx_nat,HT.sIx_nat,wj,Wo,WX h,WX (QV x h),WX (Nat.sub_le_sub_right h a),<- Int.ofNat_sub x];rfl
theorem kT{α:Type}{xs:List α}{b:Int}(x:0<=b)(h:b<=xs.length):(gE xs none (some b)).length=b.toNat:=by obtain⟨b,rfl⟩:=qb x;have h:b<=xs.length:=QA9.mp h;unfold gE;rw[HT.sIx_nat,HT.sIx_none,wj,Wo,WX h,QCH,QCH,WX h];rfl
theorem BV{α z:Type}{f:α->List z}{c:Nat}:∀(l:List α),(∀x∈l,(f x).length<=c)->(l.flatMap f).length<=c * l.length
 |[],_=>Qs _|x::l,h=>by have a:=h x QF;have b:=BV l λy u=>h y (QE _ u);rw[We,QI,QM,Nat.mul_add];omega
noncomputable def ec(cs:LJ)(o:LS)(k j:Nat):dC:=if 0<cA cs (950+3 * (k:Int)+(j:Int)) 3 then[gI [(gI o (k:Int) "",gI o (j:Int) ""),(gI o (j:Int) "",gI o (k:Int) "")] (cA cs (960+3 * (k:Int)+(j:Int)) 2) ("","")] else[]
def Xk(cs:LJ)(o:LS)(k:Nat):dC:=(Ql k).flatMap (ec cs o k)
def Xl(cs:LJ)(o:LS):dC:=(Ql o.length).flatMap (Xk cs o)
theorem TX(cs:LJ)(o:LS)(k j:Nat):(ec cs o k j).length<=1:=by unfold ec;split;exact QS _;exact Qs _
theorem AX(cs:LJ)(o:LS)(k:Nat):(Xk cs o k).length<=k:=by have:=BV (Ql k) λj _=>TX cs o k j;rw[Qu]at this;show(List.flatMap _ _).length<=k;omega
theorem Jc(h:o.length<=10):(Xl cs o).length<=100:=by have:=BV (c:=10) (Ql o.length) λk hk=>QV (AX cs o k) (by have:=Q7.mp hk;omega);rw[Qu]at this;show(List.flatMap _ _).length<=100;omega
theorem UQ{α:Type}{l:List α}{k:Nat}{d:α}(h:k<l.length):pE l (k:Int)=some (gI l (k:Int) d)/\gI l (k:Int) d∈l:=zD (QBs k) (by omega)
theorem Uk(h:p∈Xl cs o):p.1∈o/\p.2∈o:=by obtain⟨k,hk,h⟩:=wn.mp h;obtain⟨j,x,h⟩:=wn.mp h;have hk:=Q7.mp hk;have x:=Q7.mp x;have a:=(UQ (d:=("":Str)) hk).2;have b:=(UQ (d:=("":Str)) (show j<o.length by omega)).2;unfold ec at h;split at h;have d:=ZA (cs:=cs) (k:=960+3 * (k:Int)+(j:Int)) (m:=2) (by decide);have g:=(zD (l:=[(gI o (k:Int) ("":Str),gI o (j:Int) ""),(gI o (j:Int) "",gI o (k:Int) "")]) (d:=("","")) d.1 d.2).2;rw[<- QJ.mp h]at g;rcases QL.mp g with g|g;rw[g];exact⟨a,b⟩;rw[QJ.mp g];exact⟨b,a⟩;cases h
noncomputable def DM(cs:LJ)(w:Ps)(o:LS)(s:List Evt×Option (Str×Str))(k:Nat):List Evt×Option (Str×Str):=(s.1++[Ke cs (k:Int) w o s.2],some (O5 (Ke cs (k:Int) w o s.2)))
def gu(cs:LJ)(w:Ps)(o:LS):List Evt:=((Ql cs.length).foldl (DM cs w o) ([],none)).1
theorem Ve{cs:LJ}{w:Ps}{o:LS}(hb:BdOk w o):∀(l:LN) (s:List Evt×Option (Str×Str)),(∀e∈s.1,Fl w o e)->Hk w o s.2->(∀e∈(l.foldl (DM cs w o) s).1,Fl w o e)/\(l.foldl (DM cs w o) s).1.length=s.1.length+l.length
 |[],s,h,_=>⟨h,rfl⟩|k::l,s,h,h2=>by have e:=Kp (cs:=cs) (k:=(k:Int)) hb h2;obtain⟨a,b⟩:=Ve hb l (DM cs w o s k) (λx y=>by rcases Qi.mp y with y|y;exact h x y;rw[QJ.mp y];exact e) (zb e);refine⟨a,b.trans ?_⟩;show(s.1++[_]).length+l.length=s.1.length+(l.length+1);rw[QI];show s.1.length+1+l.length=_;omega
def Ji(cs:LJ)(most:Int):LS:=gE (JC cs) none (some (2+cA cs 906 (most - 1)))
def bV(cs:LJ):LS:=gE (JC cs) (some 6) (some (7+cA cs 907 3))
def u8(cs:LJ):LS:=if cA cs 908 3=0 then gE (JC cs) none (some ((bV cs).length:Int)) else bV cs
def Dr(cs:LJ)(w:Ps)(o:LS):Wd:=⟨w,o,Xl cs o,gu cs w o⟩
def gL(ns:LJ)(most:Int):Wd:=Dr (VB 24 ns) (UP (VB 24 ns) (Ji (VB 24 ns) most)) (u8 (VB 24 ns))
theorem cX(cs:LJ):1<=(bV cs).length/\(bV cs).length<=6:=by have m:=ZA (cs:=cs) (k:=907) (m:=3) (by decide);have n:=(zG cs).2.2;unfold bV;rw[Tb (by decide) (by omega) (by rw[n];omega)];omega
theorem Ed(cs:LJ):(1<=(u8 cs).length/\(u8 cs).length<=6)/\(u8 cs).Sublist (JC cs):=by have n:=(zG cs).2.2;have m:=cX cs;unfold u8;split;rw[kT (by omega) (by rw[n];omega)];exact⟨by omega,RI _ _ _⟩;exact⟨m,RI _ _ _⟩
theorem jf(cs:LJ)(h:2<=most/\most<=10):BdOk (UP cs (Ji cs most)) (u8 cs):=by have n:=zG cs;have d:=ZA (cs:=cs) (k:=906) (m:=most - 1) (by omega);have e:=oO cs (Ji cs most);have l:=congrArg wE e;have c:(Ji cs most).length=(2+cA cs 906 (most - 1)).toNat:=kT (by omega) (by rw[n.2.2];omega);rw[QD,c]at l;have m:=(Ed cs).1;exact⟨by omega,by omega,by rw[e];exact(RI _ _ _).nodup n.1,m.1,by omega⟩
theorem B6(ns:LJ):(VB 24 ns).length<=24:=VM (by decide) ns 0 [] (by decide) (QS _) (λ_=>rfl)
theorem C0(ns:LJ)(h:2<=most/\most<=10):WOk (gL ns most):=by
 have n:=zG (VB 24 ns);have hb:=jf (VB 24 ns) h;have m:=Ed (VB 24 ns);have f:=B6 ns;have y:∀x∈u8 (VB 24 ns),OkS x:=λx j=>n.2.1 x (m.2.mem j);obtain⟨r,v⟩:=Ve (cs:=VB 24 ns) hb (Ql (VB 24 ns).length) ([],none) (λ_ z=>by cases z) trivial;rw[Qu]at v;refine⟨λp u=>?_,Jc hb.ml,hb.pl,hb.nd,λp u=>?_,hb.ml,y,m.2.nodup n.1,?_,λe l=>?_⟩;obtain⟨a,b⟩:=Uk u;exact⟨y _ a,y _ b⟩;have:p.1∈Ji (VB 24 ns) most:=(oO (VB 24 ns) (Ji (VB 24 ns) most))▸QZ.mpr ⟨p,u,rfl⟩;exact n.2.1 _ ((RI _ _ _).mem this);exact QV (wx v) (by show 0+_<=60;omega);have:=r e l;cases e with|see t p m g=>exact this|tell t a b m g q=>exact this
noncomputable def bR(cs:LJ)(most:Int)(nm:LS)(w:Ps)(o:LS)(z o7 o8 y o10 x h:Option Sl):zA:=[bD (.list (cs.map PyData.int)),bD (.int most),bD (.list (nm.map PyData.str)),bD (.list (w.map mH)),bD (.list (o.map PyData.str)),z,o7,o8,y,o10,x,h]
def U7(h:dC):Option Sl:=some (.own (.lst ((h.map pr).map T.d)))
def Kl(es:List Evt):Option Sl:=some (.own (.lst ((es.map jC).map T.d)))
theorem JK(ds:List D):(T.lst (ds.map T.d)).er=.list ds:=by show PyData.list (ersT (ds.map T.d))=_;rw[uB]
theorem Eu{r:PT}{a:D}:CL Ψ E r Z i (.lst [.d a,.d b]) true ρ=cB Ψ E r Z (ρ.set i (bD (.list [a,b]))):=Vq (ds:=[a,b])
end
section
variable{Ψ:PEv}{Z:PEnds}{cs:LJ}{most:Int}{g:LS}{v:Ps}{h:LS}{o7 o8 u o10 w y:Option Sl}
theorem Br(e:Ψ.sp "_law_draw"=YB){x:dC}{k j:Nat}(hk:k<h.length)(b:j<h.length)(o:h.length<=10)(p:x.length<=200)(q:∀u,Z.nx (bR cs most g v h (U7 (x++ec cs h k j)) (bD (.int (k:Int))) (bD (.int (j:Int))) u o10 w y)):pF Ψ tG Z (bR cs most g v h (U7 x) (bD (.int (k:Int))) (bD (.int (j:Int))) u o10 w y):=by
 have i:pE (h.map PyData.str) (k:Int)=some (.str (gI h (k:Int) "")):=by rw[AG,(UQ (d:=("":Str)) hk).1];rfl
 have n:pE (h.map PyData.str) (j:Int)=some (.str (gI h (j:Int) "")):=by rw[AG,(UQ (d:=("":Str)) b).1];rfl
 have d:=ZA (cs:=cs) (k:=960+3 * (k:Int)+(j:Int)) (m:=2) (by decide);have a:IntMulOk 3 (k:Int):=pN.ok (.inl ⟨by decide,by decide⟩);delta bR U7;delta tG;simp_arith[i,n,↓Eu,↓xA (md:=[.xz]) e rfl rfl,↓kN,↓tB,QD];refine⟨by omega,by omega,by omega,a,by omega,by omega,?_⟩;by_cases c:0<cA cs (950+3 * (k:Int)+(j:Int)) 3;rw[show ec cs h k j=_ from if_pos c]at q;rw[if_pos (dT c)];refine⟨a,by omega,by omega,iC (f:=pr) (l:=[(gI h (k:Int) ("":Str),gI h (j:Int) ""),(gI h (j:Int) "",gI h (k:Int) "")]) ("","") d.1 d.2 ⟨by omega,?_⟩⟩;have q:=q (bD (.list [pr (gI h (k:Int) ("":Str),gI h (j:Int) ""),pr (gI h (j:Int) ("":Str),gI h (k:Int) "")]));unfold U7 at q;rw[QO,QO]at q;exact q;rw[show ec cs h k j=_ from if_neg c,qA]at q;rw[if_neg (λz=>c (of_decide_eq_true z))];exact q _
theorem Ur(s:Ψ.sp "_law_draw"=YB){z:dC}{k:Nat}(hk:k<h.length)(m:h.length<=10)(Y:z.length<=100)(q:∀o8 u,Z.nx (bR cs most g v h (U7 (z++Xk cs h k)) (bD (.int (k:Int))) o8 u o10 w y)):pF Ψ sG Z (bR cs most g v h (U7 z) (bD (.int (k:Int))) o8 u o10 w y):=by
 delta bR U7;delta sG;simp_arith[qQ];refine⟨by omega,by omega,?_⟩;refine jB (λ(i:Nat)=>T.d (.int (i:Int))) (λr b=>∃a o8 u,a++r.flatMap (ec cs h k)=z++Xk cs h k/\(a.length+r.length<=200/\∀j∈r,j<h.length)/\b=bR cs most g v h (U7 a) (bD (.int (k:Int))) o8 u o10 w y) ?_ ?_ _ _ ⟨z,o8,u,rfl,⟨by rw[Qu];omega,λj o=>by have:=Q7.mp o;omega⟩,rfl⟩;rintro b ⟨a,o8,u,e,_,rfl⟩;have e:a=z++Xk cs h k:=by rw[<- e];exact(qA _).symm
 subst e;delta bR;simp_arith[↓vA];exact q _ _;rintro j r b N p ⟨a,o8,u,e,⟨l,f⟩,rfl⟩;have l:a.length+(r.length+1)<=200:=l;have X:=TX cs h k j;refine Br s hk (f j QF) m (by omega) λu=>p _ ⟨a++ec cs h k j,_,u,?_,⟨by rw[QI];omega,λx n=>f x (QE _ n)⟩,rfl⟩;rw[Qz];exact e
theorem Xr(i:Ψ.sp "_law_event"=JH){z:Option Sl}{k:Nat}{es:List Evt}{x:Option (Str×Str)}(hk:k<=100)(hb:BdOk v h)(l:es.length<=100)(q:∀y,Z.nx (bR cs most g v h z (bD (.int (k:Int))) o8 u (Kl (es++[Ke cs (k:Int) v h x])) (bD (c8 (some (O5 (Ke cs (k:Int) v h x))))) y)):pF Ψ rG Z (bR cs most g v h z (bD (.int (k:Int))) o8 u (Kl es) (bD (c8 x)) y):=by
 delta bR Kl;delta rG;simp?[↓xA (md:=[]) i rfl rfl];refine k9 ⟨by omega,by omega⟩ hb ?_;generalize Ke cs (k:Int) v h x=e at *;simp_arith[↓xR,QD];refine⟨by omega,?_⟩;have q:=λo=>q o;unfold Kl at q;rw[QO,QO]at q;cases e with|see t p m f=>simp_arith[↓xR,SZ,↓Gc,↓V0];refine⟨by omega,YM (show decide ((QR "see")=(QR "tell"))≠true by decide) ?_⟩;exact q _|tell t a b m f j=>simp_arith[↓xR,SZ,↓Z0,↓Y0,↓i0];exact⟨by omega,by omega,q _⟩
theorem Hc(W:Ψ.sp "_law_draw"=YB)(Y:Ψ.sp "_law_event"=JH){Q:T->LT->Prop}(K:cs.length<=100)(hb:BdOk v h)(q:Q (.d (wD (Dr cs v h))) []):pF Ψ sF (eZ Q) (bR cs most g v h none none none none none none none):=by
 have s:=hb.ml;delta bR;delta sF;simp_arith[QD,qQ];refine⟨by omega,by omega,by omega,?_⟩;refine jB (λ(i:Nat)=>T.d (.int (i:Int))) (λr b=>∃a o7 o8 u,a++r.flatMap (Xk cs h)=Xl cs h/\(a.length+10 * r.length<=100/\∀j∈r,j<h.length)/\b=bR cs most g v h (U7 a) o7 o8 u none none none) ?_ ?_ _ _ ⟨[],none,none,none,rfl,⟨by rw[Qu];show 0+_<=100;omega,λj o=>Q7.mp o⟩,rfl⟩;rintro b ⟨a,o7,o8,u,e,_,rfl⟩;have e:a=Xl cs h:=by rw[<- e];exact(qA _).symm
 subst e;delta bR;simp_arith[QD,qQ];refine⟨by omega,by omega,by omega,?_⟩;refine jB (λ(i:Nat)=>T.d (.int (i:Int))) (λr b=>∃z m o7 y,(r.foldl (DM cs v h) (z,m)).1=gu cs v h/\(z.length+r.length<=100/\∀j∈r,j<=100)/\b=bR cs most g v h (U7 (Xl cs h)) o7 o8 u (Kl z) (bD (c8 m)) y) ?_ ?_ _ _ ⟨[],none,_,_,rfl,⟨by rw[Qu];show 0+_<=100;omega,λj o=>by have:=Q7.mp o;omega⟩,rfl⟩;rintro b ⟨z,m,o7,y,e,_,rfl⟩;have e:z=gu cs v h:=e;subst e;delta bR U7 Kl;simp_arith[↓vA];rw[JK,JK];exact⟨by omega,q⟩;rintro j r b N p ⟨z,m,o7,y,e,⟨l,f⟩,rfl⟩;have l:z.length+(r.length+1)<=100:=l;refine Xr Y (f j QF) hb (by omega) λy=>p _ ⟨_,_,_,y,e,⟨?_,λx n=>f x (QE _ n)⟩,rfl⟩;rw[QI];show z.length+1+r.length<=100;omega;rintro k r b N p ⟨a,o7,o8,u,e,⟨l,f⟩,rfl⟩;have l:a.length+10 * (r.length+1)<=100:=l;have X:=f k QF;have A:=AX cs h k;refine Ur W X s (by omega) λo8 u=>p _ ⟨a++Xk cs h k,_,o8,u,?_,⟨by rw[QI];omega,λx n=>f x (QE _ n)⟩,rfl⟩;rw[Qz];exact e
end
section
variable{K:T->LT->Prop}{E:XE}{Ψ:PEv}{ρ:zA}{i:Nat}{n m:Bool}{R:T->Prop}{y:LN}{st:List Stp}{f:Nat->Nat}{s:Stp}
noncomputable def AB:PSp where
 md:=[.xz]
 run:=λv Q _=>∃(u:LJ) (x:Int),v=[.lst ((u.map PyData.int).map T.d),.d (.int x)]/\(2<=x/\x<=10)/\Q (.d (wD (gL u x))) []
 mono:=λh _ z=>by obtain⟨u,x,e,a,q⟩:=z;exact⟨u,x,e,a,h _ _ q⟩
theorem bO{ns:LJ}{most:Int}(h:2<=most/\most<=10)(q:K (.d (wD (gL ns most))) []):aB AB [.lst ((ns.map PyData.int).map T.d),.d (.int most)] K E:=⟨ns,most,rfl,h,q⟩
theorem U4(v:Ψ.sp "_law_draw"=YB)(w:Ψ.sp "_law_event"=JH)(g:Ψ.sp "_law_folded"=tE)(b:Ψ.sp "_law_names"=NF)(a:Ψ.sp "_law_people"=VL)(ds Q E)(h:AB.run ds Q E):kH Ψ EJ AB kP TL ds Q:=by obtain⟨u,x,rfl,k,q⟩:=h;have fl:=B6 u;refine gA [some (.ky (.lst ((u.map PyData.int).map T.d))),bD (.int x),none,none,none,none,none,none,none,none,none,none] rfl rfl rfl ?_;delta EJ;simp_arith[↓xA (md:=[.xz]) g rfl rfl];refine JU (by decide) ?_;have q:Q (.d (wD (Dr (VB 24 u) (UP (VB 24 u) (Ji (VB 24 u) x)) (u8 (VB 24 u))))) []:=q;generalize VB 24 u=cs at *;have j:=(zG cs).2.2;have hb:=jf cs k;have l:=cX cs;simp_arith[↓xA (md:=[]) b rfl rfl];refine sY ?_;simp?[↓xA (md:=[]) a rfl rfl,↓nN,↓ju,↓VY,↓xA (md:=[.xz]) v rfl rfl,↓kN,↓tB,kL];refine⟨by omega,j9 (QV ((RI _ _ _).length_le) (by omega)) ?_⟩;simp_arith[↓nN,↓yu,↓Jp,↓VY,↓Ad,↓xA (md:=[.xz]) v rfl rfl,↓kN,↓tB,kL,QD];by_cases c:cA cs 908 3=0;rw[if_pos (dT c)];have e:u8 cs=gE (JC cs) none (some ((bV cs).length:Int)):=if_pos c;rw[e]at q hb;exact Hc v w (by omega) hb q;rw[if_neg (λz=>c (of_decide_eq_true z))];have e:u8 cs=bV cs:=if_neg c;rw[e]at q hb;exact Hc v w (by omega) hb q
theorem sj(es:List Evt):(Ql es.length).map (pA es)=es:=by apply qP;intro i;rw[QT];by_cases h:i<es.length;rw[ql h];show some ((es[i]?).getD _)=_;rw[Qf h];rfl;rw[Qe (by rw[Qu];omega),Qe (by omega)];rfl
theorem Po(es:List Evt)(t:Int):(kpL es t).map (pA es)=es.filter λe=>decide (oR e<=t):=by
 have e:es.filter (λe=>decide (oR e<=t))=((Ql es.length).map (pA es)).filter λe=>decide (oR e<=t):=by rw[sj]
 rw[e,QBA];rfl
noncomputable def Tk(w:Wd):T:=.tup [.lst ((w.ps.map mH).map T.d),.lst ((w.ms.map PyData.str).map T.d),.lst ((w.ag.map pr).map T.d),.lst ((w.es.map jC).map T.d)]
theorem N6(w:Wd):(Tk w).er=wD w:=by show PyData.tuple [(T.lst _).er,(T.lst _).er,(T.lst _).er,(T.lst _).er]=_;rw[JK,JK,JK,JK];rfl
noncomputable def rE:PSp where
 md:=[]
 run:=λx Q _=>∃(w:Wd) (t:Int),x=[.d (wD w),.d (.int t)]/\WOk w/\Q (Tk (wT w t)) []
 mono:=λh _ z=>by obtain⟨w,t,e,a,q⟩:=z;exact⟨w,t,e,a,h _ _ q⟩
theorem pY{w:Wd}{t:Int}(h:WOk w)(q:K (Tk (wT w t)) []):aB rE [.d (wD w),.d (.int t)] K E:=⟨w,t,rfl,h,q⟩
theorem bv{K:TK}:pB Ψ (.mv i) E ρ K=rC ρ[i]? λt=>K t true (ρ.set i none):=rfl
theorem Zg{e:Evt}:FA (.d (jC e)) n (.d (.int 1)) m R=R (.d (.int (oR e))):=by
 cases e with|see t p h w=>exact MA (i:=1) rfl|tell t a b h w q=>exact MA (i:=1) rfl
theorem Jo{a b c d:LT}:AD [.lst a,.lst b,.lst c,.lst d]=.tup [.lst a,.lst b,.lst c,.lst d]:=rfl
theorem B4(ds Q E)(h:rE.run ds Q E):kH Ψ lF rE bJ uH ds Q:=by obtain⟨w,t,rfl,z,q⟩:=h;have v:=z.el;refine gA [bD (wD w),bD (.int t),none] rfl rfl rfl ?_;delta lF;simp_arith[↓bP];rw[<- nA jC];refine fA (λe=>T.d (jC e)) (λe=>T.d (jC e)) (λe=>decide (oR e<=t)) w.es [] _ (λe u R x=>?_) (by show 0+w.es.length<=_;omega) ?_;simp_arith[↓Zg];split at x;rename_i c;rw[if_pos c];exact x;rename_i c;rw[if_neg c];exact x;rw[Qh,nA jC,<- Po];simp_arith[↓bv,↓fU,↓o0,↓Yg,↓Jo];exact⟨by omega,q⟩
noncomputable def Rq(f:Nat->Nat)(s:Stp):T:=.tup [.d (nD (f s.1)),.d (.bool s.2.1),.lst (((s.2.2.1.map f).map nD).map T.d),.d (.list (s.2.2.2.map pr))]
theorem Bp(f:Nat->Nat)(s:Stp):(Rq f s).er=cU (ao f s):=by show PyData.tuple [nD (f s.1),.bool s.2.1,(T.lst _).er,.list (s.2.2.2.map pr)]=_;rw[JK];rfl
def lq(k:Nat)(s:Stp):Prop:=s.1<k/\s.2.2.1.length<=100/\∀x∈s.2.2.1,x<k
def Su(y:LN)(f:Nat->Nat):Prop:=∀n,n<y.length->y[n]?=some (f n)
noncomputable def MD:PSp where
 md:=[]
 run:=λx Q _=>∃(y:LN) (st:List Stp) (f:Nat->Nat),x=[.d (.list (y.map nD)),.d (.list (st.map cU))]/\(st.length<=100/\∀s∈st,lq y.length s)/\Su y f/\Q (.lst (st.map (Rq f))) []
 mono:=λh _ z=>by obtain⟨y,st,f,e,a,b,q⟩:=z;exact⟨y,st,f,e,a,b,h _ _ q⟩
theorem y3(a:st.length<=100)(b:∀s∈st,lq y.length s)(c:Su y f)(q:K (.lst (st.map (Rq f))) []):aB MD [.d (.list (y.map nD)),.d (.list (st.map cU))] K E:=⟨y,st,f,rfl,⟨a,b⟩,c,q⟩
theorem Al{v:Nat}(h:y[i]?=some v):FA (.d (.list (y.map nD))) n (.d (nD i)) m R=R (.d (nD v)):=by
 have e:(y.map nD)[i]?=some (nD v):=by rw[QT,h];rfl
 rw[show nD i=.int (i:Int) from rfl,t8,show pE (y.map nD) (i:Int)=some (nD v) from yE e,CB]
theorem dv{j k l:Nat}{P:zA->Prop}:OX (.tp [i,j,k,l]) (.d (cU s)) ρ P=P ((((ρ.set i (bD (nD s.1))).set j (bD (.bool s.2.1))).set k (bD (.list (s.2.2.1.map nD)))).set l (bD (.list (s.2.2.2.map pr)))):=CB
theorem Yo{a b c:D}{l:LT}:AD [.d a,.d b,.lst l,.d c]=.tup [.d a,.d b,.lst l,.d c]:=rfl
noncomputable def Aj(y:LN)(st:List Stp)(f:Nat->Nat)(l:List Stp)(o3 o4 o5 o6:Option Sl):zA:=[bD (.list (y.map nD)),bD (.list (st.map cU)),oW (.lst (l.map (Rq f))),o3,o4,o5,o6]
theorem iu{Z:PEnds}{l:List Stp}(h:Su y f)(x:lq y.length s)(hl:l.length<=1000)(q:Z.nx (Aj y st f (l++[s]) (bD (nD s.1)) (bD (.bool s.2.1)) (bD (.list (s.2.2.1.map nD))) (bD (.list (s.2.2.2.map pr))))):pF Ψ SH Z (Aj y st f l (bD (nD s.1)) (bD (.bool s.2.1)) (bD (.list (s.2.2.1.map nD))) (bD (.list (s.2.2.2.map pr)))):=by
 obtain⟨w,k,v⟩:=x;unfold Aj at q;rw[QO]at q;delta Aj;delta SH;simp_arith[↓Al (h _ w)];rw[<- nA nD];refine JB (λn=>T.d (nD n)) (λn=>T.d (nD (f n))) s.2.2.1 [] _ (λn z R u=>?_) (by show 0+_<=_;omega) ?_;simp_arith[↓Al (h n (v n z))];exact u;rw[Qh,nA λn=>nD (f n)];have e:s.2.2.1.map (λn=>nD (f n))=(s.2.2.1.map f).map nD:=by rw[QY];rfl
 rw[e];simp_arith[↓Yo];rw[QD];exact⟨by omega,by omega,q⟩
theorem Ka(ds Q E)(h:MD.run ds Q E):kH Ψ EM MD IT mO ds Q:=by obtain⟨y,st,f,rfl,⟨a,b⟩,c,q⟩:=h;refine gA [bD (.list (y.map nD)),bD (.list (st.map cU)),none,none,none,none,none] rfl rfl rfl ?_;delta EM;simp_arith[↓vA];refine⟨by omega,?_⟩;rw[<- nA cU];refine jB (λs=>T.d (cU s)) (λr ρ=>∃l v u z x,l++r=st/\ρ=Aj y st f l v u z x) ?_ ?_ _ _ ⟨[],none,none,none,none,rfl,rfl⟩;rintro ρ ⟨l,v,u,z,x,e,rfl⟩;rw[qA]at e;subst e;delta Aj;simp_arith[↓vA];exact q;rintro s r ρ N w ⟨l,v,u,z,x,e,rfl⟩;have hl:=congrArg wE e;rw[QI]at hl;delta Aj;rw[Tj,dv];exact iu c (b s (e▸Qb _ QF)) (by omega) (w _ ⟨l++[s],_,_,_,_,by rw[Qz];exact e,rfl⟩)
theorem Ec{w:Wd}(u:WOk w):∀(ns:LN) (g:Gs),GsOk w g->g.past.length+ns.length<=60->(∀n∈ns,n<w.es.length)->∀s∈A1 w g ns,lq w.es.length s/\lW s.2.2.2
 |[],_,_,_,_,s,h=>by cases h|n::r,g,hg,hl,hn,s,h=>by have a:=hn n QF;have v:=VQ u hg a;have hl:g.past.length+(r.length+1)<=60:=hl;have e:(xC w g n).past.length=g.past.length+1:=QI;rcases QL.mp h with rfl|h;have b:=KL (vG w.es (nR w g n) (CK w (g.past++[n])));have fl:(vG w.es (nR w g n) (CK w (g.past++[n]))).length<=(nR w g n).length:=Q3 _ _;have k:=v.tl;refine⟨⟨a,?_,λx z=>(v.t x (Qa.mp (b.mem_iff.mp z)).1).1⟩,sX u _ _⟩;have k:(nR w g n).length<=(xC w g n).past.length:=k;show(b8 w g n).length<=100;unfold b8;rw[b.length_eq];omega;exact Ec u r _ v (by omega) (λx z=>hn x (QE _ z)) s h
theorem T1{w:Wd}:∀(ns:LN) (g:Gs),(A1 w g ns).length=ns.length
 |[],_=>rfl|n::r,g=>congrArg (·+1) (T1 r _)
theorem Co(h:lW s.2.2.2):YO 3 (cU s):=hV (NC mV (NC ⟨rfl,Qs _⟩ (NC (fX (lV (n:=0) (gS λa _=>mV)) (by decide)) (NC (lV (n:=1) (gS λp x=>ye (h p x))) kZ))))
end
section
variable{Ψ:PEv}{Z:PEnds}{E:XE}{ρ:zA}{w:Wd}{L:Bool->Prop}{n:Bool}{Q:T->Bool->Prop}{ds:List D}
theorem J6{c:PX}{a r:PT}{i:Nat}{t:T}{d:D}(x:zA)(y:ρ[i]?=some (oW t))(z:t.er=d)(e:lockA (ρ.set i (bD d))=x)(h:sN Ψ c (λ_=>False) x λb _=>b=false/\cB Ψ E r Z ρ):cB Ψ E (.seq (.hs (.ife c a .nil)) r) Z ρ:=.inl ⟨i,t,c,a,rfl,y,by rw[z,e];exact h⟩
theorem xx{x:Str}:xj (.bty x "tuple") (.d (wD w)) L=L true:=Vt rfl rfl
theorem zx:rJ .len [(.d (wD w),n)] Q=Q (.d (.int 4)) false:=Ki
theorem Es:rJ .list [(.d (wD w),n)] Q=Q (.lst [.d (.list (w.ps.map mH)),.d (.list (w.ms.map PyData.str)),.d (.list (w.ag.map pr)),.d (.list (w.es.map jC))]) true:=Z5
theorem n5(h:vF (.tuple ds))(q:L false):bT .NotEq (.tuple ds) (.tuple ds) L:=⟨h,h,by rw[QBI _ h.1];exact q⟩
theorem Pp{ts:LT}(h:ersT ts=ds)(o:vF (.list ds))(q:L false):iB .NotEq (.lst ts) (.d (.list ds)) L:=by subst h;exact t5 o q
theorem ou{ts us:LT}(h:ersT ts=ds)(x:ersT us=ds)(o:vF (.list ds))(q:L false):iB .NotEq (.lst ts) (rA (.lst us) true) L:=by subst x;exact Pp h o q
theorem Fe(h:WOk w)(q:L false):iB .NotEq (.d (wD w)) (.d (wD w)) L:=n5 (Gd h) q
end
def Dm(w:Wd)(ns:LN):D:=.list ((XF w ns).steps.map cU)
def U8(w:Wd):LJ:=w.es.map oR++[0,7,101]
noncomputable def lS(h:LJ)(w:Wd)(ns:LN)(o4 o5 o6 o7 o8:Option Sl):zA:=[some (.ky (.lst ((h.map PyData.int).map T.d))),bD (wD w),bD (Dm w ns),bD (.list ((U8 w).map PyData.int)),o4,o5,o6,o7,o8]
def fq(h:LJ)(w:Wd):Prop:=∀{K:T->LT->Prop}{E:XE},K (.d (wD w)) []->aB AB [.lst ((h.map PyData.int).map T.d),.d (.int 6)] K E
def f8(w:Wd)(t:Int):Option Sl:=bD (.list ((kpL w.es t).map nD))
section
variable{Ψ:PEv}{Z:PEnds}{is:LJ}{w:Wd}{ns:LN}{t:Int}{o4 o5 o8:Option Sl}
theorem Go(f:Ψ.sp "_law_world"=AB){o6:Option Sl}(y:WOk w)(b:fq is w)(q:Z.nx (lS is w ns o4 o5 o6 none none)):pF Ψ DT Z (lS is w ns o4 o5 o6 (some (.own (Tk (wT w t)))) o8):=by
 have i:=(U0 (t:=t) y).el;have k:=y.pl;have a:=y.ml;have g:=y.al;refine .inr ⟨7,8,_,rfl,by show 8<9;omega,rfl,⟨by show 4<=100;omega,λu x=>?_⟩,?_⟩;have one:∀z:List D,z.length<=1000->u=.lst (z.map T.d)->∃v,u=T.lst v/\v.length<=1000:=λz h e=>⟨_,e,by rw[QD];exact h⟩
 rcases QL.mp x with e|x;exact one _ (by rw[QD];exact QV k (by omega)) e;rcases QL.mp x with e|x;exact one _ (by rw[QD];exact QV a (by omega)) e;rcases QL.mp x with e|x;exact one _ (by rw[QD];exact QV g (by omega)) e;exact one _ (by rw[QD];omega) (QJ.mp x);show pF Ψ %[.ife (.cmp .NotEq (.vz 1) (.call "_law_world" %[.vz 0,.int 6|1])) %[.ret (.bl false)|2] .nil|2] Z (lS is w ns o4 o5 o6 none none);delta lS;simp_arith[↓xA (md:=[.xz]) f rfl rfl];refine b ?_;simp_arith[↓vA];exact Fe y q
theorem Ho(o:Ψ.sp "_law_world"=AB)(m:Ψ.sp "gone"=LD)(l:Ψ.sp "_law_back"=MD)(k:WOk w)(j:fq is w)(v:vK w ns)(q:Z.nx (lS is w ns o4 o5 (f8 w t) none none)):pF Ψ SM Z (lS is w ns o4 o5 (f8 w t) (oW (Tk (wT w t))) o8):=by
 have r:=Go (Ψ:=Ψ) (o8:=o8) (t:=t) o k j q;delta SM;have x:=U0 (t:=t) k;have Y:=x.el;refine J6 (i:=7) (lS is w ns (uC o4) (uC o5) (f8 w t) (bD (wD (wT w t))) (uC o8)) rfl (N6 _) rfl ?_;delta lS f8 Dm;simp_arith[↓xA (md:=[]) m rfl rfl,↓xA (md:=[]) l rfl rfl];refine GR x λh y=>?_;have X:=j5 y;have e:=M1 v y;have g:(wT w t).es.length=(kpL w.es t).length:=QD _;have a:∀s∈(XF (wT w t) h).steps,lq (kpL w.es t).length s/\lW s.2.2.2:=by rw[jL,<- g];exact Ec x h g0 (bx _) (by show 0+_<=_;omega) (xX y)
 have b:(XF (wT w t) h).steps.length<=100:=by rw[jL,T1];omega
 simp_arith[↓vA];refine y3 (f:=iS w.es t) b (λs u=>(a s u).1) (λn v=>KO v) ?_;simp_arith[↓nN,↓Jp,↓VY];rw[kL];have p:gE (XF w ns).steps none (some (((kpL w.es t).map nD).length:Int))=(XF w ns).steps.take (kpL w.es t).length:=by unfold gE;rw[HT.sIx_nat,HT.sIx_none,QD,List.drop_zero,QCH,<- List.take_eq_take_min]
 rw[p,<- e];refine Pp ?_ (ze (n:=4) (lV (gS λs u=>?_)) (by decide)) ⟨rfl,r⟩;rw[zL,QY,QY];exact qm λs _=>Bp _ s;obtain⟨s,z,rfl⟩:=QZ.mp u;exact Co (a s z).2
theorem Lo(u:Ψ.sp "_law_world"=AB)(a:Ψ.sp "gone"=LD)(k:Ψ.sp "_law_back"=MD)(x:WOk w)(z:fq is w)(y:vK w ns)(q:Z.nx (lS is w ns o4 o5 (f8 w t) none none)):pF Ψ TM Z (lS is w ns o4 o5 (f8 w t) (oW (Tk (wT w t))) o8):=by
 have r:=Ho (Ψ:=Ψ) (o8:=o8) (t:=t) u a k x z y q;delta TM;have h:=U0 (t:=t) x;have b:(wT w t).es.length=(kpL w.es t).length:=QD _;have f:=h.el;refine J6 (i:=7) (lS is w ns (uC o4) (uC o5) (f8 w t) (bD (wD (wT w t))) (uC o8)) rfl (N6 _) rfl ?_;delta lS f8;simp_arith[↓Zc,↓C7,↓gq,↓xx,↓zx,↓xA (md:=[.xz]) u rfl rfl];refine z ?_;simp_arith[↓vA];refine Fe x ⟨rfl,?_⟩;refine J6 (i:=7) (lS is w ns (uC o4) (uC o5) (f8 w t) (bD (wD (wT w t))) (uC o8)) rfl (N6 _) rfl ?_;delta lS f8;simp_arith[↓Es,↓fU,↓o0,↓Yg];rw[<- nA nD];refine JB (λn=>T.d (nD n)) (λn=>T.d (jC (pA w.es n))) (kpL w.es t) [] _ (λn y R v=>?_) (by show 0+_<=_;omega) ?_;simp_arith[↓bP,↓uR (T5 y)];exact v;rw[Qh,nA λn=>jC (pA w.es n)];have e:(kpL w.es t).map (λn=>jC (pA w.es n))=(wT w t).es.map jC:=by show _=((kpL w.es t).map (pA w.es)).map jC;rw[QY];rfl
 rw[e];simp_arith[↓vA];refine⟨by omega,?_⟩;have o:=Gd h;exact ou (ds:=[.list (w.ps.map mH),.list (w.ms.map PyData.str),.list (w.ag.map pr),.list ((wT w t).es.map jC)]) rfl (by show[_,_,_,(T.lst (((wT w t).es.map jC).map T.d)).er]=_;rw[JK];rfl) ⟨o.1,o.2⟩ ⟨rfl,r⟩
theorem gt(g:Ψ.sp "_law_draw"=YB)(b:Ψ.sp "_law_world"=AB)(a:Ψ.sp "gone"=LD)(v:Ψ.sp "_law_back"=MD)(u:Ψ.sp "until_time"=rE){k:Nat}{o6 o7:Option Sl}(x:WOk w)(z:fq is w)(y:vK w ns)(hk:k<3)(q:∀o5 o6,Z.nx (lS is w ns (bD (.int (k:Int))) o5 o6 none none)):pF Ψ MQ Z (lS is w ns (bD (.int (k:Int))) o5 o6 o7 o8):=by
 have o:=x.el;have j:(U8 w).length=w.es.length+3:=by unfold U8;rw[QI,QD];rfl
 have d:=ZA (cs:=is) (k:=980+(k:Int)) (m:=((U8 w).length:Int)) (by omega);delta lS;delta MQ;simp_arith[↓xA (md:=[.xz]) g rfl rfl,↓tB,QD];refine⟨by omega,by omega,by omega,iC (f:=PyData.int) (l:=U8 w) 0 d.1 d.2 ?_⟩;generalize gI (U8 w) (cA is (980+(k:Int)) ((U8 w).length:Int)) 0=t;simp_arith[↓bP];have e:((w.es.map jC).zipIdx.map λp=>T.d (.tuple [.int (p.2:Int),p.1]))=(Ql w.es.length).map λn=>T.d (.tuple [nD n,jC (pA w.es n)]):=by apply qP;intro i;rw[QT,QT,QBG,QT,WH];by_cases c:i<w.es.length;rw[ql c,Qf c];show some (T.d (.tuple [.int (i:Int),jC w.es[i]]))=some (T.d (.tuple [nD i,jC (pA w.es i)]));unfold pA;rw[Qf c];rfl;rw[Qe (wk c),Qe (by rw[Qu];omega)];rfl
 rw[e];refine fA (λn=>T.d (.tuple [nD n,jC (pA w.es n)])) (λn=>T.d (nD n)) (U1 w.es t) (Ql w.es.length) [] _ (λn y R h=>?_) (by rw[Qu];show 0+_<=_;omega) ?_;simp_arith[↓Bk,↓Zg];unfold U1 at h;split at h;rename_i c;rw[if_pos c];exact h;rename_i c;rw[if_neg c];exact h;rw[Qh,nA nD];simp_arith[↓xA (md:=[]) u rfl rfl];refine pY x ?_;simp_arith[↓vA];exact Lo b a v x z y (q _ _)
end
theorem ki{Ψ:PEv}(W:Ψ.sp "_law_draw"=YB)(m:Ψ.sp "_law_world"=AB)(l:Ψ.sp "gone"=LD)(Z:Ψ.sp "_law_back"=MD)(Y:Ψ.sp "until_time"=rE)(ds Q E)(h:CP.run ds Q E):kH Ψ J7 CP Tf C3 ds Q:=by
 obtain⟨y,hl,hb,rfl,q⟩:=h;refine gA [some (.ky (.lst ((y.map PyData.int).map T.d))),none,none,none,none,none,none,none,none] rfl rfl rfl ?_;have g:=C0 y (most:=6) (by decide);delta J7;simp_arith[↓xA (md:=[.xz]) m rfl rfl];refine bO (by decide) ?_;have X:fq y (gL y 6):=λq=>bO (by decide) q;generalize gL y 6=w at *;have A:=g.el;simp_arith[↓xA (md:=[]) l rfl rfl];refine GR g λn j=>?_;simp_arith[↓bP];rw[<- nA jC];refine JB (λe=>T.d (jC e)) (λe=>T.d (.int (oR e))) w.es [] _ (λe K R p=>?_) (by show 0+_<=_;omega) ?_;simp_arith[↓Zg];exact p;rw[Qh,nA λe=>PyData.int (oR e)];refine⟨by omega,?_⟩;show GF .Add (.lst ((w.es.map λe=>PyData.int (oR e)).map T.d)) _ (.lst (([PyData.int 0,.int 7,.int 101]:List D).map T.d)) _ _;rw[Ck];have e:(w.es.map λe=>PyData.int (oR e))++[PyData.int 0,.int 7,.int 101]=(U8 w).map PyData.int:=by unfold U8;rw[QO,QY];rfl
 rw[e];refine⟨by rw[QD];show _+3<=_;omega,?_⟩;simp_arith[↓vA];refine jB (λ(i:Nat)=>T.d (.int (i:Int))) (λr v=>∃f u z b a,(∀k∈r,k<3)/\v=lS y w n f u z b a) ?_ ?_ _ _ ⟨none,none,none,none,none,λk hk=>Q7.mp hk,rfl⟩;rintro v ⟨f,u,z,b,a,_,rfl⟩;delta lS;simp_arith[↓vA];exact q;rintro k r v N s ⟨f,u,z,b,a,hk,rfl⟩;exact gt W m l Z Y g X j (hk k QF) λu z=>s _ ⟨_,u,z,none,none,λx o=>hk x (QE _ o),rfl⟩
end L2.L3.K34
namespace L2.L3
open PySem PySem.Spec PyProof.Rows L2.L3.Q
section
variable{K:QA}{x:Str}{st:Stmt}
theorem XV{h:Heap}:∀(y:List Addr),(kr y h).In h
 |[],a,o,e=>nomatch e
 |b::y,a,o,e=>by
  unfold kr at e;rw[WG]at e;cases c:h.get? b with
  |none=>rw[c]at e;exact XV y a o e|some z =>
   rw[c]at e;have e:QCR a ((b,z)::kr y h)=some o:=e;rw[wl]at e;cases d:a==b with|true=>rw[d]at e;cases e;rw[beq_iff_eq.mp d];exact c|false=>rw[d]at e;exact XV y a o e
theorem pj{q:Str}{f:Addr}{y:FuncData}{w:Value}{v:Option Addr}{z:Array (Option Value)}(hl:K.lookup f=some ⟨w,v,.func y,z⟩)(h:Zl y (Wi K y.code q&&wJ K (.ref f))=Zl (qr x q (vD st) (nC st) (HA st) .none .none .none .none none .none .none) true):∃y,Fun K x q st f y:=by obtain⟨Y,X,s,r,p,o,n,m,l,j,i,g,e,b,a⟩:=y;unfold Zl at h;injection h with h1 h2;injection h2 with h2 h3;injection h1 with b1 h1;injection h1 with b2 h1;injection h1 with b3 h1;injection h1 with b4 b5;injection h2 with c1 h2;injection h2 with c2 h2;injection h2 with c3 c4;obtain⟨u,k⟩:=Ww.mp h3;simp only at b1 b2 b3 b4 b5 c1 c2 c3 c4 u;subst b1 b2 b3 b4 b5 c1 c2 c3 c4;exact⟨_,rj hl u k⟩
theorem C2(h:UV K x=RS x st)(y:(RS x st).isSome=true):yY K x st:=by
 have z:RS x st=some (Zl (qr x x (vD st) (nC st) (HA st) .none .none .none .none none .none .none) true):=by cases st<;>first|rfl|cases y
 rw[z]at h;unfold UV at h;split at h;rename_i f hf;split at h;rename_i hl;obtain⟨u,F⟩:=pj hl (Qm h);exact⟨f,u,hf,F⟩;cases h;cases h
theorem T8(h:SU K x=true):qq K mainGlobals x=some none:=by unfold SU at h;split at h;assumption;cases h
theorem B2{i:Int}(h:Dg K x=some i):yN K x (.int i):=by
 unfold Dg at h;split at h;rename_i u hu;cases u with|int j t=>cases h;exact⟨_,_,hu,rfl,λ_=>.int i⟩|_=>cases h
 cases h
theorem sR:∀{us:LW}{xs:LS},us.map Fm=xs.map some->us.map jN=xs.map λy=>some (.str y)
 |[],[],_=>rfl|[],_::_,h=>by cases h|_::_,[],h=>by cases h|u::us,x::xs,h=>by
  injection h with h1 h2;rw[QW,QW,sR h2];cases u with|str z t=>cases h1;rfl|_=>cases h1
theorem nY{xs:LS}(h:Hg K x=some (xs.map some))(y:xs.length<=sizeLine):yN K x (.tuple (xs.map PyData.str)):=by unfold Hg at h;split at h;rename_i f hf;split at h;rename_i t od its n osl hl;split at h;rename_i et;subst et;injection h with h;exact R0 (its:=its.toList) hf (by simpa using hl) (sR h) y;cases h;cases h;cases h
theorem go_of(e:seen K=due):cG K tA=true:=(QAE (QAE (QAE (QAE e).2).2).2).2
end
section
variable{K:QA}{h:Heap}{mg:Str->Option Value}{T:Addr}
theorem HS(e:cG K T=true)(X:K.In h)(G:h.Ns mainGlobals mg):(∃f k w v z c,mg "going_order"=some (.ref f)/\K.lookup f=some ⟨k,w,.func v,z⟩/\v.code=.ref c/\QAo K c T=true)/\(∀y:Heap,K.In y->y.BuiltinsAt mg T)/\K.lookup T=none/\mainGlobals≠T:=by
 obtain⟨u,e⟩:=yA e;obtain⟨x,e⟩:=yA e;obtain⟨g,a⟩:=yA e;refine⟨?_,?_,QAX.mp g,bne_iff_ne.mp a⟩;split at u
 ·rename_i f hf
  split at u;rename_i k w v z hl;split at u;rename_i c hc;exact⟨f,k,w,v,z,c,WV X G hf,hl,hc,u⟩;cases u;cases u
 cases u;intro y Y;split at x;rename_i b hb;split at x;rename_i t d z hl;obtain⟨n,x⟩:=yA x;obtain⟨m,x⟩:=yA x;obtain⟨l,x⟩:=yA x;obtain⟨j,i⟩:=yA x;exact⟨b,_,WV X G hb,bne_iff_ne.mp l,bne_iff_ne.mp j,bne_iff_ne.mp i,Y _ _ hl,by rw[beq_iff_eq.mp n],by rw[beq_iff_eq.mp m],rfl⟩;cases x;cases x
theorem nj(e:cG K T=true)(X:K.In h)(G:h.Ns mainGlobals mg):∃v c,(∀x:Heap,K.In x->∀P q,yP mg x P q->P=T/\q=v)/\QAo K c T=true/\K.lookup T=none:=by obtain⟨⟨f,I,F,C,w,c,p,n,m,y⟩,_,l,_⟩:=HS e X G;refine⟨C.qualname++".<locals>.<lambda>",c,λx Y P q t=>?_,y,l⟩;obtain⟨M,o,B,N,A,W,Z,s,⟨L,E,_,_,_,_,_,_,_,j,_,i,g,_⟩,r⟩:=t;cases p.symm.trans A;have z:=W.symm.trans (Y _ _ n);cases z;cases Z;cases m.symm.trans s;obtain⟨J,u,_,_,_,_,_,_,_,b,_,a,k,_⟩:=QAF Y y;cases j.symm.trans b;cases i.symm.trans a;cases g.symm.trans k;exact⟨rfl,r⟩
end
theorem walk_seen{l:PySem.W.OpenLaw}{k:Nat}{q:Program}{loose:LS}{XP:(Str->Option Value)->Heap->Prop}{YP:World->Heap->Prop}{d:DefRec}{x:Str}{Fs:QA->Prop}{T:Addr}
  (hn:l.most=some 63) (C:d.params.defaults=[]) (S:Room k callerA) (hY:∀(w:World) (h:Heap),YP w h->∃K:QA,K.In h/\Fs K/\h.get? T=some (QBQ #[])) (B:∀K,Fs K->cG K T=true)
  (F:∀(w:World) (mg:Str->Option Value) (p:Addr) (h:Heap) (K:QA),K.In h->Fs K->cG K T=true->h.Ns mainGlobals mg->mg d.name=some (.ref p) ->
   ∃E:FuncData,(∀(s:Shared) (u:Value),BindsTo s E ⟨[u],[]⟩ [(x,u)]) /\
    ∀y:Heap,K.In y->y.Ns mainGlobals mg->FnOk l.prog w K mg y j0 k p E [x] (lift K CP)) :
  PySem.W.WalkO q loose XP YP l.row.toRowW d [] (λf vs=>PySem.call f vs):=by
 intro w L J mg mb G Y p o pm cd doc dV kV ho hd hcd M A hg args I as j n R Z hlo;obtain rfl:dV=.none:=PySem.W.Dflts.none M C;obtain rfl:kV=.none:=PySem.W.Dflts.noKw M;obtain⟨a,vs,P,rfl,rfl,m,i,v⟩:=Att.script_of hn j Z;obtain⟨K,X,fs,Q⟩:=hY w _ Y;have N:=B K fs;obtain⟨tq,c,g1,g2,g3⟩:=nj N X G.T.g;obtain⟨E,hb,hF⟩:=F w mg p _ K X fs N G.T.g A;refine PySem.W.enter_call (QCB (N5 g1 ((QAF X g2).tab Q) g3 X G.T.g G.T.b G.T.builtins G.T.nolimit hg m i (QV v (by decide)) S hF hb (λH hO hS=>Li _ H a P v (fc n) hS) λH e O=>λz=>z) λr O hq=>?_);obtain⟨rfl,h2,h3,h4⟩:=hq;exact⟨.inl ⟨.bool true,.bool true,[],rfl,λ_=>rfl,.bool true,Att.post_true l _,λ_=>⟨List.Pairwise.nil,λ_ hm=>(nomatch hm)⟩⟩,h2,h3,h4⟩
end L2.L3
namespace L2.L3.K34
open PySem PySem.Spec PyProof.Rows L2 L2.L3 L2.L3.Q
def Gu:Nat->(LW->Prop)->Prop
 |0,p=>p []|n+1,p=>∀u,Gu n λh=>p (u::h)
theorem Yv:∀{n:Nat}{p:LW->Prop},Gu n p->∀us:LW,us.length=n->p us
 |0,_,h,us,e=>by rw[List.length_eq_zero_iff.mp e];exact h|_+1,_,_,[],e=>nomatch e
 |_+1,_,h,u::us,e=>Yv (h u) us (Nat.succ.inj e)
def mx(x q:Str)(st:Stmt)(u:LS):Prop:=∀(kV h v:Value) (k:Option Addr) (y w:Value),Gu u.length λz=>bindArgs (qr x q (vD st) (nC st) (HA st) .none kV h v k y w) ⟨z,[]⟩=pure (u.zip z)
def Sk:List (Str×D):=tT.map (λp=>(p.1,.tuple (p.2.map PyData.str)))++sT.map λp=>(p.1,.int p.2)
structure Cx(K:QA)(h:Heap)(mg:Str->Option Value):Prop where
 X:K.In h
 G:h.Ns mainGlobals mg
 V:∀p∈Sk,yN K p.1 p.2
 N:∀y∈nT,qq K mainGlobals y=some none
 D:∀p∈fT,yY K p.1 (top p.2)
theorem DE{α:Type}{d:α}:∀{l:List α}{i:Nat},QCb i l.length=true->l.getD i d∈l
 |[],_,h=>nomatch h
 |_::_,0,_=>.head _|_::_,_+1,h=>.tail _ (DE (Nat.blt_eq.mpr (wo (Nat.blt_eq.mp h))))
theorem ke{α:Type}{l:List (Str×α)}{p:Str×α}(nd:(l.map qy).Nodup)(h:p∈l):l.lookup p.1=some p.2:=by
 induction l with|nil=>cases h|cons a l y=>obtain⟨x,s⟩:=a;rw[QW,Qj]at nd;rw[wl];rcases QL.mp h with rfl|h;rw[beq_self_eq_true];have v:p.1∈l.map qy:=QBW h;have u:(p.1==x)=false:=beq_eq_false_iff_ne.mpr λz=>nd.1 (by rw[<- z];exact v);rw[u];exact y nd.2 h
def Ld:LS:=fT.map qy
def fx(i:Nat):Str×Nat:=fT.getD i ("",0)
def tbl(r:List PSp):PEv:=Sc (Ld.zip r) Sk
theorem mR{r:List PSp}(i:Nat)(h:QCb i Sk.length=true:=by rfl):(tbl r).va (Sk.getD i ("",.none)).1=some (Sk.getD i ("",.none)).2:=ke (ZE (by kernel_rfl)) (DE h)
theorem Nm{r:List PSp}(nd:FJ ((Ld.zip r).map qy)=true)(i:Nat)(h:QCb i (Ld.zip r).length=true):(tbl r).sp ((Ld.zip r).getD i ("",zl)).1=((Ld.zip r).getD i ("",zl)).2:=by show(QCR _ _).getD zl=_;rw[ke (ZE nd) (DE h)];rfl
noncomputable def nB(n:Need)(fs:LS):Bool:=n.fn.all (λx=>fs.contains x)&&((n.va.all λx=>(Sk.map qy).contains x)&&n.no.all (λx=>nT.contains x))
section
variable{P:Program}{w:World}{K:QA}{h base:Heap}{mg:Str->Option Value}{r v:List PSp}{R:PSp}{u:LS}{k:Nat}{b:PT}{n:Need}{N z:LS}
theorem hv(C:Cx K h mg)(A:∀g∈u,XG P w K mg base (tbl r) k g)(i:Nat)(kC:eB n b N z (top (fx i).2)=true)
  (body:∀ts Q E,R.run ts Q E->ts.length=z.length/\cB (tbl r) (λ_=>False) b (ZD R z.length Q) (gB N R.md ts)) (o:(tbl v).sp (fx i).1=R) (hc:UH (XB 0 R.md z.length) b=true:=by kernel_rfl)
  (hb:mx (fx i).1 (fx i).1 (top (fx i).2) z:=by(repeat intro _);rfl)
  (x:nB n u=true:=by kernel_rfl) (l:QCb i fT.length=true:=by rfl):XG P w K mg base (tbl v) (k+1) (fx i).1:=by
 obtain⟨s,x⟩:=yA x;obtain⟨q,p⟩:=yA x;exact V6 C.X C.G (C.D _ (DE l)) kC hc (λa b c d e f=>Yv (hb a b c d e f)) (λg m=>A g (dP s g m)) (tW C.X C.G C.V q) (λy j=>C.N y (dP p y j)) body o
theorem hc(A:∀g∈u,XG P w K mg base (tbl r) k g){x:Str}(Z:XG P w K mg base (tbl r) (k+1) x):∀g∈x::u,XG P w K mg base (tbl r) (k+1) g:=by intro g y;rcases QL.mp y with rfl|y;exact Z;exact(A g y).mono (we _)
theorem hl(C:Cx K h mg)(A:∀g∈u,XG P w K mg base (tbl r) k g){x q:Str}{st:Stmt}{f:Addr}{e:FuncData}(F:Fun K x q st f e)(kC:eB n b N z st=true)
  (body:∀ts Q E,R.run ts Q E->ts.length=z.length/\cB (tbl r) (λ_=>False) b (ZD R z.length Q) (gB N R.md ts)) (hc:UH (XB 0 R.md z.length) b=true:=by kernel_rfl) (a:nB n u=true:=by kernel_rfl):FnOk P w K mg base j0 (k+1) f e z (lift K R):=by
 obtain⟨o,a⟩:=yA a;obtain⟨m,l⟩:=yA a;exact C6 F kC hc (λg j=>A g (dP o g j)) (tW C.X C.G C.V m) (λy i=>QAM C.X C.G (C.N y (dP l y i))) body
theorem cx_of(X:K.In h)(G:h.Ns mainGlobals mg)(e:seen K=due)(o:(fT.all λp=>(RS p.1 (top p.2)).isSome)=true)(m:(tT.all λp=>decide (p.2.length<=1000))=true):Cx K h mg:=by injection e with j e;injection e with i e;injection e with g e;injection e with f _;have j:=Wh.mp j;have i:=Wh.mp i;have g:=Wh.mp g;have f:=Wh.mp f;refine⟨X,G,λp x=>?_,λy l=>T8 (f y l),λp x=>C2 (j p x) (Qv.mp o p x)⟩;rcases Qi.mp x with x|x;obtain⟨q,a,rfl⟩:=QZ.mp x;have:=of_decide_eq_true (Qv.mp m q a);exact nY (i q a) (by omega);obtain⟨q,a,rfl⟩:=QZ.mp x;exact B2 (g q a)
end
section
variable{P:Program}{w:World}{h:Heap}{mg:Str->Option Value}
noncomputable def Ak:List PSp:=[tE,YB,NF,VL,JH,AB,Cn,iJ,uI,OF,zO,CG,oD,jF,eJ,tJ,ND,yF,sE,pD,aJ,dD,aE,bI,PF,IE,RF,UL,DG,UC,LD,rE,MD,CP]
theorem eA(i:Nat)(h:QCb i (Ld.zip Ak).length=true:=by rfl):(tbl Ak).sp ((Ld.zip Ak).getD i ("",zl)).1=((Ld.zip Ak).getD i ("",zl)).2:=Nm (by kernel_rfl) i h
theorem ux{K:QA}{x:Heap}{k:Nat}(C:Cx K h mg)(q:cG K tA=true)(v:K.In x)(m:x.Ns mainGlobals mg):XG P w K mg x (tbl Ak) (k+1) "going_order":=by obtain⟨f,M,p,⟨⟨J,I,kV,B,F,R,b,Q,i,rfl,lk,a⟩,n⟩⟩:=C.D (fx 6) (DE rfl);obtain⟨⟨O,l,j,A,e,c,g,W,Z,Y⟩,s,L,r⟩:=HS q C.X C.G;cases(WV C.X C.G p).symm.trans g;cases lk.symm.trans W;cases(show b=.ref c from Z);have z:=λy (o:nT.contains y=true)=>QAM C.X C.G (C.N y (Qt.mp o));exact Bb v m g lk a n (QAF v Y) (s x v) r (z _ (by kernel_rfl)) (z _ (by kernel_rfl)) (z _ (by kernel_rfl)) (λE hl=>by obtain⟨u,rfl⟩:=QAx.mp hl;rfl) (eA 6)
theorem all{K:QA}{v:Addr}(C:Cx K h mg)(b:cG K tA=true)(y:mg "law"=some (.ref v)) :
  ∃z:FuncData,(∀(s:Shared) (u:Value),BindsTo s z ⟨[u],[]⟩ [("_law_script",u)])/\∀x:Heap,K.In x->x.Ns mainGlobals mg->FnOk P w K mg x j0 34 v z ["_law_script"] (lift K CP):=by
 refine Mi C.X C.G (C.D (fx 33) (DE rfl)) rfl y (eA 33) (λ_ _ _ _ _ _ e hl=>by obtain⟨u,rfl⟩:=QAx.mp hl;rfl) λx a k f z F _=>?_;have A:∀g∈([]:LS),XG P w K mg x (tbl Ak) 0 g:=nofun;have A:=hc A (hv C A 0 rT MY (eA 0));have A:=hc A (hv C A 1 XZ Ja (eA 1));have A:=hc A (hv C A 2 EV (D4 (eA 1)) (eA 2));have A:=hc A (hv C A 3 pT (Ih (eA 1)) (eA 3));have A:=hc A (hv C A 4 IV (vi (eA 1)) (eA 4));have A:=hc A (hv C A 5 TV (U4 (eA 1) (eA 4) (eA 0) (eA 2) (eA 3)) (eA 5));have A:=hc A (ux C b a k);have A:=hc A (hv C A 7 NM ui (eA 7));have A:=hc A (hv C A 8 SV ba (eA 8));have A:=hc A (hv C A 9 iT G4 (eA 9));have A:=hc A (hv C A 10 eT (Pn (eA 8) (eA 9) (eA 7)) (eA 10));have A:=hc A (hv C A 11 GN ua (eA 11));have A:=hc A (hv C A 12 LM (X4 (eA 11) (eA 7)) (eA 12));have A:=hc A (hv C A 13 HN ca (eA 13));have A:=hc A (hv C A 14 JT xi (eA 14));have A:=hc A (hv C A 15 lT Ah (eA 15));have A:=hc A (hv C A 16 jW Va (eA 16));have A:=hc A (hv C A 17 YT (Xa (eA 16)) (eA 17));have A:=hc A (hv C A 18 mT (LY (eA 17) (eA 16) (mR 0) (mR 1)) (eA 18));have A:=hc A (hv C A 19 AI (C4 (mR 0)) (eA 19));have A:=hc A (hv C A 20 GQ (zi (mR 0)) (eA 20));have A:=hc A (hv C A 21 MM NY (eA 21));have A:=hc A (hv C A 22 PN (M4 (eA 21)) (eA 22));have A:=hc A (hv C A 23 ON aa (eA 23));have A:=hc A (hv C A 24 OK (N4 (eA 18) (eA 19) (eA 20) (eA 22) (eA 23) (mR 0)) (eA 24));have A:=hc A (hv C A 25 LK (ya (eA 24)) (eA 25));have A:=hc A (hv C A 26 MK (O4 (eA 25)) (eA 26));have A:=hc A (hv C A 27 oT ji (eA 27));have A:=hc A (hv C A 28 MN (da (eA 26) (eA 27)) (eA 28));have A:=hc A (hv C A 29 NN (ga (eA 11) (eA 15) (eA 14) (eA 28)) (eA 29));have A:=hc A (hv C A 30 kc (ma (eA 6) (eA 10) (eA 12) (eA 13) (eA 29)) (eA 30));have A:=hc A (hv C A 31 FN B4 (eA 31));have A:=hc A (hv C A 32 UZ Ka (eA 32));exact hl C A F Fj (ki (eA 1) (eA 5) (eA 30) (eA 32) (eA 31))
noncomputable def hk:PySem.W.Hook:=⟨EX×Option Obj,ob,λ_=>(due,some (QBQ #[])),λ_ h=>∃K:QA,K.In h/\seen K=due/\h.get? tA=some (QBQ #[]),λ_ _ e=>⟨_,XV _,(QAE e).1,(QAE e).2⟩,λ_ _ _ ⟨K,X,e,t⟩ k=>⟨K,X.keeps k,e,k _ _ t⟩⟩
end
end L2.L3.K34
open PySem PySem.W PyProof.Rows
set_option maxRecDepth 100000 in
set_option maxHeartbeats 0 in
theorem PySem.Challenge.cw_quoteweave_k34_until_a_time_holds : PySem.Challenge.rw_quoteweave_k34_until_a_time.Holds := by
 refine holds_law L2.L3.Q.ws λy=>?_;refine holds_open (q:=L2.L3.Q.qv) (loose:=[]) (Xt:=L2.L3.Q.xt) (XP:=XL L2.L3.Q.qv []) (Yf:=Hook.obs L2.L3.K34.hk) (Ya:=Hook.val L2.L3.K34.hk) (YP:=Hook.says L2.L3.K34.hk) (N:=2246) L2.L3.Q.lf (Hook.of L2.L3.K34.hk) (Hook.keeps L2.L3.K34.hk) (λs e=>xl_of s (Ww.mp e).1) XL.keeps (by rfl) (by rfl) (by rfl) (λs e=>recFacts_of (Ww.mp e).2) (by rfl) (by first|assumption|decide +kernel) (by decide +kernel) ⟨rfl,rfl,rfl,rfl,rfl,by decide +kernel⟩ ?hw ?hc
 case hw=>w_witness2
 case hc=>exact L2.L3.walk_seen (l:=qC) (k:=34) (x:="_law_script") (Fs:=λK=>L2.L3.Q.seen K=L2.L3.Q.due) rfl rfl ⟨rfl,by decide,by decide⟩ (λw h Y=>Y) (λK e=>L2.L3.go_of e) λw u v h K X e z G m=>L2.L3.K34.all (L2.L3.K34.cx_of X G e (by kernel_rfl) (by kernel_rfl)) z m
