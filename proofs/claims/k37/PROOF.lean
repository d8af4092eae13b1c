import PyProof.Rows.All
import Wide.All
import OpenK.AllK
import Wide.FinOn
import Lean
import PyProof.EqAt
import PyProof.EqKinds
import PyProof.TupleCall
import PySem.Challenge.RW_quoteweave_k37_whole_what_falls
noncomputable section
set_option Elab.async false
set_option linter.all false
set_option genInjectivity false
set_option genSizeOf false
set_option maxRecDepth 100000
set_option maxHeartbeats 4000000
open PySem.W renaming Frag->QA,kia_one->qI,nsIn->qk,fnOf->ql,keepIn->wI,mg_of->WR,codeIn->Wb,WData->Wt,codeHd_of_K->W8,mg_none_of->QAF,methodObj->QAS,kitx_list->QAU,codeHdIn->QAi,cellsFrom_some->QAn,instObj->QAu,lookIn->QBB,kitOne->QBC,tabObj->QBG,kitx_tuple->QBb,kitx_dict->QBk,plainGet->QB6
open PySem renaming wpAny_bind->QC,wpAny_pure->QK,wpAny_newObj_type->Qw,sizeLine_eq->Q7,wpAny_loadPart'->qC,wpAny_call_entry->qJ,mem_of_lookup->qL,wpAny_callSpecial?_slot->qN,Spec->qf,wpAny_holding->qi,wpAny_typeNameOfWhole_itemiter->qp,wpAny_mono->qr,wpAny_typeNameOfWhole_keyiter->qu,wpAny_dictEntries->q0,wpAny_setField_rec->wF,wpAny_field->wK,wpAny_truthy_bool->wO,wpAny_passesOwn->wP,wpAny_Call_Name_kw->wq,wpAny_dictEpoch->wy,wpAny_isOneOf_itemiter->WV,wpAny_notOrdered_dict->Wg,wpAny_attempt->Ws,wpAny_execs_nil->Wv,codeAny_builtin->Wx,wpAny_setField->QAO,wpAny_fieldsOf->QAP,wpAny_pyIter_list->QAX,seqIndex_of->QAc,wpAny_Call_method0_late->QAd,wpAny_newList->QAe,wpAny_isInstance->QAk,wpAny_eqBool_int->QAl,wpAny_isOneOf_keyiter->QA0,wpAny_Name->QA4,wpAny_loadName_local->QA5,wpAny_newFunctionEnv->QA6,wpAny_seqItems->QBA,wpAny_newTuple->QBE,wpAny_loadName_free->QBH,wpAny_Tuple_spliced->QBI,evalArgs_none->QBJ,wpAny_setItem_pairs->QBK,wpAny_Constant_int->QBY,wpAny_standAt->QBZ,wpAny_handled->QBe,wpAny_pyIter_tuple->QBf,plainId_quiet->QBg,wpAny_assign_Name->QBj,slot_list_getitem->QBn,call_meets->QBo,wpAny_rule->QBq,wpAny_pyIter_slot->QBr,wpAny_pyIter_enum->QBu,codeAny_mono->QBz,wpAny_typeOf->QB0,seqIndex_neg->QB1,wpAny_pyHash_str->QB4,wpAny_execs_cons->QB5,wpAny_of_eq->QCF,wpAny_throw->QCG,storedH_new->QCH,typeIs_str->QCM,Str->QCP
open List renaming mem_cons_self->QD,mem_cons_of_mem->QE,length_map->QG,length_append->QI,mem_singleton->QJ,mem_cons->QL,length_cons->QM,size_toArray->QN,mem_filter->QO,map_append->QR,mem_map->QT,map_cons->QV,mem_append_right->QW,map_map->Qb,getElem?_map->Qd,mem_append_left->Qe,mem_append->Qf,getElem?_eq_some_iff->Qg,nil_append->Qh,nodup_cons->Qi,all_eq_true->Qq,range->Qr,contains_iff_mem->Qu,append_assoc->Qv,getElem?_eq_getElem->Qx,isEmpty_iff->Qz,nodup_nil->Q0,length_filter_le->Q1,getElem?_eq_none->Q8,filter_sublist->qA,append_nil->qB,mem_range->qD,length_singleton->qE,toArray->qF,getElem?_append_right->qG,length_range->qK,getElem?_set_ne->qP,mem_of_getElem?->qQ,getElem?_append_left->qR,nodup_append->qV,length_set->qY,all_cons->qZ,getElem?_set_self->qd,length_replicate->qm,length->qt,ext_getElem?->qz,getElem?_set->wA,find?_cons->wB,map_congr_left->wC,mem_flatMap->wE,length_nil->wN,eq_nil_iff_forall_not_mem->wX,getElem?_cons_succ->wY,getElem?_replicate->wb,length_take->wg,lookup_cons->wj,getElem_mem->wk,not_mem_nil->wm,map_nil->wv,any_cons->w4,set->w8,flatMap_cons->w9,map_snd_zip->WD,any_eq_true->WE,filter_cons->WF,filterMap_cons->WG,map_inj_right->WS,drop_eq_nil_of_le->WW,length_pos_of_mem->WX,map_inj_left->Wa,mem_iff_getElem?->Wj,length_drop->Wk,map_fst_zip->Wm,getElem?_modify->Wo,forIn_cons->Wu,getElem?_range->Wz,foldl_cons->W6,zip_cons_cons->QAE,replicate->QAK,drop_eq_getElem_cons->QAQ,any_eq_false->QAT,length_erase_of_mem->QAY,foldl_append->QAZ,getElem?_cons_zero->QAa,length_eq_zero_iff->QAg,cons_append->QAh,length_eq_one_iff->QAr,modify_succ_cons->QAs,modify_zero_cons->QAt,of_mem_zip->QAw,map_set->QA1,any_map->QA2,mem_erase_of_ne->QA9,forIn_nil->QBD,mem_map_of_mem->QBM,mergeSort_perm->QBP,set_cons_zero->QBR,set_cons_succ->QBS,mem_filterMap->QBa,take_sublist->QBl,mapM_toArray->QBs,pairwise_map->QBv,nodup_range->QCB,lookup->QCD,Perm->QCK,map_id->QCL,getD->QCQ
open Bool renaming false_ne_true->QF,and_eq_true->Qa,false_eq_true->Qn,not_eq_true'->Qy,eq_iff_iff->Q3,not_false->wH,or_eq_true->wU,not_true->wZ,true_and->WJ,and_eq_true_iff->Wq,and_false->QAH,false_and->QAI,false_or->QAb,and_true->QBT,or_false->QBU,or_true->QBx,true_or->QBy
open PySem.Heap renaming get?_push_of_some->QH,get?_push_size->QU,lt_size->QY,SameBut->qU,get?_update_self->ww,ExtBut->Ww,size_push->QAL,get?_update_other->QAo,get?_push_cases->QA8,size_update->QCA,IsList->QCE
open PySem.Str renaming ofString->QS
open Nat renaming le_trans->QX,le_refl->QZ,ne_of_lt->Qj,lt_of_lt_of_le->Qm,zero_le->Qt,lt_irrefl->qy,le_succ->wc,lt_of_succ_lt_succ->wn,ne_of_gt->wt,le_of_eq->wx,lt_succ_of_lt->w6,lt_of_le_of_lt->WK,min_eq_left->WT,zero_add->Wc,succ_le_succ->Wl,le_add_right->QAm,le_of_lt->QAv,lt_or_ge->QAx,blt->QCO
open False renaming elim->Qc
open Option.some renaming injEq->Qk,inj->Qo
open PySem.PyData renaming eqv->Ql,canLayAll0->qh,strOk->qq,depthAll->wT,canLay0->QAN,depth->QAy,noConfusion->QBd
open PySem.Challenge renaming pw_quoteweave_k37_whole_what_falls->Qp,rw_quoteweave_k37_whole_what_falls->Q6
open Array renaming length_toList->Qs,perm_iff_toList_perm->qO,toList_inj->WC,getElem?_toList->We,getElem?_eq_some_iff->QAC,getElem?_eq_none->QAq,toList_append->QBQ,forIn_toList->QBV
open Option renaming map_some->Q2,map_none->wV,isNone_iff_eq_none->QAR,isSome_map->QAW,getD_none->QB7,getD_some->QB8
open PySem.Heap.SameBut renaming update->Q4
open PySem.Obj renaming mapSeq->Q5,data_mapFields->WO,isFreed_of_fields->QAz,data_mapDictKeys->QA7,cls_mapFields->QBp
open Ne renaming symm->Q9
open PySem.Paired renaming length->qH
open Int renaming toNat_natCast->qM,eq_ofNat_of_zero_le->qa,emod_lt_of_pos->wG,lt_irrefl->wf,emod_nonneg->wz,le_trans->QAG,ofNat_le->QA3,le_refl->QBN,natCast_nonneg->QBi,toNat->QCR
open PySem.Builtin.SmallTypes renaming nextOf->qS
open PySem.F renaming slot_dict_itemiterator_next->qT,slot_dict_keyiterator_next->qW,slot_tuple_iterator_next->qb,args_tuple_iterator_next_1->WI,entry_tuple_iterator_next->WN,plainAttrs_list->WQ,args_dict_itemiterator_next_1->WY,entry_dict_itemiterator_next->Wf,args_dict_keyiterator_next_1->Wi,entry_dict_keyiterator_next->Wn,slot_dict_getitem->QAM,plainAttrs_dict->QAf,slot_dict_items_iter->QAp,plain_list_iadd->QBw,slot_dict_iter->QB9
open LawfulBEq renaming eq_of_beq->qX
open PyProof.Rows renaming subscriptTail_builtinR->qe,slot_tuple_getitem->wQ,callWith_type1->wu,listUpdate_at->WP,get?_update_seq->W0,slot_tuple_getitem->QAD,seqEpoch_at->QBL,getItem_tuple->QBc,sortedAll_old->QBh,Subscript_->QBm,listItems_at->QB2,sortedAll_at->QB3
open PySem.SeqAt renaming EqAt->qg
open Prod renaming fst->qj,ext->QCC,snd->QCN
open Lean.Parser.Tactic renaming tacticSeq->qw
open PySem.Builtin.Slice renaming slicePlaces->wJ,sliceAdjust->WB,sliceApplied->QAB
open PySem.Builtin.Dict_items renaming addrOf->wL,ownsTuple->Wr
open Classical renaming byContradiction->wM
open PySem.Builtin.Tuple renaming tupleExact->wR,tupleItemsOf->W9,tupleHashOf->QAJ
open List.Pairwise renaming imp_of_mem->wW,map->WZ
open PySem.Builtin.Str renaming occurrences->wa
open PySem.W.WData renaming weightAll->we,weight->Wp
open PySem.Txt renaming slice->wl
open Iff renaming rfl->wo
open PySem.Around renaming under_plainId->WA,in1_units->QAj
open PySem.Builtin.List renaming listTooLong->WH
open PySem.Builtin.Range renaming rangeSize->WL,small->QBO
open PySem.Calls renaming spliced_cons->WM,callWith_builtin->WU,Name_function_global->QAA,spliced_nil->QAV
open PySem.Builtin.Dict renaming showsAll->Wh
open List.cons renaming injEq->W4
open PySem.Builtin.Int renaming intBits->W5
open Prod.mk renaming inj->W7
open List.Perm renaming refl->QBF
open PySem.SeqAt.EqAt renaming int_str->QBW,str_int->QBX
open PyProof.Rows.SortSt renaming mk'->QBt
open Array.Perm renaming refl->QCI
open StateT renaming run_pure->QCJ
theorem dF{p:Prop}[Decidable p](h:¬p):decide p=false:=_root_.decide_eq_false h
theorem dT{p:Prop}[Decidable p](h:p):decide p=true:=_root_.decide_eq_true h
abbrev PB:=List (PySem.Addr×PySem.Obj)
abbrev pC:=PySem.Value -> PySem.Shared -> Prop
abbrev cB:=PySem.Addr -> Prop
abbrev uC:=List (QCP×QCP)
set_option hygiene false in
local macro_rules | `(tactic| omega)=>do
 let f:=λ(s:String)=>(s.splitOn " ").toArray.map λx=>Lean.mkIdent x.toName
 let a<-(f "L2.szA L2.szB L2.szC L2.unA Nat.le_trans Nat.lt_of_le_of_lt").mapM λx=>`(qw| exact $x (by assumption) (by decide))
 let b<-(f "Nat.lt_of_lt_of_le Nat.lt_of_le_of_lt Nat.le_trans").mapM λx=>`(qw| exact $x (by assumption) (by assumption))
 let c<-(f "Nat.le_of_lt Nat.ne_of_lt Nat.ne_of_gt Nat.lt_succ_of_lt Nat.le_of_lt_succ L2.prA").mapM λx=>`(qw| exact $x (by assumption))
 let d<-(f "Nat.le_refl Nat.le_succ Nat.zero_le Nat.succ_pos").mapM λx=>`(qw| exact $x _)
 `(tactic| first|decide|assumption|exact L2.szL (by decide) $[| $a]* $[| $b]* $[| $c]* $[| $d]*|omega (config:={}) | (have:=PySem.sizeLine_eq;omega (config:={})))
set_option hygiene false in
local macro_rules
 | `(%[ $xs,*|1 ])=>do
  let mut r<-`(PX.nz)
  for x in xs.getElems.reverse do r<-`(PX.ny $x $r)
  return r
 | `(%[ $xs,*|2 ])=>do
  let mut r<-`(PT.nil)
  for x in xs.getElems.reverse do r<-`(PT.seq $x $r)
  return r
def zza:="zA Ie zf i7 yf t7 uf Ee m7 jf l7 xf Ae D7 Re Bf F7 Mp Xf Ff Se Df Gf fN Vf GX f7 Np Kf RT OT L7 Cf G7 Uf Zf M7 Ue v7 Eo Be Lf P7 ET IT bf zp Y7 mf rf vp gf df J7 Sv jw Tv Iv Av Gp Fp Pv Rv Eu Tu Au Gv Dv Fv Cv Bp gv zw yw TW En jo Uv Xv Vv Kv Zv Yv Jv sv pv nv Vp Kp Zp Yp sf uv vv bv xp af Bv lu Hf Pp Oo Oe Me De Ge Fe Le He Zn Yn ae se ke Do Go Ou Lo ge fe R6 ve T6 IM de Bu Ru xn vn Ku Sf o0 Lk Zu Fu Gu Xu Vu yl Tk ul gc Pe ye AB reduceIte"
def zzb:="lH ZE DF AQ T.isD lockA uG lock kill UK Tg.ix fC xW xO cR isMut bV frzAt rV Ub zD.eq_1 zD.eq_2 oM.eq_1 oM.eq_2 oM.eq_3 oM.eq_4 v5 k5 z5 KI.eq_1 List.modify_succ_cons List.modify_zero_cons Option.map_some List.length_cons List.length_nil List.getElem?_cons_zero List.getElem?_cons_succ List.cons_append List.nil_append List.set_cons_zero List.set_cons_succ Nat.reduceAdd Nat.reduceSub Nat.zero_add Bool.and_true Bool.true_and Bool.not_true Bool.not_false Bool.or_true Bool.true_or Bool.or_false Bool.false_or Bool.and_false Bool.false_and if_true if_false Bool.false_eq_true true_and and_true false_implies ne_eq reduceCtorEq not_false_eq_true not_true_eq_false implies_true forall_const Int.reduceLT Int.reduceLE Int.reducePow Int.reduceNeg Nat.reducePow and_self eq_self Option.some.injEq Sl.own.injEq Sl.ky.injEq and_assoc decide_true decide_false"
set_option hygiene false in
local macro_rules | `(tactic| simp_arith [$ls,*])=>do
 let a<-(zza.splitOn " ").toArray.mapM λx=>`(Lean.Parser.Tactic.simpLemma| ↓ $(Lean.mkIdent x.toName):ident)
 let b<-(zzb.splitOn " ").toArray.mapM λx=>`(Lean.Parser.Tactic.simpLemma| $(Lean.mkIdent x.toName):ident)
 `(tactic| simp only [$ls,*,$a,*,$b,*])
set_option hygiene false in
local macro_rules | `(tactic| simp? [$ls,*])=>do
 let a<-(zza.splitOn " ").toArray.mapM λx=>`(Lean.Parser.Tactic.simpLemma| ↓ $(Lean.mkIdent x.toName):ident)
 let b<-(zzb.splitOn " ").toArray.mapM λx=>`(Lean.Parser.Tactic.simpLemma| $(Lean.mkIdent x.toName):ident)
 `(tactic| simp -implicitDefEqProofs only [$ls,*,$a,*,$b,*])
abbrev LS:=List QCP
abbrev LN:=List Nat
abbrev LJ:=List Int
abbrev LW:=List PySem.Value
namespace L2.L3.Q
open PySem PySem.W PySem.Spec PyProof.Rows
def cq(x:List Addr)(h:Heap):QA:=x.filterMap λa=>(h.get? a).map λo=>(a,o)
noncomputable abbrev gq:=(Str×Str×Arguments×FuncBody×Scope)×(Addr×List (Str×Addr)×Value×Addr)×Bool
def Jk(h:FuncData)(b:Bool):gq:=((h.name,h.qualname,h.params,h.body,h.scope),(h.globals,h.closure,h.defaults,h.builtins),b)
def tV(K:QA)(x:Str):Option gq:=match qk K mainGlobals x with
 |some (some (.ref f))=>(match K.lookup f with
  |some ⟨_,_,.func fd,_⟩=>some (Jk fd (Wb K fd.code x&&wI K (.ref f)))|_=>none)
 |_=>none
def HS(x:Str)(st:Stmt):Option gq:=match st with
 | .FunctionDef _ a b _ _ _ sc _ _ _=>some (Jk (ql x x a b sc .none .none .none .none none .none .none) true)|_=>none
def Ll:Value->Option Str
 | .str z _=>some z|_=>none
noncomputable def xg(K:QA)(x:Str):Option (List (Option Str)):=match qk K mainGlobals x with
 |some (some (.ref f))=>(match K.lookup f with
  |some ⟨.type t,_,.seq its _,_⟩=>if t="tuple" then some (its.toList.map Ll) else none|_=>none)
 |_=>none
def Er:Value->Option Int
 | .int i _=>some i|_=>none
def kg(K:QA)(x:Str):Option Int:=match qk K mainGlobals x with
 |some (some u)=>Er u|_=>none
def DU(K:QA)(x:Str):Bool:=match qk K mainGlobals x with
 |some none=>true|_=>false
noncomputable def fG(K:QA)(T:Addr):Bool:=(match qk K mainGlobals "going_order" with
 |some (some (.ref f))=>(match K.lookup f with
  |some ⟨_,_,.func fd,_⟩=>(match fd.code with
   | .ref c=>QAi K c T|_=>false)
  |_=>false)
 |_=>false)&&((match qk K mainGlobals "__builtins__" with
 |some (some (.ref b))=>(match K.lookup b with
  |some ⟨.type t,some d,.plain,_⟩=>t == "module" && (d==builtinsNs&&(b != builtinsNs&&(b != mainGlobals&&b != T)))|_=>false)
 |_=>false)&&((K.lookup T).isNone&&mainGlobals != T))
def top(i:Nat):Stmt:=Qp.main.body.getD i (.Pass ⟨0,0,0,0⟩)
noncomputable def fT:List (Str×Nat):=([("_law_folded",35),("_law_draw",31),("_law_names",32),("_law_people",33),("_law_event",34),("_law_world",36),("going_order",16),("has_against",21),("rank_of",19),("floor_of",20),("is_taken",18),("seen_among",23),("wrong_among",22),("live_among",24),("edges_of",27),("seers_of",26),("add_way",6),("add_name",5),("rooms_of",4),("points_reached",7),("lay_chain",8),("name_behind",10),("chain_from",9),("full_names",11),("apart_chains",3),("told_through",14),("ground_alone",13),("needs_of",29),("holders_in",28),("held_among",25),("gone",17),("_law_fair",37),("law",38)]:List (String×Nat)).map λp=>(QS p.1,p.2)
def tT:List (Str×LS):=[("BEGIN",["","begin"])]
def sT:List (Str×Int):=[("WIDE",2)]
def nT:LS:=(["any","enumerate","int","len","range","sorted","tuple"]:List String).map QS
def qv:Program:={ Qp with main:={ Qp.main with body:=[1,2,3,4,5,6,7,8,9,10,11,13,14,16,17,18,19,20,21,22,23,24,25,26,27,28,29,31,32,33,34,35,36,37,38].map top } }
def tA:Addr:=84
noncomputable abbrev HX:=List (Option gq)×List (Option (List (Option Str)))×List (Option Int)×List Bool×Bool
def seen(K:Frag):HX:=(fT.map λp=>tV K p.1,tT.map λp=>xg K p.1,sT.map λp=>kg K p.1,nT.map (DU K),fG K tA)
def due:HX:=(fT.map λp=>HS p.1 (top p.2),tT.map λp=>some (p.2.map some),sT.map λp=>some p.2,nT.map λ_=>true,true)
def fr(s:Shared):Frag:=cq ((Qr 240).filter λa=>a != tA) s.heap
def xt(s:Shared):Bool:=xlAt qv [] s&&recOk (RowW.records Q6.row.toRowW) s
def ob(s:Shared):HX×Option Obj:=(seen (fr s),s.heap.get? tA)
theorem lf:LeftO Qp qv [] xt ob (λ_=>(due,some (tabObj #[]))) 2210:=by intro w;kernel_rfl
theorem ws:Q6.wellSaid=true:=by kernel_rfl
end L2.L3.Q
namespace L2
open PySem PySem.Spec PyProof.Rows
section
variable{n m:Nat}
theorem szL(h:n<=16777216):n<=sizeLine:=by rw[Q7];exact h
theorem bw(h:n<16777216):n<sizeLine:=by rw[Q7];exact h
theorem cw(h:n<=m)(k:m<=16777216):n<=sizeLine:=szL (QX h k)
theorem Uw(h:n<=m)(k:m<16777216):n<sizeLine:=bw (WK h k)
theorem Xw(h:n<=m)(k:m<=16777216):0+n<=sizeLine:=by rw[Wc];exact cw h k
theorem Kw{k c:Nat}(h:n+k<c)(l:m<=k):n+m<c:=WK (Nat.add_le_add_left l n) h
end
open PySem.SeqAt
inductive NK where
 |s (x:Str)|t (xs:List NK)
noncomputable instance:DecidableEq NK:=λ_ _=>Classical.propDecidable _
mutual
def NZ(h:Heap):NK->Value->Prop
 | .s x,v=>∃t,v=.str x t|.t ks,v=>∃a y,v=.ref a/\h.IsTuple a y/\NKvs h ks y.toList
def NKvs(h:Heap):List NK->LW->Prop
 |[],vs=>vs=[]|k::ks,vs=>∃v r,vs=v::r/\NZ h k v/\NKvs h ks r
end
mutual
def N4:NK->Nat
 | .s _=>0|.t h=>nkds h+1
def nkds:List NK->Nat
 |[]=>0|k::ks=>max (N4 k) (nkds ks)
end
mutual
def Xr(w:World):NK->Int
 | .s x=>hashStr w x|.t h=>reduceHash (QAJ (nkhs w h))
def nkhs(w:World):List NK->LJ
 |[]=>[]|k::ks=>Xr w k::nkhs w ks
end
mutual
def vk:NK->Nat
 | .s _=>1|.t h=>nkts h+1
def nkts:List NK->Nat
 |[]=>0|k::ks=>vk k+nkts ks
end
theorem cW{h:Heap}{a:Addr}{xs x:Array Value}(p:h.IsTuple a xs)(q:h.IsTuple a x):xs=x:=by obtain⟨o,e,_,n,d⟩:=p;obtain⟨u,y,_,v,z⟩:=q;cases e.symm.trans y;cases d.symm.trans z;rfl
mutual
theorem O4{h:Heap}:∀{k l:NK}{v:Value},NZ h k v->NZ h l v->k=l
 | .s x,.s y,v,⟨t,e⟩,⟨u,e'⟩=>by subst e;cases e';rfl|.s x,.t ls,v,⟨t,e⟩,⟨_,_,e',_⟩=>by subst e;cases e'|.t ks,.s y,v,⟨_,_,e,_⟩,⟨_,e'⟩=>by subst e;cases e'|.t ks,.t ls,v,⟨a,its,e,p,q⟩,⟨b,jts,e',p',q'⟩=>by subst e;cases e';cases cW p p';rw[nks_inj q q']
theorem nks_inj{h:Heap}:∀{ks ls:List NK}{vs:LW},NKvs h ks vs->NKvs h ls vs->ks=ls
 |[],[],_,_,_=>rfl|[],_::_,_,e,⟨_,_,e',_⟩=>by cases(show _=[] from e).symm.trans e'|_::_,[],_,⟨_,_,e',_⟩,e=>by cases(show _=[] from e).symm.trans e'|k::ks,l::ls,_,⟨v,r,e,p,q⟩,⟨v',r',e',p',q'⟩=>by cases e.symm.trans e';rw[O4 p p',nks_inj q q']
end
mutual
theorem zS{h h':Heap}(k:∀a its,h.IsTuple a its->h'.IsTuple a its):∀{x:NK}{v:Value},NZ h x v->NZ h' x v
 | .s x,v,e=>e|.t ks,v,⟨a,its,e,p,q⟩=>⟨a,its,e,k a its p,nks_keeps k q⟩
theorem nks_keeps{h h':Heap}(k:∀a its,h.IsTuple a its->h'.IsTuple a its):∀{xs:List NK}{vs:LW},NKvs h xs vs->NKvs h' xs vs
 |[],_,e=>e|x::xs,_,⟨v,r,e,p,q⟩=>⟨v,r,e,zS k p,nks_keeps k q⟩
end
section
variable{prog:Program}{w:World}{E:pC}
mutual
theorem RW:∀(k:NK) (v:Value) (A:Around) (s:Shared) (Q:Int->Shared->Prop),NZ s.heap k v->A.units+N4 k<cLine->Q (Xr w k) { s with toks:=s.toks+vk k }->wpAny (model prog w) A (pyHash v) Q E s
 | .s x,v,A,s,Q,⟨t,e⟩,_,q=>by subst e;exact QB4 q|.t ks,v,A,s,Q,⟨a,its,e,⟨o,ho,hc,n,hd⟩,hi⟩,h,q=>by subst e;have h:A.units+(nkds ks+1)<cLine:=h;refine PySem.W.pyHash_slot (T:="tuple") ⟨o,ho,hc⟩ F.slot_tuple_hash F.entry_tuple_hash (F.args_tuple_hash_1 _) (beq_builtin_none _) (.inr (by omega)) ?_;show wpAny _ _ (W9 (.ref a) >>= _) _ _ s;refine QC (wpAny_tupleItemsOf ho hd ?_);refine QC ?_;rw[<- QBV];refine nk_loop ks its.toList A.in1 s #[] _ hi (by rw[QAj];omega) λb hb=>?_;show wpAny _ _ (retInt (QAJ b.toList)) _ _ _;rw[hb];exact QC (wpAny_mkInt (QK ⟨_,_,rfl,by rw[Nat.add_assoc];exact q⟩))
theorem nk_loop:∀(ks:List NK) (vs:LW) (A:Around) (s:Shared) (b:Array Int) (Q:Array Int->Shared->Prop),NKvs s.heap ks vs->A.units+nkds ks<cLine ->
  (∀y,y.toList=b.toList++nkhs w ks->Q y { s with toks:=s.toks+nkts ks }) ->
  wpAny (model prog w) A (forIn vs b λx r=>do let h <- pyHash x;pure PUnit.unit;pure (ForInStep.yield (r.push h))) Q E s
 |[],vs,A,s,b,Q,e,_,q=>by subst e;exact QK (q b (qB _).symm)|k::ks,vs,A,s,b,Q,⟨v,r,e,p,p'⟩,z,q=>by subst e;have z:A.units+max (N4 k) (nkds ks)<cLine:=z;rw[Wu];refine QC (QC (RW k v A s _ p (by omega) ?_));refine QC (QK (QK ?_));refine nk_loop ks r A _ _ Q p' (by omega) λy hb=>?_;have e:s.toks+vk k+nkts ks=s.toks+(vk k+nkts ks):=Nat.add_assoc _ _ _;have:=q y (by rw[hb,Array.toList_push,Qv];rfl);show Q y { s with toks:=s.toks+vk k+nkts ks };rw[e];exact this
end
end
theorem Bj{ks ls:List NK}{n m:Nat}(x:n=ks.length)(y:m=ls.length):((Qr (min n m)).all (λj=>decide (ks[j]?=ls[j]?))&&n==m)=decide (NK.t ks=NK.t ls):=by subst x y;rw[Q3,decide_eq_true_iff,Qa,Qq,beq_iff_eq];constructor;rintro⟨z,v⟩;congr 1;refine qz λj=>?_;by_cases u:j<ks.length;exact of_decide_eq_true (z j (qD.mpr (by omega)));rw[Q8 (by omega),Q8 (by omega)];intro h;injection h with h;subst h;exact⟨λ_ _=>dT rfl,rfl⟩
theorem kQ{h:Heap}:∀{ks:List NK}{vs:LW},NKvs h ks vs->vs.length=ks.length
 |[],_,e=>by cases(show _=[] from e);rfl|_::_,_,⟨v,r,e,_,q⟩=>by rw[e,QM,QM,kQ q]
mutual
theorem sd:∀(k l:NK) (v u:Value) (A:Around) (s:Shared),NZ s.heap k v->NZ s.heap l u->A.units+N4 k<cLine->EqAt A s v u (decide (k=l))
 | .s x,.s y,v,u,A,s,⟨t,e⟩,⟨t',e'⟩,_=>by
  subst e e';have:=EqAt.str_str (A:=A) (s:=s) x t y t';have z:(x==y)=decide (NK.s x=NK.s y):=by rw[Q3,decide_eq_true_iff,beq_iff_eq];exact⟨λh=>h▸rfl,λh=>by injection h⟩
  rw[<- z];exact this
 | .s x,.t ls,v,u,A,s,⟨t,e⟩,⟨b,jts,e',p,_⟩,f=>by subst e e';rw[dF λh=>by cases h];exact EqAt.str_tuple x t p (by omega)|.t ks,.s y,v,u,A,s,⟨a,its,e,p,_⟩,⟨t,e'⟩,f=>by subst e e';rw[dF λh=>by cases h];exact EqAt.tuple_str y t p (by omega)|.t ks,.t ls,v,u,A,s,⟨a,its,e,p,q⟩,⟨b,jts,e',p',q'⟩,f=>by subst e e';by_cases w:a=b;subst w;cases cW p p';rw[nks_inj q q',dT rfl];exact EqAt.same _;have f:A.units+(nkds ks+1)<cLine:=f;refine EqAt.of_refs w ?_;have i:=kQ q;have g:=kQ q';rw[Qs]at i g;rw[<- Bj i g];refine RcAt.tuples p p' (by omega) λj n m=>?_;have:=nks_eq ks ls its.toList jts.toList A.in1 s q q' (by rw[QAj];omega) j (by rw[Qs];exact n) (by rw[Qs];exact m);simpa using this
theorem nks_eq:∀(ks ls:List NK) (vs us:LW) (A:Around) (s:Shared),NKvs s.heap ks vs->NKvs s.heap ls us->A.units+nkds ks<cLine->∀j (y:j<vs.length) (x:j<us.length),EqAt A s vs[j] us[j] (decide (ks[j]?=ls[j]?))
 |[],_,vs,us,A,s,e,_,_,j,y,_=>by cases(show vs=[] from e);cases y|_::_,[],vs,us,A,s,_,e,_,j,_,x=>by cases(show us=[] from e);cases x|k::ks,l::ls,_,_,A,s,⟨v,r,e,p,q⟩,⟨v',r',e',p',q'⟩,u,j,y,x=>by
  subst e e';have u:A.units+max (N4 k) (nkds ks)<cLine:=u;cases j with|zero=>have:=sd k l v v' A s p p' (by omega);have z:decide (k=l)=decide ((k::ks)[0]?=(l::ls)[0]?):=decide_eq_decide.mpr ⟨λh=>by rw[h];rfl,λh=>Qo h⟩;rw[<- z];exact this|succ j=>exact nks_eq ks ls r r' A s q q' (by omega) j (wn y) (wn x)
end
section
variable{prog:Program}{w:World}{A:Around}{E:pC}{s:Shared}
mutual
theorem yS:∀(k:NK) (v:Value) (n:Nat) (Q:Bool->Shared->Prop),NZ s.heap k v->N4 k<=n->Q true s->wpAny (model prog w) A (eqIsQuiet n v) Q E s
 | .s x,v,n,Q,⟨t,e⟩,_,q=>by subst e;rw[eqIsQuiet_byValue _ rfl];exact QK q|.t ks,v,n,Q,⟨a,its,e,⟨o,ho,hc,m,hd⟩,hi⟩,g,q=>by
  subst e;have g:nkds ks+1<=n:=g;obtain⟨n,rfl⟩:∃m,n=m+1:=⟨n - 1,by omega⟩
  have i:s.TypeIs (.ref a) "tuple":=⟨o,ho,hc⟩
  unfold eqIsQuiet;refine QC (wpAny_specialOf i F.slot_tuple_eq.lookup ?_);show wpAny _ _ (isInstance (.ref a) (.type "tuple") >>= _) _ _ s;refine QC (QAk i isSubtype_tuple_tuple ?_);simp only[wZ,Qn,if_false];refine QC (QBA ho hd ?_);refine QC ?_;show wpAny _ _ (forIn its _ _) _ _ s;rw[<- QBV];refine wpAny_forIn_list _ (λh r z=>r.1=none/\z=s/\∀v∈h,∀Q:Bool->Shared->Prop,Q true s->wpAny (model prog w) A (eqIsQuiet n v) Q E s) _ ?_ ?_ _ _ ⟨rfl,rfl,nks_quiet ks its.toList n hi (by omega)⟩;rintro v h r z ⟨f,rfl,y⟩;refine QC (y v QD _ ?_);simp only[wZ,Qn,if_false];exact QK ⟨rfl,rfl,λu b=>y u (QE _ b)⟩;rintro⟨j,l⟩ z ⟨f,rfl,_⟩;cases(show j=none from f);exact QK q
theorem nks_quiet:∀(ks:List NK) (vs:LW) (n:Nat),NKvs s.heap ks vs->nkds ks<=n->∀v∈vs,∀Q:Bool->Shared->Prop,Q true s->wpAny (model prog w) A (eqIsQuiet n v) Q E s
 |[],vs,n,e,_,v,hv,Q,q=>by cases(show vs=[] from e);cases hv|k::ks,vs,n,⟨x,r,e,p,p'⟩,h,v,hv,Q,q=>by subst e;have h:max (N4 k) (nkds ks)<=n:=h;rcases QL.mp hv with rfl|hv;exact yS k v n Q p (by omega) q;exact nks_quiet ks r n p' (by omega) v hv Q q
end
end
section
variable{H:Hp}{a b:Addr}{o:HO}
noncomputable def yF(prog:Program)(w:World):HeapKind prog w NK where
 is:=λh k a=>NZ h k (.ref a)/\N4 k<=6
 hash:=Xr w
 draws:=vk
 room:=λA=>A.units+8<cLine
 inj:=λy u=>O4 y.1 u.1
 keeps:=λ{h m k a d o p q} x j l i=>⟨zS (λb f ⟨ob,e,c,n,v⟩=>⟨ob,(i.2 b λz=>by subst z;cases e.symm.trans j;cases l.symm.trans v).trans e,c,n,v⟩) x.1,x.2⟩
 pyHash:=λg hk h=>RW _ _ _ _ _ hk.1 (by have:=hk.2;omega) h
 eqBool:=λg y u h=>sd _ _ _ _ _ _ y.1 u.1 (by have:=y.2;omega) _ _ _ _ h
 quiet:=λhk h=>yS _ _ _ _ hk.1 (by have:=hk.2;omega) h
noncomputable abbrev Key:=Sum Int Str
def DO:Key->Value->Bool
 | .inl k,v=>Value.isInt k v|.inr x,v=>Value.isStrOf x v
def Ar(w:World):Key->Int
 | .inl k=>hashInt k|.inr x=>hashStr w x
theorem RA:∀{k:Key}{v:Value},DO k v=true->(∃i t,k=Sum.inl i/\v=Value.int i t)∨(∃x t,k=Sum.inr x/\v=Value.str x t)
 | .inl i,v,h=>by obtain⟨t,e⟩:=Value.isInt_shape (k:=i) (v:=v) h;exact .inl ⟨i,t,rfl,e⟩|.inr x,v,h=>by obtain⟨t,e⟩:=Value.isStrOf_shape (x:=x) (v:=v) h;exact .inr ⟨x,t,rfl,e⟩
theorem IY(i:Int)(t:Tok):DO (.inl i) (.int i t)=true:=by simp[DO,Value.isInt]
theorem EY(x:Str)(t:Tok):DO (.inr x) (.str x t)=true:=by simp[DO,Value.isStrOf]
theorem si(a b:Int):decide ((Sum.inl a:Key)=Sum.inl b)=(a==b):=by by_cases e:a=b;subst e;simp;have h:¬ (Sum.inl a:Key)=Sum.inl b:=λq=>e (Sum.inl.inj q);rw[dF h];exact(beq_eq_false_iff_ne.mpr e).symm
theorem xi(a b:Str):decide ((Sum.inr a:Key)=Sum.inr b)=decide (a=b):=by by_cases e:a=b;subst e;simp;have h:¬ (Sum.inr a:Key)=Sum.inr b:=λq=>e (Sum.inr.inj q);rw[dF h,dF e]
theorem fi(a:Int)(b:Str):decide ((Sum.inl a:Key)=Sum.inr b)=false:=dF (λq=>nomatch q)
theorem ui(a:Str)(b:Int):decide ((Sum.inr a:Key)=Sum.inl b)=false:=dF (λq=>nomatch q)
noncomputable def ND(prog:Program)(w:World):PySem.KeyKind prog w Key where
 is:=DO
 hash:=Ar w
 inj:=λv a b f hb=>by
  rcases RA f with⟨i,t,rfl,rfl⟩| ⟨x,t,rfl,rfl⟩
  rcases RA hb with⟨j,u,rfl,e⟩| ⟨y,u,rfl,e⟩
  ·injection e with e1 _;rw[e1]
  exact nomatch e;rcases RA hb with⟨j,u,rfl,e⟩| ⟨y,u,rfl,e⟩
  ·exact nomatch e
  injection e with e1 _;rw[e1]
 byValue:=λk v h=>by rcases RA h with⟨i,t,rfl,rfl⟩| ⟨x,t,rfl,rfl⟩<;>rfl
 pyHash:=λhv h=>by
  rcases RA hv with⟨i,t,rfl,rfl⟩| ⟨x,t,rfl,rfl⟩
  exact wpAny_pyHash_int h;exact QB4 h
 eqBool:=λz hv h=>by
  rcases RA z with⟨i,t,rfl,rfl⟩| ⟨x,t,rfl,rfl⟩
  rcases RA hv with⟨j,u,rfl,rfl⟩| ⟨y,u,rfl,rfl⟩
  ·rw[si]at h;exact QAl h
  rw[fi]at h;exact QBW i t y u _ _ _ _ h;rcases RA hv with⟨j,u,rfl,rfl⟩| ⟨y,u,rfl,rfl⟩
  ·rw[ui]at h;exact QBX x t j u _ _ _ _ h
  rw[xi]at h;exact wpAny_eqBool_str h
 «strs»:=λk x t v h=>by
  rcases RA h with⟨i,u,rfl,e⟩| ⟨y,u,rfl,e⟩
  exact nomatch e;injection e with e1 _;subst e1;cases v<;>rfl
theorem uS(prog:Program)(w:World)(i:Int)(t:Tok):(ND prog w).is (.inl i) (.int i t)=true:=IY i t
theorem xS(prog:Program)(w:World)(x:Str)(t:Tok):(ND prog w).is (.inr x) (.str x t)=true:=EY x t
set_option genInjectivity true in
inductive V where
 |non|bl (b:Bool)|int (i:Int)|str (x:Str)|byt (b:Array UInt8)|flt (b:UInt64)|ref (a:Addr)|ty (n:String)
 deriving DecidableEq
abbrev LV:=List V
noncomputable def iA:V->Value->Prop
 | .non,u=>u=Value.none|.bl b,u=>u=Value.bool b|.int i,u=>∃t,u=Value.int i t|.str x,u=>∃t,u=Value.str x t|.byt b,u=>∃t,u=Value.bytes b t|.flt b,u=>∃t,u=Value.float b t|.ref a,u=>u=Value.ref a|.ty n,u=>u=Value.type n
noncomputable abbrev oA:LV->LW->Prop:=Paired iA
theorem oA.length{xs:LV}{us:LW}(r:oA xs us):xs.length=us.length:=qH r
theorem oA.get:∀{xs:LV}{us:LW}{i:Nat}{x:V},oA xs us->xs[i]?=some x->∃u,us[i]?=some u/\iA x u
 |_,_,_,_,.nil,e=>by simp at e|_,_,0,_,.cons r _,e=>by simp at e;subst e;exact⟨_,rfl,r⟩|_,_,i+1,x,.cons _ t,e=>by obtain⟨u,y,h⟩:=oA.get (i:=i) (x:=x) t (by simpa using e);exact⟨u,by simpa using y,h⟩
theorem oA.set{x:V}{u:Value}(r:iA x u):∀{xs:LV}{us:LW}(i:Nat),oA xs us->oA (xs.set i x) (us.set i u)
 |_,_,_,.nil=>.nil|_,_,0,.cons _ t=>.cons r t|_,_,i+1,.cons q t=>.cons q (oA.set r i t)
theorem oA.append:∀{xs h:LV}{us ws:LW},oA xs us->oA h ws->oA (xs++h) (us++ws)
 |_,_,_,_,.nil,s=>s|_,_,_,_,.cons r t,s=>.cons r (oA.append t s)
theorem oA.take:∀{xs:LV}{us:LW}(n:Nat),oA xs us->oA (xs.take n) (us.take n)
 |_,_,0,_=>.nil|_,_,_+1,.nil=>.nil|_,_,n+1,.cons r t=>.cons r (oA.take n t)
theorem oA.drop:∀{xs:LV}{us:LW}(n:Nat),oA xs us->oA (xs.drop n) (us.drop n)
 |_,_,0,r=>r|_,_,_+1,.nil=>.nil|_,_,n+1,.cons _ t=>oA.drop n t
def FT:Option V->Option Value->Prop
 |some v,some u=>iA v u|none,none=>True|_,_=>False
def KV{h:Type}:List (h×V)->List (h×Value)->Prop:=Paired λ(p:h×V) (q:h×Value)=>p.1=q.1/\iA p.2 q.2
def kV:Key->V
 | .inl i=>.int i|.inr x=>.str x
inductive HO where
 |lst (xs:LV)
 |tup (xs:LV)
 |dK (kvs:List (Key×V))|dT (ep:Nat) (kvs:List (NK×Addr×V))
 |set (S:Int->Bool) (n:Nat)
 |ins (C dx:Addr) (fs:List (Str×V))
 |own (x:Addr)
 |xd (fs:List (Str×V))
 |met (f x:Addr)
 |rng (lo hi:Int)
 |frz (o:Obj) (u:HO)
 |tbl (q:Str)
 |ext (φ:Heap->Prop)
noncomputable abbrev Hp:=Addr->Option HO
def CA(H:Hp)(a:Addr)(o:HO):Hp:=λb=>if b=a then some o else H b
theorem YA:CA H a o a=some o:=by unfold CA;rw[if_pos rfl]
theorem vA(h:b≠a):CA H a o b=H b:=by unfold CA;rw[if_neg h]
theorem r8{u:HO}:CA (CA H a o) a u=CA H a u:=by funext b;unfold CA;split<;>rfl
theorem aA(h:H a=some o)(h':H b=none):a≠b:=by intro e;subst e;rw[h]at h';cases h'
end
section
variable(P:Program)(w:World)
noncomputable def FA(H:Hp)(h:Heap)(a:Addr):HO->Prop
 | .lst k=>k.length<=sizeLine/\∃(z:LW) (n:Nat),oA k z/\h.get? a=some { cls:=.type "list",data:=.seq z.toArray n }|.tup k=>k.length<=sizeLine/\∃z:LW,oA k z/\IsTup h a z.toArray|.dK y=>y.length<=sizeLine/\(a==sysModules)=false/\∃m,KV y m/\h.DictOf (ND P w) a m|.dT W y=>y.length<=sizeLine/\(a==sysModules)=false/\∃k:List (NK×Addr×Value),
   Paired (λ(p:NK×Addr×V) (q:NK×Addr×Value)=>p.1=q.1/\p.2.1=q.2.1/\iA p.2.2 q.2.2) y k /\
   ∃o X,h.get? a=some o/\o.ExactDict/\o.data=.dict X W/\X.toList=k.map (entryOfKey (yF P w))/\(k.map (·.1)).Nodup
 | .set S n=>h.SetOf (intKind P w) a S n|.ins C e fs=>H e=some (.own a)/\fs.length<=1000/\e≠a/\h.get? a=some (QAu C e) /\
   ∃b,h.Ns1 e b/\(∀f,FT (fs.lookup f) (b f))/\PySem.Within b (fs.map (·.1))
 | .own _=>∃o,h.get? a=some o|.xd fs=>∃b,h.Ns1 a b/\∀f,FT (fs.lookup f) (b f)|.rng Y Z=>∃t u v,h.get? a=some { cls:=.type "range",data:=.fields #[.int Y t,.int Z u,.int 1 v] }|.frz o u=>h.get? a=some o/\FA H h a u|.tbl q=>∃i,h.get? a=some { cls:=.none,data:=.fields i }/\TriplesOk i.toList/\∀j l,codeAmong j i.toList=some l->∃c,l=.ref c/\H c=some (.own a)/\h.CodeRec l q|.met f x=>h.get? a=some (QAS (.ref f) (.ref x))|.ext g=>g h/\(∃o,h.get? a=some o)/\∀s r:Heap,g s->(∀o,s.get? a=some o->r.get? a=some o)->g r
def lL(H:Hp)(h:Heap):Prop:=∀a o,H a=some o->FA P w H h a o
end
section
variable{P:Program}{w:World}{H i:Hp}{h h':Heap}{a:Addr}{o:HO}
theorem FA.lt(x:FA P w H h a o):a<h.objs.size:=by
 cases o with|lst v=>obtain⟨_,_,_,_,e⟩:=x;exact QY e|tup v=>obtain⟨_,_,_,p⟩:=x;exact p.lt|dK z=>obtain⟨_,_,_,_,o,_,_,e,_⟩:=x;exact QY e|dT j z=>obtain⟨_,_,_,_,o,_,e,_⟩:=x;exact QY e|set S n=>obtain⟨o,_,_,_,e,_⟩:=x;exact QY e|ins C l fs=>obtain⟨_,_,_,e,_⟩:=x;exact QY e|own y=>obtain⟨_,e⟩:=x;exact QY e|xd fs=>obtain⟨_,⟨_,_,_,e,_⟩,_⟩:=x;exact QY e|rng b g=>obtain⟨_,_,_,e⟩:=x;exact QY e|frz ob u=>obtain⟨e,_⟩:=x;exact QY e|tbl q=>obtain⟨_,e,_⟩:=x;exact QY e|met f y=>exact QY (show h.get? a=some _ from x)|ext k=>obtain⟨_,⟨_,e⟩,_⟩:=x;exact QY e
theorem Paired.mapP{α z:Type}{F G:α->z->Prop}:∀{y:List α}{x:List z},Paired F y x->(∀a b,F a b->G a b)->Paired G y x
 |_,_,.nil,_=>.nil|_,_,.cons r t,f=>.cons (f _ _ r) (Paired.mapP t f)
theorem FA.stay(x:FA P w H h a o)(k:∀b u,(b=a∨H b=some (.own a))->h.get? b=some u->h'.get? b=some u)
  (K:∀b,H b=some (.own a)->i b=some (.own a)) (O:∀b xs,H b=some (.tup xs)->i b=some (.tup xs)):FA P w i h' a o:=by
 induction o with|lst xs=>obtain⟨z,m,n,r,e⟩:=x;exact⟨z,m,n,r,k _ _ (.inl rfl) e⟩|tup xs=>obtain⟨z,m,r,ob,e,c⟩:=x;exact⟨z,m,r,ob,k _ _ (.inl rfl) e,c⟩|dK W=>obtain⟨z,y,s,r,ob,j,l,e,c⟩:=x;exact⟨z,y,s,r,ob,j,l,k _ _ (.inl rfl) e,c⟩|dT l W=>obtain⟨z,y,xs,r,ob,j,e,c⟩:=x;exact⟨z,y,xs,r,ob,j,k _ _ (.inl rfl) e,c⟩|set S n=>obtain⟨ob,j,l,t,e,c⟩:=x;exact⟨ob,j,l,t,k _ _ (.inl rfl) e,c⟩|ins C R fs=>obtain⟨d,z,F,e,Z,⟨Y,j,l,J,c⟩,r⟩:=x;exact⟨K _ d,z,F,k _ _ (.inl rfl) e,Z,⟨Y,j,l,k _ _ (.inr d) J,c⟩,r⟩|own y=>obtain⟨ob,e⟩:=x;exact⟨ob,k _ _ (.inl rfl) e⟩|xd fs=>obtain⟨Z,⟨Y,j,l,e,c⟩,r⟩:=x;exact⟨Z,⟨Y,j,l,k _ _ (.inl rfl) e,c⟩,r⟩|rng N Q=>obtain⟨t,u,v,e⟩:=x;exact⟨t,u,v,k _ _ (.inl rfl) e⟩|frz ob u G=>obtain⟨e,q⟩:=x;exact⟨k _ _ (.inl rfl) e,G q⟩|tbl q=>obtain⟨E,e,t,f⟩:=x;refine⟨E,k _ _ (.inl rfl) e,t,λX L g=>?_⟩;obtain⟨c,rfl,o,c1,ob,s,B,A,I,r⟩:=f X L g;cases A;exact⟨c,rfl,K _ o,c,ob,s,B,rfl,k _ _ (.inr o) I,r⟩|met f y=>have e:h.get? a=some (QAS (.ref f) (.ref y)):=x;show h'.get? a=some (QAS (.ref f) (.ref y));exact k a _ (.inl rfl) e|ext M=>obtain⟨p,⟨o,e⟩,st⟩:=x;exact⟨st _ _ p λo q=>k _ _ (.inl rfl) q,⟨o,k _ _ (.inl rfl) e⟩,st⟩
theorem lL.lt(x:lL P w H h)(e:H a=some o):a<h.objs.size:=(x a o e).lt
theorem lL.fresh(x:lL P w H h)(e:h.objs.size<=a):H a=none:=by
 cases q:H a with|none=>rfl|some u=>exact absurd (Qm (x.lt q) e) (qy _)
theorem lL.kept(x:lL P w H h)(k:∀b u,h.get? b=some u->h'.get? b=some u):lL P w H h':=λa o e =>
 (x a o e).stay (λb u _ q=>k b u q) (λ_ q=>q) λ_ _ q=>q
theorem lL.laid(x:lL P w H h)(k:∀b u,h.get? b=some u->h'.get? b=some u)(z:h.objs.size<=a)(new:FA P w (CA H a o) h' a o):lL P w (CA H a o) h':=λb u e=>by have y:=x.fresh z;by_cases hb:b=a;subst hb;rw[YA]at e;cases e;exact new;rw[vA hb]at e;exact(x b u e).stay (λc v _ q=>k c v q) (λc q=>by rw[vA (aA q y)];exact q) λc f q=>by rw[vA (aA q y)];exact q
end
def Rd(H:Hp)(a:Addr)(u:HO):Prop:=H a=some u∨∃o,H a=some (.frz o u)
theorem Rd.ok{P:Program}{w:World}{H:Hp}{h:Heap}{a:Addr}{u:HO}(r:Rd H a u)(x:lL P w H h):FA P w H h a u:=by
 rcases r with r|⟨o,r⟩
 exact x a u r;obtain⟨_,q⟩:=x a _ r;exact q
def Vk:Option HO->Prop
 |some (.lst _)=>True|some (.dK _)=>True|some (.dT _ _)=>True|some (.set _ _)=>True|some (.ins _ _ _)=>True|some (.ext _)=>True|_=>False
section
variable{P:Program}{w:World}{H:Hp}{h h':Heap}{x e:Addr}{a:HO}
theorem lL.write(ok:lL P w H h)(l:Vk (H x))(o:e=x∨H e=some (.own x))(k:∀b u,b≠e->h.get? b=some u->h'.get? b=some u)(m:∃u,h'.get? e=some u)
  (new:FA P w (CA H x a) h' x a):lL P w (CA H x a) h':=λb u q=>by
 have g:∀c y,H c=some (.own y)->c≠x:=λc y r z=>by subst z;rw[r]at l;exact l
 have i:∀c j,H c=some (.tup j)->c≠x:=λc j r z=>by subst z;rw[r]at l;exact l
 by_cases hb:b=x;subst hb;rw[YA]at q;cases q;exact new;rw[vA hb]at q;by_cases f:b=e;have n:H b=some (.own x):=by rcases o with z|z;exact absurd (f.trans z) hb;rw[f];exact z
 rw[q]at n;cases n;obtain⟨v,hv⟩:=m;exact⟨v,by rw[f];exact hv⟩;refine(ok b u q).stay (λc v hc r=>k c v ?_ r) (λc r=>by rw[vA (g c b r)];exact r) λc j r=>by rw[vA (i c j r)];exact r
 rcases hc with rfl|hc;exact f;rintro rfl;rcases o with z|z;exact g c b hc z;rw[hc]at z;cases z;exact hb rfl
end
structure Un(fs ex:List Addr)(H H':Hp)(h h':Heap):Prop where
 keep:∀b o,h.get? b=some o->H b=none->b∉fs->b∉ex->h'.get? b=some o
 slot:∀b o,h.get? b=some o->H b=none->b∈fs->b∉ex->∃sl,h'.get? b=some { o with slots:=sl }
 free:∀b o,h.get? b=some o->H b=none->b∉ex->H' b=none
 there:∀b o,h.get? b=some o->b∉ex->∃o',h'.get? b=some o'
 tups:∀b xs,H b=some (.tup xs)->H' b=some (.tup xs)
 frzs:∀b o u,H b=some (.frz o u)->H' b=some (.frz o u)
 tbls:∀b q,H b=some (.tbl q)->H' b=some (.tbl q)
section
variable{y w ex c:List Addr}{H d g:Hp}{h v f h':Heap}{a x e:Addr}{o:HO}
theorem Un.any(u:Un y ex H d h v){b:Addr}{ob:Obj}(q:h.get? b=some ob)(n:H b=none)(z:b∉ex):∃k,v.get? b=some { ob with slots:=k }:=by by_cases hb:b∈y;exact u.slot b ob q n hb z;exact⟨ob.slots,u.keep b ob q n hb z⟩
theorem Un.kept(k:∀b u,h.get? b=some u->h'.get? b=some u):Un y ex H H h h' :=
 ⟨λb ob q _ _ _=>k b ob q,λb ob q _ _ _=>⟨ob.slots,k b ob q⟩,λ_ _ _ n _=>n,λb ob q _=>⟨ob,k b ob q⟩,λ_ _ q=>q,λ_ _ _ q=>q,λ_ _ q=>q⟩
theorem Un.refl:Un y ex H H h h:=Un.kept λ_ _ q=>q
theorem Un.laid(k:∀b u,h.get? b=some u->h'.get? b=some u)(j:h.objs.size<=a)(z:H a=none):Un y ex H (CA H a o) h h' where
 keep:=λb u q _ _ _=>k b u q
 slot:=λb u q _ _ _=>⟨u.slots,k b u q⟩
 free:=λb u q n _=>by rw[vA (Qj (Qm (QY q) j))];exact n
 there:=λb u q _=>⟨u,k b u q⟩
 tups:=λb i q=>by rw[vA (aA q z)];exact q
 frzs:=λb u i q=>by rw[vA (aA q z)];exact q
 tbls:=λb l q=>by rw[vA (aA q z)];exact q
theorem Un.write(j:Vk (H x))(X:e=x∨H e=some (.own x))(k:∀b u,b≠e->h.get? b=some u->h'.get? b=some u)(m:∃u,h'.get? e=some u):Un y ex H (CA H x o) h h':=by
 have p:∀b,H b=none->b≠x:=λb n z=>by subst z;rw[n]at j;exact j
 have hb:∀b,H b=none->b≠e:=λb n z=>by subst z;rcases X with r|r;exact p b n r;rw[n]at r;cases r
 have l:∀b u,H b=some u->¬ Vk (some u)->b≠x:=λb u q nm z=>by subst z;rw[q]at j;exact nm j
 refine⟨λb u q n _ _=>k b u (hb b n) q,λb u q n _ _=>⟨u.slots,k b u (hb b n) q⟩,λb u q n _=>by rw[vA (p b n)];exact n,λb u q _=>?_,
  λb s q=>by rw[vA (l b _ q λz=>z)];exact q,λb u s q=>by rw[vA (l b _ q λz=>z)];exact q,λb Y q=>by rw[vA (l b _ q λz=>z)];exact q⟩
 by_cases i:b=e;subst i;exact m;exact⟨u,k b u i q⟩
end
section
variable{h:Heap}{b:Addr}{o:Obj}
def Ap(h:Heap)(H:Hp):List Addr:=(Qr h.objs.size).filter λa=>(H a).isSome
def ZQ(h:Heap)(H:Hp):Heap:=PySem.W.hideAll h (Ap h H)
theorem xZ(h:Heap)(H:Hp):(ZQ h H).objs.size=h.objs.size:=PySem.W.hideAll_size _ _
theorem j6{H:Hp}(e:h.get? b=some o)(n:H b=none):(ZQ h H).get? b=some o :=
 PySem.W.hideAll_get _ e λx=>by have q:(H b).isSome=true:=(QO.mp x).2;rw[n]at q;simp at q
theorem ya{H:Hp}(e:(ZQ h H).get? b=some o):h.get? b=some o/\H b=none:=by
 have y:h.get? b=some o:=PySem.W.of_hideAll (Ap h H) e;refine⟨y,?_⟩;cases q:H b with|none=>rfl|some x=>have u:b∈Ap h H:=QO.mpr ⟨qD.mpr (QY y),by simp[q]⟩;have z:(ZQ h H).get? b=none:=PySem.W.hideAll_none (Ap h H) u;rw[z]at e;cases e
structure Mod(K:QA)(mg:Str->Option Value)(base:Heap):Prop where
 kin:K.In base
 glob:base.Ns mainGlobals mg
 blt:∃mb,base.Ns builtinsNs mb/\∀x:Str,x≠"__name__"->mb x=bootBuiltins x
 nolimit:base.NoLimit
structure Cx where
 prog:Program
 w:World
 K:QA
 mg:Str->Option Value
 base:Heap
 A:Around
 N:LS
 s₀:Shared
 H₀:Hp
 env:Env
 outer:List Env
 stack:List Env
 ex:List Addr
 fn:Str->Bool
 calm:Bool
 pn:PB
 xe:Value->Shared->Prop
def nX(l:List Env):List Addr:=l.filterMap (·.frame)
noncomputable abbrev Cx.fs(X:Cx):List Addr:=nX X.outer
def yp(sc:Scope)(x:Str):Prop:=sc.names.lookup x=some .local∨sc.names.lookup x=some .cell∨sc.names.lookup x=some .free
def Xk(sc:Scope)(x:Str):Prop:=sc.names.lookup x=some .local∨sc.names.lookup x=some .cell
def gu(env:Env)(h:Heap)(m:Str->Option Value)(x:Str)(u:Value):Prop :=
 (env.kindOf x=some .local/\m x=some u)∨((env.kindOf x=some .cell∨env.kindOf x=some .free)/\∃c,env.cells.lookup x=some c/\h.IsCell c (some u))
def vP(mg:Str->Option Value)(x:Heap)(P:Addr)(q:Str):Prop :=
 ∃f o y c,mg "going_order"=some (.ref f)/\x.get? f=some o/\o.data=.func y/\y.code=.ref c/\PySem.W.CodeHd x c P/\q=y.qualname++".<locals>.<lambda>"
structure Cx.Ok(X:Cx):Prop where
 mod:Mod X.K X.mg X.base
 kind:X.env.scope.kind=.function
 glob:X.env.globals=mainGlobals
 blt:X.env.builtins=builtinsNs
 above:X.s₀.heap.objs.size<=X.env.locals
 inj:∀x y c,X.env.cells.lookup x=some c->X.env.cells.lookup y=some c->x=y
 has:∀x,(X.env.kindOf x=some .cell∨X.env.kindOf x=some .free)->∃c,X.env.cells.lookup x=some c
 cab:∀x c,X.fn x=true->X.env.cells.lookup x=some c->X.s₀.heap.objs.size<=c
 hd:X.calm=true->X.A.handled=none
 frames:X.A.frames=some X.stack
 stk:X.stack=X.outer∨(X.stack=X.env::X.outer/\X.env.frame=some X.env.locals)
 exf:∀b∈X.ex,b≠X.env.locals/\∀x c,X.env.cells.lookup x=some c->c≠b
 bs:∀b o,X.base.get? b=some o->X.s₀.heap.get? b=some o/\X.H₀ b=none
 bsz:X.base.objs.size<=X.s₀.heap.objs.size
 noex:∀b o,X.base.get? b=some o->b∉X.ex
 exfs:∀b∈X.ex,b∉X.fs
 funs:X.s₀.heap.FunFrames X.base X.outer
 frf:∀b∈X.fs,X.H₀ b=none
 tb:∀P q,vP X.mg X.base P q->X.H₀ P=some (.tbl q)
structure Inv(X:Cx)(pins:PB)(σ:List (Option V))(H:Hp)(s:Shared):Prop where
 ok:X.Ok
 os:s.os=X.s₀.os
 bare:AllBare s.gens
 base:Un X.fs X.ex X.H₀ H X.s₀.heap s.heap
 loc:∃m,s.heap.Ns X.env.locals m/\∀(i:Nat) (x:Str) (v:V),X.N[i]?=some x->σ[i]?=some (some v)->yp X.env.scope x->∃u,iA v u/\gu X.env s.heap m x u
 cell:∀x c,X.env.cells.lookup x=some c->∃v,s.heap.IsCell c v
 free:H X.env.locals=none
 freeC:∀x c,X.env.cells.lookup x=some c->H c=none
 pin:∀p∈X.pn++pins,s.heap.get? p.1=some p.2/\H p.1=none/\p.1≠X.env.locals/\p.1∉X.fs/\∀v,p.2.data≠.cell v
 hok:lL X.prog X.w H s.heap
 len:σ.length=X.N.length
end
section
variable{X:Cx}{f:PB}{σ:List (Option V)}{H g:Hp}{s:Shared}{h':Heap}
section
variable{a:Addr}{g':Array GenState}{ch:List Addr}{i:Nat}{x:Str}{M:Model}{A:Around}{E:pC}{u:Value}{Q:Unit->Shared->Prop}
theorem Cx.Ok.nofr(ok:X.Ok){b:Addr}{o:Obj}(e:X.base.get? b=some o):b∉X.fs:=λhb=>by have:=(ok.funs.mem hb).1;rw[e]at this;cases this
theorem Inv.bs(I:Inv X f σ H s):∀b o,X.base.get? b=some o->s.heap.get? b=some o/\H b=none:=λb o e =>
 ⟨I.base.keep b o (I.ok.bs b o e).1 (I.ok.bs b o e).2 (I.ok.nofr e) (I.ok.noex b o e),I.base.free b o (I.ok.bs b o e).1 (I.ok.bs b o e).2 (I.ok.noex b o e)⟩
theorem Inv.bk(I:Inv X f σ H s):∀b o,X.base.get? b=some o->s.heap.get? b=some o:=λb o e=>(I.bs b o e).1
theorem Inv.tb(I:Inv X f σ H s):∀P q,vP X.mg X.base P q->H P=some (.tbl q):=λP q h=>I.base.tbls P q (I.ok.tb P q h)
theorem Inv.mod(I:Inv X f σ H s):Mod X.K X.mg X.base:=I.ok.mod
theorem Inv.kIn(I:Inv X f σ H s):X.K.In s.heap:=I.ok.mod.kin.keeps I.bk
theorem Inv.nolimit(I:Inv X f σ H s):s.heap.NoLimit:=I.ok.mod.nolimit.keeps I.bk
theorem Inv.lt(I:Inv X f σ H s):X.env.locals<s.heap.objs.size:=let⟨_,h,_⟩:=I.loc;h.lt
theorem Inv.sz(I:Inv X f σ H s):X.s₀.heap.objs.size<=s.heap.objs.size:=QX I.ok.above (QAv I.lt)
theorem Inv.nofs(I:Inv X f σ H s)(h:s.heap.objs.size<=a):a∉X.fs:=λhb=>by obtain⟨_,o,y,_⟩:=I.ok.funs.mem hb;exact absurd (Qm (QY y) (QX I.sz h)) (qy _)
theorem Inv.cne(I:Inv X f σ H s):∀x c,X.env.cells.lookup x=some c->c≠X.env.locals:=λx c e z=>by obtain⟨v,o,w,k⟩:=I.cell x c e;obtain⟨m,⟨b,j,l,h,y,_⟩,_⟩:=I.loc;rw[z,h]at w;cases w;rw[y]at k;cases k
theorem Inv.funs(I:Inv X f σ H s):s.heap.FunFrames X.base X.outer:=by
 have all:∀(l:List Env),(∀b∈nX l,b∈X.fs)->X.s₀.heap.FunFrames X.base l->s.heap.FunFrames X.base l:=by
  intro l;induction l with|nil=>intro _ _;trivial|cons p r w=>intro v hl;obtain⟨hk,⟨L,o,h,m,j,n⟩,k⟩:=hl;have y:L∈X.fs:=v L (by unfold nX;rw[WG,h];exact QD);obtain⟨q,e⟩:=I.base.slot L o j (I.ok.frf L y) y λz=>I.ok.exfs L z y;exact⟨hk,⟨L,_,h,m,e,n⟩,w (λb hb=>v b (by unfold nX;rw[WG,h];exact QE _ hb)) k⟩
 exact all X.outer (λ_ hb=>hb) I.ok.funs
theorem Inv.stack(I:Inv X f σ H s):s.heap.FunFrames X.base X.stack:=by
 rcases I.ok.stk with e|⟨e,y⟩
 rw[e];exact I.funs;rw[e];obtain⟨m,h,_⟩:=I.loc;refine .cons (by rw[I.ok.kind];decide) y h ?_ I.funs;exact Heap.get?_none_of_le (QX I.ok.bsz I.ok.above)
theorem Inv.stkSub(I:Inv X f σ H s):∀b∈nX X.stack,b∈X.env.locals::X.fs:=λb hb=>by
 rcases I.ok.stk with e|⟨e,h⟩
 rw[e]at hb;exact QE _ hb;rw[e]at hb;unfold nX at hb;rw[WG,h]at hb;exact hb
theorem Inv.stkFree(I:Inv X f σ H s):∀b∈nX X.stack,H b=none:=λb hb=>by rcases QL.mp (I.stkSub b hb) with e|hb;rw[e];exact I.free;obtain⟨_,o,h,_⟩:=I.ok.funs.mem hb;exact I.base.free b o h (I.ok.frf b hb) λz=>I.ok.exfs b z hb
theorem Inv.step{t':Nat}{d':Drawn}(I:Inv X f σ H s)
  (j:∀b∈ch,(b∈X.ex∨X.s₀.heap.objs.size<=b)/\b≠X.env.locals/\(∀x c,X.env.cells.lookup x=some c->c≠b)/\∀p∈X.pn++f,p.1≠b)
  (keep:∀b o,b≠X.env.locals->b∉X.fs->b∉ch->s.heap.get? b=some o->H b=none->h'.get? b=some o)
  (W:∀b o,b≠X.env.locals->b∈X.fs->b∉ch->s.heap.get? b=some o->H b=none->∃R,h'.get? b=some { o with slots:=R }) (free:∀b o,b∉ch->s.heap.get? b=some o->H b=none->g b=none)
  (K:∀b o,b∉ch->s.heap.get? b=some o->∃J,h'.get? b=some J)
  (F:∀b xs,H b=some (.tup xs)->g b=some (.tup xs)) (N:∀b o u,H b=some (.frz o u)->g b=some (.frz o u)) (G:∀b O,H b=some (.tbl O)->g b=some (.tbl O))
  (ns:∀m,s.heap.Ns X.env.locals m->h'.Ns X.env.locals m) (S:lL X.prog X.w g h') (hg:AllBare g') :
  Inv X f σ g { s with heap:=h',gens:=g',drawn:=d',toks:=t' }:=by
 have L:∀b o,X.s₀.heap.get? b=some o->b≠X.env.locals:=λb o e=>Qj (Qm (QY e) I.ok.above);have Z:∀b o,X.s₀.heap.get? b=some o->b∉X.ex->b∉ch:=λb o e h hb=>by rcases(j b hb).1 with z|z;exact h z;exact absurd (Qm (QY e) z) (qy _)
 have Y:∀x c,X.env.cells.lookup x=some c->∀v,s.heap.IsCell c v->h'.IsCell c v:=λx c e v ⟨o,C,hd⟩=>by have y:c∉ch:=λz=>(j c z).2.2.1 x c e rfl;by_cases hc:c∈X.fs;obtain⟨R,q⟩:=W c o (I.cne x c e) hc y C (I.freeC x c e);exact⟨_,q,hd⟩;exact⟨o,keep c o (I.cne x c e) hc y C (I.freeC x c e),hd⟩
 refine⟨I.ok,I.os,hg,⟨λb o e n hb h=>?_,λb o e n hb h=>?_,λb o e n h=>?_,λb o e h=>?_,λb xs e=>F b xs (I.base.tups b xs e),λb o xs e=>N b o xs (I.base.frzs b o xs e),λb O e=>?_⟩,?_,λx c e=>?_,?_,λx c e=>?_,λp hp=>?_,S,I.len⟩;exact keep b o (L b o e) hb (Z b o e h) (I.base.keep b o e n hb h) (I.base.free b o e n h);obtain⟨R,B⟩:=I.base.slot b o e n hb h;obtain⟨P,e2⟩:=W b _ (L b o e) hb (Z b o e h) B (I.base.free b o e n h);exact⟨P,e2⟩;obtain⟨J,B⟩:=I.base.there b o e h;exact free b J (Z b o e h) B (I.base.free b o e n h);obtain⟨J,B⟩:=I.base.there b o e h;exact K b J (Z b o e h) B;exact G b _ (I.base.tbls b O e);obtain⟨m,hn,hl⟩:=I.loc;refine⟨m,ns m hn,λi x v B e2 e3=>?_⟩;obtain⟨u,r,l⟩:=hl i x v B e2 e3;refine⟨u,r,?_⟩;rcases l with l|⟨k,c,e,z⟩
 exact .inl l;exact .inr ⟨k,c,e,Y x c e _ z⟩;obtain⟨v,z⟩:=I.cell x c e;exact⟨v,Y x c e v z⟩;obtain⟨m,⟨o,_,_,C,_⟩,_⟩:=I.loc;exact free _ o (λz=>(j _ z).2.1 rfl) C I.free;obtain⟨v,o,C,hd⟩:=I.cell x c e;exact free c o (λz=>(j c z).2.2.1 x c e rfl) C (I.freeC x c e);obtain⟨e,n,ne,nf,d⟩:=I.pin p hp;have y:p.1∉ch:=λz=>(j p.1 z).2.2.2 p hp rfl;exact⟨keep p.1 p.2 ne nf y e n,free p.1 p.2 y e n,ne,nf,d⟩
theorem Inv.un{t':Nat}(I:Inv X f σ H s)(u:Un X.fs [] H g s.heap h')(y:lL X.prog X.w g h'):Inv X f σ g { s with heap:=h',toks:=t' }:=by obtain⟨m,⟨o,K,B,j,r⟩,_⟩:=id I.loc;obtain⟨Y,q⟩:=u.any j I.free (by simp);exact I.step (g':=s.gens) (d':=s.drawn) (ch:=[]) (λ_ z=>nomatch z) (λb o _ hb _ e n=>u.keep b o e n hb (by simp)) (λb o _ hb _ e n=>u.slot b o e n hb (by simp)) (λb o _ e n=>u.free b o e n (by simp)) (λb o _ e=>u.there b o e (by simp)) u.tups u.frzs u.tbls (λW p=>by obtain⟨Z,v,k,h,l⟩:=p;rw[j]at h;cases h;exact⟨_,v,k,q,l⟩) y I.bare
theorem Inv.call{t':Nat}{d':Drawn}(I:Inv X f σ H s)(u:Un (nX X.stack) ch H g s.heap h')(v:lL X.prog X.w g h')(W:AllBare g')
  (y:∀b∈ch,(b∈X.ex∨X.s₀.heap.objs.size<=b)/\b≠X.env.locals/\(∀x c,X.env.cells.lookup x=some c->c≠b)/\∀p∈X.pn++f,p.1≠b) :
  Inv X f σ g { s with heap:=h',gens:=g',drawn:=d',toks:=t' }:=by
 obtain⟨m,⟨o,F,G,q,r⟩,_⟩:=id I.loc;obtain⟨K,k⟩:=u.any q I.free λz=>(y _ z).2.1 rfl;exact I.step (ch:=ch) y (λb o k hb hc e n=>u.keep b o e n (λz=>(QL.mp (I.stkSub b z)).elim k hb) hc) (λb o _ _ hc e n=>u.any e n hc) (λb o hc e n=>u.free b o e n hc) (λb o hc e=>u.there b o e hc) u.tups u.frzs u.tbls (λC Z=>by obtain⟨B,j,l,h,Y⟩:=Z;rw[q]at h;cases h;exact⟨_,j,l,k,Y⟩) v W
theorem Inv.turned{t':Nat}{it:Addr}(I:Inv X f σ H s)(k:∀b o,b≠it->s.heap.get? b=some o->h'.get? b=some o)(j:H it=none)(y:it≠X.env.locals)
  (W:it∈X.ex∨X.s₀.heap.objs.size<=it) (Z:∀x c,X.env.cells.lookup x=some c->c≠it) (Y:∀p∈X.pn++f,p.1≠it):Inv X f σ H { s with heap:=h',toks:=t' }:=by
 have h:∀b u,H b=some u->b≠it:=λb u e z=>by rw[z,j]at e;cases e
 refine I.step (g':=s.gens) (d':=s.drawn) (ch:=[it]) (λb hb=>?_) (λb o _ _ hc e _=>k b o (λz=>hc (by simp[z])) e) (λb o _ _ hc e _=>⟨o.slots,k b o (λz=>hc (by simp[z])) e⟩) (λ_ _ _ _ n=>n)
  (λb o hc e=>⟨o,k b o (λz=>hc (by simp[z])) e⟩) (λ_ _ e=>e) (λ_ _ _ e=>e) (λ_ _ e=>e) (λm l=>?_) (λb u e=>?_) I.bare
 have e:b=it:=by simpa using hb
 subst e;exact⟨W,y,Z,Y⟩;obtain⟨o,K,B,w,r⟩:=l;exact⟨o,K,B,k _ o (Q9 y) w,r⟩;refine(I.hok b u e).stay (λc v hc q=>k c v ?_ q) (λ_ q=>q) λ_ _ q=>q;rcases hc with z|z;rw[z];exact h b u e;exact h c _ z
theorem Inv.tok(I:Inv X f σ H s)(t:Nat):Inv X f σ H { s with toks:=t }:=I.un (h':=s.heap) (t':=t) Un.refl I.hok
theorem Inv.kept{t':Nat}(I:Inv X f σ H s)(k:∀b u,s.heap.get? b=some u->h'.get? b=some u):Inv X f σ H { s with heap:=h',toks:=t' }:=I.un (Un.kept k) (I.hok.kept k)
theorem Inv.laid{o:HO}{t':Nat}(I:Inv X f σ H s)(k:∀b u,s.heap.get? b=some u->h'.get? b=some u)(h:s.heap.objs.size<=a)(new:FA X.prog X.w (CA H a o) h' a o) :
  Inv X f σ (CA H a o) { s with heap:=h',toks:=t' }:=I.un (Un.laid k h (I.hok.fresh h)) (I.hok.laid k h new)
theorem Inv.write{x e:Addr}{o:HO}{t':Nat}(I:Inv X f σ H s)(y:Vk (H x))(z:e=x∨H e=some (.own x))(k:∀b u,b≠e->s.heap.get? b=some u->h'.get? b=some u)(h:∃u,h'.get? e=some u)
  (new:FA X.prog X.w (CA H x o) h' x o):Inv X f σ (CA H x o) { s with heap:=h',toks:=t' }:=I.un (Un.write y z k h) (I.hok.write y z k h new)
theorem Inv.pins_of{y:PB}(I:Inv X f σ H s)(h:∀p∈y,s.heap.get? p.1=some p.2/\H p.1=none/\p.1≠X.env.locals/\p.1∉X.fs/\∀v,p.2.data≠.cell v):Inv X y σ H s :=
 ⟨I.ok,I.os,I.bare,I.base,I.loc,I.cell,I.free,I.freeC,λp w=>(Qf.mp w).elim (λz=>I.pin p (Qe _ z)) (h p),I.hok,I.len⟩
theorem TR{N:LS}(h:N.Nodup){j:Nat}(a:N[i]?=some x)(b:N[j]?=some x):i=j:=by obtain⟨w,z⟩:=Qg.mp a;obtain⟨v,y⟩:=Qg.mp b;exact(List.getElem_inj h).mp (z.trans y.symm)
theorem cO{v:V}(I:Inv X f σ H s)(hN:X.N.Nodup)(O:X.N[i]?=some x)(W:Xk X.env.scope x)(r:iA v u)
  (h:∀s',Inv X f (σ.set i (some v)) H s'->(∃a,qU a s.heap s'.heap/\(a=X.env.locals∨X.env.cells.lookup x=some a))->Q () s') (hf:X.fn x=true∨X.env.scope.names.lookup x=some .local):wpAny M A (storeName X.env x u) Q E s:=by
 obtain⟨m,hn,hl⟩:=id I.loc;have P:(X.env.scope.kind==.class||(X.env.scope.kind==.module&&X.env.locals != X.env.globals))=false:=by rw[I.ok.kind];rfl
 have C:i<σ.length:=by rw[I.len];exact(Qg.mp O).1
 have cne:=I.cne;have Y:∀{a:Addr}{h':Heap},(∃o,s.heap.get? a=some o/\H a=none)->qU a s.heap h'->lL X.prog X.w H h':=λ{a h'} ha l b ob e=>by obtain⟨_,_,K⟩:=ha;refine(I.hok b ob e).stay (λc w' hc q=>(l.2 c ?_).trans q) (λ_ q=>q) λ_ _ q=>q;rintro rfl;rcases hc with rfl|hc;rw[K]at e;cases e;rw[K]at hc;cases hc
 rcases W with hk|hk;refine wpAny_storeName_local hk hn (λh' hn' l=>?_) P;obtain⟨oL,_,_,hoL,_⟩:=id hn;refine h _ ⟨I.ok,I.os,I.bare,⟨λb o e n hb W=>?_,λb o e n hb W=>?_,I.base.free,λb o e W=>?_,I.base.tups,I.base.frzs,I.base.tbls⟩,⟨_,hn',λj y v' Z B e3=>?_⟩,λy c e=>?_,I.free,I.freeC,λp hp=>?_,Y ⟨oL,hoL,I.free⟩ l,by simpa using I.len⟩ ⟨_,l,.inl rfl⟩;exact(l.2 b (Qj (Qm (QY e) I.ok.above))).trans (I.base.keep b o e n hb W);obtain⟨sl,Z⟩:=I.base.slot b o e n hb W;exact⟨sl,(l.2 b (Qj (Qm (QY e) I.ok.above))).trans Z⟩;obtain⟨o',Z⟩:=I.base.there b o e W;exact⟨o',(l.2 b (Qj (Qm (QY e) I.ok.above))).trans Z⟩;by_cases F:j=i
 ·subst F
  rw[O]at Z;cases Z;rw[qd C]at B;cases B;exact⟨u,r,.inl ⟨hk,by simp⟩⟩
 rw[qP (Q9 F)]at B;obtain⟨u',r',q⟩:=hl j y v' Z B e3;refine⟨u',r',?_⟩;rcases q with⟨k,e⟩| ⟨k,c,e,z⟩
 refine .inl ⟨k,?_⟩;have:y≠x:=λe=>F (TR hN Z (e▸O));simp[this,e];exact .inr ⟨k,c,e,z.sameBut l (cne y c e)⟩;obtain⟨w',z⟩:=I.cell y c e;exact⟨w',z.sameBut l (cne y c e)⟩;obtain⟨e,n,ne,nf,d⟩:=I.pin p hp;exact⟨(l.2 p.1 ne).trans e,n,ne,nf,d⟩;have G:X.fn x=true:=by rcases hf with z|z;exact z;rw[z]at hk;cases hk
 obtain⟨c,hc⟩:=I.ok.has x (.inl hk);obtain⟨w',z⟩:=I.cell x c hc;refine wpAny_storeName_cell I.ok.kind hk hc z (λh' S l=>?_);obtain⟨oc,L,J⟩:=id z;refine h { s with heap:=h' } ⟨I.ok,I.os,I.bare,⟨λb o e n hb W=>?_,λb o e n hb W=>?_,I.base.free,λb o e W=>?_,I.base.tups,I.base.frzs,I.base.tbls⟩,⟨m,hn.sameBut l (Q9 (cne x c hc)),λj y v' Z B e3=>?_⟩,λy c' e=>?_,I.free,I.freeC,λp hp=>?_,Y ⟨oc,L,I.freeC x c hc⟩ l,by simpa using I.len⟩ ⟨c,l,.inr hc⟩;exact(l.2 b (Qj (Qm (QY e) (I.ok.cab x c G hc)))).trans (I.base.keep b o e n hb W);obtain⟨sl,Z⟩:=I.base.slot b o e n hb W;exact⟨sl,(l.2 b (Qj (Qm (QY e) (I.ok.cab x c G hc)))).trans Z⟩;obtain⟨o',Z⟩:=I.base.there b o e W;exact⟨o',(l.2 b (Qj (Qm (QY e) (I.ok.cab x c G hc)))).trans Z⟩;by_cases F:j=i
 ·subst F
  rw[O]at Z;cases Z;rw[qd C]at B;cases B;exact⟨u,r,.inr ⟨.inl hk,c,hc,S⟩⟩
 rw[qP (Q9 F)]at B;obtain⟨u',r',q⟩:=hl j y v' Z B e3;refine⟨u',r',?_⟩;rcases q with q|⟨k,c',e,z'⟩
 exact .inl q;refine .inr ⟨k,c',e,z'.sameBut l ?_⟩;rintro rfl;exact F (TR hN Z (I.ok.inj _ _ _ e hc▸O));by_cases R:c'=c
 ·subst R;exact⟨_,S⟩
 obtain⟨w2,z2⟩:=I.cell y c' e;exact⟨w2,z2.sameBut l R⟩;obtain⟨e,n,ne,nf,d⟩:=I.pin p hp;refine⟨(l.2 p.1 ?_).trans e,n,ne,nf,d⟩;intro q;rw[q,L]at e;have q':oc=p.2:=Qo e;exact d w' (by rw[<- q'];exact J)
theorem rR{v:V}(I:Inv X f σ H s)(k:X.N.Nodup)(z:X.N[i]?=some x)(y:Xk X.env.scope x)(r:iA v u)
  (h:∀s',Inv X f (σ.set i (some v)) H s'->Q () s') (w:X.fn x=true∨X.env.scope.names.lookup x=some .local):wpAny M A (storeName X.env x u) Q E s :=
 cO I k z y r (λs' b _=>h s' b) w
theorem Inv.call'{s':Shared}(I:Inv X f σ H s)(v:s'.os=s.os)(u:Un (nX X.stack) ch H g s.heap s'.heap)(h:lL X.prog X.w g s'.heap)(k:AllBare s'.gens)
  (y:∀b∈ch,(b∈X.ex∨X.s₀.heap.objs.size<=b)/\b≠X.env.locals/\(∀x c,X.env.cells.lookup x=some c->c≠b)/\∀p∈X.pn++f,p.1≠b):Inv X f σ g s':=by
 obtain⟨h',g',d',t',z⟩:=s';have e:z=s.os:=v;subst e;exact I.call (g':=g') (t':=t') (d':=d') u h k y
end
end
noncomputable abbrev XK:=Value->Option Addr->Hp->Prop
noncomputable abbrev St:=List (Option V)
noncomputable abbrev VK:=V->Hp->Prop
noncomputable abbrev TE:=St->Hp->VK->Prop
noncomputable abbrev TT:=St->Hp->(Bool->Hp->Prop)->Prop
noncomputable abbrev TA:=St->Hp->(LV->Hp->Prop)->Prop
structure Ends where
 nx:St->Hp->Prop
 rt:VK
 bk:St->Hp->Prop:=λ_ _=>False
 ct:St->Hp->Prop:=λ_ _=>False
noncomputable abbrev TS:=Ends->St->Hp->Prop
def EP(X:Cx)(h:PB)(σ:St)(Q:VK)(u:Value)(s':Shared):Prop:=∃v x,Inv X h σ x s'/\iA v u/\Q v x
def TP(X:Cx)(h:PB)(σ:St)(Q:Bool->Hp->Prop)(b:Bool)(s':Shared):Prop:=∃x,Inv X h σ x s'/\Q b x
def AP(X:Cx)(h:PB)(σ:St)(Q:LV->Hp->Prop)(us:LW)(s':Shared):Prop:=∃x y,Inv X h σ y s'/\oA x us/\Q x y
def SP(X:Cx)(x:PB)(D:Ends)(f:Flow)(s':Shared):Prop :=
 match f with
 | .next=>∃h y,Inv X x h y s'/\D.nx h y|.brk=>∃h y,Inv X x h y s'/\D.bk h y|.cont=>∃h y,Inv X x h y s'/\D.ct h y|.ret u=>∃v h y,Inv X x h y s'/\iA v u/\D.rt v y
def PE(X:Cx)(e:Expr)(t:TE):Prop :=
 ∀(h:PB) (s:Shared) (x:St) (H:Hp) (Q:VK),Inv X h x H s->t x H Q->wpAny (model X.prog X.w) X.A (eval e X.env) (EP X h x Q) X.xe s
def PT(X:Cx)(e:Expr)(t:TT):Prop :=
 ∀(h:PB) (s:Shared) (x:St) (H:Hp) (Q:Bool->Hp->Prop),Inv X h x H s->t x H Q->wpAny (model X.prog X.w) X.A (isTrue e X.env (eval e X.env)) (TP X h x Q) X.xe s
def PW(X:Cx)(e:Expr)(t:TT):Prop :=
 ∀(x:Sem Value) (h:PB) (s:Shared) (y:St) (H:Hp) (Q:Bool->Hp->Prop),Inv X h y H s->t y H Q->wpAny (model X.prog X.w) X.A (isTrue e X.env x) (TP X h y Q) X.xe s
theorem PW.pt{X:Cx}{e:Expr}{t:TT}(h:PW X e t):PT X e t:=h _
def PA(X:Cx)(es:List Expr)(t:TA):Prop :=
 ∀(y:Pos) (h:PB) (s:Shared) (x:St) (H:Hp) (Q:LV->Hp->Prop),Inv X h x H s->t x H Q->wpAny (model X.prog X.w) X.A (spliced (backTo y (starEach es X.env))) (AP X h x Q) X.xe s
def PS(X:Cx)(st:Stmt)(t:TS):Prop :=
 ∀(h:PB) (s:Shared) (x:St) (H:Hp) (D:Ends),Inv X h x H s->t D x H->wpAny (model X.prog X.w) X.A (exec st X.env) (SP X h D) X.xe s
def jW(X:Cx)(st:List Stmt)(t:TS):Prop :=
 ∀(h:PB) (s:Shared) (x:St) (H:Hp) (D:Ends),Inv X h x H s->t D x H->wpAny (model X.prog X.w) X.A (execs st X.env) (SP X h D) X.xe s
theorem TB{α:Type}{t:Sem α}{Q y:α->Shared->Prop}{M:Model}{A:Around}{E:pC}{s:Shared}(h:wpAny M A t Q E s)(z:∀a s,Q a s->y a s):wpAny M A t y E s:=qr h z λ_ _ x=>x
section
variable{X:Cx}
section
variable{z:PB}{s:Shared}{σ:St}{H:Hp}{x:Str}{pos:Pos}{E Q:pC}{u:Value}
theorem bin{a b:Expr}{ta d:TE}(r:PE X a ta)(hb:PE X b d){R:V->V->Hp->Prop}(I:Inv X z σ H s)(h:ta σ H λx j=>d σ j λy k=>R x y k)
  {α:Type}{Q:α->Shared->Prop}{f:Value->Value->Sem α}
  (q:∀v u i x y k,Inv X z σ k i->iA x v->iA y u->R x y k->wpAny (model X.prog X.w) X.A (f v u) Q X.xe i) :
  wpAny (model X.prog X.w) X.A (eval a X.env) (λv g=>wpAny (model X.prog X.w) X.A (eval b X.env) (λu e=>wpAny (model X.prog X.w) X.A (f v u) Q X.xe e) X.xe g) X.xe s:=by
 refine TB (r z s σ H _ I h) λv l ⟨x,j,Z,n,p⟩=>?_;refine TB (hb z l σ j _ Z p) λu i ⟨y,k,Y,m,o⟩=>?_;exact q v u i x y k Y n m o
def Fq(i:Nat):TE:=λσ H Q=>∃v,σ[i]?=some (some v)/\Q v H
def tC(v:V):TE:=λ_ H Q=>Q v H
theorem U3{i:Nat}(f:X.N[i]?=some x)(hv:yp X.env.scope x)(w:(x==("__debug__":Str))=false:=by decide)(k:(x==("__classdict__":Str))=false:=by decide):PE X (.Name x pos) (Fq i):=by
 intro z s σ H Q I h;obtain⟨v,e,h⟩:=h;obtain⟨m,a,hl⟩:=I.loc;obtain⟨u,r,l⟩:=hl i x v f e hv;have fin:EP X z σ Q u s:=⟨v,H,I,r,h⟩
 rcases l with⟨hk,b⟩| ⟨hk,c,hc,y⟩
 exact QA4 (QA5 I.ok.kind hk a b fin) w;rcases hk with hk|hk
 ·exact QA4 (wpAny_loadName_cell I.ok.kind hk hc y fin) w
 exact QA4 (QBH I.ok.kind hk hc y fin k) w
theorem N3{i j pos}:PE X (.Constant (.int i) j pos) (tC (.int i)):=λ_ _ _ H _ I h=>QBY ⟨.int i,H,I.tok _,⟨_,rfl⟩,h⟩
theorem Pc{b j pos}:PE X (.Constant (.bool b) j pos) (tC (.bl b)):=λ_ _ _ H _ I h=>Constant_bool ⟨.bl b,H,I,rfl,h⟩
theorem G3{j pos}:PE X (.Constant .none j pos) (tC .non):=λ_ _ _ H _ I h=>Constant_none ⟨.non,H,I,rfl,h⟩
theorem yh{x j pos}:PE X (.Constant (.str x) j pos) (tC (.str x)):=λ_ _ _ H _ I h=>Calls.Constant_str ⟨.str x,H,I.tok _,⟨_,rfl⟩,h⟩
def Gl(X:Cx)(x:Str):Prop:=X.env.kindOf x=some .globalImplicit
theorem nQ(I:Inv X z σ H s)(v:Gl X x)(y:X.mg x=some u)(h:Q u s)
  (k:(x==("__debug__":Str))=false:=by decide):wpAny (model X.prog X.w) X.A (eval (.Name x pos) X.env) Q E s :=
 QAA I.ok.kind v (Calls.loadGlobal_global (by rw[I.ok.glob];exact I.mod.glob.keeps I.bk) y h) k
theorem FH(I:Inv X z σ H s)(k:Gl X x)(v:X.mg x=none)(hv:bootBuiltins x=some u)(h:Q u s)
  (y:x≠"__name__":=by decide) (a:(x==("__debug__":Str))=false:=by decide):wpAny (model X.prog X.w) X.A (eval (.Name x pos) X.env) Q E s:=by
 obtain⟨f,e,b⟩:=I.mod.blt;exact QAA I.ok.kind k (Calls.loadGlobal_builtin (by rw[I.ok.glob];exact I.mod.glob.keeps I.bk) v (by rw[I.ok.blt];exact e.keeps I.bk) ((b x y).trans hv) h) a
theorem l9{v:V}(w:Gl X x)(y:X.mg x=some u)(r:iA v u)(k:(x==("__debug__":Str))=false:=by decide):PE X (.Name x pos) (tC v) :=
 λ_ _ _ H _ I h=>nQ I w y ⟨v,H,I,r,h⟩ k
theorem e9{v:V}(k:Gl X x)(w:X.mg x=none)(hv:bootBuiltins x=some u)(r:iA v u)(y:x≠"__name__":=by decide)(a:(x==("__debug__":Str))=false:=by decide):PE X (.Name x pos) (tC v) :=
 λ_ _ _ H _ I h=>FH I k w hv ⟨v,H,I,r,h⟩ y a
end
variable{a b:Expr}{ta d:TE}{pos:Pos}
variable{g n:TT}{k:List Expr}
def Tq(t u:TT):TT:=λh H Q=>t h H λc x=>if c=true then u h x Q else Q false x
def xw(t u:TT):TT:=λh H Q=>t h H λc x=>if c=true then Q true x else u h x Q
def Nq(t:TT):TT:=λh H Q=>t h H λc x=>Q (!c) x
theorem E8(z:PT X a g):PW X (.BoolOp .And [a] pos) g:=by
 intro u x s y H Q I h;refine isTrue_and (TB (z x s y H Q I h) λc v e=>?_);cases c with|true=>exact isTrue_and_nil e|false=>exact e
theorem Hg(z:PT X a g):PW X (.BoolOp .Or [a] pos) g:=by
 intro u x s y H Q I h;refine isTrue_or (TB (z x s y H Q I h) λc v e=>?_);cases c with|false=>exact isTrue_or_nil e|true=>exact e
theorem E2(f:PT X a g)(hb:PW X (.BoolOp .And (b::k) pos) n):PW X (.BoolOp .And (a::b::k) pos) (Tq g n):=by
 intro w x s y H Q I h;refine isTrue_and (TB (f x s y H _ I h) λc e ⟨v,u,z⟩=>?_);cases c with|true=>exact hb w x e y v Q u z|false=>exact⟨v,u,z⟩
theorem Lc(f:PT X a g)(hb:PW X (.BoolOp .Or (b::k) pos) n):PW X (.BoolOp .Or (a::b::k) pos) (xw g n):=by
 intro w x s y H Q I h;refine isTrue_or (TB (f x s y H _ I h) λc e ⟨v,u,z⟩=>?_);cases c with|true=>exact⟨v,u,z⟩|false=>exact hb w x e y v Q u z
theorem Lg(z:PT X a g):PT X (.UnaryOp .Not a pos) (Nq g):=by intro x s y H Q I h;exact isTrue_not (z x s y H (λc u=>Q (!c) u) I h)
def Dl(ta d:TE):TE:=λh H Q=>ta h H λx y=>∃c,x=.bl c/\if c=true then d h y Q else Q (.bl false) y
def Mq(ta d:TE):TE:=λh H Q=>ta h H λx y=>∃c,x=.bl c/\if c=true then Q (.bl true) y else d h y Q
theorem C3{op}{t:TE}(h:PE X a t):PE X (.BoolOp op [a] pos) t:=λx s y H Q I z=>BoolOp_one (h x s y H Q I z)
theorem P3(j:PE X a ta)(hb:PE X (.BoolOp .And (b::k) pos) d):PE X (.BoolOp .And (a::b::k) pos) (Dl ta d):=by
 intro y s u H Q I h;refine BoolOp_and (TB (j y s u H _ I h) λv f ⟨x,e,w,i,z⟩=>?_);obtain⟨c,rfl,z⟩:=z;cases i;refine wO ?_;cases c with|true=>exact hb y f u e Q w z|false=>exact⟨.bl false,e,w,rfl,z⟩
theorem Oc(j:PE X a ta)(hb:PE X (.BoolOp .Or (b::k) pos) d):PE X (.BoolOp .Or (a::b::k) pos) (Mq ta d):=by
 intro y s u H Q I h;refine BoolOp_or (TB (j y s u H _ I h) λv f ⟨x,e,w,i,z⟩=>?_);obtain⟨c,rfl,z⟩:=z;cases i;refine wO ?_;cases c with|false=>exact hb y f u e Q w z|true=>exact⟨.bl true,e,w,rfl,z⟩
end
def AC(K:QA)(H:Hp)(a:Addr)(xs:LV):Prop :=
 Rd H a (.lst xs) ∨
  ∃(o:Obj) (h:Array Value) (n:Nat),K.lookup a=some o/\o.cls=.type "list"/\o.dict=none/\o.data=.seq h n/\h.size<=sizeLine/\oA xs h.toList
def ED(K:QA)(H:Hp)(a:Addr)(xs:LV):Prop :=
 Rd H a (.tup xs) ∨
  ∃(o:Obj) (h:Array Value) (n:Nat),K.lookup a=some o/\o.cls=.type "tuple"/\o.data=.seq h n/\h.size<=sizeLine/\oA xs h.toList
def cN:Value->Option V
 | .none=>some .non|.bool b=>some (.bl b)|.int i _=>some (.int i)|.str x _=>some (.str x)|.bytes b _=>some (.byt b)|.float b _=>some (.flt b)|.ref a=>some (.ref a)|.type n=>some (.ty n)|_=>none
theorem iA.abs{x:V}{u:Value}(r:iA x u):cN u=some x:=by
 cases x with|non=>cases r;rfl|bl _=>cases r;rfl|int _=>obtain⟨t,rfl⟩:=r;rfl|str _=>obtain⟨t,rfl⟩:=r;rfl|byt _=>obtain⟨t,rfl⟩:=r;rfl|flt _=>obtain⟨t,rfl⟩:=r;rfl|ref _=>cases r;rfl|ty _=>cases r;rfl
theorem iA.inj{x y:V}{u:Value}(r:iA x u)(q:iA y u):x=y:=Qo (r.abs.symm.trans q.abs)
theorem oA.inj:∀{xs h:LV}{us:LW},oA xs us->oA h us->xs=h
 |_,_,_,.nil,.nil=>rfl|_,_,_,.cons r t,.cons r' t'=>by rw[r.inj r',oA.inj t t']
section
variable{X:Cx}{x:PB}{σ:St}{H:Hp}{s:Shared}{a:Addr}{xs y:LV}
theorem AC.of{K:QA}(h:H a=some (.lst xs)):AC K H a xs:=.inl (.inl h)
theorem ED.of{K:QA}(h:H a=some (.tup xs)):ED K H a xs:=.inl (.inl h)
theorem Inv.list(I:Inv X x σ H s)(h:AC X.K H a xs):∃its:LW,oA xs its/\PlainL s.heap a its.toArray/\xs.length<=sizeLine:=by
 rcases h with h|⟨o,its,n,hk,hc,v,u,w,r⟩
 obtain⟨z,its,n,r,e⟩:=h.ok I.hok;exact⟨its,r,⟨_,n,e,rfl,rfl,rfl⟩,z⟩;refine⟨its.toList,r,⟨o,n,I.kIn a o hk,hc,v,by simpa using u⟩,?_⟩;have e:=r.length;simp only[Qs]at e;omega
theorem Inv.tuple(I:Inv X x σ H s)(h:ED X.K H a xs):∃its:LW,oA xs its/\IsTup s.heap a its.toArray/\xs.length<=sizeLine:=by
 rcases h with h|⟨o,its,n,hk,hc,u,v,r⟩
 obtain⟨z,its,r,p⟩:=h.ok I.hok;exact⟨its,r,p,z⟩;refine⟨its.toList,r,⟨o,I.kIn a o hk,hc,n,by simpa using u⟩,?_⟩;have e:=r.length;simp only[Qs]at e;omega
theorem Inv.list_inj(I:Inv X x σ H s)(h:AC X.K H a xs)(h':AC X.K H a y):xs=y:=by
 obtain⟨u,r,⟨o,n,e,_,_,d⟩,_⟩:=I.list h;obtain⟨z,k,⟨b,f,v,_,_,w⟩,_⟩:=I.list h';rw[e]at v;cases v;rw[d]at w;injection w with d1 _;have:u=z:=by simpa using congrArg Array.toList d1
 subst this;exact r.inj k
theorem Inv.tuple_inj(I:Inv X x σ H s)(h:ED X.K H a xs)(h':ED X.K H a y):xs=y:=by
 obtain⟨u,r,⟨o,e,_,n,d⟩,_⟩:=I.tuple h;obtain⟨z,k,⟨b,v,_,f,w⟩,_⟩:=I.tuple h';rw[e]at v;cases v;rw[d]at w;injection w with d1 _;have:u=z:=by simpa using congrArg Array.toList d1
 subst this;exact r.inj k
end
noncomputable abbrev Cx.wish(X:Cx)(E:pC):Cx:={ X with xe:=E }
noncomputable abbrev Cx.nox(X:Cx):Cx:=X.wish λ_ _=>False
theorem Cx.Ok.wish{X:Cx}(ok:X.Ok)(E:pC):(X.wish E).Ok :=
 ⟨ok.mod,ok.kind,ok.glob,ok.blt,ok.above,ok.inj,ok.has,ok.cab,ok.hd,ok.frames,ok.stk,ok.exf,ok.bs,ok.bsz,ok.noex,ok.exfs,ok.funs,ok.frf,ok.tb⟩
theorem Cx.Ok.unwish{X:Cx}{E:pC}(ok:(X.wish E).Ok):X.Ok :=
 ⟨ok.mod,ok.kind,ok.glob,ok.blt,ok.above,ok.inj,ok.has,ok.cab,ok.hd,ok.frames,ok.stk,ok.exf,ok.bs,ok.bsz,ok.noex,ok.exfs,ok.funs,ok.frf,ok.tb⟩
section
variable{X:Cx}{x:PB}{σ:St}{H:Hp}{s:Shared}{E:pC}
theorem Inv.wish(I:Inv X x σ H s)(E:pC):Inv (X.wish E) x σ H s:=⟨I.ok.wish E,I.os,I.bare,I.base,I.loc,I.cell,I.free,I.freeC,I.pin,I.hok,I.len⟩
theorem Inv.unwish(I:Inv (X.wish E) x σ H s):Inv X x σ H s:=⟨I.ok.unwish,I.os,I.bare,I.base,I.loc,I.cell,I.free,I.freeC,I.pin,I.hok,I.len⟩
theorem SP.unwish{D:Ends}{f:Flow}{s':Shared}(h:SP (X.wish E) x D f s'):SP X x D f s':=by
 cases f with|next=>obtain⟨y,z,I,q⟩:=h;exact⟨y,z,I.unwish,q⟩|brk=>obtain⟨y,z,I,q⟩:=h;exact⟨y,z,I.unwish,q⟩|cont=>obtain⟨y,z,I,q⟩:=h;exact⟨y,z,I.unwish,q⟩|ret u=>obtain⟨v,y,z,I,r,q⟩:=h;exact⟨v,y,z,I.unwish,r,q⟩
theorem jW.nox{st:List Stmt}{t:TS}(h:jW X.nox st t):jW X st t:=λx s σ H D I y =>
 qr (h x s σ H D (I.wish _) y) (λ_ _ q=>q.unwish) λ_ _ z=>Qc z
end
section
variable{X:Cx}{st:Stmt}{y:List Stmt}{t u:TS}{e:Expr}{te:TE}{pos:Pos}
def Xl:TS:=λD h H=>D.nx h H
def Hq(t u:TS):TS:=λD h H=>t { D with nx:=u D } h H
theorem y9:jW X [] Xl:=λ_ _ x H _ I h=>Wv ⟨x,H,I,h⟩
theorem y3(b:PS X st t)(a:jW X y u):jW X (st::y) (Hq t u):=by
 intro x s w H D I h;refine QB5 (TB (b x s w H { D with nx:=u D } I h) λf k q=>?_);cases f with|next=>obtain⟨z,i,g,q⟩:=q;exact a x k z i D g q|ret v=>exact q|brk=>exact q|cont=>exact q
theorem KW(w:PS X st t):jW X [st] t:=by
 intro x s z H D I h;refine QB5 (TB (w x s z H D I h) λf k q=>?_);cases f with|next=>exact Wv q|ret v=>exact q|brk=>exact q|cont=>exact q
theorem Inv.quiet{h:PB}{σ:St}{H:Hp}{s:Shared}(I:Inv X h σ H s):interactive X.env=false:=by simp[interactive,I.ok.kind]
def Ul(te:TE):TS:=λD h H=>te h H λ_ x=>D.nx h x
theorem XW(b:PE X e te)(a:swapsWith e none pos.line X.env=pure false:=by rfl):PS X (.Expr e pos) (Ul te):=by intro z s w H D I h;exact wpAny_Expr_any (TB (b z s w H _ I h) λv i ⟨x,g,f,j,k⟩=>⟨w,g,f,k⟩) I.quiet a
def Lq(te:TE):TS:=λD h H=>te h H D.rt
theorem x3(b:PE X e te):PS X (.Return (some e) pos) (Lq te):=by intro z s w H D I h;exact wpAny_Return_some (TB (b z s w H _ I h) λv i ⟨x,g,f,k,a⟩=>⟨x,w,g,f,k,a⟩)
def Pq(c:TT)(t u:TS):TS:=λD h H=>c h H λb x=>if b=true then t D h x else u D h x
theorem Zm{c:Expr}{a b:List Stmt}{tc:TT}(hc:PT X c tc)(g:jW X a t)(hb:jW X b u):PS X (.If c a b pos) (Pq tc t u):=by
 intro x s z H D I h;refine wpAny_If (TB (hc x s z H _ I h) λd v ⟨f,k,w⟩=>?_);cases d with|true=>exact g x v z f D k w|false=>exact hb x v z f D k w
end
noncomputable abbrev TG:=V->St->Hp->(St->Hp->Prop)->Prop
noncomputable abbrev xu:=LV->St->Hp->(St->Hp->Prop)->Prop
def PG(X:Cx)(h:Expr)(t:TG):Prop :=
 ∀(x:PB) (s:Shared) (z:St) (H:Hp) (v:V) (u:Value) (Q:St->Hp->Prop),Inv X x z H s->iA v u->t v z H Q ->
  wpAny (model X.prog X.w) X.A (assign h X.env u) (λ_ a=>∃y k,Inv X x y k a/\Q y k) X.xe s
def dv(X:Cx)(ts:List Expr)(t:xu):Prop :=
 ∀(h:PB) (s:Shared) (y:St) (H:Hp) (z:LV) (u:LW) (Q:St->Hp->Prop),Inv X h y H s->oA z u->t z y H Q ->
  wpAny (model X.prog X.w) X.A (assignInOrder ((assignEach ts X.env).map (·.2)) u) (λ_ k=>∃x v,Inv X h x v k/\Q x v) X.xe s
noncomputable abbrev Lj:=V->V->V->Hp->(Hp->Prop)->Prop
def zc(X:Cx)(t:Lj):Prop :=
 ∀(h:PB) (s:Shared) (x:St) (H:Hp) (o i v:V) (y z u:Value) (Q:Hp->Prop),Inv X h x H s->iA o y->iA i z->iA v u->t o i v H Q ->
  wpAny (model X.prog X.w) X.A (setItem y z u) (λ_ a=>∃k,Inv X h x k a/\Q k) X.xe s
section
variable{X:Cx}{pos:Pos}
section
variable{i:Nat}{x:Str}{e:Expr}{te:TE}
def hX(i:Nat):TG:=λv h H Q=>Q (h.set i (some v)) H
theorem DW(a:X.N.Nodup)(w:X.N[i]?=some x)(z:Xk X.env.scope x)(k:X.fn x=true∨X.env.scope.names.lookup x=some .local):PG X (.Name x pos) (hX i):=by intro y s f H v u Q I r h;exact QBj (rR I a w z r (λg b=>⟨_,H,b,h⟩) k)
def Ss(K:QA)(n:Nat)(t:xu):TG:=λv y H Q=>∃a h,v=.ref a/\ED K H a h/\h.length=n/\t h y H Q
theorem Ag{es:List Expr}{k:Nat}{t:xu}{n:Nat}(hc:X.calm=true)(h:dv X es t)
  (Y:(assignEach es X.env).length=n:=by rfl) (w:(assignEach es X.env).findIdx? (·.1)=none:=by rfl):PG X (.Tuple es k pos) (Ss X.K n t):=by
 intro y s f H v u Q I r z;obtain⟨a,j,W,q,hl,z⟩:=z;subst W;cases r;obtain⟨l,g,p,B⟩:=I.tuple q;refine assign_Tuple_tuple (I.ok.hd hc) p (by simp[Y,<- hl,g.length]) w λZ m=>?_;have A:Inv X y f H { s with heap:=Z }:=I.kept (t':=s.toks) λb o e=>m b o (Qj (QY e)) e;exact h y _ f H j _ Q A (by simpa using g) z
def Ts(y z:TE)(t:Lj):TG:=λv h H Q=>y h H λo k=>z h k λi w=>t o i v w λu=>Q h u
theorem Eg{o i:Expr}{b f:TE}{t:Lj}(Z:PE X o b)(W:PE X i f)(Y:zc X t)
  (K:∀v,assign (.Subscript o i pos) X.env v=(do
   let w <- holding [v] (eval o X.env)
   let k <- holding [v,w] (eval i X.env)
   standAt pos
   holding [v,w,k] (setItem w k v)
   release [v,w,k] []):=by intro _;rfl):PG X (.Subscript o i pos) (Ts b f t):=by
 intro z s a H v u Q I r h;rw[K];refine QC (qi (TB (Z z s a H _ I h) λw j ⟨x,G,C,m,q⟩=>?_));refine QC (qi (TB (W z j a G _ C q) λk g ⟨y,F,B,l,p⟩=>?_));refine QC (QBZ (QC (qi (TB (Y z g a F x y v w k u _ B m l r p) λ_ J ⟨E,A,n⟩=>?_))));exact wpAny_release ⟨a,E,A,n⟩
def cg(te:TE)(g:TG):TS:=λD h H=>te h H λx y=>g x h y D.nx
theorem d3{z:Expr}{g:TG}(l:PE X e te)(j:PG X z g)(f:swapsWithSole [z] e pos.line X.env=pure false:=by rfl)(b:swappedStores [z] e X.env=pure none:=by rfl)
  (m:(assignEach [z] X.env).map (·.2)=[assign z X.env]:=by rfl):PS X (.Assign [z] e pos) (cg te g):=by
 intro y s u H D I h;refine wpAny_Assign_stores (TB (l y s u H _ I h) λv w ⟨x,o,n,k,a⟩=>?_) f b;rw[m];exact TB (j y w u o x v _ n k a) λ_ p q=>q
theorem Mg{pos':Pos}(l:X.N.Nodup)(f:X.N[i]?=some x)(a:Xk X.env.scope x)(j:PE X e te)(b:swapsWith e (some (.Name x pos')) pos.line X.env=pure false:=by rfl)(g:X.fn x=true∨X.env.scope.names.lookup x=some .local) :
  PS X (.Assign [.Name x pos'] e pos) (cg te (hX i)):=by
 intro z s u H D I h;refine wpAny_Assign_Name (TB (j z s u H _ I h) λv q ⟨y,o,n,w,k⟩=>?_) b;exact rR n l f a w (λp m=>⟨_,o,m,k⟩) g
end
end
section
variable{X:Cx}{pos:Pos}
def J1(c:TT)(tb:TS):TS:=λD h H=>∃W:Nat->St->Hp->Prop,(∃m,W m h H)/\∀m h H,W m h H ->
 c h H λb z=>if b=true then ∃N:St->Hp->Prop,(∀x u,N x u->∃y,y < m/\W y x u)/\tb { D with nx:=N,ct:=N,bk:=D.nx } h z else D.nx h z
theorem v3{c:Expr}{body:List Stmt}{tc:TT}{tb:TS}(p:PassesOwn (model X.prog X.w) X.A X.env X.xe)(hc:PT X c tc)(hb:jW X body tb):PS X (.While c body [] pos) (J1 tc tb):=by
 intro y s B H D I h;obtain⟨W,⟨L,E⟩,k⟩:=h;refine wpAny_While (codeAny_whileLoop (λn J=>∃u K,Inv X y u K J/\W n u K) ?_ L ⟨B,H,I,E⟩);rintro n G ⟨z,Z,M,C⟩;refine wP p (TB (hc y G z Z _ M (k n z Z C)) λb F ⟨Y,r,g⟩=>?_);cases b with
 |true =>
  obtain⟨N,q,g⟩:=g;rw[if_pos rfl];refine wP p (TB (hb y F z Y _ r g) λf O e=>?_);cases f with|next=>obtain⟨x,a,o,j⟩:=e;obtain⟨l,m,i⟩:=q x a j;exact⟨l,m,x,a,o,i⟩|cont=>obtain⟨x,a,o,j⟩:=e;obtain⟨l,m,i⟩:=q x a j;exact⟨l,m,x,a,o,i⟩|brk=>exact e|ret v=>exact e
 |false=>rw[if_neg QF];exact Wv ⟨z,Y,r,g⟩
end
section
variable{s:Shared}{y:Expr}{P:Program}{w:World}{K:QA}
structure It where
 go:Nat->Hp->Prop
 yld:Nat->Hp->V->Hp->Prop
 stop:Nat->Hp->Prop
def pJ(X:Cx)(h:PB)(H:Hp)(b:Addr):Prop :=
 H b=none/\b≠X.env.locals/\b∉X.fs/\(b∈X.ex∨X.s₀.heap.objs.size<=b)/\(∀x c,X.env.cells.lookup x=some c->c≠b)/\∀p∈X.pn++h,p.1≠b
theorem Inv.fpOk{X:Cx}{h:PB}{σ:St}{H u:Hp}{b:Addr}(I:Inv X h σ H s)(hb:s.heap.objs.size<=b)(a:u b=none):pJ X h u b:=by refine⟨a,wt (Qm I.lt hb),I.nofs hb,.inr (QX I.sz hb),λx c e z=>?_,λp k z=>?_⟩;obtain⟨v,q⟩:=I.cell x c e;exact absurd (Qm q.lt (by rw[z];exact hb)) (qy _);exact absurd (Qm (QY (I.pin p k).1) (by rw[z];exact hb)) (qy _)
structure Turn0(P:Program)(w:World)(K:QA)(y:Expr)(J:It)(fp:List Addr)(it:Addr)(tn:Nat->Heap->Prop):Prop where
 mem:it∈fp
 obj:∀i h,tn i h->∀b∈fp,∃o,h.get? b=some o/\∀v,o.data≠.cell v
 keep:∀i h h',tn i h->(∀b∈fp,∀o,h.get? b=some o->h'.get? b=some o)->tn i h'
 item:∀(X:Cx),X.prog=P->X.w=w->X.K=K->X.calm=true->∀(i:Nat) (pins:PB) (s:Shared) (σ:St) (H:Hp) (E:pC),Inv X pins σ H s->(∀b∈fp,pJ X pins H b)->tn i s.heap->J.go i H ->
  wpAny (model P w) X.A (pyNext (.ref it)) (λr s1=>∃u,r=some u /\
   wpAny (model P w) X.A (letOwnedTupleGo y (.ref it) u) (λ_ s2=>∃x H',Inv X pins σ H' s2/\iA x u/\J.yld i H x H'/\tn (i+1) s2.heap/\∀b∈fp,H' b=none) E s1) E s
 done:∀(X:Cx),X.prog=P->X.w=w->X.K=K->X.calm=true->∀(i:Nat) (pins:PB) (s:Shared) (σ:St) (H:Hp) (E:pC),Inv X pins σ H s->(∀b∈fp,pJ X pins H b)->tn i s.heap->J.stop i H ->
  wpAny (model P w) X.A (pyNext (.ref it)) (λr s1=>r=none/\Inv X pins σ H s1) E s
structure Turn(P:Program)(w:World)(K:QA)(y:Expr)(J:It)(fp:List Addr)(it:Addr)(tn:Nat->Heap->Prop):Prop extends Turn0 P w K y J fp it tn where
 self:∀(A:Around) (i:Nat) (s:Shared) (Q:pC) (E:pC),tn i s.heap->Q (.ref it) s->wpAny (model P w) A (pyIter (.ref it)) Q E s
noncomputable abbrev TI:=St->Hp->(It->Hp->Prop)->Prop
def du(X:Cx)(h:PB)(σ:St)(y:Expr)(R:It->Hp->Prop)(x:Value)(u:Shared):Prop :=
 ∃(it:Addr) (v:List Addr) (tn:Nat->Heap->Prop) (J:It) (z:Hp),x=.ref it/\Inv X h σ z u/\Turn X.prog X.w X.K y J v it tn/\tn 0 u.heap/\(∀b∈v,pJ X h z b)/\R J z
def PI(X:Cx)(y x:Expr)(u:TI):Prop :=
 ∀(h:PB) (s:Shared) (z:St) (H:Hp) (R:It->Hp->Prop),Inv X h z H s->u z H R ->
  wpAny (model X.prog X.w) X.A (eval x X.env) (λv k=>wpAny (model X.prog X.w) X.A (pyIter v) (du X h z y R) X.xe k) X.xe s
def bu(X:Cx)(h:PB)(σ:St)(y:Expr)(R:It->Hp->Prop)(x:Value)(u:Shared):Prop :=
 ∃(it:Addr) (v:List Addr) (tn:Nat->Heap->Prop) (J:It) (z:Hp),x=.ref it/\Inv X h σ z u/\Turn0 X.prog X.w X.K y J v it tn/\tn 0 u.heap/\(∀b∈v,pJ X h z b)/\R J z
def fq(X:Cx)(y x:Expr)(u:TI):Prop :=
 ∀(h:PB) (s:Shared) (z:St) (H:Hp) (R:It->Hp->Prop),Inv X h z H s->u z H R ->
  wpAny (model X.prog X.w) X.A (eval x X.env) (λv k=>wpAny (model X.prog X.w) X.A (pyIter v) (bu X h z y R) X.xe k) X.xe s
theorem PI.to0{X:Cx}{z:Expr}{k:TI}(h:PI X y z k):fq X y z k:=λu s a H R I q =>
 qr (h u s a H R I q) (λv m f=>qr f (λb l ⟨it,g,tn,J,j,e,i,T,r⟩=>⟨it,g,tn,J,j,e,i,T.toTurn0,r⟩) λ_ _ x=>x) λ_ _ x=>x
theorem go_of{M:Model}{A:Around}{E:pC}{it:Addr}{u:Value}{o:Obj}{n:String}{vs:Array Value}{Q:Unit->Shared->Prop}(z:s.heap.get? it=some o)(hc:o.cls=.type n)(k:o.data=.fields vs)
    (v:["enumerate","zip","dict_itemiterator","dict_reverseitemiterator","odict_iterator","itertools.zip_longest","itertools.pairwise"].contains n=false) (x:Q () s):wpAny M A (letOwnedTupleGo y (.ref it) u) Q E s:=by
  unfold letOwnedTupleGo;cases y<;>first
    |exact QK x
    | (cases u<;>first
        |exact QK x
        | (refine QC (wpAny_load z ?_)
           rw[hc,k];show wpAny M A (if(["enumerate","zip","dict_itemiterator","dict_reverseitemiterator","odict_iterator","itertools.zip_longest","itertools.pairwise"].contains n&&vs[0]?==some (rawInt _))=true then _ else _) Q E s;rw[if_neg (by intro h;rw[v,QAI]at h;cases h)];exact QK x))
def Mv(K:QA)(a:Addr):It :=
 ⟨λi H=>∃h x,AC K H a h/\h[i]?=some x,λi H x z=>z=H/\∀h,AC K H a h->h[i]?=some x,λi H=>∃h,AC K H a h/\h.length<=i⟩
def Hv(K:QA)(a:Addr):It :=
 ⟨λi H=>∃h x,ED K H a h/\h[i]?=some x,λi H x z=>z=H/\∀h,ED K H a h->h[i]?=some x,λi H=>∃h,ED K H a h/\h.length<=i⟩
def au(h:Int)(n:Nat):It:=⟨λi _=>i<n,λi H x z=>z=H/\x=.int (h+i),λi _=>n<=i⟩
theorem AX(a it:Addr):Turn P w K y (Mv K a) [it] it (λi h=>h.IsListIter it a i) where
 mem:=by simp
 obj:=λi h st b hb=>by
  have e:b=it:=by simpa using hb
  subst e;obtain⟨o,e,c,d⟩:=st;exact⟨o,e,λv z=>by rw[d]at z;cases z⟩
 keep:=λi h m st k=>st.at λo e=>k it (by simp) o e
 item:=by intro X W Y A hc i f s L H E I l st Z;subst W Y A;obtain⟨M,x,j,r⟩:=Z;obtain⟨q,n,p,Q⟩:=I.list j;obtain⟨u,S,O⟩:=n.get r;obtain⟨J,G,f2,F,C,B⟩:=l it (by simp);refine wpAny_pyNext_list_item st p.isList (x:=u) (by simpa using S) λm g N=>?_;have I1:Inv X f L H { s with heap:=m }:=I.turned (t':=s.toks) (λb o hb e=>(N.2 b hb).trans e) J G F C B;obtain⟨o,e,c,d⟩:=id g;exact⟨u,rfl,go_of (s:={ s with heap:=m }) e c d (by decide) ⟨x,H,I1,O,⟨rfl,λys R=>by rw[I.list_inj R j];exact r⟩,g,λb hb=>(l b hb).1⟩⟩
 done:=by intro X W Y A hc i f s L H E I l st Z;subst W Y A;obtain⟨M,j,r⟩:=Z;obtain⟨q,n,p,Q⟩:=I.list j;obtain⟨J,G,f2,F,C,B⟩:=l it (by simp);have hl:=n.length;exact wpAny_pyNext_list_end (I.ok.hd hc) st p.isList (by simp;omega) λm eb=>⟨rfl,I.turned (t':=s.toks) (λb o hb e=>eb b o hb e) J G F C B⟩
 self:=λ_ _ _ _ _ st h=>wpAny_pyIter_listiter st h
theorem dU(a it:Addr):Turn P w K y (Hv K a) [it] it (λi h=>h.IsTupleIter it a i) where
 mem:=by simp
 obj:=λi h st b hb=>by
  have e:b=it:=by simpa using hb
  subst e;obtain⟨o,e,c,d⟩:=st;exact⟨o,e,λv z=>by rw[d]at z;cases z⟩
 keep:=λi h n st k=>st.at λo e=>k it (by simp) o e
 item:=by intro X W Y A hc i f s L H E I m st Z;subst W Y A;obtain⟨M,x,l,r⟩:=Z;obtain⟨g,q,p,Q⟩:=I.tuple l;obtain⟨u,S,O⟩:=q.get r;obtain⟨J,G,f2,F,C,B⟩:=m it (by simp);refine wpAny_pyNext_tuple_item st (show s.heap.IsTuple a g.toArray from p) (x:=u) (by simpa using S) λn j N=>?_;have I1:Inv X f L H { s with heap:=n }:=I.turned (t':=s.toks) (λb o hb e=>(N.2 b hb).trans e) J G F C B;obtain⟨o,e,c,d⟩:=id j;exact⟨u,rfl,go_of (s:={ s with heap:=n }) e c d (by decide) ⟨x,H,I1,O,⟨rfl,λys R=>by rw[I.tuple_inj R l];exact r⟩,j,λb hb=>(m b hb).1⟩⟩
 done:=by intro X W Y A hc i f s L H E I m st Z;subst W Y A;obtain⟨M,l,r⟩:=Z;obtain⟨g,q,p,Q⟩:=I.tuple l;obtain⟨J,G,f2,F,C,B⟩:=m it (by simp);have hl:=q.length;exact wpAny_pyNext_tuple_end (I.ok.hd hc) st (show s.heap.IsTuple a g.toArray from p) (by simp;omega) λn eb=>⟨rfl,I.turned (t':=s.toks) (λb o hb e=>eb b o hb e) J G F C B⟩
 self:=λ_ _ _ _ _ st h=>wpAny_pyIter_tupleiter st h
theorem fU(it:Addr)(a:Int)(n:Nat):Turn P w K y (au a n) [it] it (λi h=>IsRangeIter h it (a+(i:Nat) * 1) ((n:Int) - (i:Nat)) 1) where
 mem:=by simp
 obj:=λi h st b hb=>by
  have e:b=it:=by simpa using hb
  subst e;exact⟨_,st,λv z=>by have F:Data.fields _=Data.cell v:=z;cases F⟩
 keep:=λi h g st k=>k it (by simp) _ st
 item:=by intro X m j p hc i x s B H E I f st l;subst m j p;obtain⟨A,Z,J,Y,r,q⟩:=f it (by simp);have W:=Walks.range (prog:=X.prog) (w:=X.w) (I.ok.hd hc) it a 1 n;refine W.item i s _ _ l st λv g C hv u G=>?_;obtain⟨t,rfl⟩:=hv;have M:Inv X x B H { s with heap:=g,toks:=C }:=I.turned (λb o hb e=>G b o (by simpa using hb) e) A Z Y r q;refine⟨_,rfl,go_of (s:={ s with heap:=g,toks:=C }) (n:="range_iterator") u rfl rfl (by decide) ⟨.int (a+i),H,M,⟨t,?_⟩,⟨rfl,rfl⟩,u,λb hb=>(f b hb).1⟩⟩;rw[Int.mul_one]
 done:=by intro X m j p hc i x s B H E I f st l;subst m j p;obtain⟨A,Z,J,Y,r,q⟩:=f it (by simp);exact wpAny_pyNext_range_end (I.ok.hd hc) st (by have:n<=i:=l;omega) λg L=>⟨rfl,I.turned (t':=s.toks) (λb o hb e=>L b o hb e) A Z Y r q⟩
 self:=λ_ _ _ _ _ st h=>wpAny_pyIter_rangeiter st h
end
section
variable{X:Cx}{a:Expr}
section
variable{y:PB}{σ:St}{H:Hp}{s:Shared}{k:List Addr}{h:Heap}
theorem T2{R:It->Hp->Prop}{E:pC}{x z:Int}{t u v:Tok}{f:Nat}(I:Inv X y σ H s)(m:-(2 ^ 62)<=x)(l:x<2 ^ 62)(j:-(2 ^ 62)<=z)(i:z<2 ^ 62)
  (q:R (au x (z - x).toNat) H):wpAny (model X.prog X.w) X.A (pyIter (.ref s.heap.objs.size)) (du X y σ a R) E { s with heap:=s.heap.push { cls:=.type "range",data:=.fields #[.int x t,.int z u,.int 1 v] },toks:=f }:=by
 refine wpAny_pyIter_range (IsRange.new ..) (small_one m l j i) ?_;have g:Inv X y σ H { s with heap:=s.heap.push { cls:=.type "range",data:=.fields #[.int x t,.int z u,.int 1 v] },toks:=f }:=I.kept λb o e=>QH _ e;refine⟨(s.heap.push { cls:=.type "range",data:=.fields #[.int x t,.int z u,.int 1 v] }).objs.size,[(s.heap.push { cls:=.type "range",data:=.fields #[.int x t,.int z u,.int 1 v] }).objs.size],_,_,H,rfl,
  g.kept (t':=f) λb o e=>QH _ e,fU _ x (z - x).toNat,?_,λb hb=>?_,q⟩
 have p:x+((0:Nat):Int) * 1=x:=by simp
 have n:(((z - x).toNat:Nat):Int) - ((0:Nat):Int)=WL x z 1:=by rw[rangeSize_one];split<;>omega
 show IsRangeIter _ _ (x+((0:Nat):Int) * 1) ((((z - x).toNat:Nat):Int) - ((0:Nat):Int)) 1;rw[p,n];exact QU _ rfl;have e:b=(s.heap.push { cls:=.type "range",data:=.fields #[.int x t,.int z u,.int 1 v] }).objs.size:=by simpa using hb
 subst e;exact g.fpOk (QZ _) (g.hok.fresh (QZ _))
noncomputable def Rq(b:TI)(g:TG)(tb:TS):TS:=λD σ H=>b σ H λJ f=>∃W:Nat->Nat->St->Hp->Prop,(∃m,W 0 m σ f)/\∀i m σ H,W i m σ H ->
 (J.stop i H/\D.nx σ H)∨(J.go i H/\∃N:St->Hp->Prop,(∀z u,N z u->∃w,w < m/\W (i+1) w z u)/\∀x u,J.yld i H x u->g x σ u λv e=>tb { D with nx:=N,ct:=N,bk:=D.nx } v e)
def bM(k:List Addr)(h:Heap):PB:=k.filterMap λb=>(h.get? b).map λo=>(b,o)
theorem xF{b:Addr}{o:Obj}(hb:b∈k)(e:h.get? b=some o):(b,o)∈bM k h:=QBa.mpr ⟨b,hb,by rw[e];rfl⟩
theorem VY{p:Addr×Obj}(x:p∈bM k h):p.1∈k/\h.get? p.1=some p.2:=by
 obtain⟨b,hb,e⟩:=QBa.mp x;cases q:h.get? b with|none=>rw[q]at e;cases e|some o=>rw[q]at e;have z:(b,o)=p:=Qo e;subst z;exact⟨hb,q⟩
theorem Inv.pinned(I:Inv X y σ H s)(f:∀b∈k,pJ X y H b)(w:∀b∈k,∃o,s.heap.get? b=some o/\∀v,o.data≠.cell v):Inv X (y++bM k s.heap) σ H s :=
 I.pins_of λp u=>(Qf.mp u).elim (λz=>I.pin p (QW _ z)) λz=>by obtain⟨hb,e⟩:=VY z;obtain⟨j,i,g,_⟩:=f p.1 hb;obtain⟨o,x,d⟩:=w p.1 hb;rw[e]at x;cases x;exact⟨e,j,i,g,d⟩
theorem Inv.unpinned{x:PB}(I:Inv X (y++x) σ H s):Inv X y σ H s:=I.pins_of λp z=>I.pin p (QW _ (Qe _ z))
theorem Ng{q:Expr}{body:List Stmt}{wi:TI}{g:TG}{tb:TS}{pos:Pos}(O:PassesOwn (model X.prog X.w) X.A X.env X.xe)(hc:X.calm=true)(hi:fq X a q wi)(hg:PG X a g)(hb:jW X body tb)
  (hs:∀x,foldedSetIterable q X.env x=pure x:=by intro _;rfl):PS X (.For a q body [] pos) (Rq wi g tb):=by
 intro y s σ H D I h;refine wpAny_For (TB (hi y s σ H _ I h) λv s1 h1=>TB h1 λitv s2 h2=>?_) hs;obtain⟨it,k,tn,J,H2,e,I2,T,S,f2,W,⟨m0,w0⟩,F⟩:=h2;subst e;have p:∀{B:Hp},(∀b∈k,B b=none)->∀b∈k,pJ X y B b:=λhn b hb=>⟨hn b hb,(f2 b hb).2⟩
 refine codeAny_forLoop_any (λn s'=>∃i l B,Inv X y l B s'/\tn i s'.heap/\(∀b∈k,B b=none)/\W i n l B) ?_ m0 ⟨0,σ,H2,I2,S,λb hb=>(f2 b hb).1,w0⟩;rintro n s3 ⟨i,j,Q,I3,L,P,w3⟩;rcases F i n j Q w3 with⟨G,qn⟩| ⟨go,N,hN,step⟩
 refine wP O (TB (T.done X rfl rfl rfl hc i y s3 j Q X.xe I3 (p P) L G) λr s4 ⟨hr,I4⟩=>?_);subst hr;exact Wv ⟨j,Q,I4,qn⟩;refine wP O (TB (T.item X rfl rfl rfl hc i y s3 j Q X.xe I3 (p P) L go) λr s4 ⟨u,hr,h4⟩=>?_);subst hr;refine wP O (TB h4 λ_ s5 ⟨x,H5,I5,r5,y5,E,fr5⟩=>?_);have I5':=I5.pinned (p fr5) (T.obj _ _ E);refine wP O (TB (hg _ s5 j H5 x u _ I5' r5 (step x H5 y5)) λ_ s6 ⟨R,H6,I6,q6⟩=>?_);refine wP O (TB (hb _ s6 R H6 _ I6 q6) λf s7 C=>?_);have Y:∀{z:St}{K:Hp},Inv X (y++bM k s5.heap) z K s7->N z K->∃m,m<n/\∃i l B,Inv X y l B s7/\tn i s7.heap/\(∀b∈k,B b=none)/\W i m l B:=λ{z K} Z M=>by obtain⟨m',hm,w7⟩:=hN z K M;refine⟨m',hm,i+1,z,K,Z.unpinned,T.keep _ _ _ E λb hb o e=>(Z.pin (b,o) (QW _ (QW _ (xF hb e)))).1,λb hb=>?_,w7⟩;obtain⟨o,e,d⟩:=T.obj _ _ E b hb;exact(Z.pin (b,o) (QW _ (QW _ (xF hb e)))).2.1
 cases f with|next=>obtain⟨z,K,Z,M⟩:=C;exact Y Z M|cont=>obtain⟨z,K,Z,M⟩:=C;exact Y Z M|brk=>obtain⟨z,K,Z,C⟩:=C;exact⟨z,K,Z.unpinned,C⟩|ret v=>obtain⟨x7,z,K,Z,r7,C⟩:=C;exact⟨x7,z,K,Z.unpinned,r7,C⟩
end
end
noncomputable abbrev R2:=V->V->Hp->VK->Prop
def NE(X:Cx)(f:Value->Value->Sem Value)(r:R2):Prop :=
 ∀(h:PB) (s:Shared) (z:St) (H:Hp) (x y:V) (v u:Value) (Q:VK),Inv X h z H s->iA x v->iA y u->r x y H Q ->
  wpAny (model X.prog X.w) X.A (f v u) (EP X h z Q) X.xe s
def rC(X:Cx)(f:Value)(r:LV->Hp->VK->Prop):Prop :=
 ∀(h:PB) (s:Shared) (x:St) (H:Hp) (y:LV) (z:LW) (Q:VK),Inv X h x H s->oA y z->r y H Q ->
  wpAny (model X.prog X.w) X.A (call f z) (EP X h x Q) X.xe s
def zu(X:Cx)(r:V->Hp->(Bool->Hp->Prop)->Prop):Prop :=
 ∀(h:PB) (s:Shared) (y:St) (H:Hp) (x:V) (v:Value) (Q:Bool->Hp->Prop),Inv X h y H s->iA x v->r x H Q ->
  wpAny (model X.prog X.w) X.A (truthy v) (TP X h y Q) X.xe s
def Kl(r:R2)(ta tb:TE):TE:=λh H Q=>ta h H λx u=>tb h u λy z=>r x y z Q
def rI(C:Int->Int->Prop)(g:Int->Int->V):R2:=λx y H Q=>∃i j,x=.int i/\y=.int j/\C i j/\Q (g i j) H
def T8(g:Int->Int->V):R2:=λx y H Q=>∃i j,x=.int i/\y=.int j/\Q (g i j) H
section
variable{X:Cx}{a b c:Expr}{ta z tc:TE}{pos:Pos}
section
variable{f:Value->Value->Sem Value}{g:Int->Int->Int}
theorem binT(Z:PE X a ta)(hb:PE X b z){k:PB}{s:Shared}{σ:St}{H:Hp}{R:V->V->Hp->Prop}(I:Inv X k σ H s)
  (h:ta σ H λx m=>z σ m λy e=>R x y e) {Q:pC}
  (Y:∀v u l x y e,Inv X k σ e l->iA x v->iA y u->R x y e->wpAny (model X.prog X.w) X.A (f v u) Q X.xe l) :
  wpAny (model X.prog X.w) X.A (eval a X.env) (λv j=>wpAny (model X.prog X.w) X.A (eval b X.env) (λu i=>wpAny (model X.prog X.w) X.A (f v u) Q X.xe i) X.xe j) X.xe s:=by
 refine TB (Z k s σ H _ I h) λv n ⟨x,m,K,p,r⟩=>?_;refine TB (hb k n σ m _ K r) λu l ⟨y,e,W,o,q⟩=>?_;exact Y v u l x y e W p o q
theorem Km{k:Operator}{r:R2}(m:NE X (binaryOp k) r)(n:PE X a ta)(hb:PE X b z):PE X (.BinOp a k b pos) (Kl r ta z):=by intro w s e H Q I h;exact wpAny_BinOp (binT n hb I h λv u i x y p o l j q=>m w i e p x y v u Q o l j q)
theorem lw{C:Int->Int->Prop}
  (k:∀(i j:Int) (t u:Tok) (s:Shared) (Q:pC) (E:pC),C i j->Q (.int (g i j) s.toks) { s with toks:=s.toks+1 }->wpAny (model X.prog X.w) X.A (f (.int i t) (.int j u)) Q E s) :
  NE X f (rI C λi j=>.int (g i j)):=by
 intro e s o H x y v u Q I n m h;obtain⟨i,j,rfl,rfl,hc,q⟩:=h;obtain⟨t,rfl⟩:=n;obtain⟨l,rfl⟩:=m;exact k i j t l s _ _ hc ⟨.int (g i j),H,I.tok _,⟨_,rfl⟩,q⟩
theorem Fm
  (k:∀(i j:Int) (t u:Tok) (s:Shared) (Q:pC) (E:pC),Q (.int (g i j) s.toks) { s with toks:=s.toks+1 }->wpAny (model X.prog X.w) X.A (f (.int i t) (.int j u)) Q E s) :
  NE X f (T8 λi j=>.int (g i j)):=by
 intro e s o H x y v u Q I n m h;obtain⟨i,j,rfl,rfl,q⟩:=h;obtain⟨t,rfl⟩:=n;obtain⟨l,rfl⟩:=m;exact k i j t l s _ _ ⟨.int (g i j),H,I.tok _,⟨_,rfl⟩,q⟩
theorem K9{g:Int->Int->Bool}
  (k:∀(i j:Int) (t u:Tok) (s:Shared) (Q:pC) (E:pC),Q (.bool (g i j)) s->wpAny (model X.prog X.w) X.A (f (.int i t) (.int j u)) Q E s) :
  NE X f (T8 λi j=>.bl (g i j)):=by
 intro e s o H x y v u Q I n m h;obtain⟨i,j,rfl,rfl,q⟩:=h;obtain⟨t,rfl⟩:=n;obtain⟨l,rfl⟩:=m;exact k i j t l s _ _ ⟨.bl (g i j),H,I,rfl,q⟩
def YN(i j:Int):Prop:=(-(2 ^ 64)<i/\i<2 ^ 64)∨(-(2 ^ 64)<j/\j<2 ^ 64)
theorem YN.ok{i j:Int}(h:YN i j):IntMulOk i j:=by
 rcases h with⟨y,x⟩| ⟨y,x⟩
 exact .of_left (intBits_le_64 y x);exact .of_right (intBits_le_64 y x)
theorem op_add:NE X (binaryOp .Add) (T8 λi j=>.int (i+j)):=Fm λ_ _ _ _ _ _ _ q=>add_int q
theorem op_sub:NE X (binaryOp .Sub) (T8 λi j=>.int (i - j)):=Fm λ_ _ _ _ _ _ _ q=>sub_int q
theorem op_mod:NE X (binaryOp .Mod) (rI (λ_ j=>0<j) λi j=>.int (i % j)):=lw λi j _ _ _ _ _ hc q=>by have h:(0:Int)<j:=hc;exact mod_int' (by omega) (by rw[Int.fmod_eq_emod_of_nonneg i (by omega)];exact q)
end
end
noncomputable def D8:V->V->Bool
 | .non,.non=>true | .non,.int _=>true | .int _,.non=>true | .non,.bl _=>true | .bl _,.non=>true | .non,.str _=>true | .str _,.non=>true
 | .int _,.int _=>true | .bl _,.bl _=>true | .str _,.str _=>true | .byt _,.byt _=>true
 | .int _,.str _=>true | .str _,.int _=>true | .bl _,.str _=>true | .str _,.bl _=>true
 |_,_=>false
def rEq:R2:=λx y H Q=>D8 x y=true/\Q (.bl (decide (x=y))) H
def fw:R2:=λx y H Q=>D8 x y=true/\Q (.bl (!decide (x=y))) H
theorem eX{i j:Int}:decide (V.int i=V.int j)=(i==j):=by rw[Q3];simp
theorem U6{i j:Bool}:decide (V.bl i=V.bl j)=(i==j):=by rw[Q3];simp
theorem aX{i j:Str}:decide (V.str i=V.str j)=(i==j):=by rw[Q3];simp
theorem iX{i j:Array UInt8}:decide (V.byt i=V.byt j)=(i.toList==j.toList):=by rw[Q3];cases i;cases j;simp
section
variable{X:Cx}{a b c:Expr}{ta g tc:TE}{pos:Pos}
section
variable{r:R2}{d:CmpOp}{us:LW}
theorem sA{h:PB}{σ:St}{H:Hp}{s:Shared}{Q:VK}{k x:Bool}(I:Inv X h σ H s)(q:Q (.bl k) H)(e:k=x):EP X h σ Q (.bool x) s:=by subst e;exact⟨.bl k,H,I,rfl,q⟩
theorem op_eq:NE X (compareOp .Eq) rEq:=by
 intro f s l H x y v u Q I e z h;obtain⟨k,q⟩:=h;cases x with
 |non =>
  cases e;cases y with|non=>cases z;exact PySem.EqNone.eq_none_none (sA I q (by simp))|bl j=>cases z;exact PySem.EqNone.eq_none_bool (sA I q (by simp))|int j=>obtain⟨w,rfl⟩:=z;exact PySem.EqNone.eq_none_int (sA I q (by simp))|str j=>obtain⟨w,rfl⟩:=z;exact PySem.EqNone.eq_none_str (sA I q (by simp))|_=>exact absurd (show false=true from k) QF
 |bl i =>
  cases e;cases y with|non=>cases z;exact PySem.EqNone.eq_bool_none (sA I q (by simp))|bl j=>cases z;exact eq_bool (sA I q U6)|str j=>obtain⟨w,rfl⟩:=z;exact PySem.EqMixed.eq_bool_str (sA I q (by simp))|_=>exact absurd (show false=true from k) QF
 |int i =>
  obtain⟨t,rfl⟩:=e;cases y with|non=>cases z;exact PySem.EqNone.eq_int_none (sA I q (by simp))|int j=>obtain⟨w,rfl⟩:=z;exact eq_int (sA I q eX)|str j=>obtain⟨w,rfl⟩:=z;exact PySem.EqMixed.eq_int_str (sA I q (by simp))|_=>exact absurd (show false=true from k) QF
 |str i =>
  obtain⟨t,rfl⟩:=e;cases y with|non=>cases z;exact PySem.EqNone.eq_str_none (sA I q (by simp))|bl j=>cases z;exact PySem.EqMixed.eq_str_bool (sA I q (by simp))|int j=>obtain⟨w,rfl⟩:=z;exact PySem.EqMixed.eq_str_int (sA I q (by simp))|str j=>obtain⟨w,rfl⟩:=z;exact eq_str (sA I q aX)|_=>exact absurd (show false=true from k) QF
 |byt i =>
  obtain⟨t,rfl⟩:=e;cases y with|byt j=>obtain⟨w,rfl⟩:=z;exact PySem.W.eq_bytes (sA I q iX)|_=>exact absurd (show false=true from k) QF
 |_=>cases y<;>exact absurd (show false=true from k) QF
theorem op_ne:NE X (compareOp .NotEq) fw:=by
 intro f s l H x y v u Q I e z h;obtain⟨k,q⟩:=h;cases x with
 |non =>
  cases e;cases y with|non=>cases z;exact PySem.EqNone.ne_none_none (sA I q (by simp))|bl j=>cases z;exact PySem.EqNone.ne_none_bool (sA I q (by simp))|int j=>obtain⟨w,rfl⟩:=z;exact PySem.EqNone.ne_none_int (sA I q (by simp))|str j=>obtain⟨w,rfl⟩:=z;exact PySem.EqNone.ne_none_str (sA I q (by simp))|_=>exact absurd (show false=true from k) QF
 |bl i =>
  cases e;cases y with|non=>cases z;exact PySem.EqNone.ne_bool_none (sA I q (by simp))|bl j=>cases z;exact ne_bool (sA I q (congrArg not U6))|str j=>obtain⟨w,rfl⟩:=z;exact PySem.EqMixed.ne_bool_str (sA I q (by simp))|_=>exact absurd (show false=true from k) QF
 |int i =>
  obtain⟨t,rfl⟩:=e;cases y with|non=>cases z;exact PySem.EqNone.ne_int_none (sA I q (by simp))|int j=>obtain⟨w,rfl⟩:=z;exact ne_int (sA I q (congrArg not eX))|str j=>obtain⟨w,rfl⟩:=z;exact PySem.EqMixed.ne_int_str (sA I q (by simp))|_=>exact absurd (show false=true from k) QF
 |str i =>
  obtain⟨t,rfl⟩:=e;cases y with|non=>cases z;exact PySem.EqNone.ne_str_none (sA I q (by simp))|bl j=>cases z;exact PySem.EqMixed.ne_str_bool (sA I q (by simp))|int j=>obtain⟨w,rfl⟩:=z;exact PySem.EqMixed.ne_str_int (sA I q (by simp))|str j=>obtain⟨w,rfl⟩:=z;exact ne_str (sA I q (congrArg not aX))|_=>exact absurd (show false=true from k) QF
 |byt i =>
  obtain⟨t,rfl⟩:=e;cases y with|byt j=>obtain⟨w,rfl⟩:=z;exact PySem.W.ne_bytes (sA I q (congrArg not iX))|_=>exact absurd (show false=true from k) QF
 |_=>cases y<;>exact absurd (show false=true from k) QF
theorem op_lt:NE X (compareOp .Lt) (T8 λi j=>.bl (decide (i<j))):=K9 λ_ _ _ _ _ _ _ q=>lt_int q
theorem op_le:NE X (compareOp .LtE) (T8 λi j=>.bl (decide (i<=j))):=K9 λ_ _ _ _ _ _ _ q=>le_int q
theorem op_gt:NE X (compareOp .Gt) (T8 λi j=>.bl (decide (j<i))):=K9 λ_ _ _ _ _ _ _ q=>gt_int q
theorem op_ge:NE X (compareOp .GtE) (T8 λi j=>.bl (decide (j<=i))):=K9 λ_ _ _ _ _ _ _ q=>ge_int q
theorem eY:NE X (compareOp .In) (λx y H Q=>∃i j,x=.str i/\y=.str j/\Q (.bl (!(wa j i 0 j.length 1).isEmpty)) H):=by intro z s e H x y v u Q I k w h;obtain⟨i,j,rfl,rfl,q⟩:=h;obtain⟨t,rfl⟩:=k;obtain⟨f,rfl⟩:=w;exact in_str (sA I q rfl)
theorem dh:NE X (compareOp .Is) (λx y H Q=>y=.non/\Q (.bl (decide (x=.non))) H):=by
 intro w s e H x y v u Q I z k h;obtain⟨rfl,q⟩:=h;cases k;refine is_none_gen (sA I q ?_);cases x<;>first
  | (cases z;rfl)
  | (obtain⟨t,rfl⟩:=z;rfl)
theorem Y9:NE X (compareOp .IsNot) (λx y H Q=>y=.non/\Q (.bl (!decide (x=.non))) H):=by
 intro w s e H x y v u Q I z k h;obtain⟨rfl,q⟩:=h;cases k;refine isnot_none_gen (sA I q ?_);cases x<;>first
  | (cases z;rfl)
  | (obtain⟨t,rfl⟩:=z;rfl)
theorem HP:NE X (compareOp .NotIn) (λx y H Q=>∃i j,x=.str i/\y=.str j/\Q (.bl (!(!(wa j i 0 j.length 1).isEmpty))) H):=by intro z s e H x y v u Q I k w h;obtain⟨i,j,rfl,rfl,q⟩:=h;obtain⟨t,rfl⟩:=k;obtain⟨f,rfl⟩:=w;exact notIn_str (sA I q rfl)
theorem NE.or{f:Value->Value->Sem Value}{i:R2}(h:NE X f r)(h':NE X f i):NE X f (λx y H Q=>r x y H Q∨i x y H Q):=by intro z s w H x y v u Q I e k q;rcases q with q|q;exact h z s w H x y v u Q I e k q;exact h' z s w H x y v u Q I e k q
theorem r9(i:NE X (compareOp d) r)(l:PE X a ta)(hb:PE X b g)(j:behindInMarks d b=false):PE X (.Compare a [d] [b] pos) (Kl r ta g):=by intro z s w H Q I h;exact wpAny_Compare1 (binT l hb I h λv u k x y n m f e q=>i z k w n x y v u Q m f e q) j
def Yl(t:TE):TT:=λh H Q=>t h H λx y=>∃k,x=.bl k/\Q k y
theorem j9(Y:NE X (compareOp d) r)(W:PE X a ta)(hb:PE X b g)(Z:behindInMarks d b=false):PT X (.Compare a [d] [b] pos) (Yl (Kl r ta g)):=by
 intro w s f H Q I h;refine wpAny_isTrue_Compare1 (TB (W w s f H _ I h) λv j ⟨x,F,B,n,q⟩=>TB (hb w j f F _ B q) λu i ⟨y,E,A,m,p⟩ =>
  TB (Y w i f E x y v u _ A n m p) λc G ⟨z,C,K,l,k,e,o⟩=>?_) Z
 subst e;cases l;exact wO ⟨C,K,o⟩
def Gj(K:QA)(x:V)(H:Hp)(k:Bool):Prop :=
 match x with
 | .non=>k=false|.bl b=>k=b|.int i=>k=(i != 0)|.str y=>y.length<=sizeLine/\k=((y.length:Int) != 0)|.byt y=>y.size<=sizeLine/\k=((y.size:Int) != 0)|.ref p=>(∃h,AC K H p h/\k=!h.isEmpty)∨(∃h,ED K H p h/\k=!h.isEmpty)∨∃z,H p=some (.dK z)/\k=!z.isEmpty|_=>False
theorem fV{h:Type}{kvs:List (h×V)}{vs:List (h×Value)}(r:KV kvs vs):(!vs.isEmpty)=!kvs.isEmpty:=by cases r<;>rfl
theorem BM{xs:LV}{its:LW}(r:oA xs its):(!its.toArray.isEmpty)=!xs.isEmpty:=by cases r<;>simp
theorem DH:(sizeLine:Nat)<2 ^ 63:=by rw[Q7];decide
theorem R0:zu X (λx H Q=>∃k,Gj X.K x H k/\Q k H):=by
 intro A s F H x v Q I l h;obtain⟨k,e,q⟩:=h;have hl:=DH;have G:sizeLine=16777216:=Q7;cases x with
 |non=>cases l;have z:k=false:=e;subst z;exact truthy_none ⟨H,I,q⟩|bl b=>cases l;have z:k=b:=e;subst z;exact wO ⟨H,I,q⟩|int i=>obtain⟨t,rfl⟩:=l;have z:k=(i != 0):=e;subst z;exact PySem.P.truthy_int ⟨H,I,q⟩|str y=>obtain⟨t,rfl⟩:=l;obtain⟨C,z⟩:y.length<=sizeLine/\k=((y.length:Int) != 0):=e;subst z;exact PySem.P.truthy_str (by omega) ⟨H,I.tok _,q⟩|byt y=>obtain⟨t,rfl⟩:=l;obtain⟨C,z⟩:y.size<=sizeLine/\k=((y.size:Int) != 0):=e;subst z;exact PySem.W.truthy_bytes (by omega) ⟨H,I.tok _,q⟩|ref p =>
  cases l;have z:(∃j,AC X.K H p j/\k=!j.isEmpty)∨(∃j,ED X.K H p j/\k=!j.isEmpty)∨∃u,H p=some (.dK u)/\k=!u.isEmpty:=e;rcases z with⟨j,n,z⟩| ⟨j,n,z⟩| ⟨u,n,z⟩
  subst z;obtain⟨Z,r,Y,B⟩:=I.list n;have f:=r.length;exact wpAny_truthy_list Y.isList (by simp only[QN];omega) ⟨H,I.tok _,by rw[BM r];exact q⟩;subst z;obtain⟨Z,r,Y,B⟩:=I.tuple n;have f:=r.length;exact truthy_tuple Y (by simp only[QN];omega) ⟨H,I.tok _,by rw[BM r];exact q⟩;subst z;obtain⟨B,E,o,r,m⟩:u.length<=sizeLine/\(p==sysModules)=false/\∃o,KV u o/\s.heap.DictOf (ND X.prog X.w) p o:=I.hok p _ n;have f:u.length=o.length:=qH r;exact wpAny_truthy_dict E m (by omega) ⟨H,I.tok _,by rw[fV r];exact q⟩
 |_=>exact(show False from e).elim
theorem YU:NE X (binaryOp .Add) (λx y H Q=>∃i j,x=.str i/\y=.str j/\i.length+j.length<=sizeLine/\Q (.str (i++j)) H):=by intro z s l H x y v u Q I e k h;obtain⟨i,j,rfl,rfl,f,q⟩:=h;obtain⟨t,rfl⟩:=e;obtain⟨w,rfl⟩:=k;exact add_str (λw m=>⟨.str (i++j),H,I.tok _,⟨_,rfl⟩,q⟩) f
theorem kI{x:V}(r:oA [x] us):∃u,us=[u]/\iA x u:=by
 cases r with|cons y h=>cases h;exact⟨_,rfl,y⟩
theorem ec{x y:V}(r:oA [x,y] us):∃u h,us=[u,h]/\iA x u/\iA y h:=by
 cases r with
 |cons k w =>
  cases w with|cons v z=>cases z;exact⟨_,_,rfl,k,v⟩
theorem JZ:rC X (.type "int") (λxs H Q=>(∃i,xs=[.int i]/\Q (.int i) H)∨∃k,xs=[.bl k]/\Q (.int (if k then 1 else 0)) H):=by
 intro x s z H xs us Q I r h;rcases h with⟨i,rfl,q⟩| ⟨k,rfl,q⟩
 obtain⟨u,rfl,t,rfl⟩:=kI r;exact call_int_int ⟨.int i,H,I,⟨_,rfl⟩,q⟩;obtain⟨u,rfl,y⟩:=kI r;cases y;exact call_int_bool ⟨.int (if k then 1 else 0),H,I.tok _,⟨_,rfl⟩,q⟩
end
end
section
variable{h:Heap}{u:Addr}{v:Str->Option Value}
structure ObjM(h:Heap)(x u C:Addr)(v:Str->Option Value):Prop where
 obj:h.get? x=some (QAu C u)
 ns:h.Ns1 u v
 ne:u≠x
theorem PY(n:h.Ns1 u v):∃w,h.get? u=some w/\∀name,QBB name w=some (v name):=by
 obtain⟨o,k,l,f,i,hk,_,g⟩:=n;refine⟨o,f,λname=>?_⟩;have e:=g name;unfold nsFind findBy at e;rw[<- Array.find?_toList]at e;unfold QBB;rw[i];dsimp only;split;rename_i y q;rw[q]at e;exact congrArg some e;rename_i q;rw[q]at e;have a:k.toList.any (·.refKey)=false:=by rw[QAT];intro y b;obtain⟨z,t,x⟩:=hk y (Array.mem_toList_iff.mp b);simp[DictEntry.refKey,x]
 have j:¬ k.toList.any (·.refKey)=true:=by rw[a];exact QF
 rw[if_neg j];exact congrArg some e
theorem ObjM.look{x C:Addr}(I:ObjM h x u C v):∃y,PySem.W.InstAt h x (QAu C u) C (some y)/\∀name,QBB name y=some (v name) :=
 let⟨y,z,hl⟩:=PY I.ns
 ⟨y,⟨I.obj,rfl,rfl,z⟩,hl⟩
end
section
variable{P:Program}{w:World}{H v:Hp}{h h':Heap}{a C y:Addr}{x u:List (Str×V)}
theorem Ta(b:lL P w H h)(e:H a=some (.ins C y x)):∃k,ObjM h a y C k/\(∀f,FT (x.lookup f) (k f))/\PySem.Within k (x.map (·.1))/\x.length<=1000/\H y=some (.own a):=by
 obtain⟨d,z,g,ob,k,n,r,q⟩:=(show FA P w H h a (.ins C y x) from b a _ e)
 exact⟨k,⟨ob,n,g⟩,r,q,z,d⟩
end
structure Cls(K:QA)(C:Addr):Prop where
 pg:QB6 K C Str.empty=true
 hd:PySem.W.hasDictIn K C=true
 po:PySem.W.plainOver K C=true
 sa:PySem.W.findIn K (.ref C) "__setattr__"=some (some (.builtin "object.__setattr__"))
theorem Cls.get{K:QA}{C:Addr}(c:Cls K C)(f:Str):QB6 K C f=true:=c.pg
section
variable{X:Cx}{v:PB}{σ:St}{H:Hp}{s:Shared}{A:Around}{E:pC}{Q:pC}{c:Value}{b:Bool}
inductive TyOf(K:QA)(H:Hp):V->Value->Prop where
 |non:TyOf K H .non (.type "NoneType")
 |bl (x:Bool):TyOf K H (.bl x) (.type "bool")
 |int (i:Int):TyOf K H (.int i) (.type "int")
 |str (x:Str):TyOf K H (.str x) (.type "str")
 |flt (x:UInt64):TyOf K H (.flt x) (.type "float")
 |lst {a:Addr}{xs:LV}(e:H a=some (.lst xs)):TyOf K H (.ref a) (.type "list")
 |frz {a:Addr}{o:Obj}{xs:LV}(e:H a=some (.frz o (.lst xs))):TyOf K H (.ref a) (.type "list")
 |tup {a:Addr}{xs:LV}(e:H a=some (.tup xs)):TyOf K H (.ref a) (.type "tuple")
 |dK {a:Addr}{kvs:List (Key×V)}(e:H a=some (.dK kvs)):TyOf K H (.ref a) (.type "dict")
 |dT {a:Addr}{ep:Nat}{kvs:List (NK×Addr×V)}(e:H a=some (.dT ep kvs)):TyOf K H (.ref a) (.type "dict")
 |ins {a C dx:Addr}{fs:List (Str×V)}(e:H a=some (.ins C dx fs)) (cl:Cls K C) (ha:PySem.W.findIn K (.ref C) "__class__"=some (some (.builtin "object.__class__")))
   (hn:PySem.W.specialIn K (.builtin "object.__class__") "__get__"=some (some (.builtin "getset_descriptor.__get__"))) (htk:PySem.W.takesIn K (.builtin "object.__class__")=some true)
   (hm:PySem.W.mroIn K C (.type "object")=some true):TyOf K H (.ref a) (.ref C)
theorem jZ{x:V}{u t:Value}(I:Inv X v σ H s)(k:iA x u)(ty:TyOf X.K H x t)(e:QBC X.K t c=some b)(h:∀B,Q (.bool b) { s with toks:=B }) :
  wpAny (model X.prog X.w) A (call (.builtin "isinstance") [u,c]) Q E s:=by
 cases ty with
 |non=>cases(show u=Value.none from k);exact qI PySem.W.kitx_none I.kIn True.intro e (λz=>nomatch z) h
 |bl y=>cases(show u=Value.bool y from k);exact qI PySem.W.kitx_bool I.kIn True.intro e (λz=>nomatch z) h
 |int i=>obtain⟨t,q⟩:=(show ∃t,u=Value.int i t from k);cases q;exact qI PySem.W.kitx_int I.kIn True.intro e (λz=>nomatch z) h
 |str y=>obtain⟨t,q⟩:=(show ∃t,u=Value.str y t from k);cases q;exact qI PySem.W.kitx_str I.kIn True.intro e (λz=>nomatch z) h
 |flt y=>obtain⟨t,q⟩:=(show ∃t,u=Value.float y t from k);cases q;exact qI PySem.W.kitx_float I.kIn True.intro e (λz=>nomatch z) h
 |@lst a l f =>
  cases(show u=Value.ref a from k);obtain⟨_,_,n,_,g⟩:=(show FA X.prog X.w H s.heap a (.lst l) from I.hok a _ f)
  exact qI QAU I.kIn ⟨_,g,rfl⟩ e (λz=>nomatch z) h
 |@frz a ob l f =>
  cases(show u=Value.ref a from k);obtain⟨_,_,_,n,_,g⟩:=(show FA X.prog X.w H s.heap a (.frz ob (.lst l)) from I.hok a _ f)
  exact qI QAU I.kIn ⟨_,g,rfl⟩ e (λz=>nomatch z) h
 |@tup a l f =>
  cases(show u=Value.ref a from k);obtain⟨_,_,_,p⟩:=(show FA X.prog X.w H s.heap a (.tup l) from I.hok a _ f)
  obtain⟨o,g,m,_⟩:=p;exact qI QBb I.kIn ⟨o,g,m⟩ e (λz=>nomatch z) h
 |@dK a j f =>
  cases(show u=Value.ref a from k);obtain⟨_,_,N,_,p⟩:=(show FA X.prog X.w H s.heap a (.dK j) from I.hok a _ f)
  obtain⟨o,M,Y,g,m,_⟩:=p;exact qI QBk I.kIn ⟨o,g,m.1⟩ e (λz=>nomatch z) h
 |@dT a Y j f =>
  cases(show u=Value.ref a from k);obtain⟨_,_,l,_,o,M,g,m,_⟩:=(show FA X.prog X.w H s.heap a (.dT Y j) from I.hok a _ f)
  exact qI QBk I.kIn ⟨o,g,m.1⟩ e (λz=>nomatch z) h
 |@ins a C S fs f Z L F r G=>cases(show u=Value.ref a from k);obtain⟨R,O,_⟩:=Ta I.hok f;obtain⟨P,J,_⟩:=O.look;exact qI (PySem.W.kitx_own (Z.get _) Z.hd L F r G) I.kIn J e (λz=>nomatch z) h
end
section
variable{k:Nat}{A:Around}
structure Room(k:Nat)(A:Around):Prop where
 hd:A.handled=none
 dp:A.depth+3 * k+5<recursionLimit
 un:A.units+16 * k+200<cLine
theorem Room.mono{j:Nat}(r:Room k A)(h:j<=k):Room j A:=⟨r.hd,by have:=r.dp;omega,by have:=r.un;omega⟩
theorem Room.deeper(r:Room (k+1) A)(env:Env):Room k (A.deeper env) :=
 ⟨r.hd,by have:=r.dp;show A.depth+1+3 * k+5<_;omega,by have:=r.un;show A.units+3+16 * k+200<_;omega⟩
theorem Room.depth(r:Room k A):A.depth<recursionLimit:=by have:=r.dp;omega
def Vl:TA:=λ_ H Q=>Q [] H
def Bl(ta:TE)(z:TA):TA:=λh H Q=>ta h H λx v=>z h v λy u=>Q (x::y) u
end
section
variable{X:Cx}{e:Expr}{es:List Expr}{te:TE}{t:TA}{pos:Pos}
theorem CP:PA X [] Vl:=λ_ _ _ _ H Q I h=>QAV ⟨[],H,I,.nil,h⟩
theorem eI(j:PE X e te)(i:PA X es t)(g:starEach (e::es) X.env=(false,eval e X.env)::starEach es X.env:=by rfl):PA X (e::es) (Bl te t):=by intro pos y s z H Q I h;rw[g];show wpAny _ _ (spliced ((false,eval e X.env)::backTo pos (starEach es X.env))) _ _ s;refine WM (TB (j y s z H _ I h) λu w ⟨x,o,m,a,f⟩=>?_);exact TB (i pos y w z o _ m f) λp q ⟨v,n,l,k,b⟩=>⟨x::v,n,l,.cons a k,b⟩
def Gq(t:TA):TE:=λy H Q=>t y H λh x=>h.length<=sizeLine/\∀p,x p=none->Q (.ref p) (CA x p (.tup h))
def Oq(t:TA):TE:=λy H Q=>t y H λh x=>h.length<=sizeLine/\∀p,x p=none->Q (.ref p) (CA x p (.lst h))
theorem jh{x1}(h:PA X es t):PE X (.Tuple es x1 pos) (Gq t):=by intro x s k H Q I g;refine QBI (TB (h pos x s k H _ I g) λf y ⟨a,w,v,r,z,q⟩=>⟨by rw[<- r.length];exact z,?_⟩);have i:w y.heap.objs.size=none:=v.hok.fresh (QZ _);refine⟨.ref y.heap.objs.size,CA w y.heap.objs.size (.tup a),v.laid (t':=y.toks) (λb u e=>QH _ e) (QZ _) ?_,rfl,q _ i⟩;exact⟨z,f,r,⟨_,QU _ rfl,rfl,_,rfl⟩⟩
theorem zh(h:PA X es t):PE X (.List es pos) (Oq t):=by intro x s k H Q I g;refine wpAny_List_spliced (TB (h pos x s k H _ I g) λf y ⟨a,w,v,r,z,q⟩=>⟨by rw[<- r.length];exact z,?_⟩);have i:w y.heap.objs.size=none:=v.hok.fresh (QZ _);refine⟨.ref y.heap.objs.size,CA w y.heap.objs.size (.lst a),v.laid (t':=y.toks) (λb u e=>QH _ e) (QZ _) ?_,rfl,q _ i⟩;exact⟨z,f,0,r,QU _ rfl⟩
end
noncomputable abbrev Sp:=LV->Hp->VK->XK->Prop
noncomputable abbrev O7:=List Env->Hp->Shared->XK->Value->Shared->Prop
structure Env0(P:Program)(w:World)(K:QA)(mg:Str->Option Value)(base:Heap)(A:Around)(outer:List Env)(s:Shared)(H:Hp):Prop where
 frames:A.frames=some outer
 mod:Mod K mg base
 bs:∀b o,base.get? b=some o->s.heap.get? b=some o/\H b=none
 bsz:base.objs.size<=s.heap.objs.size
 funs:s.heap.FunFrames base outer
 frf:∀b∈nX outer,H b=none
 tb:∀P q,vP mg base P q->H P=some (.tbl q)
 hok:lL P w H s.heap
 bare:AllBare s.gens
def CE(outer:List Env)(P:Program)(w:World)(H:Hp)(s:Shared)(Q:VK)(u:Value)(s':Shared):Prop :=
 ∃v h,s'.os=s.os/\AllBare s'.gens/\Un (nX outer) [] H h s.heap s'.heap/\lL P w h s'.heap/\iA v u/\Q v h
def CR(h:O7)(outer:List Env)(P:Program)(w:World)(H:Hp)(s:Shared)(Q:VK)(E:XK)(r:Result)(s':Shared):Prop :=
 match r with
 | .ok (.ret u)=>CE outer P w H s Q u s'|.ok _=>False|.error e=>h outer H s E e s'
structure FnOk(P:Program)(w:World)(K:QA)(mg:Str->Option Value)(base:Heap)(CX:O7)(k:Nat)(f:Addr)(fd:FuncData)(ps:LS)(sp:Sp):Prop where
 len:∀vs H Q E,sp vs H Q E->vs.length=ps.length
 run:∀(A:Around) (outer:List Env) (s:Shared) (H:Hp) (args:Args) (us:LW) (vs:LV) (Q:VK) (E:XK),Room k A->Env0 P w K mg base A outer s H->BindsTo s fd args (ps.zip us)->oA vs us->sp vs H Q E ->
  codeAny (model P w) A (.call (.ref f) args) (CR CX outer P w H s Q E) s
theorem FnOk.mono{P:Program}{w:World}{K:QA}{mg:Str->Option Value}{x:Heap}{a:O7}{j k:Nat}{f:Addr}{v:FuncData}{u:LS}{z:Sp}(F:FnOk P w K mg x a j f v u z)(h:j<=k) :
  FnOk P w K mg x a k f v u z:=⟨F.len,λA y s H args e b Q E g=>F.run A y s H args e b Q E (g.mono h)⟩
section
variable{X:Cx}{x:PB}{σ:St}{H:Hp}{s s':Shared}
theorem Inv.env0(I:Inv X x σ H s):Env0 X.prog X.w X.K X.mg X.base X.A X.stack s H :=
 ⟨I.ok.frames,I.ok.mod,I.bs,QX I.ok.bsz I.sz,I.stack,I.stkFree,I.tb,I.hok,I.bare⟩
theorem Inv.after{Q:VK}{u:Value}(I:Inv X x σ H s)(h:CE X.stack X.prog X.w H s Q u s'):EP X x σ Q u s':=by obtain⟨v,f,a,bare,un,k,r,q⟩:=h;obtain⟨e,g,d,t,y⟩:=s';obtain rfl:y=s.os:=a;exact⟨v,f,I.call (h':=e) (g':=g) (d':=d) (t':=t) (ch:=[]) un k bare (λb z=>absurd z (by simp)),r,q⟩
end
def Vc(z:Sp)(h:LV)(E:XK)(t:TA):TE:=λx H Q=>t x H λy u=>z (y++h) u Q E
def rJ(K:QA)(y:FuncData)(x:LS)(ds:LW):Prop :=
 ∀(s:Shared) (h:LW),K.In s.heap->(h++ds).length=x.length->BindsTo s y ⟨h,[]⟩ (x.zip (h++ds))
theorem rJ.all{K:QA}{y:FuncData}{x:LS}(h:∀us:LW,us.length=x.length->bindArgs y ⟨us,[]⟩=pure (x.zip us)):rJ K y x []:=λs us _ hl=>by rw[qB]at hl ⊢;exact .of_eq (h us hl)
def gN(z:O7)(X:Cx)(E:XK):Prop:=∀(h:PB) (y:St) (H:Hp) (s:Shared) (e:Value) (x:Shared),Inv X h y H s->z X.stack H s E e x->X.xe e x
section
variable{X:Cx}{b:O7}{k:Nat}{f C:Addr}{a:FuncData}{z:LS}{v:Sp}{y:LV}{ds:LW}{E:XK}{x m:Str}{p pos apos:Pos}{e o:Expr}{es:List Expr}{ta:TE}{t:TA}
theorem B2{g:PB}{σ:St}{H:Hp}{s:Shared}{Q:VK}{us:LW}{vs:LV}(F:FnOk X.prog X.w X.K X.mg X.base b k f a z v)(q:Room k X.A)(hb:rJ X.K a z ds)(Y:oA y ds)(n:gN b X E)
  (I:Inv X g σ H s) (r:oA vs us) (h:v (vs++y) H Q E):wpAny (model X.prog X.w) X.A (call (.ref f) us) (EP X g σ Q) X.xe s:=by
 have j:oA (vs++y) (us++ds):=r.append Y;have hl:(us++ds).length=z.length:=by rw[<- j.length];exact F.len _ _ _ _ h
 refine wpAny_call (QBz (F.run X.A X.stack s H ⟨us,[]⟩ (us++ds) (vs++y) Q E q I.env0 (hb s us I.kIn hl) j h) λr l i=>?_);cases r with
 |error e=>exact n g σ H s e l I i|ok fl =>
  cases fl with|ret u=>exact I.after i|next=>exact Qc i|brk=>exact Qc i|cont=>exact Qc i
theorem t9(F:FnOk X.prog X.w X.K X.mg X.base b k f a z v)(Y:Room k X.A)(B:Gl X x)(Z:X.mg x=some (.ref f))(hk:wI X.K (.ref f)=true)(hb:rJ X.K a z ds)(J:oA y ds)(n:gN b X E)
  (L:PA X (e::es) t) (i:(x==("__debug__":Str))=false:=by decide) (G:starEach (e::es) X.env=(false,eval e X.env)::starEach es X.env:=by rfl) (g:(backTo pos (starEach es X.env)).any (·.1)=false:=by rfl) :
  PE X (.Call (.Name x p) (e::es) [] pos) (Vc v y E t):=by
 intro u s l H Q I h;refine wq (nQ I B Z ?_ i);refine PySem.W.callWith_K (h₀:=X.base) I.ok.mod.kin hk (TB (L pos u s l H _ I h) λN O ⟨M,P,j,r,q⟩=>⟨j.kIn,?_⟩) G g;exact B2 F Y hb J n j r q
theorem O3(F:FnOk X.prog X.w X.K X.mg X.base b k f a z v)(j:Room k X.A)(n:Gl X x)(l:X.mg x=some (.ref f))(hk:wI X.K (.ref f)=true)(hb:rJ X.K a z ds)(q:oA y ds)(i:gN b X E)
  (u:(x==("__debug__":Str))=false:=by decide):PE X (.Call (.Name x p) [] [] pos) (Vc v y E Vl):=by
 intro g s r H Q I h;refine wq (nQ I n l ?_ u);exact PySem.W.callWith_K0 I.kIn hk (B2 (us:=[]) F j hb q i I .nil h)
end
section
variable{X:Cx}{c:O7}{k:Nat}{f C:Addr}{b:FuncData}{v ks:LS}{u:Sp}{E:XK}{x m:Str}{p pos apos h:Pos}{e o:Expr}{es:List Expr}{y:List Keyword}{te ta:TE}{t z:TA}{w:Option Str}
variable{g:LW->LW->LW}{a:LV->LV->LV}
end
section
variable{l:O7}{P:Program}{w:World}{mg:Str->Option Value}{base:Heap}{j:LS}{g:Str}{d:Scope}{f:Addr}
structure FnScope(N P:LS)(sc:Scope):Prop where
 kind:sc.kind=.function
 co:sc.isCoroutine=false
 gen:sc.isGenerator=false
 nd:N.Nodup
 pre:N.take P.length=P
 par:∀x∈P,sc.names.lookup x=some .local∨sc.names.lookup x=some .cell
 nofree:∀y∈sc.names,y.2≠.free
theorem AO{y:Str->Option NameKind}{x:Str}:∀{binds:List (Str×Value)}{m:Str->Option Value},(∀v,(x,v)∉binds)->bindL y binds m x=m x
 |[],_,_=>rfl|(n,v)::r,m,h=>by
  unfold bindL;rw[AO λw z=>h w (QE _ z)];split;have:x≠n:=by rintro rfl;exact h v QD
  simp[this];rfl
theorem jP{y:Str->Option NameKind}{x:Str}:∀{binds:List (Str×Value)}{m:Str->Option Value},(∀v,(x,v)∉binds)->bindC y binds m x=m x
 |[],_,_=>rfl|(n,v)::r,m,h=>by
  unfold bindC;rw[jP λw z=>h w (QE _ z)];split;rfl;have:x≠n:=by rintro rfl;exact h v QD
  simp[this]
theorem EO{y:Str->Option NameKind}{x:Str}{v:Value}:∀{P:LS}{vs:LW}{i:Nat}{m:Str->Option Value},P.Nodup->P[i]?=some x->vs[i]?=some v->y x=some .local ->
  bindL y (P.zip vs) m x=some v
 |[],_,_,_,_,h,_,_=>by simp at h|_::_,[],_,_,_,_,h,_=>by simp at h|p::P,w::vs,0,m,nd,h1,h2,hk=>by simp at h1 h2;subst h1;subst h2;show bindL y ((p,w)::P.zip vs) m p=_;unfold bindL;rw[AO λv hv=>(Qi.mp nd).1 (QAw hv).1,if_pos hk];simp|p::P,w::vs,i+1,m,nd,h1,h2,hk=>by show bindL y ((p,w)::P.zip vs) m x=_;unfold bindL;exact EO (i:=i) (Qi.mp nd).2 (by simpa using h1) (by simpa using h2) hk
theorem yP{y:Str->Option NameKind}{x:Str}{v:Value}:∀{P:LS}{vs:LW}{i:Nat}{m:Str->Option Value},P.Nodup->P[i]?=some x->vs[i]?=some v->y x≠some .local ->
  bindC y (P.zip vs) m x=some v
 |[],_,_,_,_,h,_,_=>by simp at h|_::_,[],_,_,_,_,h,_=>by simp at h|p::P,w::vs,0,m,nd,h1,h2,hk=>by simp at h1 h2;subst h1;subst h2;show bindC y ((p,w)::P.zip vs) m p=_;unfold bindC;rw[jP λv hv=>(Qi.mp nd).1 (QAw hv).1,if_neg hk];simp|p::P,w::vs,i+1,m,nd,h1,h2,hk=>by show bindC y ((p,w)::P.zip vs) m x=_;unfold bindC;exact yP (i:=i) (Qi.mp nd).2 (by simpa using h1) (by simpa using h2) hk
def mD(N:LS)(vs:LV):St:=vs.map some++QAK (N.length - vs.length) none
noncomputable def YV(l:O7)(P:Program)(w:World)(K:QA)(mg:Str->Option Value)(base:Heap)(N:LS)(g:Str)(d:Scope)(f:Addr)(x:Value)(A:Around)(outer:List Env)(s:Shared)(H:Hp)(E:XK):Cx where
 prog:=P
 w:=w
 K:=K
 mg:=mg
 base:=base
 A:=A.deeper (envOfC g d s.heap.objs.size f x)
 N:=N
 s₀:=s
 H₀:=H
 env:=envOfC g d s.heap.objs.size f x
 outer:=outer
 stack:=envOfC g d s.heap.objs.size f x::outer
 ex:=[]
 calm:=true
 fn:=λ_=>true
 pn:=[]
 xe:=λe y=>wpAny (model P w) (A.deeper (envOfC g d s.heap.objs.size f x)) (leaving (envOfC g d s.heap.objs.size f x) e) (λ_ h=>l outer H s E e h) (λz h=>l outer H s E z h) y
theorem vT{sc:Scope}{n:Nat}{x:Str}(h:sc.names.lookup x=some .cell):∃c,(cellsFrom n sc.names []).lookup x=some c:=by have q:=QAn sc.names n [] (.inl h);exact Option.isSome_iff_exists.mp q
theorem zZ{K:QA}{N:LS}{F:Value}{A:Around}{outer:List Env}{s G:Shared}{H:Hp}{E:XK}{us:LW}{vs:LV}
  (S:FnScope N j d) (M:A.handled=none) (o:Env0 P w K mg base A outer s H) (hl:vs.length=j.length) (r:oA vs us)
  (x:InCallC s s.heap.objs.size (bindL (envOfC g d s.heap.objs.size f F).kindOf (j.zip us) λ_=>none) (cellsFrom (s.heap.objs.size+1) d.names []) (bindC (envOfC g d s.heap.objs.size f F).kindOf (j.zip us) λ_=>none) G) :
  Inv (YV l P w K mg base N g d f F A outer s H E) [] (mD N vs) H G:=by
 have L:j.length<=N.length:=by have:=congrArg qt S.pre;rw[wg]at this;omega
 obtain⟨C,Q,rfl,hk⟩:=x.done;have X:∀b:Addr,b∉(YV l P w K mg base N g d f F A outer s H E).ex:=λb z=>absurd (show b∈([]:List Addr) from z) (by simp);refine⟨⟨o.mod,S.kind,rfl,rfl,QZ _,λy z c C m=>?_,λy Y=>?_,λy c _ h=>?_,λ_=>M,Around.frames_deeper o.frames,.inr ⟨rfl,rfl⟩,λb z=>absurd z (X b),o.bs,o.bsz,λb _ _=>X b,λb z=>absurd z (X b),o.funs,o.frf,o.tb⟩,
  rfl,o.bare,Un.kept hk,⟨_,x.toInCall.ns,λi y v C m R=>?_⟩,λy c h=>⟨_,x.cell y c h⟩,o.hok.fresh (QZ _),λy c h=>?_,λp W=>absurd (show p∈([]:PB) from W) (by simp),o.hok.kept hk,?_⟩
 exact name_of_addr x.apart (qL C) (qL m);have Y:d.names.lookup y=some .cell∨d.names.lookup y=some .free:=Y;rcases Y with Y|Y;exact vT Y;exact absurd rfl (S.nofree _ (qL Y));exact QAv (x.above y c (qL h));have B:i<vs.length:=by unfold mD at m;by_cases B:i<vs.length;exact B;rw[qG (by simpa using B)]at m;rw[wb]at m;split at m<;>cases m
 have O:vs[i]?=some v:=by
  unfold mD at m;rw[qR (by simpa using B),Qd]at m;cases e:vs[i]? with|none=>rw[e]at m;cases m|some a=>rw[e]at m;cases m;rfl
 obtain⟨u,I,J⟩:=r.get O;have W:j[i]?=some y:=by rw[<- S.pre,List.getElem?_take_of_lt (by omega)];exact C
 have Z:j.Nodup:=by rw[<- S.pre];exact S.nd.sublist (QBl _ _)
 refine⟨u,J,?_⟩;rcases S.par y (qQ W) with k|k;exact .inl ⟨k,EO Z W I k⟩;obtain⟨c,e⟩:=vT (n:=s.heap.objs.size+1) k;refine .inr ⟨.inl k,c,e,?_⟩;have q:=x.cell y c e;rw[yP Z W I (by show d.names.lookup y≠_;rw[k];decide)]at q;exact q;exact o.hok.fresh (QAv (x.above y c (qL h)));unfold mD;show _=N.length;rw[QI,QG,qm];omega
theorem Nd{K:QA}{k:Nat}{name:Str}{z:Arguments}{body:List Stmt}{dV kV B pm h ct oc:Value}{an od:Option Addr}
  {L:Array (Option Value)}{N:LS}{C:Sp}(lk:K.lookup f=some ⟨oc,od,.func (ql name g z body d dV kV B pm an h ct),L⟩) (R:Wb K h g=true) (S:FnScope N j d)
  (len:∀vs H Q E,C vs H Q E->vs.length=j.length)
  (p:∀(A:Around) (outer:List Env) (s:Shared) (H:Hp) (vs:LV) (Q:VK) (E:XK),Room k (A.deeper (envOfC g d s.heap.objs.size f h))->C vs H Q E ->
   ∃t,jW (YV l P w K mg base N g d f h A outer s H E) body t/\t { nx:=λ_ i=>Q .non i,rt:=Q } (mD N vs) H) :
  FnOk P w K mg base l (k+1) f (ql name g z body d dV kV B pm an h ct) j C:=by
 refine⟨len,λA outer s H args us vs Q E O Z hb r Y=>?_⟩;have hl:=len _ _ _ _ Y;have KX:K.In s.heap:=Z.mod.kin.keeps λb o e=>(Z.bs b o e).1;have M:s.heap.NoLimit:=Z.mod.nolimit.keeps λb o e=>(Z.bs b o e).1;have m:∀y∈j.zip us,d.names.lookup y.1=some .local∨(d.names.lookup y.1=some .cell/\((cellsFrom (s.heap.objs.size+1) d.names []).lookup y.1).isSome=true):=λ⟨n,v⟩ hy=>by rcases S.par n (QAw hy).1 with q|q;exact .inl q;exact .inr ⟨q,QAn _ _ _ (.inl q)⟩
 refine codeAny_call_function O.depth (KX _ _ lk) rfl S.co S.gen rfl (PySem.W.codeRec_of KX R) (hb _ _ _ _ ?_);refine wpAny_newFunctionEnv_cells S.kind m λenv he s1 x=>?_;subst he;refine⟨M.keeps x.toInCall.keep,codeAny_func ?_⟩;obtain⟨t,ht,hq⟩:=p A outer s H vs Q E (O.deeper _) Y;have I:Inv (YV l P w K mg base N g d f h A outer s H E) [] (mD N vs) H s1:=zZ S O.hd Z hl r x;refine qr (ht [] s1 (mD N vs) H _ I hq) (λfl F X=>?_) λe F X=>X;have fin:∀{a:St}{i:Hp}{v:V}{u:Value},Inv (YV l P w K mg base N g d f h A outer s H E) [] a i F->iA v u->Q v i->CE outer P w H s Q u F :=
  λ{a i v u} J G q=>⟨v,i,J.os,J.bare,J.base,J.hok,G,q⟩
 cases fl with|ret u=>obtain⟨v,a,i,J,G,q⟩:=X;exact fin J G q|next=>obtain⟨a,i,J,q⟩:=X;exact fin (v:=V.non) (u:=Value.none) J rfl q|brk=>obtain⟨_,_,_,q⟩:=X;exact Qc q|cont=>obtain⟨_,_,_,q⟩:=X;exact Qc q
end
section
variable{X:Cx}{x:Str}{p pos:Pos}{e:Expr}{es:List Expr}{t:TA}{y T:String}{r:LV->Hp->VK->Prop}
def Du(r:LV->Hp->VK->Prop)(t:TA):TE:=λh H Q=>t h H λz u=>r z u Q
theorem cM(hc:rC X (.builtin y) r)(l:Gl X x)(j:X.mg x=none)(hv:bootBuiltins x=some (.builtin y))(n:PA X (e::es) t)(i:x≠"__name__":=by decide)(v:(x==("__debug__":Str))=false:=by decide)
  (m:starEach (e::es) X.env=(false,eval e X.env)::starEach es X.env:=by rfl) (u:(backTo pos (starEach es X.env)).any (·.1)=false:=by rfl):PE X (.Call (.Name x p) (e::es) [] pos) (Du r t):=by
 intro z s w H Q I h;refine wq (FH I l j hv ?_ i v);exact PyProof.Rows.callWith_builtin1 (TB (n pos z s w H _ I h) λa b ⟨k,q,o,f,g⟩=>hc z b w q k a Q o f g) m u
theorem tY(hc:rC X (.type T) r)(l:Gl X x)(j:X.mg x=none)(hv:bootBuiltins x=some (.type T))(n:PA X (e::es) t)(i:x≠"__name__":=by decide)(v:(x==("__debug__":Str))=false:=by decide)
  (m:starEach (e::es) X.env=(false,eval e X.env)::starEach es X.env:=by rfl) (u:(backTo pos (starEach es X.env)).any (·.1)=false:=by rfl):PE X (.Call (.Name x p) (e::es) [] pos) (Du r t):=by
 intro z s w H Q I h;refine wq (FH I l j hv ?_ i v);exact wu (TB (n pos z s w H _ I h) λa b ⟨k,q,o,f,g⟩=>hc z b w q k a Q o f g) m u
end
end L2
namespace HT
open PySem PyProof.Rows
section
open PySem.SeqAt
open PySem.AutoSeq1 (wpAny_loadPart')
open PySem.MeetsSeq PySem.MeetsSeq2 PySem.MeetsSeq3
end
section
variable{prog:Program}{w:World}{A:Around}{E:pC}{s:Shared}
section
variable{sl:Addr}{a u:Value}{y z:Option Int}
def sIx(n d:Nat):Option Int->Nat
 |none=>d|some v=>if v<0 then(v+(n:Int)).toNat else min v.toNat n
theorem sIx_none(n d:Nat):sIx n d none=d:=rfl
theorem sIx_nat(n d k:Nat):sIx n d (some (k:Int))=min k n:=by show(if(k:Int)<0 then((k:Int)+(n:Int)).toNat else min (k:Int).toNat n)=min k n;rw[if_neg (by omega),qM]
theorem Ug(n d:Nat)(h:d<=n)(o:Option Int):sIx n d o<=n:=by
 cases o with|none=>exact h|some v=>show(if v<0 then(v+(n:Int)).toNat else min v.toNat n)<=n;by_cases hv:v<0;rw[if_pos hv];omega;rw[if_neg hv];exact Nat.min_le_right _ _
theorem YX(v:Int)(n d:Nat):(if v<0 then max (v+(n:Int)) 0 else min v (n:Int))=((sIx n d (some v):Nat):Int):=by show(if v<0 then max (v+(n:Int)) 0 else min v (n:Int))=(((if v<0 then(v+(n:Int)).toNat else min v.toNat n):Nat):Int);by_cases hv:v<0;simp only[if_pos hv];omega;simp only[if_neg hv];omega
theorem IV(y z:Option Int)(n:Nat):WB y z 1 (n:Int)=(((sIx n 0 y:Nat):Int),((sIx n n z:Nat):Int)):=by
 have h:¬ ((1:Int)<0):=by omega
 unfold WB;simp only[h,if_false];refine QCC ?_ ?_;cases y with|none=>rfl|some v=>exact YX v n 0
 cases z with|none=>rfl|some v=>exact YX v n n
theorem eU(i j:Nat):wJ (i:Int) (j:Int) 1=j - i:=by
 unfold wJ;have h:(1:Int) > 0:=by omega
 simp only[h,if_true,Int.ediv_one];split<;>omega
theorem HL{v:Value}{o:Option Int}{Q:Option Int->Shared->Prop}(p:IsPart v o)(h:Q o s):wpAny (model prog w) A (Builtin.Slice.slicePartIndex v) Q E s:=by
 cases p with|none=>exact slicePart_none h|int i t=>exact slicePart_int h
theorem UJ{n:Nat}{Q:Int×Int×Nat->Shared->Prop}(f:s.heap.IsSliceOf sl a u .none)(e:IsPart a y)(b:IsPart u z)
  (h:Q (((sIx n 0 y:Nat):Int),1,sIx n n z - sIx n 0 y) s):wpAny (model prog w) A (QAB (.ref sl) (pure (n:Int))) Q E s:=by
 obtain⟨i,v,g,k⟩:=id f;unfold QAB Builtin.Slice.sliceFields;refine QC (QC (wK v k (x:=a) rfl (QC (wK v k (x:=u) rfl (QC (wK v k (x:=.none) rfl (QK ?_)))))));refine QC (slicePart_none ?_);show wpAny _ _ (if((1:Int)==0)=true then _ else _) _ _ s;rw[if_neg (by decide)];refine QC (HL e (QC (HL b (QC (QK ?_)))));show wpAny _ _ (match WB y z 1 (n:Int) with | (y,z)=>pure (y,(1:Int),wJ y z 1)) _ _ s;rw[IV y z n];show wpAny _ _ (pure (((sIx n 0 y:Nat):Int),(1:Int),wJ ((sIx n 0 y:Nat):Int) ((sIx n n z:Nat):Int) 1)) _ _ s;rw[eU];exact QK h
theorem V3(xs:Array Value)(i k:Nat):((Qr k).filterMap λ(m:Nat)=>xs[((i:Int)+(m:Int) * 1).toNat]?).toArray=((xs.toList.drop i).take k).toArray:=by
 have e:(λ(m:Nat)=>xs[((i:Int)+(m:Int) * 1).toNat]?)=λm=>xs[i+m]?:=by
  funext m;have:((i:Int)+(m:Int) * 1).toNat=i+m:=by omega
  rw[this]
 rw[e];have:=pick_run xs i k;rw[List.filterMap_map]at this;have h:((λx=>xs[x]?)∘λx=>i+x)=λm=>xs[i+m]?:=rfl;rw[h]at this;rw[this]
theorem getItem_tuple_cut{t:Addr}{x:Array Value}{Q:pC}(k:IsTup s.heap t x)(i:s.heap.IsSliceOf sl a u .none)(l:IsPart a y)(j:IsPart u z)
  (o:¬ (sIx x.size 0 y=0/\sIx x.size x.size z=x.size))
  (h:Q (.ref s.heap.objs.size) { s with heap:=s.heap.push { cls:=.type "tuple",data:=.seq ((x.toList.drop (sIx x.size 0 y)).take (sIx x.size x.size z - sIx x.size 0 y)).toArray } })
  (hsz:x.size<=sizeLine):wpAny (model prog w) A (getItem (.ref t) (.ref sl)) Q E s:=by
 have v:sizeOk (.seq ((x.toList.drop (sIx x.size 0 y)).take (sIx x.size x.size z - sIx x.size 0 y)).toArray):=by show((x.toList.drop (sIx x.size 0 y)).take (sIx x.size x.size z - sIx x.size 0 y)).toArray.size<=sizeLine;rw[QN,wg,Wk,Qs];omega
 have Y:sIx x.size x.size z<=x.size:=Ug _ _ (QZ _) z;obtain⟨n,b,f,p⟩:=id i;have g:s.TypeIs (.ref sl) "slice":=⟨n,b,f⟩
 unfold getItem
 try with_reducible refine qi ?_
 first|refine QC (QK ?_)|skip
 refine QC (wpAny_sequenceKey k.typeIs (by decide) ?_);refine QC (qN (name:=QS "__getitem__") k.typeIs wQ
  (qJ wQ k.typeIs entry_tuple_getitem ?_ (args_tuple_getitem _ _)))
 show wpAny _ _ (W9 (.ref t) >>= _) _ _ s;refine QC (tupleItemsOf_ k ?_);refine QC (QB0 g ?_);rw[if_pos (by decide)];refine QC (UJ i l j ?_);have e:¬ ((((sIx x.size 0 y:Nat):Int)==0&&(1:Int)==1&&(sIx x.size x.size z - sIx x.size 0 y)==x.size)=true):=by intro q;rw[Qa,Qa]at q;have X:((sIx x.size 0 y:Nat):Int)=0:=qX q.1.1;have r:sIx x.size x.size z - sIx x.size 0 y=x.size:=qX q.2;exact o ⟨by omega,by omega⟩
 show wpAny _ _ (if(((sIx x.size 0 y:Nat):Int)==0&&(1:Int)==1&&(sIx x.size x.size z - sIx x.size 0 y)==x.size)=true then _ else _) _ _ s;rw[if_neg e,V3];first
  |exact QC (m:=wR _) (Qw (QK ⟨_,rfl,QK h⟩) v)
  |exact QC (m:=wR _) (Qw (QC (QK (QK ⟨_,rfl,QK h⟩))) v)
  |exact QC (QC (m:=wR _) (Qw (QK (QK ⟨_,rfl,QK h⟩)) v))
  |exact QC (QC (m:=wR _) (Qw (QK ⟨_,rfl,QK h⟩) v))
end
end
end HT
namespace L2
open PySem PySem.Spec PyProof.Rows
noncomputable abbrev TO:=St->Hp->(Option Int->Hp->Prop)->Prop
def PO(X:Cx)(e:Option Expr)(t:TO):Prop :=
 ∀(h:PB) (s:Shared) (x:St) (H:Hp) (Q:Option Int->Hp->Prop),Inv X h x H s->t x H Q ->
  wpAny (model X.prog X.w) X.A (evalPart e X.env) (λu z=>∃o y,Inv X h x y z/\IsPart u o/\Q o y) X.xe s
def i8:TO:=λ_ H Q=>Q none H
def Zl(t:TE):TO:=λh H Q=>t h H λx y=>∃i,x=.int i/\Q (some i) y
theorem hV{ns:LJ}:∀{us:LW},oA (ns.map V.int) us->IntsAre us ns:=by
 induction ns with
 |nil=>intro us r;rw[wv]at r;cases r;exact .nil|cons n ns y =>
  intro us r;rw[QV]at r;cases r with|cons x h=>obtain⟨t,e⟩:=x;subst e;exact .cons n t (y h)
section
variable{X:Cx}{e:Expr}{te:TE}{y z:Option Expr}{k c:TO}{pos p2:Pos}
theorem x9:PO X none i8:=by intro x s u H Q I h;rw[evalPart_none];exact QK ⟨none,H,I,.none,h⟩
theorem v9(h:PE X e te):PO X (some e) (Zl te):=by intro v s w H Q I f;rw[evalPart_some];refine TB (h v s w H _ I f) λu l ⟨x,j,g,a,b⟩=>?_;obtain⟨i,rfl,q⟩:=b;obtain⟨t,rfl⟩:=a;exact⟨some i,j,g,.int i t,q⟩
def Te(X:Cx)(r:V->Option Int->Option Int->Hp->VK->Prop):Prop :=
 ∀(h:PB) (s:Shared) (u:St) (H:Hp) (x:V) (v b a:Value) (y z:Option Int) (f:Addr) (Q:VK),Inv X h u H s->iA x v->s.heap.IsSliceOf f b a .none->IsPart b y->IsPart a z->r x y z H Q ->
  ∃T id,typeLookup (.type T) "__getitem__"=pure (some (.builtin id))/\s.TypeIs v T/\wpAny (model X.prog X.w) X.A (getItem v (.ref f)) (EP X h u Q) X.xe s
theorem Te.or{r i:V->Option Int->Option Int->Hp->VK->Prop}(h:Te X r)(h':Te X i):Te X (λx y z H Q=>r x y z H Q∨i x y z H Q):=by intro u s w H x v b a y z f Q I g m l j q;rcases q with q|q;exact h u s w H x v b a y z f Q I g m l j q;exact h' u s w H x v b a y z f Q I g m l j q
def kw(r:V->Option Int->Option Int->Hp->VK->Prop)(te:TE)(k c:TO):TE:=λh H Q=>te h H λx a=>k h a λl w=>c h w λu v=>r x l u v Q
theorem B3{r:V->Option Int->Option Int->Hp->VK->Prop}(F:Te X r)(J:PE X e te)(hl:PO X y k)(C:PO X z c):PE X (.Subscript e (.Slice y z none p2) pos) (kw r te k c):=by intro a s g H Q I h;refine QBm (TB (J a s g H _ I h) λv o ⟨x,S,P,p,W⟩=>?_);refine wpAny_Slice (TB (hl a o g S _ P W) λj n ⟨l,R,O,B,Z⟩=>TB (C a n g R _ O Z) λi f ⟨u,m,N,K,Y⟩=>?_);rw[evalPart_none];refine QK ?_;have M:Inv X a g m { f with heap:=f.heap.push { cls:=.type "slice",data:=.fields #[j,i,.none] } }:=N.kept (t':=f.toks) λb ob q=>QH _ q;obtain⟨T,id,L,E,G⟩:=F a { f with heap:=f.heap.push { cls:=.type "slice",data:=.fields #[j,i,.none] } } g m x v j i l u f.heap.objs.size Q M p (Heap.IsSliceOf.new ..) B K Y;show wpAny (model X.prog X.w) X.A (subscriptTail e (.Slice y z none p2) v (.ref f.heap.objs.size)) (EP X a g Q) X.xe { f with heap:=f.heap.push { cls:=.type "slice",data:=.fields #[j,i,.none] } };exact tail_any (ops:=[.ref f.heap.objs.size,v]) E L G (by with_unfolding_all rfl)
def jT(xs:LV)(y z:Option Int):LV:=(xs.drop (HT.sIx xs.length 0 y)).take (HT.sIx xs.length xs.length z - HT.sIx xs.length 0 y)
theorem CK(xs:LV)(y z:Option Int):(jT xs y z).length<=xs.length:=by unfold jT;rw[wg,Wk];omega
def vm(K:QA):V->Option Int->Option Int->Hp->VK->Prop:=λx y z H Q=>∃a h,x=.ref a/\ED K H a h /\
 ¬ (HT.sIx h.length 0 y=0/\HT.sIx h.length h.length z=h.length)/\∀p,H p=none->Q (.ref p) (CA H p (.tup (jT h y z)))
theorem Yg:Te X (vm X.K):=by
 intro g s W H x v B A y z C Q I l Z n m h;obtain⟨a,w,rfl,p,Y,q⟩:=h;cases l;obtain⟨f,r,j,i⟩:=I.tuple p;have u:f.toArray.size=w.length:=by rw[QN];exact r.length.symm
 refine⟨"tuple",_,wQ.lookup,j.typeIs,?_⟩;refine HT.getItem_tuple_cut j Z n m (by rw[u];exact Y) ?_ (by rw[u];exact i);rw[u];refine⟨.ref s.heap.objs.size,_,I.laid (t':=s.toks) (o:=.tup (jT w y z)) (λb ob q=>QH _ q) (QZ _) ?_,rfl,q _ (I.hok.fresh (QZ _))⟩;exact⟨QX (CK w y z) i,_,(r.drop (HT.sIx w.length 0 y)).take (HT.sIx w.length w.length z - HT.sIx w.length 0 y),IsTup.new _ _⟩
end
def kU(n:Nat)(i:Int):Option Nat:=if 0<=i then(if i<n then some i.toNat else none) else if -(n:Int)<=i then some (i+n).toNat else none
def gE{α:Type}(xs:List α)(i:Int):Option α:=(kU xs.length i).bind λj=>xs[j]?
theorem tQ{n:Nat}{i:Int}{j:Nat}(h:kU n i=some j):seqIndex? i n=some j/\j<n/\-(n:Int)<=i/\i<n:=by unfold kU at h;by_cases y:0<=i;rw[if_pos y]at h;by_cases x:i<n;rw[if_pos x]at h;have e:i.toNat=j:=Qo h;exact⟨by rw[QAc y x,e],by omega,by omega,x⟩;rw[if_neg x]at h;cases h;rw[if_neg y]at h;by_cases x:-(n:Int)<=i;rw[if_pos x]at h;have e:(i+n).toNat=j:=Qo h;exact⟨by rw[QB1 (by omega) x,e],by omega,x,by omega⟩;rw[if_neg x]at h;cases h
theorem PQ{α:Type}{xs:List α}{i:Int}{v:α}(h:gE xs i=some v):∃j,seqIndex? i xs.length=some j/\xs[j]?=some v/\j<xs.length/\-(xs.length:Int)<=i/\i<xs.length:=by
 unfold gE at h;cases e:kU xs.length i with|none=>rw[e]at h;cases h|some j=>rw[e]at h;obtain⟨u,z,y,x⟩:=tQ e;exact⟨j,u,h,z,y,x⟩
theorem YF{α:Type}{xs:List α}{j:Nat}{v:α}(h:xs[j]?=some v):gE xs (j:Int)=some v:=by
 have x:j<xs.length:=(Qg.mp h).1;have e:kU xs.length (j:Int)=some j:=by unfold kU;rw[if_pos (by omega),if_pos (by omega)];simp
 unfold gE;rw[e];exact h
def MX(b:Expr):Prop:=∀o i,subscripted b false o i=operate [o,i] (getItem o i)
def B7(X:Cx)(r:R2):Prop :=
 ∀(k h:Expr) (z:PB) (s:Shared) (a:St) (H:Hp) (x y:V) (v u:Value) (Q:VK),Inv X z a H s->iA x v->iA y u->r x y H Q ->
  subscripted h false v u=operate [v,u] (getItem v u)->wpAny (model X.prog X.w) X.A (subscriptTail k h v u) (EP X z a Q) X.xe s
def v8(X:Cx)(id:String)(r:V->LV->Hp->VK->Prop):Prop :=
 ∀(h:PB) (s:Shared) (y:St) (H:Hp) (x:V) (z:LV) (v:Value) (u:LW) (Q:VK),Inv X h y H s->iA x v->oA z u->r x z H Q ->
  wpAny (model X.prog X.w) X.A (call (.builtin id) (v::u)) (EP X h y Q) X.xe s
section
variable{X:Cx}{a b:Expr}{ta Y:TE}{pos:Pos}
section
variable{d:PB}{s:Shared}{x:V}{u v:Value}
theorem B7.or{r g:R2}(h:B7 X r)(h':B7 X g):B7 X (λx y H Q=>r x y H Q∨g x y H Q):=by intro z w d s k H x y v u Q I f e q i;rcases q with q|q;exact h z w d s k H x y v u Q I f e q i;exact h' z w d s k H x y v u Q I f e q i
theorem v8.or{g:String}{r e:V->LV->Hp->VK->Prop}(h:v8 X g r)(h':v8 X g e):v8 X g (λx xs H Q=>r x xs H Q∨e x xs H Q):=by intro d s y H x xs v z Q I w k q;rcases q with q|q;exact h d s y H x xs v z Q I w k q;exact h' d s y H x xs v z Q I w k q
theorem Vm{r:R2}(g:B7 X r)(i:PE X a ta)(hb:PE X b Y)(f:MX b):PE X (.Subscript a b pos) (Kl r ta Y):=by intro d s z H Q I h;exact QBm (binT i hb I h λv u w x y l j e k q=>g a b d w z l x y v u Q j e k q (f _ _))
def im(K:QA):R2:=λx y H Q=>∃p h i v,x=.ref p/\y=.int i/\AC K H p h/\gE h i=some v/\Q v H
def om(K:QA):R2:=λx y H Q=>∃p h i v,x=.ref p/\y=.int i/\ED K H p h/\gE h i=some v/\Q v H
def am:R2:=λx y H Q=>∃z i c,x=.str z/\y=.int i/\z.length<=sizeLine/\gE z.cps.toList i=some c/\Q (.str ⟨#[c]⟩) H
theorem Ma:B7 X (im X.K):=by
 intro e f d s o H x y v u Q I E C h Z;obtain⟨p,N,i,z,rfl,rfl,F,G,q⟩:=h;cases E;obtain⟨t,rfl⟩:=C;obtain⟨m,r,l,O⟩:=I.list F;obtain⟨j,k,M,R,L,J⟩:=PQ G;obtain⟨w,A,g⟩:=r.get M;have hl:=r.length;have P:=DH;have fin:EP X d o Q w s:=⟨z,H,I,g,q⟩
 by_cases W:0<=i;have n:i.toNat=j:=by rw[QAc W J]at k;exact Qo k
 exact item_listR l.isList W (by omega) (by rw[n];simpa using A) fin Z;have n:(i+(m.toArray.size:Int)).toNat=j:=by rw[QB1 (by omega) L]at k;rw[QN,<- hl];exact Qo k
 exact qe (x:=w) l.isList.typeIs QBn.lookup
  (wpAny_getItem_list_neg (Q:=λr B=>r=w/\EP X d o Q r B) l.isList (by omega) (by rw[QN]<;>omega) (by omega) (by rw[n];simpa using A) ⟨rfl,fin⟩) Z
theorem ai:B7 X (om X.K):=by
 intro k e d s g H x y v u Q I o n h W;obtain⟨p,G,i,z,rfl,rfl,A,B,q⟩:=h;cases o;obtain⟨t,rfl⟩:=n;obtain⟨Z,r,l,J⟩:=I.tuple A;obtain⟨j,E,C,O,N,M⟩:=PQ B;obtain⟨w,F,f⟩:=r.get C;have hl:=r.length;have L:=DH;have fin:EP X d g Q w s:=⟨z,H,I,f,q⟩
 exact qe (x:=w) l.typeIs QAD.lookup
  (QBc (j:=j) (Q:=λr m=>r=w/\EP X d g Q r m) l (by omega) (by omega) (by rw[QN,<- hl];exact E) (by simpa using F) ⟨rfl,fin⟩) W
theorem Ji:B7 X am:=by
 intro w k d s W H x y v u Q I g f h l;obtain⟨z,i,c,rfl,rfl,A,m,q⟩:=h;obtain⟨t,rfl⟩:=g;obtain⟨K,rfl⟩:=f;obtain⟨j,e,p,C,o,n⟩:=PQ m;have hl:z.cps.toList.length=z.length:=by simp[Str.length]
 rw[hl]at e o n;have B:=DH;exact tail_any (QCM s z t) slot_str_getitem.lookup (getItem_str (c:=c) (by have Z:decide (i < -(2 ^ 63:Int))=false:=dF (by omega);have r:decide (i ≥ 2 ^ 63)=false:=dF (by omega);rw[Z,r,QBU]) (by rw[e];simpa using p) ⟨.str ⟨#[c]⟩,H,I.tok _,⟨_,rfl⟩,q⟩) l
def gw(K:QA):R2:=λx y H Q=>im K x y H Q∨om K x y H Q∨am x y H Q
theorem Yi:B7 X (gw X.K):=Ma.or (ai.or Ji)
theorem EU(its:LW)(n j:Nat)(u:Value):Q5 (·.setIfInBounds j u) { cls:=.type "list",data:=.seq its.toArray n }={ cls:=.type "list",data:=.seq (its.set j u).toArray n }:=by simp[Q5]
theorem Inv.lst{d:PB}{σ:St}{H:Hp}{s:Shared}{p:Addr}{xs:LV}(I:Inv X d σ H s)(h:H p=some (.lst xs)) :
  ∃(its:LW) (n:Nat),oA xs its/\s.heap.get? p=some { cls:=.type "list",data:=.seq its.toArray n }/\xs.length<=sizeLine:=by
 obtain⟨z,its,n,r,e⟩:=I.hok p _ h;exact⟨its,n,r,e,z⟩
theorem Inv.lstUpd{σ:St}{H:Hp}{p:Addr}{xs y:LV}{its its':LW}{n z:Nat}{f:Obj->Obj}(I:Inv X d σ H s)(h:H p=some (.lst xs))
  (g:s.heap.get? p=some { cls:=.type "list",data:=.seq its.toArray n }) (w:f { cls:=.type "list",data:=.seq its.toArray n }={ cls:=.type "list",data:=.seq its'.toArray z }) (r:oA y its') (k:y.length<=sizeLine) (t:Nat) :
  Inv X d σ (CA H p (.lst y)) { s with heap:=s.heap.update p f,toks:=t }:=by
 have e:(s.heap.update p f).get? p=some { cls:=.type "list",data:=.seq its'.toArray z }:=by rw[ww f g (by rw[w]<;>rfl),w]
 refine I.write (x:=p) (e:=p) (by rw[h];trivial) (.inl rfl) (λb u hb q=>(QAo _ _ (Q9 hb)).trans q) ⟨_,e⟩ ?_;exact⟨k,its',z,r,e⟩
def um:V->V->V->Hp->(Hp->Prop)->Prop:=λo i v H Q=>∃p h k j,o=.ref p/\i=.int k/\H p=some (.lst h)/\kU h.length k=some j/\Q (CA H p (.lst (h.set j v)))
theorem M1:zc X um:=by
 intro d s Z H o i v G J u Q I B C A h;obtain⟨p,K,k,j,rfl,rfl,e,F,q⟩:=h;cases B;obtain⟨t,rfl⟩:=C;obtain⟨y,n,r,w,E⟩:=I.lst e;obtain⟨z,M,g,f⟩:=tQ F;have hl:=r.length;have L:=DH;have m:Inv X d Z (CA H p (.lst (K.set j v))) { s with heap:=s.heap.update p (Q5 (·.setIfInBounds j u)) } :=
  I.lstUpd e w (EU y n j u) (r.set A j) (by rw[qY];exact E) s.toks
 by_cases l:0<=k;have hk:k.toNat=j:=by rw[QAc l f]at z;exact Qo z
 exact PySem.W.ki_setAt w l (by omega) (by rw[QN,<- hl];exact f) (by rw[hk];exact⟨_,m,q⟩);have hk:(k+(y.toArray.size:Int)).toNat=j:=by rw[QB1 (by omega) g]at z;rw[QN,<- hl];exact Qo z
 exact PySem.W.ki_setBack w (by omega) (by rw[QN,<- hl];exact g) (by omega) (by rw[hk];exact⟨_,m,q⟩)
theorem eP(y z:Option Int)(n:Nat):(sliceBounds y z none n).1=((HT.sIx n 0 y:Nat):Int)/\(sliceBounds y z none n).2.1=((HT.sIx n n z:Nat):Int)/\(sliceBounds y z none n).2.2=1:=by
 refine⟨?_,?_,rfl⟩;cases y with|none=>simp[sliceBounds,HT.sIx]|some i=>simp only[sliceBounds,HT.sIx,QB7,show(1:Int) > 0 by decide,if_true];by_cases h:i<0;simp only[h,if_true]<;>omega;simp only[h,if_false]<;>omega
 cases z with|none=>simp[sliceBounds,HT.sIx]|some i=>simp only[sliceBounds,HT.sIx,QB7,show(1:Int) > 0 by decide,if_true];by_cases h:i<0;simp only[h,if_true]<;>omega;simp only[h,if_false]<;>omega
theorem VN(its:LW)(h y:Option Int):slicePick its.toArray h y none=((its.drop (HT.sIx its.length 0 h)).take (HT.sIx its.length its.length y - HT.sIx its.length 0 h)).toArray:=by obtain⟨k,w,z⟩:=eP h y its.toArray.size;unfold slicePick;rw[k,w,z];simp only[sliceRange_one,pick_run,QN]<;>rfl
def xm(K:QA):V->Option Int->Option Int->Hp->VK->Prop:=λx y z H Q=>∃a h,x=.ref a/\AC K H a h/\∀p,H p=none->Q (.ref p) (CA H p (.lst (jT h y z)))
theorem B8:Te X (xm X.K):=by intro d s p H x v W Z w k A Q I f n i g h;obtain⟨a,y,rfl,m,q⟩:=h;cases f;obtain⟨j,r,e,l⟩:=I.list m;have z:=r.length;refine⟨"list",_,QBn.lookup,e.isList.typeIs,?_⟩;refine wpAny_getItem_list_slice e.isList n i g .none (by simp) ?_ (by rw[QN]<;>omega);rw[VN,<- z];refine⟨.ref s.heap.objs.size,_,I.laid (t':=s.toks) (o:=.lst (jT y w k)) (λb ob q=>QH _ q) (QZ _) ?_,rfl,q _ (I.hok.fresh (QZ _))⟩;exact⟨QX (CK y w k) l,_,0,(r.drop (HT.sIx y.length 0 w)).take (HT.sIx y.length y.length k - HT.sIx y.length 0 w),QU _ rfl⟩
def gG:V->Bool
 | .non=>true|.bl _=>true|.int _=>true|.str _=>true|_=>false
def Kb:V->V->Bool
 | .non,.non=>true|.bl a,.bl b=>a==b|.bl a,.int b=>(if a then 1 else 0)==b|.int a,.bl b=>a==(if b then 1 else 0)|.int a,.int b=>a==b|.str a,.str b=>a==b|_,_=>false
theorem Mi{A:Around}{y:V}(w:iA y u)(h:iA x v)(k:gG y=true)(fx:gG x=true):qg A s u v (Kb y x):=by
 cases y with
 |non =>
  cases w;cases x with|non=>cases h;exact qg.same _|bl b=>cases h;exact qg.none_bool b|int b=>obtain⟨t,rfl⟩:=h;exact qg.none_int b t|str b=>obtain⟨t,rfl⟩:=h;exact qg.none_str b t|_=>exact absurd (show false=true from fx) QF
 |bl a =>
  cases w;cases x with|non=>cases h;exact qg.bool_none a|bl b=>cases h;exact qg.bool_bool a b|int b=>obtain⟨t,rfl⟩:=h;exact qg.bool_int a b t|str b=>obtain⟨t,rfl⟩:=h;exact qg.bool_str a b t|_=>exact absurd (show false=true from fx) QF
 |int a =>
  obtain⟨z,rfl⟩:=w;cases x with|non=>cases h;exact qg.int_none a z|bl b=>cases h;exact qg.int_bool a z b|int b=>obtain⟨t,rfl⟩:=h;exact qg.int_int a z b t|str b=>obtain⟨t,rfl⟩:=h;exact QBW a z b t|_=>exact absurd (show false=true from fx) QF
 |str a =>
  obtain⟨z,rfl⟩:=w;cases x with|non=>cases h;exact qg.str_none a z|bl b=>cases h;exact qg.str_bool a z b|int b=>obtain⟨t,rfl⟩:=h;exact QBX a z b t|str b=>obtain⟨t,rfl⟩:=h;exact qg.str_str a z b t|_=>exact absurd (show false=true from fx) QF
 |_=>exact absurd (show false=true from k) QF
def JV(x:V)(u:Value):Bool:=match u with
 | .none=>Kb .non x|.bool b=>Kb (.bl b) x|.int i _=>Kb (.int i) x|.str z _=>Kb (.str z) x|_=>false
theorem J6{y:V}(r:iA y u)(f:gG y=true):JV x u=Kb y x:=by
 cases y with|non=>cases r;rfl|bl b=>cases r;rfl|int i=>obtain⟨t,rfl⟩:=r;rfl|str z=>obtain⟨t,rfl⟩:=r;rfl|_=>exact absurd (show false=true from f) QF
theorem uJ{x:V}:∀{xs:LV}{us:LW},oA xs us->xs.all gG=true->us.any (JV x)=xs.any λy=>Kb y x
 |_,_,.nil,_=>rfl|y::xs,u::us,.cons r t,f=>by rw[qZ,Qa]at f;rw[w4,w4,J6 r f.1,uJ t f.2]
theorem vG{A:Around}{s:Shared}{x:V}{v:Value}(z:iA x v)(fx:gG x=true):∀{xs:LV}{us:LW},oA xs us->xs.all gG=true->∀u∈us,qg A s u v (JV x u)
 |_,_,.nil,_=>λu h=>by cases h|y::xs,u::us,.cons r t,f=>λw h=>by rw[qZ,Qa]at f;rcases QL.mp h with rfl|h;rw[J6 r f.1];exact Mi r z f.1 fx;exact vG z fx t f.2 w h
def inV(x:V)(xs:LV):Bool:=xs.any λy=>Kb y x
def Jr(K:QA)(neg:Bool):R2:=λx y H Q=>∃p h,y=.ref p/\(AC K H p h∨ED K H p h)/\gG x=true/\h.all gG=true/\Q (.bl (if neg then !inV x h else inV x h)) H
theorem iY:NE X (compareOp .In) (Jr X.K false):=by intro d s l H x y v u Q I g i h;obtain⟨p,m,rfl,k,fx,fs,q⟩:=h;cases i;rcases k with k|k;obtain⟨z,r,e,j⟩:=I.list k;refine SeqAt.in_listAt (JV x) e.isList (λw f=>vG g fx r fs w (by simpa using f)) ⟨.bl _,H,I,rfl,?_⟩;rw[show z.toArray.any (JV x)=z.any (JV x) by simp,uJ r fs];exact q;obtain⟨z,r,e,j⟩:=I.tuple k;refine SeqAt.in_tupleAt (JV x) e (λw f=>vG g fx r fs w (by simpa using f)) ⟨.bl _,H,I,rfl,?_⟩;rw[show z.toArray.any (JV x)=z.any (JV x) by simp,uJ r fs];exact q
theorem LP:NE X (compareOp .NotIn) (Jr X.K true):=by intro d s l H x y v u Q I g i h;obtain⟨p,m,rfl,k,fx,fs,q⟩:=h;cases i;rcases k with k|k;obtain⟨z,r,e,j⟩:=I.list k;refine SeqAt.notIn_listAt (JV x) e.isList (λw f=>vG g fx r fs w (by simpa using f)) ⟨.bl _,H,I,rfl,?_⟩;rw[show z.toArray.any (JV x)=z.any (JV x) by simp,uJ r fs];exact q;obtain⟨z,r,e,j⟩:=I.tuple k;refine SeqAt.notIn_tupleAt (JV x) e (λw f=>vG g fx r fs w (by simpa using f)) ⟨.bl _,H,I,rfl,?_⟩;rw[show z.toArray.any (JV x)=z.any (JV x) by simp,uJ r fs];exact q
theorem yJ:rC X (.builtin "len") (λxs H Q=>∃p z,xs=[.ref p]/\(AC X.K H p z∨ED X.K H p z)/\Q (.int z.length) H):=by intro d s j H xs l Q I r h;obtain⟨p,z,rfl,w,q⟩:=h;obtain⟨u,rfl,g⟩:=kI r;cases g;have m:=DH;rcases w with w|w;obtain⟨f,k,e,i⟩:=I.list w;have y:=k.length;exact Calls.call_len_list e.isList (by simp only[QN]<;>omega) ⟨.int z.length,H,I.tok _,⟨s.toks+1,by rw[QN,y]⟩,q⟩;obtain⟨f,k,e,i⟩:=I.tuple w;have y:=k.length;exact len_tuple e (by simp only[QN]<;>omega) ⟨.int z.length,H,I.tok _,⟨s.toks+1,by rw[QN,y]⟩,q⟩
theorem NQ:rC X (.builtin "len") (λxs H Q=>∃z,xs=[.str z]/\z.length<=sizeLine/\Q (.int z.length) H):=by intro d s y H xs w Q I r h;obtain⟨z,rfl,k,q⟩:=h;obtain⟨u,rfl,t,rfl⟩:=kI r;have e:=DH;exact len_str (by omega) ⟨.int z.length,H,I.tok _,⟨_,rfl⟩,q⟩
theorem rC.or{f:Value}{r k:LV->Hp->VK->Prop}(h:rC X f r)(h':rC X f k):rC X f (λxs H Q=>r xs H Q∨k xs H Q):=by intro d s y H xs z Q I w q;rcases q with q|q;exact h d s y H xs z Q I w q;exact h' d s y H xs z Q I w q
theorem IN:rC X (.type "tuple") (λxs H Q=>∃p z,xs=[.ref p]/\((AC X.K H p z/\∀l,H l=none->Q (.ref l) (CA H l (.tup z)))∨(ED X.K H p z/\Q (.ref p) H))):=by
 intro d s j H xs C Q I r h;obtain⟨p,z,rfl,h⟩:=h;obtain⟨u,rfl,W⟩:=kI r;cases W;rcases h with⟨i,q⟩| ⟨i,q⟩
 obtain⟨y,f,g,m⟩:=I.list i;have n:=f.length;refine call_tuple_list g.isList (λk A=>?_) (by simp only[QN]<;>omega);have Z:Inv X d j H { s with heap:=k }:=I.kept (t':=s.toks) A;have B:Inv X d j (CA H k.objs.size (.tup z)) { s with heap:=k.push { cls:=.type "tuple",data:=.seq y.toArray } } :=
  Z.laid (t':=s.toks) (λb o e=>QH _ e) (QZ _) (show FA X.prog X.w _ _ _ (.tup z) from⟨m,y,f,IsTup.new _ _⟩)
 exact⟨.ref k.objs.size,_,B,rfl,q _ (Z.hok.fresh (QZ _))⟩;obtain⟨y,f,g,m⟩:=I.tuple i;exact call_tuple_same g ⟨.ref p,H,I,rfl,q⟩
def FZ(K:QA)(T:String)(x:V)(H:Hp):Prop:=match x with
 | .str _=>T="str"|.int _=>T="int"|.ref p=>(T="list"/\∃y,AC K H p y)∨(T="tuple"/\∃o,K.lookup p=some o/\o.cls=.type "tuple"/\o.dict=none) ∨
   (T="dict"/\((∃h,H p=some (.dK h))∨∃z h,H p=some (.dT z h)))∨(T="set"/\∃S n,H p=some (.set S n))
 |_=>False
theorem L0{σ:St}{H:Hp}{T:String}(I:Inv X d σ H s)(r:iA x v)(ty:FZ X.K T x H) :
  s.TypeIs v T/\∀a,v=.ref a->∃ob,s.heap.get? a=some ob/\ob.dict=none:=by
 cases x with
 |str z=>obtain⟨t,rfl⟩:=r;cases(show T="str" from ty);exact⟨QCM s z t,λ_ e=>nomatch e⟩
 |int i=>obtain⟨t,rfl⟩:=r;cases(show T="int" from ty);exact⟨typeIs_int s i t,λ_ e=>nomatch e⟩
 |ref p =>
  cases r;rcases ty with⟨rfl,l,j⟩| ⟨rfl,o,hk,hc,w⟩| ⟨rfl,hk⟩| ⟨rfl,S,n,hk⟩
  obtain⟨g,_,f,_⟩:=I.list j;refine⟨f.isList.typeIs,λa e=>?_⟩;cases e;obtain⟨o,n,e,c,w,_⟩:=f;exact⟨o,e,w⟩;refine⟨⟨o,I.kIn p o hk,hc⟩,λa e=>?_⟩;cases e;exact⟨o,I.kIn _ o hk,w⟩;have z:∃o,s.heap.get? p=some o/\o.ExactDict:=by
   rcases hk with⟨y,hk⟩| ⟨m,y,hk⟩
   obtain⟨_,_,_,_,o,_,_,e,h,_⟩:=I.hok p _ hk;exact⟨o,e,h⟩;obtain⟨_,_,_,_,o,_,e,h,_⟩:=I.hok p _ hk;exact⟨o,e,h⟩
  obtain⟨o,e,h⟩:=z;refine⟨⟨o,e,h.1⟩,λa k=>?_⟩;cases k;exact⟨o,e,h.2.1⟩;obtain⟨o,_,_,_,e,h,_⟩:=I.hok p _ hk;refine⟨⟨o,e,h.1⟩,λa k=>?_⟩;cases k;exact⟨o,e,h.2.1⟩
 |_=>exact Qc ty
def Sq(K:QA)(T:String)(r:V->LV->Hp->VK->Prop)(m:TE):TE:=λy H Q=>m y H λx h=>FZ K T x h/\r x [] h Q
def uw(K:QA)(T:String)(r:V->LV->Hp->VK->Prop)(m:TE)(t:TA):TE:=λh H Q=>m h H λx y=>FZ K T x y/\t h y λz w=>r x z w Q
end
variable{o e:Expr}{es:List Expr}{m:TE}{t:TA}{name:Str}{apos cpos:Pos}{T g:String}{r:V->LV->Hp->VK->Prop}
theorem vh(p:PlainAttrs T)(w:Slot T name g)(k:typeOf (.builtin g)=pure (.type "method_descriptor"))(Z:v8 X g r)(q:PE X o m)
  (u:attributeBase o name X.env (eval o X.env)=eval o X.env:=by rfl) (z:(apos.endLine==cpos.line)=true:=by rfl):PE X (.Call (.Attribute o name apos) [] [] cpos) (Sq X.K T r m):=by
 intro y s f H Q I h;refine QAd u z (TB (q y s f H _ I h) λv l ⟨x,B,j,i,ty,n⟩=>?_);obtain⟨A,W⟩:=L0 j i ty;exact⟨T,g,p,w,k,A,W,WU rfl (QBJ (Z y l f B x [] v [] Q j i .nil n))⟩
theorem Xm(F:PlainAttrs T)(k:Slot T name g)(j:typeOf (.builtin g)=pure (.type "method_descriptor"))(L:v8 X g r)(J:PE X o m)(M:PA X (e::es) t)
  (w:attributeBase o name X.env (eval o X.env)=eval o X.env:=by rfl)
  (f:((backTo cpos (starEach (e::es) X.env)).all (λx=>!x.1)&&(backToKw cpos (keywordEach [] X.env)).all (λx=>x.1.isSome)
   && decide ((e::es).length+([]:List Keyword).length+(if([]:List Keyword).isEmpty then 0 else 1)<30))=true:=by rfl)
  (u:(apos.endLine==cpos.line)=true:=by rfl) (G:starEach (e::es) X.env=(false,eval e X.env)::starEach es X.env:=by rfl) (z:(backTo cpos (starEach es X.env)).any (·.1)=false:=by rfl) :
  PE X (.Call (.Attribute o name apos) (e::es) [] cpos) (uw X.K T r m t):=by
 intro y s i H Q I h;refine wpAny_Call_method_late w f u rfl (TB (J y s i H _ I h) λv A ⟨x,S,p,l,ty,E⟩=>?_);obtain⟨O,N⟩:=L0 p l ty;refine⟨T,g,F,k,j,O,N,?_⟩;have n:=M cpos y A i S _ p E;rw[G]at n ⊢;refine WU (by show(false||(backTo cpos (starEach es X.env)).any (·.1))=false;rw[z]<;>rfl) (Calls.evalArgs_plain ?_);exact TB n λZ W ⟨q,R,P,B,C⟩=>L y W i R x q v Z Q P l B C
end
def fu(X:Cx)(id:String)(r:V->LV->Hp->VK->Prop):Prop :=
 ∀(h:PB) (s:Shared) (y:St) (H:Hp) (x:V) (z:LV) (v:Value) (u:LW) (Q:VK),Inv X h y H s->iA x v->oA z u->r x z H Q ->
  wpAny (model X.prog X.w) X.A (call (.builtin id) (v::u)) (EP X h y Q) X.xe s
theorem oA.one:∀{x:V}{us:LW},oA [x] us->∃u,us=[u]/\iA x u
 |_,_,.cons r .nil=>⟨_,rfl,r⟩
theorem oA.eraseIdx:∀{xs:LV}{us:LW}(i:Nat),oA xs us->oA (xs.eraseIdx i) (us.eraseIdx i)
 |_,_,_,.nil=>.nil|_,_,0,.cons _ t=>t|_,_,i+1,.cons r t=>.cons r (oA.eraseIdx i t)
theorem CO{α:Type}:∀(l:List α) (i:Nat),(l.eraseIdx i).length<=l.length
 |[],_=>QZ _|_::_,0=>wc _|_::r,i+1=>Wl (CO r i)
section
variable{X:Cx}{y:PB}{σ:St}{H:Hp}{s:Shared}{l b:Addr}{xs v w:LV}
theorem Inv.lset{its its':LW}{n:Nat}{f:Array Value->Array Value}{t':Nat}(I:Inv X y σ H s)(a:H l=some (.lst xs))
  (e:s.heap.get? l=some { cls:=.type "list",data:=.seq its.toArray n }) (k:f its.toArray=its'.toArray) (hv:oA v its') (h:v.length<=sizeLine) :
  Inv X y σ (CA H l (.lst v)) { s with heap:=s.heap.update l (Q5 f),toks:=t' }:=by
 have q:=PySem.IsL.update e f;rw[k]at q;refine I.write (x:=l) (e:=l) (by rw[a];exact trivial) (.inl rfl) (λg u hb z=>(QAo s.heap (Q5 f) (Q9 hb)).trans z) ⟨_,q⟩ ?_;exact⟨h,its',_,hv,q⟩
theorem Inv.lnew{its:LW}{t':Nat}(I:Inv X y σ H s)(hv:oA v its)(h:v.length<=sizeLine) :
  Inv X y σ (CA H s.heap.objs.size (.lst v)) { s with heap:=s.heap.push { cls:=.type "list",data:=.seq its.toArray },toks:=t' } :=
 I.laid (λ_ _ q=>QH _ q) (QZ _) ⟨h,its,0,hv,QU _ rfl⟩
theorem Inv.fresh(I:Inv X y σ H s):H s.heap.objs.size=none:=I.hok.fresh (QZ _)
theorem Inv.lstM(I:Inv X y σ H s)(h:H l=some (.lst xs)):xs.length<=sizeLine/\∃(its:LW) (n:Nat),oA xs its/\xs.length=its.length/\s.heap.get? l=some { cls:=.type "list",data:=.seq its.toArray n }:=by obtain⟨z,its,n,r,e⟩:=I.hok l _ h;exact⟨z,its,n,r,r.length,e⟩
theorem G4{n:Nat}(h:n<=sizeLine):WH n=false:=by unfold WH;exact dF (by omega)
end
section
variable{X:Cx}
def YW:V->LV->Hp->VK->Prop:=λx z H Q=>∃l h y,x=.ref l/\z=[y]/\H l=some (.lst h)/\h.length<sizeLine/\Q .non (CA H l (.lst (h++[y])))
theorem LY:fu X "list.append" YW:=by intro k s i H x m v o Q I b f h;obtain⟨l,j,y,rfl,rfl,a,p,q⟩:=h;cases b;obtain⟨u,rfl,g⟩:=f.one;obtain⟨z,w,n,r,hl,e⟩:=I.lstM a;refine QBo F.slot_list_append ⟨_,e,rfl⟩ F.entry_list_append (F.args_list_append_2 _ _) (PySem.list_append l w.toArray n u (by rw[QN];omega)) ⟨e,?_⟩;refine⟨.non,_,I.lset (its':=w++[u]) a e (by simp) (r.append (.cons g .nil)) ?_,rfl,q⟩;rw[QI,qE];omega
def A8:V->LV->Hp->VK->Prop:=λx z H Q=>∃l b y h,x=.ref l/\z=[.ref b]/\H l=some (.lst y)/\H b=some (.lst h)/\y.length+h.length<=sizeLine/\Q .non (CA H l (.lst (y++h)))
theorem HY:fu X "list.extend" A8:=by
 intro f s K H x E v G Q I i j h;obtain⟨l,b,C,A,rfl,rfl,g,Z,J,q⟩:=h;cases i;obtain⟨u,rfl,m⟩:=j.one;cases m;obtain⟨z,w,n,r,hl,e⟩:=I.lstM g;obtain⟨B,y,p,o,Y,W⟩:=I.lstM Z;have a:w.toArray.size+y.toArray.size<=sizeLine:=by rw[QN,QN];omega
 have k:¬ (!w.toArray.isEmpty&&WH (w.toArray.size+y.toArray.size))=true:=by rw[G4 a,QAH];exact QF
 refine QBo F.slot_list_extend ⟨_,e,rfl⟩ F.entry_list_extend (F.args_list_extend_2 _ _)
  (AutoSeq1.list_extend_list_list_0 l w.toArray n b y.toArray p k (by rw[QN];omega) (by omega)) ⟨e,W,?_⟩
 refine⟨.non,_,I.lset (its':=w++y) g e (by simp) (r.append o) ?_,rfl,q⟩;rw[QI];omega
def Fg:V->LV->Hp->VK->Prop:=λx z H Q=>∃l h i k y,x=.ref l/\z=[.int i]/\H l=some (.lst h)/\-(2 ^ 63)<=i/\i<2 ^ 63/\seqIndex? i h.length=some k/\h[k]?=some y/\Q y (CA H l (.lst (h.eraseIdx k)))
theorem x5:fu X "list.pop" Fg:=by
 intro f s A H x B v C Q I m o h;obtain⟨l,j,i,k,y,rfl,rfl,g,K,W,hk,Y,q⟩:=h;cases m;obtain⟨u,rfl,p⟩:=o.one;obtain⟨t,rfl⟩:=p;obtain⟨z,a,n,r,hl,e⟩:=I.lstM g;obtain⟨w,Z,b⟩:=r.get Y;refine QBo F.slot_list_pop ⟨_,e,rfl⟩ F.entry_list_pop (F.args_list_pop_2 _ _)
  (MeetsSeq.list_pop_at l a.toArray n i t k w (fitsIndex_both K W) (by rw[QN,<- hl];exact hk) (by rw[<- We];exact Z) (by rw[QN];omega)) ⟨e,?_⟩
 refine⟨y,_,I.lset (its':=a.eraseIdx k) g e ?_ (r.eraseIdx k) ?_,b,q⟩;show a.toArray.eraseIdxIfInBounds k=(a.eraseIdx k).toArray;rw[List.eraseIdxIfInBounds_toArray];have:=CO j k;omega
end
end L2
namespace Att
open PySem PySem.W PySem.Calls PyProof.Rows
theorem OK{P:Params}{h:Heap}:∀(ns:LJ) (vs:LW),WellAll P h vs (ns.map WData.int)->IntsAre vs ns:=by
 intro ns;induction ns with
 |nil=>intro vs w;rw[wv]at w;cases w;exact .nil|cons n ns x =>
  intro vs w;rw[QV]at w;cases w with|cons a b=>cases a;exact .cons _ _ (x _ b)
theorem script_of{l:OpenLaw}{n:Nat}(j:l.most=some n){P:Params}{h:Heap}{args:List WData}{x:LW}
  (y:l.row.toRowW.claim.pre args=true) (k:WellAll P h x args) :
  ∃a vs ns,x=[Value.ref a]/\args=[WData.list (ns.map WData.int)]/\h.get? a=some { cls:=.type "list",data:=.seq vs.toArray }/\IntsAre vs ns/\ns.length<=n:=by
 have b:WShape.hasAll [] args [.list .int]=true:=(pre_splitW y).1;have hc:l.pre.holds [] { args:=args }=true:=(pre_splitW y).2;obtain⟨d,r,rfl,p,o⟩:=hasAllW_cons b;obtain rfl:=hasAllW_nil o;obtain⟨s,rfl,m⟩:=hasW_list p;obtain⟨ns,rfl⟩:=items_int m;have z:ns.length<=n:=by
  unfold OpenLaw.pre at hc;have w:(WTm.not (.lt (.lit (.int (n:Int))) (.len (.arg 0)))).holds [] { args:=[.list (ns.map .int)] }=true:=by have w:=(holds_andW hc).1;rw[j]at w;exact w
  have v:=condW_of w (w_not (w_lt w_lit (w_len_list (w_arg rfl))));rw[QG]at v;refine Nat.le_of_not_lt λq=>?_;have g:(n:Int)<((ns.length:Nat):Int):=by omega
  first
   | (rw[dT g]at v;exact absurd v (by decide))
   | (simp at v;omega)
 cases k with
 |cons f e =>
  cases e;cases f with|list i u=>exact⟨_,_,ns,rfl,rfl,i,OK ns _ u,z⟩
theorem post_true(l:OpenLaw)(args:List WData):l.row.toRowW.claim.post args (.bool true) args=true :=
 postW_of (r:=l.row.toRowW) (X:=(true==true))
  (show WShape.has [] (.bool true) .bool=true by first|rfl|decide|simp[WShape.has,WShape.arms,WShape.armsAll])
  (show(WTm.eq .res (.lit (.bool true))).value [] { args:=args,res:=some (.bool true),after:=args }=some (.bool (true==true)) from w_eq_bool (w_res rfl) w_lit) rfl
end Att
namespace L2
open PySem PySem.Spec PyProof.Rows
theorem uO:∀{vs:LW}{ns:LJ},IntsAre vs ns->oA (ns.map V.int) vs
 |_,_,.nil=>.nil|_,_,.cons n t h=>.cons ⟨t,rfl⟩ (uO h)
def Jp(H:Hp):Prop:=∀b,H b=none∨(∃o h,H b=some (.frz o (.lst h)))∨∃q,H b=some (.tbl q)
theorem Y5{P:Program}{w:World}{K:QA}{mg mb:Str->Option Value}{CX:O7}{k:Nat}{fa a:Addr}{fd:FuncData}{x:Str}{sp:Sp}{y:Shared}{vs:LW}{ns:LJ}{T c:Addr}{X:Str}(hT:∀f:Heap,K.In f->∀P q,vP mg f P q->P=T/\q=X)(j:y.heap.TableAt c T #[])(hKT:K.lookup T=none)
  (KX:K.In y.heap) (Q:y.heap.Ns mainGlobals mg) (hb:y.heap.Ns builtinsNs mb) (hbb:∀x:Str,x≠"__name__"->mb x=bootBuiltins x) (R:y.heap.NoLimit) (hg:y.gens=#[])
  (J:y.heap.get? a=some { cls:=.type "list",data:=.seq vs.toArray }) (hi:IntsAre vs ns) (hl:ns.length<=sizeLine) (hr:Room k callerA)
  (F:∀f:Heap,K.In f->f.Ns mainGlobals mg->FnOk P w K mg f CX k fa fd [x] sp) (B:∀(s:Shared) (u:Value),BindsTo s fd ⟨[u],[]⟩ [(x,u)])
  (hsp:∀H:Hp,Jp H->AC K H a (ns.map V.int)->sp [.ref a] H (λv _=>v=.bl true) λ_ _ _=>False)
  (hCX:∀H e s',CX [] H y (λ_ _ _=>False) e s'->False) :
  codeAny (model P w) callerA (.call (.ref fa) ⟨[.ref a],[]⟩) (λr s'=>r=.ok (.ret (.bool true))/\OldK y.heap s'.heap/\s'.os=y.os/\AllBare s'.gens) y:=by
 have rv:=uO hi;have O:=hi.length;have W:∀H:Hp,Jp H->AC K H a (ns.map V.int)->lL P w H y.heap->(∀b,H b≠none->b=a∨b=T)->(H a≠none->K.lookup a=none)->H T=some (.tbl X) ->
   codeAny (model P w) callerA (.call (.ref fa) ⟨[.ref a],[]⟩) (λr s'=>r=.ok (.ret (.bool true))/\OldK y.heap s'.heap/\s'.os=y.os/\AllBare s'.gens) y:=by
  intro H hO hS A hA hK hP;have l:∀{b:Addr}{o:Obj},y.heap.get? b=some o->H b=none->(ZQ y.heap H).get? b=some o:=λe n=>j6 e n;have noA:∀{b:Addr}{o:Obj}{L:Array DictEntry}{M:Nat},y.heap.get? b=some o->o.data=.dict L M->H b=none:=λ{b o L M} e d=>by
   cases q:H b with|none=>rfl|some u=>rcases hA b (by rw[q];simp) with e'|e';subst e';rw[J]at e;cases e;have d':Data.seq vs.toArray _=Data.dict L M:=d;cases d';subst e';rw[j.2]at e;cases e;have d':Data.fields #[]=Data.dict L M:=d;cases d'
  have Y:∀{b:Addr}{m:Str->Option Value},y.heap.Ns b m->(ZQ y.heap H).Ns b m:=λ{b m} ⟨o,L,M,e,d,r⟩=>⟨o,L,M,l e (noA e d),d,r⟩
  have G:K.In (ZQ y.heap H):=λb o e=>l (KX b o e) (by
   cases q:H b with|none=>rfl|some u=>rcases hA b (by rw[q];simp) with e'|e';subst e';rw[hK (by rw[q];simp)]at e;cases e;subst e';rw[hKT]at e;cases e)
  have hM:Mod K mg (ZQ y.heap H):=⟨G,Y Q,⟨mb,Y hb,hbb⟩,let⟨mc,h1,h2⟩:=R;⟨mc,Y h1,h2⟩⟩
  have e0:Env0 P w K mg (ZQ y.heap H) callerA [] y H:=⟨rfl,hM,λb o e=>ya e,wx (xZ _ _),trivial,λb hb=>absurd (show b∈([]:List Addr) from hb) (by simp),λP q t=>(by obtain⟨rfl,rfl⟩:=hT _ G P q t;exact hP),A,.of_eq hg⟩
  refine QBz ((F _ G (Y Q)).run callerA [] y H ⟨[.ref a],[]⟩ [.ref a] [.ref a] _ _ hr e0 (B y (.ref a)) (.cons rfl .nil) (hsp H hO hS)) λr s' h=>?_;cases r with
  |error e=>exact(hCX H e s' h).elim|ok fl =>
   cases fl with
   |next=>exact Qc h|brk=>exact Qc h|cont=>exact Qc h|ret u =>
    obtain⟨v,H',os,bare,un,Z,r',q⟩:=h;have q':v=.bl true:=q;subst q';obtain rfl:u=Value.bool true:=r';have nx:∀b,b∉nX []:=λb z=>absurd (show b∈([]:List Addr) from z) (by simp);refine⟨rfl,⟨λb o e=>?_,λb o e=>un.there b o e (by simp)⟩,os,bare⟩;rcases hO b with z|⟨ob,xs,z⟩| ⟨tq',z⟩
    exact .inl (un.keep b o e z (nx b) (by simp));obtain⟨S,_⟩:=A b _ z;obtain⟨e2,_⟩:=Z b _ (un.frzs b ob _ z);rw[e]at S;cases S;exact .inl e2;have hb:b=T:=by rcases hA b (by rw[z];simp) with rfl|h;obtain⟨ps,S,_⟩:=A b _ z;rw[J]at S;cases S;exact h
    subst hb;obtain⟨ps,e2,_⟩:=Z b _ (un.tbls b _ z);have e0:=e.symm.trans j.2;cases e0;exact .inr (.inl ⟨j.isCodeTable,rfl,#[],ps,rfl,by simpa using e2⟩)
 have aT:a≠T:=λz=>by have e:=j.2;rw[<- z,J]at e;cases e
 have N:∀H:Hp,FA P w H y.heap T (.tbl X):=λH=>⟨#[],j.2,trivial,λpos cv g=>by cases g⟩
 cases hk:K.lookup a with
 |some o =>
  have e:=KX a o hk;rw[J]at e;cases e;refine W (λb=>if b=T then some (.tbl X) else none) (λb=>?_) (.inr ⟨_,vs.toArray,_,hk,rfl,rfl,rfl,by rw[QN,O];exact hl,by simpa using rv⟩) (λb u z=>?_) (λb z=>?_) (λz=>absurd (if_neg aT) z) (if_pos rfl);by_cases hb:b=T
  ·exact .inr (.inr ⟨_,if_pos hb⟩)
  exact .inl (if_neg hb);by_cases hb:b=T
  ·have p:=(if_pos hb).symm.trans z
   cases p;subst hb;exact N _
  have p:=(if_neg hb).symm.trans z;cases p;by_cases hb:b=T
  ·exact .inr hb
  exact absurd (if_neg hb) z
 |none =>
  have C:∀b,b=T->(if b=T then some (.tbl X) else if b=a then some (.frz { cls:=.type "list",data:=.seq vs.toArray } (.lst (ns.map V.int))) else none:Option HO)=some (.tbl X):=λb h=>if_pos h;have I:∀b,b=a->(if b=T then some (.tbl X) else if b=a then some (.frz { cls:=.type "list",data:=.seq vs.toArray } (.lst (ns.map V.int))) else none:Option HO)=some (.frz { cls:=.type "list",data:=.seq vs.toArray } (.lst (ns.map V.int))):=λb h=>(if_neg (h▸aT)).trans (if_pos h);have E:∀b,b≠T->b≠a->(if b=T then some (.tbl X) else if b=a then some (.frz { cls:=.type "list",data:=.seq vs.toArray } (.lst (ns.map V.int))) else none:Option HO)=none:=λb h h2=>(if_neg h).trans (if_neg h2);refine W (λb=>if b=T then some (.tbl X) else if b=a then some (.frz { cls:=.type "list",data:=.seq vs.toArray } (.lst (ns.map V.int))) else none) (λb=>?_) (.inl (.inr ⟨{ cls:=.type "list",data:=.seq vs.toArray },I a rfl⟩)) (λb u z=>?_) (λb z=>?_) (λ_=>hk) (C T rfl);by_cases hb:b=T
  ·exact .inr (.inr ⟨_,C b hb⟩)
  by_cases i:b=a
  ·exact .inr (.inl ⟨_,_,I b i⟩)
  exact .inl (E b hb i);by_cases hb:b=T
  ·have p:=(C b hb).symm.trans z
   cases p;subst hb;exact N _
  by_cases i:b=a
  ·have p:=(I b i).symm.trans z
   cases p;subst i;exact⟨J,by rw[QG];exact hl,vs,_,rv,J⟩
  have p:=(E b hb i).symm.trans z;cases p;by_cases hb:b=T
  ·exact .inr hb
  by_cases i:b=a
  ·exact .inl i
  exact absurd (E b hb i) z
def uD(s:Stmt):Arguments:=match s with
 | .FunctionDef _ a _ _ _ _ _ _ _ _=>a|_=>{ posonlyargs:=[],args:=[],vararg:=none,kwonlyargs:=[],kw_defaults:=[],kwarg:=none,defaults:=[] }
def mC(s:Stmt):List Stmt:=match s with
 | .FunctionDef _ _ b _ _ _ _ _ _ _=>b|_=>[]
def NA(s:Stmt):Scope:=match s with
 | .FunctionDef _ _ _ _ _ _ sc _ _ _=>sc|_=>{ kind:=.function,names:=[],isGenerator:=false,isCoroutine:=false }
noncomputable abbrev RZ:O7:=λ_ _ _ _ _ _=>False
noncomputable abbrev E0:XK:=λ_ _ _=>False
theorem Um{X:Cx}:gN RZ X E0:=λ_ _ _ _ _ _ _ h=>h.elim
structure Fun(K:QA)(x qual:Str)(st:Stmt)(f:Addr)(fd:FuncData):Prop where
 ex:∃(oc:Value) (od:Option Addr) (kV doc pm:Value) (an:Option Addr) (cdv ct:Value) (osl:Array (Option Value)),
  fd=ql x qual (uD st) (mC st) (NA st) .none kV doc pm an cdv ct/\K.lookup f=some ⟨oc,od,.func fd,osl⟩/\Wb K cdv qual=true
 kp:wI K (.ref f)=true
section
variable{P:Program}{w:World}{K:QA}{mg:Str->Option Value}{base:Heap}
section
variable{x y:Str}{st:Stmt}{f:Addr}{u:FuncData}{z:LS}
theorem Fun.ok{N:LS}{k:Nat}{b:Sp}(F:Fun K x y st f u)(S:FnScope N z (NA st))(len:∀vs H Q E,b vs H Q E->vs.length=z.length)
  (a:∀(v:Value) (A:Around) (outer:List Env) (s:Shared) (H:Hp) (vs:LV) (Q:VK) (E:XK),Room k (A.deeper (envOfC y (NA st) s.heap.objs.size f v))->b vs H Q E ->
   ∃t,jW (YV RZ P w K mg base N y (NA st) f v A outer s H E).nox (mC st) t/\t { nx:=λ_ m=>Q .non m,rt:=Q } (mD N vs) H):FnOk P w K mg base RZ (k+1) f u z b:=by
 obtain⟨p,o,kV,l,n,X,v,r,i,rfl,lk,g⟩:=F.ex;refine Nd lk g S len λA outer s H vs Q E j e=>?_;obtain⟨t,h,q⟩:=a v A outer s H vs Q E j e;exact⟨t,h.nox,q⟩
theorem Fun.binds(F:Fun K x y st f u)
  (h:∀(kV v a:Value) (b:Option Addr) (k ct:Value) (us:LW),us.length=z.length->bindArgs (ql x y (uD st) (mC st) (NA st) .none kV v a b k ct) ⟨us,[]⟩=pure (z.zip us)):rJ K u z []:=by
 obtain⟨j,i,kV,v,a,b,k,ct,e,rfl,lk,g⟩:=F.ex;exact .all (h kV v a b k ct)
theorem Gi{i:Value}{g e:Option Addr}{a:Array (Option Value)}{kV v b h ct:Value}(l:K.lookup f=some ⟨i,g,.func (ql x y (uD st) (mC st) (NA st) .none kV v b e h ct),a⟩)
  (c:Wb K h y=true) (k:wI K (.ref f)=true):Fun K x y st f (ql x y (uD st) (mC st) (NA st) .none kV v b e h ct):=⟨⟨i,g,kV,v,b,e,h,ct,a,rfl,l,c⟩,k⟩
end
end
def Same(H h:Hp):Prop:=∀b o,H b=some o->h b=some o
theorem Same.refl(H:Hp):Same H H:=λ_ _ h=>h
theorem Same.trans{H y x:Hp}(a:Same H y)(b:Same y x):Same H x:=λc o h=>b c o (a c o h)
theorem Same.free{H x:Hp}(e:Same H x){l:Addr}(h:x l=Option.none):H l=Option.none:=by
 cases q:H l with|none=>rfl|some o=>rw[e l o q]at h;cases h
theorem Same.seq{K:QA}{H x:Hp}{a:Addr}{xs:LV}(e:Same H x)(h:AC K H a xs):AC K x a xs:=by rcases h with(h|⟨o,h⟩)|h;exact .inl (.inl (e _ _ h));exact .inl (.inr ⟨o,e _ _ h⟩);exact .inr h
def ON(env:Env):List (Str×NameKind)->List (Str×Addr)->List (Str×Addr)
 |[],cs=>cs|(n,k)::r,cs=>ON env r (if k==.free then(n,(env.cells.lookup n).getD 0)::cs else cs)
theorem UV{u:Scope}{env:Env}(h:∀y∈u.names,y.2=.free->∃c,env.cells.lookup y.1=some c):closureFor u env=pure (ON env u.names []):=by
 have key:∀(l:List (Str×NameKind)) (v:List (Str×Addr)),(∀y∈l,y.2=.free->∃c,env.cells.lookup y.1=some c) ->
   (forIn l v λ(x:Str×NameKind) (r:List (Str×Addr))=>(if(x.2==NameKind.free)=true then(do let c <- cellOf env x.1;pure (ForInStep.yield ((x.1,c)::r))) else pure (ForInStep.yield r):Sem (ForInStep (List (Str×Addr)))))=pure (ON env l v):=by
  intro l;induction l with
  |nil=>intro v _;rfl|cons y l a =>
   intro v hl;obtain⟨n,k⟩:=y;rw[Wu];by_cases hk:k=.free;subst hk;obtain⟨c,hc⟩:=hl (n,.free) QD rfl;have hc:env.cells.lookup n=some c:=hc;simp only[beq_self_eq_true,if_true,cellOf,hc,pure_bind,ON,QB8];exact a _ λz w=>hl z (QE _ w);have hb:(k==NameKind.free)=false:=by simpa using hk
   simp only[hb,Qn,if_false,pure_bind,ON];exact a _ λz w=>hl z (QE _ w)
 have e:=key u.names [] h;unfold closureFor;exact(congrArg (· >>= pure) e).trans (pure_bind _ _)
theorem NO{env:Env}{x:Str}{c:Addr}:∀(l:List (Str×NameKind)) (cs:List (Str×Addr)),(∀y∈l,y.2=.free->∃c,env.cells.lookup y.1=some c)->(∀c,cs.lookup x=some c->env.cells.lookup x=some c) ->
  (ON env l cs).lookup x=some c->env.cells.lookup x=some c
 |[],cs,_,hc,h=>hc c h|(n,k)::r,cs,hl,hc,h=>by
  refine NO r _ (λz a=>hl z (QE _ a)) (λd u=>?_) h;by_cases hk:k=.free;subst hk;obtain⟨e,v⟩:=hl (n,.free) QD rfl;have v:env.cells.lookup n=some e:=v;simp only[beq_self_eq_true,if_true,v,QB8,wj]at u;cases w:x==n with|true=>rw[w]at u;cases u;rw[qX w];exact v|false=>rw[w]at u;exact hc d u
  have hb:(k==NameKind.free)=false:=by simpa using hk
  simp only[hb,Qn,if_false]at u;exact hc d u
theorem RM{env:Env}{x:Str}:∀(l:List (Str×NameKind)) (cs:List (Str×Addr)),((∃c,cs.lookup x=some c)∨(x,NameKind.free)∈l)->∃c,(ON env l cs).lookup x=some c
 |[],cs,h=>by rcases h with h|h;exact h;cases h
 | (n,k)::r,cs,h=>by
  refine RM r _ ?_;rcases h with⟨c,h⟩| h;refine .inl ?_;split;rw[wj];split;exact⟨_,rfl⟩;exact⟨c,h⟩;exact⟨c,h⟩;rcases QL.mp h with h|h
  ·cases h
   refine .inl ?_;simp
  exact .inr h
def KB:List Bool->Nat->LS->LS
 |b::m,j,x::N=>(if b then⟨#[46,j]⟩ else x)::KB m (j+1) N|_,_,N=>N
def GC:List Bool->St->St
 |b::m,v::σ=>(if b then none else v)::GC m σ|_,σ=>σ
theorem SJ:∀(m:List Bool) (σ:St),(GC m σ).length=σ.length
 |[],σ=>by unfold GC;rfl|_::_,[]=>by unfold GC;rfl|b::m,v::σ=>by unfold GC;rw[QM,QM,SJ m σ]
theorem GO:∀(m:List Bool) (j:Nat) (N:LS),(KB m j N).length=N.length
 |[],_,N=>by unfold KB;rfl|_::_,_,[]=>by unfold KB;rfl|b::m,j,x::N=>by unfold KB;rw[QM,QM,GO m (j+1) N]
theorem JM:∀(m:List Bool) (j:Nat) (N:LS) (σ:St) (i:Nat) (v:V),(GC m σ)[i]?=some (some v)->σ[i]?=some (some v)/\(KB m j N)[i]?=N[i]?
 |[],_,N,σ,i,v,h=>by unfold GC at h;unfold KB;exact⟨h,rfl⟩|_::_,_,N,[],i,v,h=>by unfold GC at h;simp at h|b::m,j,[],w::σ,i,v,h=>by
  unfold GC at h;cases i with
  |zero =>
   cases b with|true=>simp at h|false=>simp at h;subst h;exact⟨by simp,by unfold KB;rfl⟩
  |succ i=>have q:=(JM m (j+1) [] σ i v (by simpa using h)).1;exact⟨by simpa using q,by unfold KB;rfl⟩
 |b::m,j,x::N,w::σ,0,v,h=>by
  unfold GC at h;cases b with|true=>simp at h|false=>simp at h;subst h;exact⟨by simp,by unfold KB;simp⟩
 |b::m,j,x::N,w::σ,i+1,v,h=>by unfold GC at h;have q:=JM m (j+1) N σ i v (by simpa using h);unfold KB;exact⟨by simpa using q.1,by simpa using q.2⟩
def TL(h sc:Scope):Scope :=
  { h with names:=h.names.map λ(n,k)=>if(k==.free&&sc.kind==.function&&sc.names.lookup n==some .cell) then(n,.cell) else(n,k) }
theorem BC(sc:Scope)(x:Str):∀(l:List (Str×NameKind)),
  (l.map λ(n,k)=>if(k==NameKind.free&&sc.kind==.function&&sc.names.lookup n==some .cell) then(n,NameKind.cell) else(n,k)).lookup x =
   (l.lookup x).map λk=>if(k==NameKind.free&&sc.kind==.function&&sc.names.lookup x==some .cell) then NameKind.cell else k
 |[]=>rfl|(n,k)::r=>by
  rw[QV];have e:(if(k==NameKind.free&&sc.kind==.function&&sc.names.lookup n==some .cell)=true then(n,NameKind.cell) else(n,k)) =
    (n,if(k==NameKind.free&&sc.kind==.function&&sc.names.lookup n==some .cell)=true then NameKind.cell else k):=by split<;>rfl
  show QCD x ((if(k==NameKind.free&&sc.kind==.function&&sc.names.lookup n==some .cell)=true then(n,NameKind.cell) else(n,k))::_)=_;rw[e,wj,wj];cases h:x==n with|true=>rw[qX h];simp|false=>exact BC sc x r
structure CompSt(N:LS)(sc scope:Scope)(tgs:LS)(mask:List Bool):Prop where
 kind:scope.kind=.function
 nocell:∀y∈scope.names,y.2≠.cell
 names:∀y∈scope.names,y.2=.local->scope.names.lookup y.1=some .local
 free:∀y∈scope.names,y.2=.free->sc.names.lookup y.1=some .cell∨sc.names.lookup y.1=some .free
 loc:∀y∈scope.names,y.2=.local->y.1∈tgs∨y.1=(".0":Str)
 nd:(tgs++KB mask 0 N).Nodup
 no0:(".0":Str)∉tgs++KB mask 0 N
noncomputable def OA(X:Cx)(h:Scope)(y:LS)(x:List Bool)(s:Shared)(H:Hp)(ex:List Addr):Cx :=
  { X with N:=y++KB x 0 X.N,s₀:=s,H₀:=H,env:=compEnvC h (ON X.env h.names []) s.heap.objs.size X.env,outer:=X.stack,stack:=X.stack,ex:=ex,fn:=λ_=>false,pn:=[],xe:=λ_ _=>False }
def AI(k:Nat)(h:List Bool)(σ:St):St:=QAK k none++GC h σ
section
variable{X:Cx}{f:PB}{σ:St}{H:Hp}{s:Shared}{w:Scope}{d:LS}{a:List Bool}{ex:List Addr}
theorem CompSt.cells(C:CompSt X.N X.env.scope w d a)(ok:X.Ok):∀y∈w.names,y.2=.free->∃c,X.env.cells.lookup y.1=some c:=λy h x =>
 ok.has y.1 (C.free y h x)
theorem CompSt.kindCF(C:CompSt X.N X.env.scope w d a){x:Str}(h:(relabel w X.env).names.lookup x=some .cell∨(relabel w X.env).names.lookup x=some .free):(x,NameKind.free)∈w.names:=by
 have e:=BC X.env.scope x w.names;have u:(relabel w X.env).names.lookup x=(w.names.lookup x).map λk=>if(k==NameKind.free&&X.env.scope.kind==.function&&X.env.scope.names.lookup x==some .cell) then NameKind.cell else k:=e
 rw[u]at h;cases q:w.names.lookup x with
 |none=>rw[q]at h;simp at h|some k =>
  have y:=qL q;have z:=C.nocell _ y;cases k with|free=>exact y|cell=>exact absurd rfl z|«local»=>rw[q]at h;simp at h|_=>rw[q]at h;simp at h
theorem ZV(I:Inv X f σ H s)(C:CompSt X.N X.env.scope w d a)(n:∀b∈ex,pJ X f H b/\b<s.heap.objs.size){h':Heap}{t':Nat}
  (hn:h'.Ns s.heap.objs.size (λ_=>none)) (hs:qU s.heap.objs.size (s.heap.push { cls:=.type "dict",data:=.dict #[] }) h') :
  Inv (OA X w d a s H ex) [] (AI d.length a σ) H { s with heap:=h',toks:=t' }:=by
 have kept:∀b u,s.heap.get? b=some u->h'.get? b=some u:=λb u e=>hs.extBut b u (Qj (QY e)) (QH _ e);have look:∀x c,(ON X.env w.names []).lookup x=some c->X.env.cells.lookup x=some c:=λx c e=>NO w.names [] (C.cells I.ok) (λc z=>by simp at z) e;have nofs:∀b∈ex,b∉nX X.stack:=λb hb z=>by obtain⟨⟨_,f1,f2,_⟩,_⟩:=n b hb;rcases QL.mp (I.stkSub b z) with e|e;exact f1 e;exact f2 e
 refine⟨⟨I.ok.mod,C.kind,I.ok.glob,I.ok.blt,QZ _,λx y c E j=>I.ok.inj x y c (look x c E) (look y c j),λx hx=>?_,λx c hf _=>absurd (show false=true from hf) QF,I.ok.hd,I.ok.frames,.inl rfl,λb hb=>?_,I.bs,QX I.ok.bsz I.sz,λb o e hb=>?_,nofs,I.stack,I.stkFree,I.tb⟩,
  rfl,I.bare,Un.kept kept,⟨_,hn,λi x v E j h3=>?_⟩,λx c h=>?_,I.hok.fresh (QZ _),λx c h=>I.freeC x c (look x c h),λp hp=>absurd (show p∈([]:PB) from hp) (by simp),I.hok.kept kept,?_⟩
 exact RM w.names [] (.inr (C.kindCF hx));obtain⟨⟨_,_,_,_,f4,_⟩,lt⟩:=n b hb;exact⟨Qj lt,λx c e=>f4 x c (look x c e)⟩;obtain⟨⟨_,_,_,f3,_⟩,_⟩:=n b hb;rcases f3 with z|z;exact I.ok.noex b o e z;exact absurd (Qm (QY (I.ok.bs b o e).1) z) (qy _)
 ·
  have hi:d.length<=i:=by rcases QAx i d.length with z|z;unfold AI at j;rw[qR (by simpa using z),wb]at j;split at j<;>cases j;exact z
  have Z:(KB a 0 X.N)[i - d.length]?=some x:=by have:(d++KB a 0 X.N)[i]?=some x:=E;rw[qG hi]at this;exact this
  have O:(GC a σ)[i - d.length]?=some (some v):=by unfold AI at j;rw[qG (by simpa using hi)]at j;simpa using j
  obtain⟨g1,g2⟩:=JM a 0 X.N σ _ v O;rw[g2]at Z;have A:x∈d++KB a 0 X.N:=qQ (show(d++KB a 0 X.N)[i]?=some x from E);have K:x∉d:=λz=>by have nd:=C.nd;rw[qV]at nd;exact nd.2.2 x z x (qQ (by rw[g2];exact Z)) rfl
  have g:(x,NameKind.free)∈w.names:=by
   rcases h3 with z|z|z;exfalso;have e:(relabel w X.env).names.lookup x=some .local:=z;have Q:=BC X.env.scope x w.names;have P:(relabel w X.env).names.lookup x=(w.names.lookup x).map λk=>if(k==NameKind.free&&X.env.scope.kind==.function&&X.env.scope.names.lookup x==some .cell) then NameKind.cell else k:=Q
   rw[P]at e;cases q:w.names.lookup x with
   |none=>rw[q]at e;cases e|some k =>
    rw[q]at e;have L:=qL q;have G:k=.local:=by
     cases k with|«local»=>rfl|free=>simp at e;split at e<;>cases e|_=>simp at e
    subst G;rcases C.loc _ L rfl with z|z;exact K z;exact C.no0 (z▸A)
   exact C.kindCF (.inl z);exact C.kindCF (.inr z)
  obtain⟨m,hnm,hl⟩:=I.loc;have F:yp X.env.scope x:=.inr (C.free _ g rfl);obtain⟨u,r,l⟩:=hl _ x v Z g1 F;refine⟨u,r,?_⟩;rcases l with⟨k,_⟩| ⟨_,c,hc,Y⟩
  exfalso;have S:X.env.scope.names.lookup x=some .local:=k;rcases C.free _ g rfl with z|z;have W:X.env.scope.names.lookup x=some .cell:=z;rw[S]at W;cases W;have W:X.env.scope.names.lookup x=some .free:=z;rw[S]at W;cases W;obtain⟨R,B⟩:=RM (env:=X.env) w.names [] (.inr g);have:R=c:=by have:=look x R B;rw[hc]at this;exact(Qo this).symm
  subst this;refine .inr ⟨?_,R,B,?_⟩;rcases h3 with z|z|z
  ·exfalso
   have e:(relabel w X.env).names.lookup x=some .local:=z;have Q:=BC X.env.scope x w.names;have P:(relabel w X.env).names.lookup x=(w.names.lookup x).map λk=>if(k==NameKind.free&&X.env.scope.kind==.function&&X.env.scope.names.lookup x==some .cell) then NameKind.cell else k:=Q
   rw[P]at e;cases q:w.names.lookup x with
   |none=>rw[q]at e;cases e|some k =>
    rw[q]at e;have L:=qL q;have G:k=.local:=by
     cases k with|«local»=>rfl|free=>simp at e;split at e<;>cases e|_=>simp at e
    subst G;rcases C.loc _ L rfl with z|z;exact K z;exact C.no0 (z▸A)
  exact .inl z;exact .inr z;obtain⟨o,J,M⟩:=Y;exact⟨o,kept _ _ J,M⟩
 obtain⟨v,o,J,M⟩:=I.cell x c (look x c h);exact⟨v,o,kept _ _ J,M⟩;show(AI d.length a σ).length=(d++KB a 0 X.N).length;unfold AI;rw[QI,QI,qm,SJ,GO,I.len]
end
section
variable{X:Cx}{h:PB}{σ a:St}{H k:Hp}{s s':Shared}{x:Scope}{d:LS}{w:List Bool}{ex:List Addr}{D:Addr}{y:LV}{its:LW}
theorem VV(I:Inv X h σ H s)(l:∀b∈ex,pJ X h H b/\b<s.heap.objs.size)(W:D∈ex)(J:Inv (OA X x d w s H ex) [] a k s')(f:k D=none)(hv:oA y its)(B:y.length<=sizeLine)
  (hl:s'.heap.PlainList D its.toArray) {g:Heap}(C:qU s.heap.objs.size s'.heap g):Inv X h σ (CA k D (.lst y)) { s' with heap:=g }:=by
 have un:Un (nX X.stack) ex H k s.heap s'.heap:=J.base;have j:∀b o,s.heap.get? b=some o->b≠s.heap.objs.size:=λb o e=>Qj (QY e);have E:=l D W;have Z:k s.heap.objs.size=none:=J.free;have N:D≠s.heap.objs.size:=Qj E.2;have m:∀b u,b≠s.heap.objs.size->s'.heap.get? b=some u->g.get? b=some u:=λb u A e=>C.extBut b u A e;refine I.call' (s':={ s' with heap:=g }) (ch:=ex) J.os ⟨λb o e n hb i=>?_,λb o e n hb i=>?_,λb o e n i=>?_,λb o e i=>?_,λb p e=>?_,λb o u e=>?_,λb r e=>?_⟩ ?_ J.bare λb hb=>?_;exact m b o (j b o e) (un.keep b o e n hb i);obtain⟨K,q⟩:=un.slot b o e n hb i;exact⟨K,m b _ (j b o e) q⟩;have q:=un.free b o e n i;rw[vA (λ(z:b=D)=>i (by rw[z];exact W))];exact q;obtain⟨Y,q⟩:=un.there b o e i;exact⟨Y,m b Y (j b o e) q⟩;rw[vA (aA (un.tups b p e) f)];exact un.tups b p e;rw[vA (aA (un.frzs b o u e) f)];exact un.frzs b o u e;rw[vA (aA (un.tbls b r e) f)];exact un.tbls b r e;intro b u e;by_cases hb:b=D;subst hb;rw[YA]at e;cases e;obtain⟨n,q⟩:=hl;exact⟨B,its,n,hv,m _ _ N q⟩;rw[vA hb]at e;refine(J.hok b u e).stay (λc v hc q=>m c v ?_ q) (λc q=>?_) λc p q=>?_;rintro rfl;rcases hc with z|z;subst z;rw[Z]at e;cases e;rw[Z]at z;cases z;rw[vA (aA q f)];exact q;rw[vA (aA q f)];exact q;obtain⟨⟨P,M,O,L,G,F⟩,_⟩:=l b hb;exact⟨L,M,G,F⟩
end
section
variable{X:Cx}{s:Shared}{V Z K:Expr}{U:List Expr}{d:Scope}{pos:Pos}{B:TI}{g:TG}{tc:TT}{te:TE}{Y:LS}{j:List Bool}{l:PB}
def bp(X:Cx)(U:List Expr)(t:TT):Prop:=∀(l:PB) (s:Shared) (h:St) (H:Hp) (Q:Bool->Hp->Prop),Inv X l h H s->t h H Q ->
 wpAny (model X.prog X.w) X.A (forIn U true λc r=>if r=true then do let ok <- isTrue c X.env (eval c X.env);pure (ForInStep.yield ok) else pure (ForInStep.yield r)) (TP X l h Q) X.xe s
theorem BW:bp X [] (λ_ H Q=>Q true H):=λl s x H Q I h=>by rw[QBD];exact QK ⟨H,I,h⟩
theorem UW{c:Expr}{t:TT}(hc:PT X c t):bp X [c] t:=λl s x H Q I h=>by rw[Wu];simp only[if_true];refine QC (QC (TB (hc l s x H Q I h) λb y q=>QK ?_));dsimp only;rw[QBD];exact QK q
theorem kH{prog:Program}{w:World}{A:Around}{R:Result->Shared->Prop}{y:Expr}{it q:Value}{env:Env}(I:Nat->Shared->Prop)
  (W:∀n s,I n s->wpAny (model prog w) A (pyNext it) (λr k=>match r with
   |none=>R (.ok .next) k|some v=>wpAny (model prog w) A (letOwnedTupleGo y it v) (λ_ u=>wpAny (model prog w) A (assign y env v) (λ_ f =>
     wpAny (model prog w) A (forIn U true λc r=>if r=true then do let ok <- isTrue c env (eval c env);pure (ForInStep.yield ok) else pure (ForInStep.yield r)) (λok z =>
      if ok=true then wpAny (model prog w) A (eval V env) (λx e =>
       wpAny (model prog w) A (call (.builtin "list.append") [q,x]) (λ_ b=>∃m,m<n/\I m b) (λ_ _=>False) e) (λ_ _=>False) z
      else ∃m,m<n/\I m z) (λ_ _=>False) f) (λ_ _=>False) u) (λ_ _=>False) k) (λ_ _=>False) s)
  (n:Nat) (h:I n s) :
  codeAny (model prog w) A (.compLoop (.ListComp V [⟨y,Z,U,0⟩] d pos) 0 it q env) R s:=by
 refine codeAny_loop rfl I (λn s G=>?_) n h;show wpAny _ A ((compTurn (.ListComp V [⟨y,Z,U,0⟩] d pos) 0 it q env).onRaise (λx=>do noteFrame x env;theTreesLotGoes x)) _ _ s;refine wpAny_noted ?_;rw[compTurn_list];refine QC (QBZ (QC (qr (W n s G) (λr k o=>?_) λ_ _ a=>a.elim)));cases r with
 |none=>exact QK o|some v =>
  refine QC (qr o (λ_ u p=>?_) λ_ _ a=>a.elim);refine QC (qr p (λ_ f F=>QC (qr F (λok z i=>?_) λ_ _ a=>a.elim)) λ_ _ a=>a.elim);cases ok with|false=>exact QK ⟨rfl,i⟩|true=>exact QC (QC (qr i (λx e E=>QC (qr E (λ_ b C=>QK (QK ⟨rfl,C⟩)) λ_ _ a=>a.elim)) λ_ _ a=>a.elim))
noncomputable def Y1(B:TI)(g:TG)(tc:TT)(te:TE)(k:Nat)(j:List Bool):TE:=λa H Q=>B a H λJ q=>∃W:Nat->Nat->LV->St->Hp->Prop,(∃m,W 0 m [] (AI k j a) q) /\
 ∀i m h v u,W i m h v u->(J.stop i u/\h.length<=sizeLine/\∀p,u p=none->Q (.ref p) (CA u p (.lst h))) ∨
  (J.go i u/\∀x f,J.yld i u x f->g x v f λz o=>tc z o λb e=>if b=true then te z e λy n=>h.length<sizeLine/\∃w,w < m/\W (i+1) w (h++[y]) z n else ∃w,w < m/\W (i+1) w h z e)
def Lp(X:Cx)(l:PB)(H:Hp)(s:Shared)(C:Addr):Prop :=
 H C=none/\C≠X.env.locals/\X.s₀.heap.objs.size<=C/\(∀x c,X.env.cells.lookup x=some c->c≠C)/\(∀p∈X.pn++l,p.1≠C)/\∃m,s.heap.Ns C m
theorem yT{pos':Pos}{use:Option (Value->Sem Unit)}(hc:X.calm=true)(hi:PI X K Z B)(C:CompSt X.N X.env.scope d Y j)
  (inner:∀s H ex,PG (OA X d Y j s H ex) K g/\bp (OA X d Y j s H ex) U tc/\PE (OA X d Y j s H ex) V te)
  (hs:∀x,foldedSetIterable Z X.env x=pure x) {σ:St}{H:Hp}{Q:VK}{QQ:pC}(I:Inv X l σ H s) (h:Y1 B g tc te Y.length j σ H Q)
  (fin:∀(D:Addr) (f:Hp) (s6:Shared) (F:Addr),Inv X l σ f s6->Lp X l f s6 F->Q (.ref D) f->compPost (model X.prog X.w) X.A X.xe use QQ (.ref D) F (.ok .next) s6) :
  wpAny (model X.prog X.w) X.A (comprehension (.ListComp V [⟨K,Z,U,0⟩] d pos) d X.env pos' (newList []) false (eval Z X.env) use) QQ X.xe s:=by
 refine wpAny_comprehension_free (use:=use) rfl hs (UV (C.cells I.ok)) C.kind C.names (TB (hi l s σ H _ I h) λv s1 h1=>TB h1 λitv s2 h2=>?_);obtain⟨it,a,tn,J,E,e,I2,T,st2,f2,W,⟨m0,w0⟩,turn⟩:=h2;subst e;refine Qw ?_;have I3:Inv X l σ E { s2 with heap:=s2.heap.push { cls:=.type "list",data:=.seq ([]:LW).toArray } }:=I2.kept (t':=s2.toks) λb o e=>QH _ e;generalize hS:({ s2 with heap:=s2.heap.push { cls:=.type "list",data:=.seq ([]:LW).toArray } }:Shared)=s3 at I3;have sz3:s3.heap.objs.size=s2.heap.objs.size+1:=by rw[<- hS];exact QAL ..
 have lst3:s3.heap.PlainList s2.heap.objs.size ([]:LW).toArray:=⟨0,by rw[<- hS];exact QU _ rfl⟩
 have old3:∀b o,s2.heap.get? b=some o->s3.heap.get? b=some o:=λb o e=>by rw[<- hS];exact QH _ e
 generalize hDd:s2.heap.objs.size=D at sz3 lst3;have fD:pJ X l E D:=by rw[<- hDd];exact I2.fpOk (QZ _) (I2.hok.fresh (QZ _))
 have fpl:∀b∈a,b<D:=λb hb=>by obtain⟨o,e,_⟩:=T.obj _ _ st2 b hb;rw[<- hDd];exact QY e
 have hex:∀b∈D::a,pJ X l E b/\b<s3.heap.objs.size:=λb hb=>by rcases QL.mp hb with z|z;subst z;exact⟨fD,by rw[sz3];exact Nat.lt_succ_self _⟩;exact⟨f2 b z,by rw[sz3];exact w6 (fpl b z)⟩
 refine QA6 C.nocell (by intro y hy;simp at hy) (λh' hn hsb=>?_) C.kind;have J0:Inv (OA X d Y j s3 E (D::a)) [] (AI Y.length j σ) E { s3 with heap:=h',toks:=s3.toks+([]:List (Str×Value)).length }:=ZV I3 C hex hn hsb;have kept:∀b u,s3.heap.get? b=some u->h'.get? b=some u:=λb u e=>hsb.extBut b u (Qj (QY e)) (QH _ e);obtain⟨pg,pf,pl⟩:=inner s3 E (D::a);have loop:∀s4:Shared,s4={ s3 with heap:=h',toks:=s3.toks+([]:List (Str×Value)).length } ->
   codeAny (model X.prog X.w) X.A (.compLoop (.ListComp V [⟨K,Z,U,0⟩] d pos) 0 (.ref it) (.ref D) (compEnvC d (ON X.env d.names []) s3.heap.objs.size X.env))
    (compPost (model X.prog X.w) X.A X.xe use QQ (.ref D) s3.heap.objs.size) s4:=by
  rintro s4 rfl;have exok:∀{f:Hp},(∀b∈D::a,f b=none)->∀(pp:PB),(∀p∈pp,p.1∉a)->∀b∈a,pJ (OA X d Y j s3 E (D::a)) pp f b:=λ{f} hn pp hpp b hb=>by have g:=J0.ok.exf b (QE _ hb);exact⟨hn b (QE _ hb),g.1,J0.ok.exfs b (QE _ hb),.inl (QE _ hb),g.2,λp G z=>hpp p (by simpa[OA]using G) (z▸hb)⟩
  have DX:=J0.ok.exf D QD;have Dfp:D∉a:=λz=>qy _ (fpl D z);refine kH (λn M=>∃i m f L k,Inv (OA X d Y j s3 E (D::a)) [] m f M/\tn i M.heap/\(∀b∈D::a,f b=none)/\oA L k/\M.heap.PlainList D k.toArray/\W i n L m f) ?_ m0
   ⟨0,_,E,[],[],J0,T.keep _ _ _ (T.keep _ _ _ st2 λb hb o e=>old3 b o e) λb hb o e=>kept b o e,λb hb=>((hex b hb).1).1,.nil,lst3.at λo e=>kept _ _ e,w0⟩
  rintro n s5 ⟨i,P,H5,L,k,I5,st5,fr5,va5,ls5,w5⟩;obtain⟨R,lo⟩:=id ls5;have pinD:∀{m:St}{f:Hp}{M:Shared},Inv (OA X d Y j s3 E (D::a)) [] m f M->(∀b∈D::a,f b=none)->M.heap.get? D=some { cls:=.type "list",dict:=none,data:=.seq k.toArray R } ->
    Inv (OA X d Y j s3 E (D::a)) [(D,{ cls:=.type "list",dict:=none,data:=.seq k.toArray R })] m f M:=λ{m f M} I' fr' e' =>
   I'.pins_of λp G=>by
    have e:p=(D,{ cls:=.type "list",dict:=none,data:=.seq k.toArray R }):=by simpa using G
    subst e;exact⟨e',fr' D QD,DX.1,J0.ok.exfs D QD,λv z=>by cases z⟩
  have S:∀p∈[(D,({ cls:=.type "list",dict:=none,data:=.seq k.toArray R }:Obj))],p.1∉a:=λp G=>by
   have e:p=(D,{ cls:=.type "list",dict:=none,data:=.seq k.toArray R }):=by simpa using G
   subst e;exact Dfp
  have I5':=pinD I5 fr5 lo;rcases turn i n L P H5 w5 with⟨stop,hz,qn⟩| ⟨go,step⟩
  refine TB (T.done (OA X d Y j s3 E (D::a)) rfl rfl rfl hc i _ s5 P H5 (λ_ _=>False) I5' (exok fr5 _ S) st5 stop) λr s6 ⟨hr,I6⟩=>?_;subst hr;obtain⟨m6,hn6,_⟩:=I6.loc;have l6:s6.heap.PlainList D k.toArray:=⟨R,(I6.pin _ (QW _ (QJ.mpr rfl))).1⟩
  have I6':Inv (OA X d Y j s3 E (D::a)) [] P H5 s6:=I6.pins_of λp G=>by simp at G
  have Iout:Inv X l σ (CA H5 D (.lst L)) s6:=VV I3 hex QD I6' (fr5 D QD) va5 hz l6 (qU.refl _ _);have lC:H5 s3.heap.objs.size=none:=I6'.free;refine fin D _ s6 s3.heap.objs.size Iout ⟨?_,wt I3.lt,I3.sz,λx c e z=>?_,λp G z=>?_,m6,hn6⟩ (qn D (fr5 D QD));rw[vA (λ(z:s3.heap.objs.size=D)=>absurd (hex D QD).2 (by rw[z];exact qy _))];exact lC;obtain⟨v,q⟩:=I3.cell x c e;exact absurd q.lt (by rw[z];exact qy _);exact absurd (QY (I3.pin p G).1) (by rw[z];exact qy _);refine TB (T.item (OA X d Y j s3 E (D::a)) rfl rfl rfl hc i _ s5 P H5 (λ_ _=>False) I5' (exok fr5 _ S) st5 go) λr s6 ⟨u,hr,h6⟩=>?_;subst hr;refine TB h6 λ_ s7 ⟨x,H7,I7,r7,y7,st7,fr7⟩=>?_;have hD7:=(I7.pin _ (QW _ (QJ.mpr rfl)))
  have fr7':∀b∈D::a,H7 b=none:=λb hb=>by rcases QL.mp hb with z|z;subst z;exact hD7.2.1;exact fr7 b z
  have I7':=I7.pinned (exok fr7' _ S) (T.obj _ _ st7);have bk:∀{m:St}{f:Hp}{M:Shared},Inv (OA X d Y j s3 E (D::a)) ([(D,{ cls:=.type "list",dict:=none,data:=.seq k.toArray R })]++bM a s7.heap) m f M ->
    M.heap.get? D=some { cls:=.type "list",dict:=none,data:=.seq k.toArray R }/\tn (i+1) M.heap/\(∀b∈D::a,f b=none):=λ{m f M} I'=>by
   have hD:=I'.pin (D,{ cls:=.type "list",dict:=none,data:=.seq k.toArray R }) (QW _ (Qe _ (QJ.mpr rfl)));refine⟨hD.1,T.keep _ _ _ st7 λb hb o e=>(I'.pin (b,o) (QW _ (QW _ (xF hb e)))).1,λb hb=>?_⟩;rcases QL.mp hb with z|z;subst z;exact hD.2.1;obtain⟨o,e,_⟩:=T.obj _ _ st7 b z;exact(I'.pin (b,o) (QW _ (QW _ (xF z e)))).2.1
  refine TB (pg _ s7 P H7 x u _ I7' r7 (step x H7 y7)) λ_ s8 ⟨O,H8,I8,q8⟩=>?_;refine TB (pf _ s8 O H8 _ I8 q8) λok s9 ⟨H9,I9,q9⟩=>?_;cases ok with
  |false=>obtain⟨m',hm,w'⟩:=q9;obtain⟨b1,b2,b3⟩:=bk I9;exact⟨m',hm,i+1,O,H9,L,k,I9.pins_of λp G=>by simp at G,b2,b3,va5,⟨R,b1⟩,w'⟩|true =>
   refine TB (pl _ s9 O H9 _ I9 q9) λy s10 ⟨yv,H10,I10,r10,hz,m',hm,w'⟩=>?_;obtain⟨b1,b2,b3⟩:=bk I10;have hlen:=va5.length;refine wpAny_list_append_plain (hsz:=by rw[QN];omega) (show s10.heap.PlainList D k.toArray from⟨R,b1⟩) λh11 hl11 hs11=>?_;refine⟨m',hm,i+1,O,H10,L++[yv],k++[y],?_,T.keep _ _ _ b2 λb hb o e=>(hs11.2 b (λz=>Dfp (z▸hb))).trans e,b3,va5.append (.cons r10 .nil),by simpa using hl11,w'⟩;have I10':Inv (OA X d Y j s3 E (D::a)) [] O H10 s10:=I10.pins_of λp G=>by simp at G
   exact I10'.turned (t':=s10.toks) (λb o hb e=>(hs11.2 b hb).trans e) (b3 D QD) DX.1 (.inl QD) DX.2 λp G=>by simp[OA]at G
 refine codeAny_compStart_list (loop _ rfl) (T.self X.A 0 _ _ _ (T.keep _ _ _ (T.keep _ _ _ st2 λb hb o e=>old3 b o e) λb hb o e=>kept b o e) (loop _ rfl))
theorem CM{σ:St}{H:Hp}{F:Addr}(I:Inv X l σ H s)(f:Lp X l H s F){h':Heap}(h:qU F s.heap h'):Inv X l σ H { s with heap:=h' }:=by obtain⟨v,u,z,y,x,_⟩:=f;exact I.turned (t':=s.toks) (λb o hb e=>(h.2 b hb).trans e) v u (.inr z) y x
theorem p9(hc:X.calm=true)(w:PI X K Z B)(C:CompSt X.N X.env.scope d Y j)
  (y:∀s H ex,PG (OA X d Y j s H ex) K g/\bp (OA X d Y j s H ex) U tc/\PE (OA X d Y j s H ex) V te)
  (u:∀x,foldedSetIterable Z X.env x=pure x:=by intro _;rfl):PE X (.ListComp V [⟨K,Z,U,0⟩] d pos) (Y1 B g tc te Y.length j):=by
 intro l s b H Q I h;rw[eval_ListComp];refine yT hc w C y u I h λD a e F k f q=>?_;obtain⟨m,v⟩:=f.2.2.2.2.2;exact⟨m,v,λi z=>⟨.ref D,a,CM k f z,rfl,q⟩⟩
theorem z9{cpos u:Pos}{i:Nat}{x:Str}(hc:X.calm=true)(S:X.N.Nodup)(n:X.N[i]?=some x)(p:X.env.scope.names.lookup x=some .local)
  (Q:PI X K Z B) (C:CompSt X.N X.env.scope d Y j)
  (y:∀s H ex,PG (OA X d Y j s H ex) K g/\bp (OA X d Y j s H ex) U tc/\PE (OA X d Y j s H ex) V te)
  (M:∀x,foldedSetIterable Z X.env x=pure x) (k:swapsWith (.ListComp V [⟨K,Z,U,0⟩] d cpos) (some (.Name x u)) pos.line X.env=pure true) :
  PS X (.Assign [.Name x u] (.ListComp V [⟨K,Z,U,0⟩] d cpos) pos) (cg (Y1 B g tc te Y.length j) (hX i)):=by
 intro l s σ H D0 I h;rw[exec_Assign_Name_used _ _ _ _ k];refine QC (QBZ (QC ?_));show wpAny _ X.A (do let _ <- comprehension (.ListComp V [⟨K,Z,U,0⟩] d cpos) d X.env _ (newList []) false (eval Z X.env) (some (assign (.Name x u) X.env))) _ _ s;refine QC (qr (yT (use:=some (assign (.Name x u) X.env)) (QQ:=λ_ o=>SP X l D0 .next o) hc Q C y M I h λD H' J F I6 f q=>?_) (λ_ o O=>QK (QK O)) λ_ _ e=>e);show wpAny _ X.A (assign (.Name x u) X.env (.ref D)) _ _ J;refine QBj (cO I6 S n (.inl p) (v:=.ref D) rfl (λG I7 ⟨a,E,R⟩=>?_) (.inr p));obtain⟨f0,W,f2,r,f4,m,P⟩:=f;have L:F≠a:=by rcases R with z|z;rw[z];exact W;exact λe=>r x a z e.symm
 have w:G.heap.Ns F m:=P.sameBut E L;exact⟨m,w,λh' b=>⟨_,H',CM I7 ⟨f0,W,f2,r,f4,m,w⟩ b,q⟩⟩
end
end L2
namespace L2.L3
open PySem PySem.Spec PyProof.Rows
noncomputable def Ym(K:QA):R2:=λx y H Q=>match x,y with
 | .int i,.int j=>Q (.int (i+j)) H|.str a,.str b=>a.length+b.length<=sizeLine/\Q (.str (a++b)) H|.ref a,.ref b=>∃z h,AC K H a z/\AC K H b h/\z.length+h.length<=sizeLine/\∀p,H p=none->Q (.ref p) (CA H p (.lst (z++h)))|_,_=>False
def km:R2:=λx y H Q=>match x,y with
 | .int i,.int j=>Q (.int (i - j)) H|_,_=>False
def GJ(x:Str)(n:Int):Str:=Txt.mul x n
def cm(K:QA):R2:=λx y H Q=>match x,y with
 | .int i,.int j=>IntMulOk i j/\Q (.int (i * j)) H|.str a,.int k=>(-(2 ^ 31)<=k/\k<2 ^ 31/\a.length * k.toNat<=sizeLine)/\Q (.str (GJ a k)) H|_,_=>False
def Gc:R2:=λx y H Q=>match x,y with
 | .int i,.int j=>(0<j/\j<2 ^ 200)/\Q (.int (i / j)) H|_,_=>False
def gm:R2:=λx y H Q=>match x,y with
 | .int i,.int j=>0<j/\Q (.int (i % j)) H|_,_=>False
section
variable{X:Cx}
theorem op_add:NE X (binaryOp .Add) (Ym X.K):=by
 intro w s n H x y v u Q I g f h;cases x with
 |int i =>
  cases y with|int j=>exact _root_.L2.op_add w s n H _ _ v u Q I g f ⟨i,j,rfl,rfl,h⟩|_=>exact Qc h
 |str a =>
  cases y with|str b=>exact YU w s n H _ _ v u Q I g f ⟨a,b,rfl,rfl,h.1,h.2⟩|_=>exact Qc h
 |ref a =>
  cases y with
  |ref b =>
   obtain⟨xs,ys,N,M,hz,q⟩:=h;cases g;cases f;obtain⟨k,r,⟨⟨S,R,A,G⟩,L,W,E,d1,p⟩,z1⟩:=I.list N;obtain⟨z,Y,⟨⟨B,l,m,e⟩,J,Z,C,d2,o⟩,z2⟩:=I.list M;simp only at E p C o;subst E p C o;have hl:=r.length;have O:=Y.length;refine concat_meets ⟨_,W,rfl⟩ ⟨_,Z,rfl⟩ noFill_list_add seq_list_add PySem.F.slot_list_add PySem.F.entry_list_add (PySem.F.args_list_add_2 _ _) (list_addW a b k.toArray z.toArray L J R l G e (by simp;omega)) ⟨W,Z,?_⟩;have P:k.toArray++z.toArray=(k++z).toArray:=by simp
   rw[P];exact⟨.ref _,_,I.lnew (t':=s.toks) (r.append Y) (by rw[QI];omega),rfl,q _ I.fresh⟩
  |_=>exact Qc h
 |_=>exact Qc h
theorem op_sub:NE X (binaryOp .Sub) km:=by
 intro z s w H x y v u Q I a k h;cases x with
 |int i =>
  cases y with|int j=>exact _root_.L2.op_sub z s w H _ _ v u Q I a k ⟨i,j,rfl,rfl,h⟩|_=>exact Qc h
 |_=>exact Qc h
theorem Z9:NE X (binaryOp .FloorDiv) Gc:=by
 intro z s a H x y v u Q I k w h;cases x with
 |int i =>
  cases y with
  |int j =>
   obtain⟨t,rfl⟩:=k;obtain⟨b,rfl⟩:=w;obtain⟨⟨f,e⟩,q⟩:=h;refine floordiv_int (by omega) ?_ (.inl (PyProof.noPylong_of_log2 ?_));rw[Int.fdiv_eq_ediv_of_nonneg i (by omega)];exact⟨.int _,H,I.tok _,⟨_,rfl⟩,q⟩;have:j.natAbs<2 ^ 200:=by omega
   have:=(Nat.log2_lt (show j.natAbs≠0 by omega)).mpr this;omega
  |_=>exact Qc h
 |_=>exact Qc h
theorem op_mod:NE X (binaryOp .Mod) gm:=by
 intro z s w H x y v u Q I a k h;cases x with
 |int i =>
  cases y with|int j=>exact _root_.L2.op_mod z s w H _ _ v u Q I a k ⟨i,j,rfl,rfl,h.1,h.2⟩|_=>exact Qc h
 |_=>exact Qc h
theorem bh:NE X (binaryOp .Mult) (cm X.K):=by
 intro g s n H x y v u Q I f w h;cases x with
 |int i =>
  cases y with|int j=>obtain⟨t,rfl⟩:=f;obtain⟨z,rfl⟩:=w;exact mul_int ⟨.int _,H,I.tok _,⟨_,rfl⟩,h.2⟩ h.1|_=>exact Qc h
 |str a =>
  cases y with
  |int k =>
   obtain⟨t,rfl⟩:=f;obtain⟨z,rfl⟩:=w;obtain⟨⟨Y,r,p⟩,q⟩:=h;refine SB.mul ⟨?_,λ_ _=>?_,λ_ _=>?_⟩ λz o=>⟨.str (GJ a k),H,I.tok _,⟨_,rfl⟩,q⟩
   have m:decide (k < -(2 ^ 63:Int))=false:=dF (by omega);have l:decide (k ≥ 2 ^ 63)=false:=dF (by omega);rw[m,l];rfl;have e:(a.length:Int) * k=((a.length * k.toNat:Nat):Int):=by rw[Int.natCast_mul,Int.toNat_of_nonneg (by omega)]
   have:=Int.le_ediv_of_mul_le (a:=(a.length:Int)) (b:=2 ^ 63 - 1) (c:=k) (by omega) (by rw[e];omega);omega;unfold Builtin.Str.tooLong;exact dF (by omega)
  |_=>exact Qc h
 |_=>exact Qc h
end
end L2.L3
namespace L2
open PySem PySem.Spec PyProof.Rows
section
variable{x:Type}[DecidableEq x]
section
variable{p:x×V}{r kvs:List (x×V)}{vs:List (x×Value)}{u:Value}
def KL(kvs:List (x×V))(k:x):Option V:=(kvs.find? λh=>decide (h.1=k)).map (·.2)
def aU(kvs:List (x×V))(k:x)(v:V):List (x×V) :=
 if(kvs.any λh=>decide (h.1=k))=true then kvs.map (λh=>if h.1=k then(h.1,v) else h) else kvs++[(k,v)]
theorem YL{k:x}(e:p.1=k):KL (p::r) k=some p.2:=by simp[KL,wB,e]
theorem ZL{k:x}(e:¬ p.1=k):KL (p::r) k=KL r k:=by simp[KL,wB,e]
theorem dR(k:x):∀kvs:List (x×V),(kvs.any λh=>decide (h.1=k))=(KL kvs k).isSome
 |[]=>rfl|p::r=>by rw[w4];by_cases e:p.1=k;simp only[YL e,dT e,QBy,Option.isSome_some];rw[ZL e,dF e,QAb];exact dR k r
theorem pS(kvs:List (x×V))(k:x)(v:V):(aU kvs k v).length<=kvs.length+1:=by unfold aU;split;rw[QG];omega;rw[QI,QM,wN];omega
theorem FT.isSome_eq{o:Option V}{u:Option Value}(r:FT o u):o.isSome=u.isSome:=by
 cases o with
 |none=>cases u with|none=>rfl|some _=>exact(show False from r).elim
 |some _=>cases u with|none=>exact(show False from r).elim|some _=>rfl
theorem KV.val(r:KV kvs vs)(k:x):FT (KL kvs k) (valueAt vs k):=by
 unfold KV at r;induction r with
 |nil=>exact True.intro|@cons p q g y h t a =>
  obtain⟨w,f⟩:=h;by_cases e:p.1=k;have v:q.1=k:=w.symm.trans e;have b:valueAt (q::y) k=some q.2:=by simp[valueAt,wB,v]
  rw[YL e,b];exact f;have v:¬ q.1=k:=λz=>e (w.trans z);have b:valueAt (q::y) k=valueAt y k:=by simp[valueAt,wB,v]
  rw[ZL e,b];exact a
theorem KV.any(r:KV kvs vs)(k:x):(kvs.any λy=>decide (y.1=k))=vs.any λy=>decide (y.1=k):=by
 unfold KV at r;induction r with|nil=>rfl|cons h t z=>rw[w4,w4,z,h.1]
theorem KV.repl(r:KV kvs vs)(k:x){y:V}(a:iA y u) :
  KV (kvs.map λv=>if v.1=k then(v.1,y) else v) (vs.map λv=>if v.1=k then(v.1,u) else v):=by
 unfold KV at r ⊢;induction r with|nil=>exact .nil|@cons p q i g h t b=>rw[QV,QV];refine .cons ?_ b;obtain⟨w,f⟩:=h;by_cases e:p.1=k;rw[if_pos e,if_pos (w.symm.trans e)];exact⟨w,a⟩;rw[if_neg e,if_neg (λz=>e (w.trans z))];exact⟨w,f⟩
theorem KV.put(r:KV kvs vs)(k:x){y:V}(h:iA y u):KV (aU kvs k y) (stored vs k u):=by unfold aU stored;rw[r.any k];by_cases e:(vs.any λz=>decide (z.1=k))=true;rw[if_pos e,if_pos e];exact r.repl k h;rw[if_neg e,if_neg e];exact Paired.snoc r ⟨rfl,h⟩
theorem KV.length(r:KV kvs vs):kvs.length=vs.length:=qH r
end
end
theorem XM{P:Program}{w:World}{k:Key}{u:Value}(r:iA (kV k) u):(ND P w).is k u=true:=by
 cases k with|inl i=>obtain⟨t,e⟩:=(show ∃t,u=Value.int i t from r);subst e;exact uS P w i t|inr x=>obtain⟨t,e⟩:=(show ∃t,u=Value.str x t from r);subst e;exact xS P w x t
end L2
namespace L2.L3
open PySem PySem.Spec PyProof.Rows
section
variable{r kvs:List KE}{xs:List (NK×Addr×Value)}
noncomputable abbrev KE:=NK×Addr×V
def zH(kvs:List KE)(k:NK):Option V:=(kvs.find? λp=>decide (p.1=k)).map (·.2.2)
def EL(kvs:List KE)(k:NK)(b:Addr)(v:V):List KE :=
 if(zH kvs k).isSome=true then kvs.map (λp=>if p.1=k then(p.1,p.2.1,v) else p) else kvs++[(k,b,v)]
noncomputable abbrev KD:List KE->List (NK×Addr×Value)->Prop:=Paired λ(p:NK×Addr×V) (q:NK×Addr×Value)=>p.1=q.1/\p.2.1=q.2.1/\iA p.2.2 q.2.2
theorem gR{p:KE}{k:NK}(e:p.1=k):zH (p::r) k=some p.2.2:=by simp[zH,wB,e]
theorem lR{p:KE}{k:NK}(e:¬ p.1=k):zH (p::r) k=zH r k:=by simp[zH,wB,e]
theorem KD.val(r:KD kvs xs)(k:NK):FT (zH kvs k) ((atKey xs k).map (·.2)):=by
 induction r with
 |nil=>exact True.intro|@cons p q a x h t v =>
  obtain⟨u,_,w⟩:=h;by_cases e:p.1=k;have y:q.1=k:=u.symm.trans e;have b:atKey (q::x) k=some q.2:=by simp[atKey,wB,y]
  rw[gR e,b];exact w;have y:¬ q.1=k:=λz=>e (u.trans z);have b:atKey (q::x) k=atKey x k:=by simp[atKey,wB,y]
  rw[lR e,b];exact v
theorem KD.put(r:KD kvs xs)(k:NK)(b:Addr){y:V}{u:Value}(v:iA y u):KD (EL kvs k b y) (storedH xs k b u):=by
 have e:(zH kvs k).isSome=(atKey xs k).isSome:=by rw[(r.val k).isSome_eq,QAW]
 unfold EL storedH;rw[e];by_cases q:(atKey xs k).isSome=true;rw[if_pos q,if_pos q];clear e q;induction r with|nil=>exact .nil|@cons p q i g h t a=>rw[QV,QV];refine .cons ?_ a;obtain⟨x,w,f⟩:=h;unfold putAt;by_cases e:p.1=k;rw[if_pos e,if_pos (x.symm.trans e)];exact⟨x,w,v⟩;rw[if_neg e,if_neg (λz=>e (x.trans z))];exact⟨x,w,f⟩
 rw[if_neg q,if_neg q];exact Paired.snoc r ⟨rfl,rfl,v⟩
theorem rS(kvs:List KE)(k:NK)(b:Addr)(v:V):(EL kvs k b v).length<=kvs.length+1:=by unfold EL;split;rw[QG];omega;rw[QI,QM,wN];omega
end
mutual
def Oj(K:QA)(H:Hp):NK->V->Prop
 | .s x,v=>v=.str x|.t ks,v=>∃a h,v=.ref a/\ED K H a h/\KyVs K H ks h
def KyVs(K:QA)(H:Hp):List NK->LV->Prop
 |[],xs=>xs=[]|k::ks,xs=>∃x r,xs=x::r/\Oj K H k x/\KyVs K H ks r
end
def yO(K:QA)(H:Hp)(b:Addr)(k:NK):Prop:=Oj K H k (.ref b)/\N4 k<=6
theorem YI{P:Program}{w:World}{A:Around}(h:A.units+60<cLine):(yF P w).room A.in1:=by show A.in1.units+8<cLine;rw[QAj];omega
def XG(K:QA)(H:Hp)(kvs:List KE):Prop:=∀p∈kvs,yO K H p.2.1 p.1
theorem Inv.big{X:Cx}{x:PB}{σ:St}{H:Hp}{s:Shared}(I:Inv X x σ H s):sysModules<s.heap.objs.size:=by have h:mainGlobals<s.heap.objs.size:=(I.mod.glob.keeps I.bk).lt;exact Nat.lt_trans (by decide) h
section
variable{X:Cx}{y:PB}{σ:St}{H:Hp}{s:Shared}{a b:Addr}
mutual
theorem Ln(I:Inv X y σ H s):∀{k:NK}{x:V}{u:Value},Oj X.K H k x->iA x u->NZ s.heap k u
 | .s z,x,u,e,r=>by cases(show x=.str z from e);exact r|.t ks,x,u,⟨a,xs,e,q,p⟩,r=>by subst e;cases r;obtain⟨h,v,⟨o,g,f,n,w⟩,_⟩:=I.tuple q;exact⟨a,h.toArray,rfl,⟨o,g,f,n,w⟩,by simpa using ky_vs I p v⟩
theorem ky_vs(I:Inv X y σ H s):∀{ks:List NK}{xs:LV}{us:LW},KyVs X.K H ks xs->oA xs us->NKvs s.heap ks us
 |[],xs,us,e,r=>by cases(show xs=[] from e);cases r;rfl|k::ks,xs,us,⟨x,r,e,p,q⟩,rv=>by
  subst e;cases rv with|cons h t=>exact⟨_,_,rfl,Ln I p h,ky_vs I q t⟩
end
theorem eS{k:NK}(I:Inv X pins σ H s)(h:yO X.K H b k):(yF X.prog X.w).is s.heap k b:=⟨Ln I h.1 rfl,h.2⟩
theorem BK{ep:Nat}{kvs:List KE}(I:Inv X pins σ H s)(e:H a=some (.dT ep kvs))(hk:XG X.K H kvs):kvs.length<=sizeLine/\(a==sysModules)=false/\∃xs,KD kvs xs/\s.heap.DictOfH (yF X.prog X.w) a xs:=by
 obtain⟨z,y,xs,r,o,l,j,i,g,k,v⟩:=(show FA X.prog X.w H s.heap a (.dT ep kvs) from I.hok a _ e)
 refine⟨z,y,xs,r,o,l,ep,j,i,g,k,?_,v⟩;clear k v z e;induction r with
 |nil=>intro x h;exact nomatch h
 |@cons p q n m u t b=>intro x h;rcases QL.mp h with e|h;subst e;rw[<- u.1,<- u.2.1];exact eS I (hk p QD);exact b (λp f=>hk p (QE _ f)) x h
theorem AS{kvs:List (Key×V)}(I:Inv X pins σ H s)(e:H a=some (.dK kvs)):kvs.length<=sizeLine/\(a==sysModules)=false/\∃vs,KV kvs vs/\s.heap.DictOf (ND X.prog X.w) a vs :=
 show FA X.prog X.w H s.heap a (.dK kvs) from I.hok a _ e
end
theorem B6{X:Cx}{h:PB}{σ:St}{H:Hp}{s:Shared}{a:Addr}{ep:Nat}(I:Inv X h σ H s)(e:H a=some (.dT ep [])):(a==sysModules)=false/\s.heap.DictOf (ND X.prog X.w) a []:=by
 obtain⟨z,y,g,r,o,f,b,k,v,u,i⟩:=(show FA X.prog X.w H s.heap a (.dT ep []) from I.hok a _ e)
 cases r;have x:f=#[]:=by apply WC.mp;simpa using u
 subst x;exact⟨y,o,#[],ep,b,k,v,λe x=>by simp at x,.nil,Q0⟩
def kD:Key->PyData
 | .inl i=>.int i|.inr x=>.str x
mutual
def tD:NK->PyData
 | .s x=>.str x|.t h=>.tuple (tDs h)
def tDs:List NK->List PyData
 |[]=>[]|k::ks=>tD k::tDs ks
end
theorem D5{a b:Key}(e:kD a=kD b):a=b:=by
 cases a with
 |inl i=>cases b with|inl j=>injection e with e;rw[e]|inr y=>exact nomatch (show PyData.int i=PyData.str y from e)
 |inr x=>cases b with
  |inl j=>exact nomatch (show PyData.str x=PyData.int j from e)
  |inr y=>injection e with e;rw[e]
mutual
theorem nU:∀{a b:NK},tD a=tD b->a=b
 | .s x,.s y,e=>by rw[PyData.str.inj e]|.s x,.t l,e=>QBd e|.t k,.s y,e=>QBd e|.t k,.t l,e=>by rw[tDs_inj (PyData.tuple.inj e)]
theorem tDs_inj:∀{a b:List NK},tDs a=tDs b->a=b
 |[],[],_=>rfl|[],_::_,e=>(nomatch e)
 |_::_,[],e=>(nomatch e)
 |x::xs,y::ys,e=>by have e:tD x::tDs xs=tD y::tDs ys:=e;injection e with e1 e2;rw[nU e1,tDs_inj e2]
end
def gK(K:QA)(H:Hp)(b:Bool)(o:HO)(ks:List PyData)(vs:LV):Prop:=match b with
 |true=>∃x,∃h:List KE,o=.dT x h/\ks=h.map (λp=>tD p.1)/\vs=h.map (·.2.2)/\XG K H h/\(h.map (·.1)).Nodup|false=>(∃h:List (Key×V),h≠[]/\o=.dK h/\ks=h.map (λp=>kD p.1)/\vs=h.map (·.2)/\(h.map (·.1)).Nodup)∨∃x,o=.dT x []/\ks=[]/\vs=[]
theorem gK.len{K:QA}{H:Hp}{b:Bool}{o:HO}{ks:List PyData}{vs:LV}(h:gK K H b o ks vs):ks.length=vs.length:=by
 cases b with|true=>obtain⟨y,x,_,rfl,rfl,_⟩:=h;simp|false=>rcases h with⟨x,_,_,rfl,rfl,_⟩| ⟨_,_,rfl,rfl⟩<;>simp
def jR(K:QA)(H:Hp)(a:Addr)(y:V)(r:Option V):Prop:=match y with
 | .str z=>(∃h,H a=some (.dK h)/\r=KL h (.inr z))∨∃x,H a=some (.dT x [])/\r=none|.ref b=>∃x h k,H a=some (.dT x h)/\XG K H h/\yO K H b k/\r=zH h k|_=>False
def Tj(K:QA)(H:Hp)(a:Addr)(y v:V)(Q:Hp->Prop):Prop:=match y with
 | .str z=>(∃h,H a=some (.dK h)/\h.length<sizeLine/\Q (CA H a (.dK (aU h (.inr z) v))))∨∃u,H a=some (.dT u [])/\Q (CA H a (.dK [(.inr z,v)]))|.ref b=>∃u h k,H a=some (.dT u h)/\XG K H h/\yO K H b k/\h.length<sizeLine/\∀x,Q (CA H a (.dT x (EL h k b v)))|_=>False
theorem rO{v:V}{o:Option Value}(r:FT (some v) o):∃w,o=some w/\iA v w:=by
 cases o with|none=>exact(show False from r).elim|some w=>exact⟨w,rfl,r⟩
section
variable{X:Cx}
section
variable{c:PB}{s:Shared}{σ:St}{H:Hp}{a:Addr}{u:Value}{o:Option V}{h':Heap}{pos:Pos}
theorem Na(P:X.A.units+66<cLine):B7 X (λx y H Q=>∃a v,x=.ref a/\jR X.K H a y (some v)/\Q v H):=by
 intro n Y c s σ H x y v u Q I J C h E;obtain⟨a,r,rfl,g,q⟩:=h;cases J;cases y with
 |str z =>
  rcases g with⟨W,e,l⟩| ⟨N,e,l⟩
  rotate_left
  cases l;obtain⟨_,M,G,f,m⟩:=AS I e;obtain⟨i,B,w⟩:=rO (v:=r) (o:=valueAt G (.inr z)) (by rw[l];exact f.val _);exact qe (x:=i) m.typeIs QAM.lookup
   (wpAny_getItem_of (Q:=λr Z=>r=i/\EP X c σ Q r Z) (XM (k:=.inr z) C) m.mapOf B ⟨rfl,r,H,I.tok _,w,q⟩) E
 |ref b =>
  obtain⟨N,W,k,e,hk,O,l⟩:=g;cases C;obtain⟨_,M,F,f,m⟩:=BK I e hk;obtain⟨i,B,w⟩:=rO (v:=r) (o:=(atKey F k).map (·.2)) (by rw[l];exact f.val _);obtain⟨p,L,j⟩:=Option.map_eq_some_iff.mp B;refine qe (x:=i) m.typeIs QAM.lookup
   (wpAny_getItem_heap (Q:=λr Z=>r=i/\EP X c σ Q r Z) (YI (by omega)) (eS I O) m L ?_) E
  exact⟨j,r,H,I.tok _,by rw[j];exact w,q⟩
 |_=>exact Qc g
theorem Aa(r:X.A.units+66<cLine){y:V}{Q:VK}(I:Inv X c σ H s)(f:iA y u)(g:jR X.K H a y o)(q:Q (.bl o.isSome) H) :
  wpAny (model X.prog X.w) X.A (compareOp .In u (.ref a)) (EP X c σ Q) X.xe s:=by
 cases y with
 |str z =>
  rcases g with⟨i,e,l⟩| ⟨j,e,l⟩
  rotate_left
  subst l;obtain⟨x,v⟩:=B6 I e;exact wpAny_in_of (XM (k:=.inr z) f) x v.mapOf ⟨.bl false,H,I.tok _,rfl,q⟩;obtain⟨_,x,p,h,v⟩:=AS I e;refine wpAny_in_of (XM (k:=.inr z) f) x v.mapOf ⟨.bl o.isSome,H,I.tok _,?_,q⟩;rw[<- (h.val (.inr z)).isSome_eq,<- l];rfl
 |ref b=>obtain⟨j,i,k,e,hk,m,l⟩:=g;cases f;obtain⟨_,x,n,h,v⟩:=BK I e hk;refine wpAny_in_heap (YI (by omega)) (eS I m) x v ⟨.bl o.isSome,H,I.tok _,?_,q⟩;have q:=(h.val k).isSome_eq;rw[QAW]at q;rw[<- q,<- l];rfl|_=>exact Qc g
theorem CU(r:X.A.units+66<cLine){y:V}{Q:VK}(I:Inv X c σ H s)(f:iA y u)(g:jR X.K H a y o)(q:Q (.bl (!o.isSome)) H) :
  wpAny (model X.prog X.w) X.A (compareOp .NotIn u (.ref a)) (EP X c σ Q) X.xe s:=by
 cases y with
 |str z =>
  rcases g with⟨i,e,l⟩| ⟨j,e,l⟩
  rotate_left
  subst l;obtain⟨x,v⟩:=B6 I e;exact wpAny_notIn_of (XM (k:=.inr z) f) x v.mapOf ⟨.bl true,H,I.tok _,rfl,q⟩;obtain⟨_,x,p,h,v⟩:=AS I e;refine wpAny_notIn_of (XM (k:=.inr z) f) x v.mapOf ⟨.bl (!o.isSome),H,I.tok _,?_,q⟩;rw[<- (h.val (.inr z)).isSome_eq,<- l];rfl
 |ref b=>obtain⟨j,i,k,e,hk,m,l⟩:=g;cases f;obtain⟨_,x,n,h,v⟩:=BK I e hk;refine wpAny_notIn_heap (YI (by omega)) (eS I m) x v ⟨.bl (!o.isSome),H,I.tok _,?_,q⟩;have q:=(h.val k).isSome_eq;rw[QAW]at q;rw[<- q,<- l];rfl|_=>exact Qc g
theorem FQ{t':Nat}{ob:HO}(I:Inv X c σ H s)(h:Vk (H a))(y:qU a s.heap h')(v:∃q,h'.get? a=some q)(new:FA X.prog X.w (CA H a ob) h' a ob) :
  Inv X c σ (CA H a ob) { s with heap:=h',toks:=t' } :=
 I.write (x:=a) (e:=a) h (.inl rfl) (λb q hb z=>(y.2 b hb).trans z) v new
theorem PM{t':Nat}{kvs:List KE}{xs:List (NK×Addr×Value)}(I:Inv X c σ H s)(y:Vk (H a))(k:(a==sysModules)=false)(z:kvs.length<=sizeLine)(h:KD kvs xs)
  (j:h'.DictOfH (yF X.prog X.w) a xs) (v:qU a s.heap h'):∃ep,Inv X c σ (CA H a (.dT ep kvs)) { s with heap:=h',toks:=t' }:=by
 obtain⟨q,i,ep,x,g,f,e,_,b⟩:=j;exact⟨ep,FQ I y v ⟨q,x⟩ ⟨z,k,xs,h,q,i,x,g,f,e,b⟩⟩
def setD(K:QA)(o y v:V)(H:Hp)(Q:Hp->Prop):Prop:=match o with
 | .ref a=>Tj K H a y v Q|_=>False
theorem JR(M:X.A.units+66<cLine):zc X (setD X.K):=by
 intro c s σ H o y v J L u Q I W n m h;cases o with
 |ref a =>
  cases W;cases y with
  |str z =>
   rcases h with⟨f,e,l,q⟩| ⟨B,e,q⟩
   rotate_left
   obtain⟨i,j⟩:=B6 I e;refine QBK (hsz:=Qt _) (XM (k:=.inr z) n) j λh' x g=>⟨_,?_,q⟩
   have Y:∃q,h'.get? a=some q:=let⟨q,_,_,r,_⟩:=x;⟨q,r⟩
   exact FQ I (by rw[e];exact True.intro) g Y ⟨by simp;decide,i,_,.cons ⟨rfl,m⟩ .nil,x⟩;obtain⟨p,i,G,w,j⟩:=AS I e;have hl:(aU f (.inr z) v).length<=sizeLine:=by have:=pS f (.inr z) v;omega
   refine QBK (hsz:=by rw[<- w.length];exact p) (XM (k:=.inr z) n) j λh' x g=>⟨_,?_,q⟩
   have Y:∃q,h'.get? a=some q:=let⟨q,_,_,r,_⟩:=x;⟨q,r⟩
   exact FQ I (by rw[e];exact True.intro) g Y ⟨hl,i,_,w.put _ m,x⟩
  |ref b =>
   obtain⟨B,f,k,e,hk,C,l,q⟩:=h;cases n;obtain⟨p,i,F,w,j⟩:=BK I e hk;have hl:(EL f k b v).length<=sizeLine:=by have:=rS f k b v;omega
   refine wpAny_setItem_heap (hsz:=by rw[<- qH w];exact p) (YI (by omega)) (eS I C) j λh' x g=>?_;obtain⟨Z,E⟩:=PM (t':=_) I (by rw[e];exact True.intro) i hl (w.put k b m) x g;exact⟨_,E,q Z⟩
  |_=>exact Qc h
 |_=>exact Qc h
theorem ze{P:Program}{w:World}(h:Heap)(hb:sysModules<h.objs.size):FA P w H (h.push { cls:=.type "dict",data:=.dict #[] }) h.objs.size (.dT 0 []) :=
 ⟨Qt _,beq_eq_false_iff_ne.mpr (Q9 (Qj hb)),[],.nil,_,#[],QU _ rfl,⟨rfl,rfl,rfl⟩,rfl,rfl,Q0⟩
theorem n9:PE X (.Dict [] [] pos) (λ_ H Q=>∀p,H p=none->Q (.ref p) (CA H p (.dT 0 []))):=λc s σ H Q I h =>
 wpAny_Dict_empty ⟨.ref s.heap.objs.size,_,I.laid (a:=s.heap.objs.size) (o:=.dT 0 []) (t':=s.toks) (λ_ _ q=>QH _ q) (QZ _) (ze s.heap (Inv.big I)),rfl,h _ (I.hok.fresh (QZ _))⟩
theorem m9(hu:X.A.units+66<cLine){k v:Expr}{l j:TE}(hk:PE X k l)(hv:PE X v j) :
  PE X (.Dict [some k] [v] pos) (λσ H Q=>∀p,H p=none->l σ (CA H p (.dT 0 [])) λy i=>j σ i λv h=>h p=some (.dT 0 [])/\∃b ks,y=.ref b/\yO X.K h b ks/\∀ep,Q (.ref p) (CA h p (.dT ep [(ks,b,v)]))):=by
 intro c s σ H Q I q;have E:=I.hok.fresh (QZ s.heap.objs.size);have N:=I.laid (a:=s.heap.objs.size) (o:=.dT 0 []) (h':=s.heap.push { cls:=.type "dict",data:=.dict #[] }) (t':=s.toks) (λ_ _ q=>QH _ q) (QZ _) (ze s.heap (Inv.big I));refine wpAny_Dict_any rfl rfl (by simp) (by simp) (pairTrees_cons_walk (TB (hk c _ σ _ _ N (q _ E)) λu n ⟨y,i,M,Y,W⟩=>TB (hv c n σ i _ M W) λm R ⟨z,h,g,r,e,b,ks,G,J,Z⟩=>pairTrees_nil_walk ?_));subst G;cases Y;obtain⟨S,F,P,x,L⟩:=BK g e (λp C=>nomatch C);cases x;show wpAny _ _ (forIn [(Value.ref b,m)] PUnit.unit _) _ _ _;rw[Wu];refine QC (QC (wpAny_dictSet_heap (hsz:=Qt _) (show X.A.units+8<cLine by omega) (eS g J) L λh' f B=>QK ?_));show wpAny _ _ (forIn ([]:List (Value×Value)) _ _) _ _ _;rw[QBD];obtain⟨w,O⟩:=PM (t':=_) (kvs:=[(ks,b,z)]) g (by rw[e];exact True.intro) F (by simp;decide) (.cons ⟨rfl,rfl,r⟩ .nil) f B;exact QK ⟨.ref _,_,O,rfl,Z w⟩
end
end
mutual
inductive Rep(K:QA)(H:Hp):V->PyData->Prop where
 |non:Rep K H .non .none
 |bl (b:Bool):Rep K H (.bl b) (.bool b)
 |int (i:Int):Rep K H (.int i) (.int i)
 |str (x:Str):Rep K H (.str x) (.str x)
 |lst {a:Addr}{xs:LV}{ds:List PyData}:AC K H a xs->Reps K H xs ds->Rep K H (.ref a) (.list ds)
 |tup {a:Addr}{xs:LV}{ds:List PyData}:ED K H a xs->Reps K H xs ds->Rep K H (.ref a) (.tuple ds)
 |dct {b:Bool}{a:Addr}{o:HO}{ks:List PyData}{xs:LV}{ds:List PyData}:H a=some o->gK K H b o ks xs->Reps K H xs ds->Rep K H (.ref a) (.dict (ks.zip ds))
inductive Reps(K:QA)(H:Hp):LV->List PyData->Prop where
 |nil:Reps K H [] []
 |cons {x:V}{d:PyData}{xs:LV}{ds:List PyData}:Rep K H x d->Reps K H xs ds->Reps K H (x::xs) (d::ds)
end
section
variable{K:QA}{H:Hp}{R:LV->List PyData->Prop}{xs:LV}{ds:List PyData}
theorem Rep.both{P:V->PyData->Prop}(z:P .non .none)(v:∀b,P (.bl b) (.bool b))(int:∀i,P (.int i) (.int i))(str:∀x,P (.str x) (.str x))
    (lst:∀{a:Addr}{xs:LV}{ds:List PyData},AC K H a xs->Reps K H xs ds->R xs ds->P (.ref a) (.list ds))
    (tup:∀{a:Addr}{xs:LV}{ds:List PyData},ED K H a xs->Reps K H xs ds->R xs ds->P (.ref a) (.tuple ds))
    (dct:∀{b:Bool}{a:Addr}{o:HO}{ks:List PyData}{xs:LV}{ds:List PyData},H a=some o->gK K H b o ks xs->Reps K H xs ds->R xs ds->P (.ref a) (.dict (ks.zip ds)))
    (u:R [] []) (y:∀{x:V}{d:PyData}{xs:LV}{ds:List PyData},Rep K H x d->Reps K H xs ds->P x d->R xs ds->R (x::xs) (d::ds)) :
    (∀{x:V}{d:PyData},Rep K H x d->P x d)/\∀{xs:LV}{ds:List PyData},Reps K H xs ds->R xs ds :=
  ⟨λh=>Rep.rec (motive_1:=λx d _=>P x d) (motive_2:=λx d _=>R x d) z v int str @lst @tup @dct u @y h,
   λh=>Reps.rec (motive_1:=λx d _=>P x d) (motive_2:=λx d _=>R x d) z v int str @lst @tup @dct u @y h⟩
theorem Reps.ind(z:R [] [])(y:∀{x:V}{d:PyData}{xs:LV}{ds:List PyData},Rep K H x d->R xs ds->R (x::xs) (d::ds))(h:Reps K H xs ds):R xs ds :=
 (Rep.both (P:=λ_ _=>True) trivial (λ_=>trivial) (λ_=>trivial) (λ_=>trivial) (λ_ _ _=>trivial) (λ_ _ _=>trivial) (λ_ _ _ _=>trivial) z λh _ _ r=>y h r).2 h
theorem Reps.length(h:Reps K H xs ds):xs.length=ds.length:=Reps.ind (R:=λxs ds=>xs.length=ds.length) rfl (λ_ e=>congrArg Nat.succ e) h
end
section
variable{X:Cx}{y:PB}{σ:St}{H:Hp}{s:Shared}
mutual
theorem jS{h:Heap}:∀{k:NK}{u:Value},NZ h k u->∃z,Reads h u (tD k) z
 | .s x,u,⟨t,e⟩=>by subst e;exact⟨_,.str x t⟩|.t ks,u,⟨a,its,e,⟨o,e1,c,n,d⟩,q⟩=>by subst e;obtain⟨z,v⟩:=nks_reads q;exact⟨_,.tuple e1 c d v⟩
theorem nks_reads{h:Heap}:∀{ks:List NK}{us:LW},NKvs h ks us->∃x,ReadsAll h us (tDs ks) x
 |[],us,e=>by cases(show us=[] from e);exact⟨_,.nil⟩|k::ks,us,⟨v,r,e,p,q⟩=>by subst e;obtain⟨x,u⟩:=jS p;obtain⟨bs,z⟩:=nks_reads q;exact⟨_,.cons u z⟩
end
section
variable{kvs:List (Key×V)}{xs:List (NK×Addr×Value)}{vs:List (Key×Value)}
theorem O2(I:Inv X pins σ H s){kvs:List KE}(r:KD kvs xs)(hk:XG X.K H kvs):∃z,ReadsAll s.heap (xs.map λx=>.ref x.2.1) (kvs.map λp=>tD p.1) z:=by
 induction r with|nil=>exact⟨_,.nil⟩|@cons p x _ _ h t u=>obtain⟨z,q⟩:=u λp v=>hk p (QE _ v);obtain⟨bs,y⟩:=jS (eS I (hk p QD)).1;rw[h.2.1]at y;exact⟨_,.cons y q⟩
theorem BR{P:Program}{w:World}{es:List DictEntry}(hk:KV kvs vs)(u:Pairs (ND P w) es vs):(∃v,ReadsAll s.heap (es.map (·.key)) (kvs.map λp=>kD p.1) v)/\es.map (·.val)=vs.map (·.2):=by
 unfold KV at hk;induction hk generalizing es with
 |nil=>cases u;exact⟨⟨_,.nil⟩,rfl⟩|cons h t e =>
  cases u with
  |cons a b c =>
   obtain⟨⟨v,q⟩,k⟩:=e c;refine⟨?_,by rw[QV,QV,k,b]⟩;rw[QV,QV];rw[<- h.1]at a;rcases RA a with⟨i,t,z,y⟩| ⟨x,t,z,y⟩
   rw[z,y];exact⟨_,.cons (.int i t) q⟩;rw[z,y];exact⟨_,.cons (.str x t) q⟩
theorem n8{kvs:List KE}(r:KD kvs xs):oA (kvs.map (·.2.2)) (xs.map (·.2.2)):=by
 induction r with|nil=>exact .nil|cons h _ x=>exact .cons h.2.2 x
theorem m8(r:KV kvs vs):oA (kvs.map (·.2)) (vs.map (·.2)):=by
 induction r with|nil=>exact .nil|cons h _ x=>exact .cons h.2 x
theorem oZ(I:Inv X pins σ H s){b:Bool}{a:Addr}{o:HO}{ks:List PyData}{xs:LV}(h:H a=some o)(q:gK X.K H b o ks xs):∃ob es ep us,s.heap.get? a=some ob/\ob.cls=.type "dict"/\ob.dict=none/\ob.data=.dict es ep/\(a==sysModules)=false /\
  (∃j,ReadsAll s.heap (es.toList.map (·.key)) ks j)/\oA xs us/\es.toList.map (·.val)=us:=by
 cases b with
 |true=>obtain⟨e,kvs,rfl,rfl,rfl,hk,_⟩:=q;obtain⟨_,v,f,x,ob,es,ep,k,y,w,u,_⟩:=BK I h hk;refine⟨ob,es,ep,_,k,y.1,y.2.1,w,v,?_,n8 x,?_⟩;rw[u,Qb];exact O2 I x hk;rw[u,Qb];rfl|false =>
  rcases q with⟨kvs,_,rfl,rfl,rfl,_⟩| ⟨e,rfl,rfl,rfl⟩
  rotate_left
  obtain⟨_,v,f,x,ob,es,ep,k,y,w,u,_⟩:=BK I h λ_ z=>nomatch z;cases x;exact⟨ob,es,ep,[],k,y.1,y.2.1,w,v,⟨_,by rw[u];exact .nil⟩,.nil,by rw[u];rfl⟩;obtain⟨_,v,vs,x,ob,es,ep,k,y,w,_,u,_⟩:=AS I h;obtain⟨i,g⟩:=BR (s:=s) x u;exact⟨ob,es,ep,_,k,y.1,y.2.1,w,v,i,m8 x,g⟩
theorem Rep.reads2(I:Inv X pins σ H s):(∀{x:V}{d:PyData},Rep X.K H x d->∀u,iA x u->∃y,Reads s.heap u d y)/\∀{xs:LV}{ds:List PyData},Reps X.K H xs ds->∀us,oA xs us->∃y,ReadsAll s.heap us ds y:=by
 refine Rep.both (P:=λx d=>∀u,iA x u->∃y,Reads s.heap u d y) (R:=λxs ds=>∀us,oA xs us->∃y,ReadsAll s.heap us ds y) (λu r=>?_) (λb u r=>?_) (λi u r=>?_) (λx u r=>?_) (λh q v u r=>?_) (λh q v u r=>?_) (λ{b a o w xs ds} h q r v u l=>?_) (λus r=>?_) λ_ _ p m us r=>?_;cases r;exact⟨_,.none⟩;cases r;exact⟨_,.bool b⟩;obtain⟨t,rfl⟩:=r;exact⟨_,.int i t⟩;obtain⟨t,rfl⟩:=r;exact⟨_,.str x t⟩;cases r;obtain⟨g,k,⟨o,n,e,c,_,d⟩,_⟩:=I.list h;obtain⟨y,z⟩:=v _ k;exact⟨_,.list e c d (by simpa using z)⟩;cases r;obtain⟨g,k,⟨o,e,c,n,d⟩,_⟩:=I.tuple h;obtain⟨y,z⟩:=v _ k;exact⟨_,.tuple e c d (by simpa using z)⟩;cases l;obtain⟨ob,L,M,us,C,B,J,A,G,⟨y,W⟩,Z,Y⟩:=oZ I h q;obtain⟨bs,f⟩:=v _ Z;have hl:w.length=ds.length:=by rw[q.len,Reps.length r]
 have F:(w.zip ds).map (λx=>x.1)=w:=Wm (wx hl);have E:(w.zip ds).map (λx=>x.2)=ds:=WD (wx hl.symm);exact⟨_,.dict C B A (by rw[F];exact W) (by rw[E,Y];exact f)⟩;cases r;exact⟨_,.nil⟩;cases r with|cons r j=>obtain⟨y,z⟩:=p _ r;obtain⟨bs,f⟩:=m _ j;exact⟨_,.cons z f⟩
theorem Rep.reads(I:Inv X pins σ H s){x:V}{d:PyData}{u:Value}(h:Rep X.K H x d)(r:iA x u):∃y,Reads s.heap u d y:=(Rep.reads2 I).1 h u r
def kE(d:PyData):Prop:=d.canLay0=true/\d.depth<=64
noncomputable def rEq(K:QA)(neg:Bool):R2:=λx y H Q=>match x,y with
 | .int i,.int j=>Q (.bl (if neg then !decide (i=j) else decide (i=j))) H|.str a,.str b=>Q (.bl (if neg then !decide (a=b) else decide (a=b))) H|.bl a,.bl b=>Q (.bl (if neg then !decide (a=b) else decide (a=b))) H|x,y=>∃z h,Rep K H x z/\Rep K H y h/\kE z/\kE h/\Q (.bl (if neg then !PyData.eqv z h else Ql z h)) H
theorem op_eq(C:X.A.units+64<cLine):NE X (compareOp .Eq) (rEq X.K false):=by
 intro z s g H x y v u Q I o n h;have k:(∃f e,Rep X.K H x f/\Rep X.K H y e/\kE f/\kE e/\Q (.bl (if false=true then !PyData.eqv f e else Ql f e)) H)->wpAny (model X.prog X.w) X.A (compareOp .Eq v u) (EP X z g Q) X.xe s:=by rintro⟨f,e,m,l,⟨Z,B⟩,⟨Y,W⟩,q⟩;obtain⟨E,r⟩:=m.reads I o;obtain⟨bs,p⟩:=l.reads I n;exact SeqAt.compareEq_reads r p Z Y (by omega) ⟨.bl _,H,I,rfl,q⟩
 have sc:D8 x y=true->Q (.bl (decide (x=y))) H->wpAny (model X.prog X.w) X.A (compareOp .Eq v u) (EP X z g Q) X.xe s:=λm l=>_root_.L2.op_eq z s g H x y v u Q I o n ⟨m,l⟩;cases x with
 |int i =>
  cases y with|int j=>exact sc rfl (by simpa[rEq]using h)|_=>exact k h
 |str a =>
  cases y with|str b=>exact sc rfl (by simpa[rEq]using h)|_=>exact k h
 |bl a =>
  cases y with|bl b=>exact sc rfl (by simpa[rEq]using h)|_=>exact k h
 |_=>exact k h
theorem op_ne(C:X.A.units+64<cLine):NE X (compareOp .NotEq) (rEq X.K true):=by
 intro z s g H x y v u Q I o n h;have k:(∃f e,Rep X.K H x f/\Rep X.K H y e/\kE f/\kE e/\Q (.bl (if true=true then !PyData.eqv f e else Ql f e)) H)->wpAny (model X.prog X.w) X.A (compareOp .NotEq v u) (EP X z g Q) X.xe s:=by rintro⟨f,e,m,l,⟨Z,B⟩,⟨Y,W⟩,q⟩;obtain⟨E,r⟩:=m.reads I o;obtain⟨bs,p⟩:=l.reads I n;exact SeqAt.compareNe_reads r p Z Y (by omega) ⟨.bl _,H,I,rfl,q⟩
 have sc:D8 x y=true->Q (.bl (!decide (x=y))) H->wpAny (model X.prog X.w) X.A (compareOp .NotEq v u) (EP X z g Q) X.xe s:=λm l=>_root_.L2.op_ne z s g H x y v u Q I o n ⟨m,l⟩;cases x with
 |int i =>
  cases y with|int j=>exact sc rfl (by simpa[rEq]using h)|_=>exact k h
 |str a =>
  cases y with|str b=>exact sc rfl (by simpa[rEq]using h)|_=>exact k h
 |bl a =>
  cases y with|bl b=>exact sc rfl (by simpa[rEq]using h)|_=>exact k h
 |_=>exact k h
def nY(f:Int->Int->Bool):R2:=λx y H Q=>match x,y with
 | .int i,.int j=>Q (.bl (f i j)) H|_,_=>False
theorem GP{w:CmpOp}{f:Int->Int->Bool}(e:NE X (compareOp w) (T8 λi j=>.bl (f i j))):NE X (compareOp w) (nY f):=by
 intro z s k H x y v u Q I b a h;cases x with
 |int i =>
  cases y with|int j=>exact e z s k H _ _ v u Q I b a ⟨i,j,rfl,rfl,h⟩|_=>exact Qc h
 |_=>exact Qc h
def inStr(b a:Str):Bool:=match a.cps.toList with
 |[c]=>decide (c∈b.cps.toList)|_=>!(wa b a 0 b.length 1).isEmpty
theorem XS(b a:Str):inStr b a=!(wa b a 0 b.length 1).isEmpty:=by
 unfold inStr;split;rename_i c e;have x:a=⟨#[c]⟩:=by
  obtain⟨h⟩:=a;have:h=#[c]:=by apply WC.mp;simpa using e
  rw[this]
 rw[x];exact(StrLaws.found_one b c).symm;rfl
noncomputable def FR(K:QA)(neg:Bool):R2:=λx y H Q=>match y with
 | .str b=>match x with
  | .str a=>Q (.bl (if neg then !inStr b a else inStr b a)) H|_=>False
 | .ref p=>Jr K neg x (.ref p) H Q∨(∃d h,Rep K H x d/\(Rep K H (.ref p) (.list h)∨Rep K H (.ref p) (.tuple h))/\kE d/\kE (.list h)/\Q (.bl (if neg then !(h.any λy=>Ql y d) else h.any λy=>Ql y d)) H)∨(∃o,jR K H p x o/\Q (.bl (if neg then !o.isSome else o.isSome)) H)|_=>False
theorem ZO{ds:List PyData}(h:kE (.list ds)):qh ds=true/\wT ds<=63:=by obtain⟨x,y⟩:=h;simp only[QAN]at x;simp only[QAy]at y;exact⟨x,by omega⟩
theorem Dm(Y:X.A.units+66<cLine):NE X (compareOp .In) (FR X.K false):=by
 intro z s i H x y v u Q I e w h;cases y with
 |str b =>
  cases x with|str a=>refine eY z s i H _ _ v u Q I e w ⟨a,b,rfl,rfl,?_⟩;rw[<- XS];simpa[FR]using h|_=>exact Qc h
 |ref p =>
  rcases h with h|⟨d,Z,r,k,l,n,q⟩| ⟨o,g,q⟩
  rotate_left 2
  cases w;exact Aa Y I e g q;exact iY z s i H _ _ v u Q I e w h;obtain⟨B,j⟩:=r.reads I e;obtain⟨m,W⟩:=ZO n;rcases k with k|k;obtain⟨bs,f⟩:=k.reads I w;exact SeqAt.in_list_reads f j m l.1 (by omega) ⟨.bl _,H,I,rfl,q⟩;obtain⟨bs,f⟩:=k.reads I w;exact SeqAt.in_tuple_reads f j m l.1 (by omega) ⟨.bl _,H,I,rfl,q⟩
 |_=>exact Qc h
theorem j4(Y:X.A.units+66<cLine):NE X (compareOp .NotIn) (FR X.K true):=by
 intro z s i H x y v u Q I e w h;cases y with
 |str b =>
  cases x with|str a=>refine HP z s i H _ _ v u Q I e w ⟨a,b,rfl,rfl,?_⟩;rw[<- XS];simpa[FR]using h|_=>exact Qc h
 |ref p =>
  rcases h with h|⟨d,Z,r,k,l,n,q⟩| ⟨o,g,q⟩
  rotate_left 2
  cases w;exact CU Y I e g q;exact LP z s i H _ _ v u Q I e w h;obtain⟨B,j⟩:=r.reads I e;obtain⟨m,W⟩:=ZO n;rcases k with k|k;obtain⟨bs,f⟩:=k.reads I w;exact SeqAt.notIn_list_reads f j m l.1 (by omega) ⟨.bl _,H,I,rfl,q⟩;obtain⟨bs,f⟩:=k.reads I w;exact SeqAt.notIn_tuple_reads f j m l.1 (by omega) ⟨.bl _,H,I,rfl,q⟩
 |_=>exact Qc h
end
end
section
variable{X:Cx}
theorem iT:∀{bs:List Bool}{us:LW},oA (bs.map V.bl) us->∀(i:Nat) (v:Value),us[i]?=some v->∃b,bs[i]?=some b/\v=Value.bool b
 |[],_,.nil,i,v,h=>by simp at h|b::bs,_,.cons r t,0,v,h=>by simp at h;subst h;exact⟨b,by simp,r⟩|b::bs,_,.cons r t,i+1,v,h=>by obtain⟨c,y,x⟩:=iT (bs:=bs) t i v (by simpa using h);exact⟨c,by simpa using y,x⟩
theorem mY(bs:List Bool):(Qr bs.length).any (λi=>bs.getD i false)=bs.any id:=by
 rw[Q3,WE,WE];constructor;rintro⟨i,x,e⟩;have h:i<bs.length:=by simpa using x
 exact⟨bs[i],wk h,by simpa[QCQ,h]using e⟩;rintro⟨b,hb,e⟩;obtain⟨i,x,y⟩:=List.getElem_of_mem hb;exact⟨i,by simpa using x,by simp[QCQ,x,y];simpa using e⟩
def Jm(K:QA):LV->Hp->VK->Prop:=λh H Q=>match h with
 |[.ref a]=>∃bs:List Bool,AC K H a (bs.map V.bl)/\Q (.bl (bs.any id)) H|_=>False
theorem P6(l:X.calm=true):rC X (.builtin "any") (Jm X.K):=by
 intro k s Z H f W Q I r h
 match f,h with
 |[.ref a],⟨bs,hq,q⟩ =>
  obtain⟨u,rfl,j⟩:=kI r;cases j;obtain⟨x,w,p,C⟩:=I.list hq;have hl:=w.length;rw[QG]at hl;refine call_any_walk (QAX p.isList ?_);have y:a<s.heap.objs.size:=by obtain⟨o,n,e,_⟩:=p;exact QY e
  refine⟨s.heap.objs.size,_,_,_,_,_,λi=>bs.getD i false,rfl,Walks.list (A:=X.A.in1) (I.ok.hd l) s.heap.objs.size a (Qj y) x.toArray,⟨⟨_,QU _ rfl,rfl,rfl⟩,?_⟩,?_,?_⟩;obtain⟨o,n,e,c,d,sq⟩:=p;exact⟨o,QH _ e,c,n,sq⟩;intro i v B F G m z;obtain⟨b,hb,rfl⟩:=iT w i v (by simpa using m);refine wO ?_;have:bs.getD i false=b:=by simp[QCQ,hb]
  rw[<- this];exact z;intro E g hk;have Y:(Qr x.toArray.size).any (λi=>bs.getD i false)=bs.any id:=by rw[QN,<- hl,mY]
  rw[Y];exact⟨.bl _,H,I.kept (t':=g) (λb o e=>hk b o (by simp;exact Qj (QY e)) (QH _ e)),rfl,q⟩
def lm(K:QA):LV->Hp->VK->Prop:=λx H Q=>(∃z,x=[.str z]/\z.length<=sizeLine/\Q (.int z.length) H)∨∃a h,x=[.ref a]/\(AC K H a h∨ED K H a h)/\Q (.int h.length) H
theorem N6:rC X (.builtin "len") (lm X.K):=λx s y H z u Q I r h=>h.elim (NQ x s y H z u Q I r) (yJ x s y H z u Q I r)
def cV:V->Option Value
 | .ty n=>some (.type n)|.ref C=>some (.ref C)|_=>none
def Su(K:QA)(H:Hp)(x:V)(t:Value):Prop:=(∃a h,x=.ref a/\AC K H a h/\t=.type "list")∨∃a h,x=.ref a/\ED K H a h/\t=.type "tuple"
def Gg(K:QA):LV->Hp->VK->Prop:=λy H Q=>match y with
 |[x,c]=>∃t h b,(TyOf K H x t∨Su K H x t)/\cV c=some h/\QBC K t h=some b/\Q (.bl b) H|_=>False
theorem O6:rC X (.builtin "isinstance") (Gg X.K):=by
 intro m s Y H w Z Q I r h
 match w,h with
 |[x,c],⟨t,cv,b,ty,hc,hk,q⟩ =>
  obtain⟨u,k,rfl,f,v⟩:=ec r;have e:k=cv:=by
   cases c with|ty n=>have l:k=Value.type n:=v;have j:some (Value.type n)=some cv:=hc;rw[l];exact Qo j|ref C=>have l:k=Value.ref C:=v;have j:some (Value.ref C)=some cv:=hc;rw[l];exact Qo j|_=>cases hc
  subst e;rcases ty with ty|⟨a,w,rfl,i,rfl⟩| ⟨a,w,rfl,i,rfl⟩
  exact jZ I f ty hk λy=>⟨.bl b,H,I.tok y,rfl,q⟩
  cases f;obtain⟨g,p,⟨o,n,e,c,_,d⟩,_⟩:=I.list i;exact qI QAU I.kIn ⟨o,e,c⟩ hk (λz=>nomatch z) λy=>⟨.bl b,H,I.tok y,rfl,q⟩
  cases f;obtain⟨g,p,⟨o,e,c,n,d⟩,_⟩:=I.tuple i;exact qI QBb I.kIn ⟨o,e,c⟩ hk (λz=>nomatch z) λy=>⟨.bl b,H,I.tok y,rfl,q⟩
def nr(K:QA):V->Option Int->Option Int->Hp->VK->Prop:=λx h y H Q=>match x with
 | .str z=>z.length<=sizeLine/\Q (.str (wl z h y)) H|.ref a=>xm K (.ref a) h y H Q∨vm K (.ref a) h y H Q|_=>False
theorem Zg:Te X (nr X.K):=by
 intro y s m H x v E C Y B b Q I p W r e h;cases x with
 |str z =>
  obtain⟨t,rfl⟩:=p;obtain⟨J,q⟩:=h;refine⟨"str",_,F.slot_str_getitem.lookup,QCM _ _ _,?_⟩;have fin:∀l u:Option (Int×Tok),l.map (·.1)=Y->u.map (·.1)=B->s.heap.IsSlice b l u none->wpAny (model X.prog X.w) X.A (getItem (.str z t) (.ref b)) (EP X y m Q) X.xe s:=λl u M L Z=>by refine wpAny_getItem_str_slice Z rfl ?_;subst M L;exact post_val_or_str ⟨QX (Txt.slice_le z _ _) J,λN k=>⟨.str (wl z _ _),H,I.tok k,⟨_,rfl⟩,q⟩⟩
  obtain⟨o,f,hc,g⟩:=W;cases r with
  |none =>
   cases e with|none=>exact fin none none rfl rfl ⟨o,f,hc,g⟩|int j n=>exact fin none (some (j,n)) rfl rfl ⟨o,f,hc,g⟩
  |int i G =>
   cases e with|none=>exact fin (some (i,G)) none rfl rfl ⟨o,f,hc,g⟩|int j n=>exact fin (some (i,G)) (some (j,n)) rfl rfl ⟨o,f,hc,g⟩
 |ref a=>rcases h with h|h;exact B8 y s m H _ v E C Y B b Q I p W r e h;exact Yg y s m H _ v E C Y B b Q I p W r e h
 |_=>exact Qc h
end
section
variable{h h':Heap}{j:Addr}{z:Src}{k:Nat}{xs:Array Value}
inductive Src where
 |l (a:Addr)|t (a:Addr)
def Src.adr:Src->Addr
 | .l a=>a|.t a=>a
def AD(h:Heap)(j:Addr):Src->Nat->Prop
 | .l a,k=>h.IsListIter j a k|.t a,k=>h.IsTupleIter j a k
def MB(h:Heap):Src->Array Value->Prop
 | .l a,xs=>h.IsList a xs|.t a,xs=>h.IsTuple a xs
theorem AD.keep(x:AD h j z k)(e:∀o,h.get? j=some o->h'.get? j=some o):AD h' j z k:=by
 cases z with|l a=>obtain⟨o,u,y⟩:=x;exact⟨o,e o u,y⟩|t a=>obtain⟨o,u,y⟩:=x;exact⟨o,e o u,y⟩
theorem AD.obj(x:AD h j z k):∃o,h.get? j=some o/\∀v,o.data≠.cell v:=by
 cases z with|l a=>obtain⟨o,u,w,y⟩:=x;exact⟨o,u,λv q=>by rw[y]at q;cases q⟩|t a=>obtain⟨o,u,w,y⟩:=x;exact⟨o,u,λv q=>by rw[y]at q;cases q⟩
theorem MB.ext{b:Addr}(x:MB h z xs)(e:Ww b h h')(n:z.adr≠b):MB h' z xs:=by
 cases z with|l a=>exact QCE.extBut x e n|t a=>exact Heap.IsTuple.extBut x e n
theorem MB.lt(x:MB h z xs):z.adr<h.objs.size:=by
 cases z with|l a=>obtain⟨o,y,_⟩:=x;exact QY y|t a=>obtain⟨o,y,_⟩:=x;exact QY y
theorem AD.lt(x:AD h j z k):j<h.objs.size:=by obtain⟨o,y,_⟩:=x.obj;exact QY y
end
section
variable{prog:Program}{w:World}{A:Around}{E:pC}{s:Shared}
section
variable{j t:Addr}{k:Nat}{xs:Array Value}{x:Value}{Q:pC}{z:Src}
theorem Fh(p:s.heap.IsTupleIter j t k)(pt:s.heap.IsTuple t xs)(a:xs[k]?=some x)
  (q:∀h',h'.IsTupleIter j t (k+1)->qU j s.heap h'->Q x { s with heap:=h' }):wpAny (model prog w) A (qS (.ref j)) Q E s:=by
 obtain⟨ob,y,b,h⟩:=id p;obtain⟨e,v,_,f,u⟩:=pt;unfold qS;refine QC (qN (name:=QS "__next__") p.typeIs qb (qJ qb p.typeIs WN ?_ (WI _)));show wpAny _ _ (field (.ref j) 0 >>= _) _ _ _;refine QC (wK y h (x:=.ref t) rfl ?_);show wpAny _ _ (if(Value.ref t==Value.none)=true then _ else _) _ _ _;rw[if_neg (show ¬ (Value.ref t==Value.none)=true from QF)];show wpAny _ _ (field (.ref j) 1 >>= _) _ _ _;refine QC (wK y h (x:=.int k 0) rfl ?_);show wpAny _ _ (seqItems? (.ref t) >>= _) _ _ _;refine QC (QBA v u ?_);simp only[qM,a];refine QC (QAO y h (by simp) (QK ⟨x,rfl,QK (q _ ?_ (Q4 ..))⟩));refine⟨_,ww _ y (QAz (WO h _)),(QBp ..).trans b,?_⟩;rw[WO h];simp[rawInt]
theorem BU(u:A.handled=none)(p:s.heap.IsTupleIter j t k)(pt:s.heap.IsTuple t xs)(f:xs[k]?=none)
  (q:∀h' e,Ww j s.heap h'->(∃o,h'.get? e=some o/\o.cls=.type "StopIteration")->E (.ref e) { s with heap:=h' }):wpAny (model prog w) A (qS (.ref j)) Q E s:=by
 obtain⟨ob,y,l,h⟩:=id p;obtain⟨g,b,_,i,v⟩:=pt;unfold qS;refine QC (qN (name:=QS "__next__") p.typeIs qb (qJ qb p.typeIs WN ?_ (WI _)));show wpAny _ _ (field (.ref j) 0 >>= _) _ _ _;refine QC (wK y h (x:=.ref t) rfl ?_);show wpAny _ _ (if(Value.ref t==Value.none)=true then _ else _) _ _ _;rw[if_neg (show ¬ (Value.ref t==Value.none)=true from QF)];show wpAny _ _ (field (.ref j) 1 >>= _) _ _ _;refine QC (wK y h (x:=.int k 0) rfl ?_);show wpAny _ _ (seqItems? (.ref t) >>= _) _ _ _;refine QC (QBA b v ?_);simp only[qM,f];refine QC (QBq (QC (QAO y h (by simp) ?_)));refine QC (m:=newExc (.type "StopIteration") []) ?_;simp only[newExc,newTuple];refine QC (Qw ?made (by size_fits));refine QC (m:=firstArgMember _ _) (QCF (a:=Value.none) (by first|rfl | (rw[firstArgMember];rfl)) ?arg);refine Qw ?made2 (by size_fits);simp only[raiseNew];refine QC (QBe ?_);first|rw[show A.in1.handled=none from u]|rw[u]
 refine QC (QK (QCG (q _ _ (((Q4 ..).extBut.push _).push _) ⟨_,QU _ rfl,rfl⟩)))
theorem ca(p:AD s.heap j z k)(pt:MB s.heap z xs)(h:xs[k]?=some x)
  (q:∀h',AD h' j z (k+1)->qU j s.heap h'->Q x { s with heap:=h' }):wpAny (model prog w) A (qS (.ref j)) Q E s:=by
 cases z with|l a=>exact wpAny_nextOf_list_item p pt h q|t a=>exact Fh p pt h q
theorem C4(y:A.handled=none)(p:AD s.heap j z k)(pt:MB s.heap z xs)(h:xs[k]?=none)
  (q:∀h' e,Ww j s.heap h'->(∃o,h'.get? e=some o/\o.cls=.type "StopIteration")->E (.ref e) { s with heap:=h' }):wpAny (model prog w) A (qS (.ref j)) Q E s:=by
 cases z with|l a=>exact wpAny_nextOf_list_end y p pt h q|t a=>exact BU y p pt h q
def Src.it:Src->Obj
 | .l a=>{ cls:=.type "list_iterator",data:=.fields #[.ref a,.int 0 0] }|.t a=>{ cls:=.type "tuple_iterator",data:=.fields #[.ref a,.int 0 0] }
theorem tR(pt:MB s.heap z xs)(q:Q (.ref s.heap.objs.size) { s with heap:=s.heap.push z.it }):wpAny (model prog w) A (pyIter (.ref z.adr)) Q E s:=by
 cases z with|l a=>exact QAX pt q|t a=>exact QBf pt q
theorem Z8(h:Heap)(z:Src):AD (h.push z.it) h.objs.size z 0:=by
 cases z with|l a=>exact⟨_,QU _ rfl,rfl,rfl⟩|t a=>exact⟨_,QU _ rfl,rfl,rfl⟩
end
end
section
variable{prog:Program}{w:World}{A:Around}{E:pC}{s:Shared}
theorem Xg{h h':Heap}{b:Addr}{z:Src}{xs:Array Value}(x:MB h z xs)(e:qU b h h')(n:z.adr≠b):MB h' z xs:=x.ext e.extBut n
end
section
variable{X:Cx}{w:PB}{σ:St}{H:Hp}{s:Shared}{h':Heap}
theorem _root_.L2.Inv.turnedL{t':Nat}{ch:List Addr}(I:Inv X w σ H s)(k:∀b o,b∉ch->s.heap.get? b=some o->h'.get? b=some o)(f:∀b∈ch,pJ X w H b):Inv X w σ H { s with heap:=h',toks:=t' }:=by
 have h:∀b u,H b=some u->b∉ch:=λb u e z=>by rw[(f b z).1]at e;cases e
 have a:X.env.locals∉ch:=λz=>(f _ z).2.1 rfl;refine I.step (g':=s.gens) (d':=s.drawn) (ch:=ch) (λb hb=>?_) (λb o _ _ hc e _=>k b o hc e) (λb o _ _ hc e _=>⟨o.slots,k b o hc e⟩) (λ_ _ _ _ n=>n)
  (λb o hc e=>⟨o,k b o hc e⟩) (λ_ _ e=>e) (λ_ _ _ e=>e) (λ_ _ e=>e) (λm y=>?_) (λb u e=>?_) I.bare
 obtain⟨_,l,_,j,i,g⟩:=f b hb;exact⟨j,l,i,g⟩;obtain⟨o,p,Y,x,r⟩:=y;exact⟨o,p,Y,k _ o a x,r⟩;refine(I.hok b u e).stay (λc v hc q=>k c v ?_ q) (λ_ q=>q) λ_ _ q=>q;rcases hc with z|z;rw[z];exact h b u e;exact h c _ z
def MZ(K:QA)(H:Hp):Src->LV->Prop
 | .l a,xs=>AC K H a xs|.t a,xs=>ED K H a xs
theorem _root_.L2.Inv.src(I:Inv X w σ H s){z:Src}{xs:LV}(h:MZ X.K H z xs):∃its:LW,oA xs its/\MB s.heap z its.toArray/\xs.length<=sizeLine:=by
 cases z with|l a=>obtain⟨its,x,p,y⟩:=I.list h;exact⟨its,x,p.isList,y⟩|t a=>obtain⟨its,x,p,y⟩:=I.tuple h;exact⟨its,x,p,y⟩
theorem _root_.L2.Inv.src_inj(I:Inv X w σ H s){z:Src}{xs x:LV}(h:MZ X.K H z xs)(h':MZ X.K H z x):xs=x:=by
 cases z with|l a=>exact I.list_inj h h'|t a=>exact I.tuple_inj h h'
theorem _root_.L2.Inv.pair{p:Addr}{a b:Value}{x y:V}{t':Nat}(I:Inv X w σ H s)(k:∀b u,s.heap.get? b=some u->h'.get? b=some u)(v:s.heap.objs.size<=p)(e:h'.get? p=some { cls:=.type "tuple",data:=.seq #[a,b] })(z:iA x a)(h:iA y b) :
  Inv X w σ (CA H p (.tup [x,y])) { s with heap:=h',toks:=t' } :=
 I.laid k v ⟨by rw[Q7];show 2<=_;decide,[a,b],.cons z (.cons h .nil),_,e,rfl,_,rfl⟩
end
section
variable{prog:Program}{w:World}{A:Around}{E:pC}{s:Shared}
section
variable{it d:Addr}{z:Obj}{es:Array DictEntry}{i ep:Nat}{c u:Value}{Q:Option Value->Shared->Prop}
theorem sD:Wr "dict_itemiterator"=true:=by decide +kernel
theorem MJ(l:List String)(h:(l.contains "dict_itemiterator" || l.contains "object")=false):(l.any λt=>[Value.type "dict_itemiterator",Value.type "object"].contains (.type t))=false:=by
 rw[QAT];intro t x;rw[Bool.or_eq_false_iff]at h;have v:t≠"dict_itemiterator":=λe=>by subst e;rw[Qu.mpr x]at h;cases h.1
 have y:t≠"object":=λe=>by subst e;rw[Qu.mpr x]at h;cases h.2
 simp[v,y]
theorem B4{e:DictEntry}
  (m:IsItemIter s.heap it d i es.size ep c u) (X:s.heap.get? d=some z) (B:z.data=.dict es ep) (I:es[i]?=some e)
  (q:∀h',IsItemIterOut h' it d (i+1) es.size ep e.key e.val s.heap.objs.size->h'.get? s.heap.objs.size=some { cls:=.type "tuple",data:=.seq #[e.key,e.val] } ->
   h'.objs.size=s.heap.objs.size+1->(∀b o,b≠it->s.heap.get? b=some o->h'.get? b=some o)->Q (some (.ref s.heap.objs.size)) { s with heap:=h' }) :
  wpAny (model prog w) A (pyNext (.ref it)) Q E s:=by
 have F:s.TypeIs (.ref it) "dict_itemiterator":=⟨_,m,rfl⟩
 show wpAny _ _ (bind _ _) _ _ _;refine QC (Ws (qN F qT (qJ qT F Wf ?_ (WY _))));show wpAny _ _ (bind _ _) _ _ _;refine QC (QK (QC (QC (QC (qp F (QK (QC (QAP m rfl ?_))))))));rw[sD];show wpAny _ _ (if(Value.ref d==Value.none)=true then _ else _) _ _ _;rw[if_neg (show ¬ (Value.ref d==Value.none)=true from QF)];show wpAny _ _ (wL (.ref d) >>= _) _ _ _;refine QC (QK (QC (q0 X B ?_)));rw[if_neg (show ¬ (((es.size:Nat):Int) != ((es.size:Nat):Int))=true by simp)];refine QC (QK (QC (wy X B ?_)));rw[if_neg (show ¬ (((ep:Nat):Int) != ((ep:Nat):Int))=true by simp)];refine QK ?_;have J:(if((i:Nat):Int)<0 then none else es[((i:Nat):Int).toNat]?)=some e:=by rw[if_neg (by omega),qM];exact I
 simp only[J];refine QC ?_;show wpAny _ _ (typeNameOfWhole (.ref it) >>= _) _ _ _;refine QC (qp F (QK (QC (WV F ?_))));rw[sD,if_pos rfl];rw[show(List.any _ λt=>[Value.type "dict_itemiterator",Value.type "object"].contains (.type t))=false from MJ _ (by decide +kernel),if_neg QF];refine QC (wF m (by simp) λa h r=>?_);have h:IsItemIter a it d (i+1) es.size ep c u:=h;refine QC (qi ?_);have C:({ s with heap:=a }:Shared).TypeIs (.ref it) "dict_itemiterator":=⟨_,h,rfl⟩
 show wpAny _ _ (Builtin.Dict_items.isOneOf (.ref it) _ >>= _) _ _ _;refine QC (WV C ?_);rw[MJ _ (by decide +kernel),if_neg QF];refine QC (WV C ?_);rw[MJ _ (by decide +kernel),if_neg QF];show wpAny _ _ (newTuple [e.key,e.val] >>= _) _ _ _;refine QC (QBE ?_);have p:a.objs.size=s.heap.objs.size:=r.1;have y:IsItemIter (a.push { cls:=.type "tuple",data:=.seq #[e.key,e.val] }) it d (i+1) es.size ep c u:=QH _ h;show wpAny _ _ (Builtin.Dict_items.ownedTupleIsFree (.ref it) >>= _) _ _ _;refine QC ?_;show wpAny _ _ (field (.ref it) 0 >>= _) _ _ _;refine QC (wK y rfl (x:=.none) rfl (QK ?_));rw[if_pos rfl];show wpAny _ _ (field (.ref it) 6 >>= _) _ _ _;refine QC (wK y rfl (x:=c) rfl ?_);refine QC (wK y rfl (x:=u) rfl ?_);refine QC (wF y (by simp) λN K l=>?_);refine QC (wF K (by simp) λM W j=>?_);refine QC (wF W (by simp) λL Z g=>?_);refine QC (wF Z (by simp) λG Y f=>?_);refine QC (wpAny_letGo (QK ?_));refine QK ⟨_,rfl,QK ?_⟩;have k:it<a.objs.size:=QY h;have pt:G.get? a.objs.size=some { cls:=.type "tuple",data:=.seq #[e.key,e.val] } :=
  f.extBut _ _ (wt k) (g.extBut _ _ (wt k) (j.extBut _ _ (wt k) (l.extBut _ _ (wt k) (QU _ rfl))))
 have n:G.objs.size=a.objs.size+1:=by rw[f.1,g.1,j.1,l.1,QAL]
 have v:IsItemIterOut G it d (i+1) es.size ep e.key e.val a.objs.size:=Y;rw[p]at pt n v;have:=q G v pt n λb o hb x=>f.extBut _ _ hb (g.extBut _ _ hb (j.extBut _ _ hb (l.extBut _ _ hb (QH _ (r.extBut _ _ hb x)))));show Q (some (.ref a.objs.size)) _;rw[p];exact this
theorem PP(f:A.handled=none)
  (h:IsItemIter s.heap it d i es.size ep c u) (x:s.heap.get? d=some z) (y:z.data=.dict es ep) (g:es[i]?=none)
  (q:∀h',Ww it s.heap h'->Q none { s with heap:=h' }) :
  wpAny (model prog w) A (pyNext (.ref it)) Q E s:=by
 have v:s.TypeIs (.ref it) "dict_itemiterator":=⟨_,h,rfl⟩
 show wpAny _ _ (bind _ _) _ _ _;refine QC (Ws (qN v qT (qJ qT v Wf ?_ (WY _))));show wpAny _ _ (bind _ _) _ _ _;refine QC (QK (QC (QC (QC (qp v (QK (QC (QAP h rfl ?_))))))));rw[sD];show wpAny _ _ (if(Value.ref d==Value.none)=true then _ else _) _ _ _;rw[if_neg (show ¬ (Value.ref d==Value.none)=true from QF)];show wpAny _ _ (wL (.ref d) >>= _) _ _ _;refine QC (QK (QC (q0 x y ?_)));rw[if_neg (show ¬ (((es.size:Nat):Int) != ((es.size:Nat):Int))=true by simp)];refine QC (QK (QC (wy x y ?_)));rw[if_neg (show ¬ (((ep:Nat):Int) != ((ep:Nat):Int))=true by simp)];refine QK ?_;have j:(if((i:Nat):Int)<0 then none else es[((i:Nat):Int).toNat]?)=none:=by rw[if_neg (by omega),qM];exact g
 simp only[j];refine QC ?_;show wpAny _ _ (typeNameOfWhole (.ref it) >>= _) _ _ _;refine QC (qp v (QK ?_));rw[sD,if_pos rfl];refine QC (wF h (by simp) λl e k=>?_);refine QC (m:=newExc (.type "StopIteration") []) ?_;simp only[newExc,newTuple];refine QC (Qw ?made (by size_fits));refine QC (m:=firstArgMember _ _) (QCF (a:=Value.none) (by first|rfl | (rw[firstArgMember];rfl)) ?arg);refine Qw ?made2 (by size_fits);simp only[raiseNew];refine QC (QBe ?_);first|rw[show A.in1.handled=none from f]|rw[f]
 refine QC (QK (QCG ?_));refine QC (QAk (T:="StopIteration") (b:=true) ⟨_,QU _ rfl,rfl⟩ (by kernel_rfl) ?_);rw[if_pos rfl];exact QK (q _ ((k.extBut.push _).push _))
theorem N5{v:Addr}{Q:pC}(hv:s.heap.IsItemsView v d)(h:s.heap.get? d=some z)(x:z.data=.dict es ep)
  (q:Q (.ref s.heap.objs.size) { s with heap:=s.heap.push { cls:=.type "dict_itemiterator",data:=.fields #[.none,.bool false,.ref d,.int 0 0,.int es.size 0,.int ep 0,.none,.none] } }) :
  wpAny (model prog w) A (pyIter (.ref v)) Q E s:=by
 have a:=Heap.IsItemsView.typeIs hv;obtain⟨u,y,b,k⟩:=id hv;refine QBr a QAp (qJ QAp a F.entry_dict_items_iter ?_ (F.args_dict_items_iter_1 _));show wpAny _ _ (bind _ _) _ _ _;refine QC (QK (QC ?_));show wpAny _ _ (bind _ _) _ _ _;refine QC (wK y k rfl (QK (QC ?_)));show wpAny _ _ (bind _ _) _ _ _;refine QC (q0 h x (QC (wy h x ?_)));simp only[sD,if_true];refine Qw (QK ⟨_,rfl,"dict_itemiterator",_,⟨_,QU _ rfl,rfl⟩,qT.lookup,q⟩) (show _<=sizeLine+2 by simp[Builtin.Dict_items.ownedTupleFields,Q7])
theorem HV{Q:pC}(h:s.heap.get? d=some z)(x:z.cls=.type "dict")(v:(d==sysModules)=false)
  (q:Q (.ref s.heap.objs.size) { s with heap:=s.heap.push { cls:=.type "dict_items",data:=.fields #[.ref d] } }):wpAny (model prog w) A (call (.builtin "dict.items") [.ref d]) Q E s:=by
 have y:s.TypeIs (.ref d) "dict":=⟨_,h,x⟩
 refine qJ F.slot_dict_items y F.entry_dict_items ?_ (F.args_dict_items_1 _);show wpAny _ _ (bind _ _) _ _ _;refine QC ?_;show wpAny _ _ (bind _ _) _ _ _;refine QC (Wg y ?_);refine QK ?_;show wpAny _ _ ((if(d==sysModules)=true then _ else _) >>= _) _ _ _;rw[v,if_neg QF];exact QC (QK (QC (Qw (QK ⟨_,rfl,q⟩) (show _<=sizeLine+2 by simp[Q7]))))
theorem RX{X:Type}[DecidableEq X]{h:HeapKind prog w X}{d a:Addr}{xs:List (X×Addr×Value)}{k:X}{v:Value}{Q:pC}(K:h.room A)(f:h.is s.heap k a)(C:s.heap.DictOfH h d xs)(hsz:xs.length<=sizeLine)
  (G:∀p,atKey xs k=some p->Q p.2 { s with toks:=s.toks+h.draws k })
  (F:atKey xs k=none->∀h',h'.DictOfH h d (storedH xs k a v)->qU d s.heap h'->Q v { s with heap:=h',toks:=s.toks+h.draws k }) :
  wpAny (model prog w) A (dictSetDefault d (.ref a) v) Q E s:=by
 obtain⟨o,es,ep,m,hc,l,Y,r,Z⟩:=id C;have I:es.size=xs.length:=by have:=congrArg qt Y;simpa using this
 unfold dictSetDefault;refine qi (QC (h.pyHash K f (QC (wpAny_dictFind_heap K f m l Y r Z (λq=>?_) λj p B=>?_))));have b:=atKey_none_of_get q;have n:=not_mem_keys_of_get q;refine QC (QBq (QC (wpAny_updateDictKeys m l (QK (F b _ ?_ (Q4 ..))) (by omega) (by simp))));refine⟨_,_,ep+1,ww _ m (Obj.isFreed_of_dict (QA7 l _)),Obj.ExactDict.mapDictKeys hc _,QA7 l _,?_,?_,?_⟩;rw[QCH b];simp[Y,entryOfKey];rw[QCH b];intro x g;rcases Qf.mp g with g|g;exact h.keeps (r x g) m l (Q4 ..);rw[QJ.mp g];exact h.keeps f m l (Q4 ..);rw[QCH b,QR];exact qV.mpr ⟨Z,by simp,λx g y W e=>by rw[QV,wv,QJ]at W;rw[e,W]at g;exact n g⟩;have b:=atKey_of_get Z B;have J:es[j]?=some (entryOfKey h (k,p)):=by
  have:es.toList[j]?=some (entryOfKey h (k,p)):=by rw[Y,Qd,B];rfl
  simpa using this
 refine QC (q0 m l ?_);rw[J];exact QC (QBq (QK (G p b)))
theorem eT{y:Type}[DecidableEq y]{h:HeapKind prog w y}{d a:Addr}{xs:List (y×Addr×Value)}{k:y}{v:Value}{Q:pC}(f:h.room A.in1)(x:h.is s.heap k a)(b:s.heap.DictOfH h d xs)(hsz:xs.length<=sizeLine)(l:(d==sysModules)=false)
  (n:∀p,atKey xs k=some p->Q p.2 { s with toks:=s.toks+h.draws k })
  (m:atKey xs k=none->∀h',h'.DictOfH h d (storedH xs k a v)->qU d s.heap h'->Q v { s with heap:=h',toks:=s.toks+h.draws k }) :
  wpAny (model prog w) A (call (.builtin "dict.setdefault") [.ref d,.ref a,v]) Q E s:=by
 have e:s.TypeIs (.ref d) "dict":=Heap.DictOfH.typeIs b;refine qJ F.slot_dict_setdefault e F.entry_dict_setdefault ?_ (F.args_dict_setdefault_3 _ _ _);show wpAny _ _ (bind _ _) _ _ _;refine QC ?_;show wpAny _ _ (bind _ _) _ _ _;refine QC (Wg e ?_);refine QK ?_;show wpAny _ _ (if(d==sysModules)=true then _ else _) _ _ _;rw[l,if_neg QF];exact QC (RX f x b hsz (λp g=>QK ⟨_,rfl,n p g⟩) λj h' q o=>QK ⟨_,rfl,m j h' q o⟩)
end
end
def yL(K:QA):V->LV->Hp->VK->Prop:=λx z H Q=>∃a b v w h k,x=.ref a/\z=[.ref b,v]/\H a=some (.dT w h)/\XG K H h/\yO K H b k/\h.length<sizeLine /\
   (∀u,zH h k=some u->Q u H)/\(zH h k=none->∀y,Q v (CA H a (.dT y (EL h k b v))))
theorem GY{X:Cx}(R:X.A.units+66<cLine):v8 X "dict.setdefault" (yL X.K):=by
 intro m s L H x N v P Q I o r h;obtain⟨a,b,y,ep,f,k,rfl,rfl,e,hk,F,l,Z,Y⟩:=h;cases o;obtain⟨u,O,rfl,q,g⟩:=ec r;cases q;obtain⟨W,n,M,w,G⟩:=BK I e hk;have hl:(EL f k b y).length<=sizeLine:=by have:=rS f k b y;omega
 refine eT (YI (by omega)) (eS I F) G (by rw[<- qH w];exact W) n (λp C=>?_) λE S j B=>?_;have z:=w.val k;rw[C]at z;cases ev:zH f k with|none=>rw[ev]at z;exact(show False from z).elim|some u=>rw[ev]at z;exact⟨u,H,I.tok _,z,Z u ev⟩
 have z:=w.val k;rw[E]at z;cases ev:zH f k with|some u=>rw[ev]at z;exact(show False from z).elim|none=>obtain⟨i,J⟩:=PM (t':=_) I (by rw[e];exact True.intro) n hl (w.put k b g) j B;exact⟨y,_,J,g,Y ev i⟩
noncomputable def Lv(ep n:Nat)(a:Addr):It :=
  ⟨λi H=>∃h p,H a=some (.dT ep h)/\h.length=n/\h[i]?=some p,
   λi H v x=>∃q p,H q=none/\v=.ref q/\x=CA H q (.tup [.ref p.2.1,p.2.2])/\∀h,H a=some (.dT ep h)->h[i]?=some p,
   λi H=>∃h,H a=some (.dT ep h)/\h.length=n/\n<=i⟩
theorem VH{α h:Type}{R:α->h->Prop}:∀{l:List α}{m:List h}{i:Nat}{x:α},Paired R l m->l[i]?=some x->∃y,m[i]?=some y/\R x y
 |_,_,i,_,.nil,e=>by simp at e|_,_,0,_,.cons r _,e=>by simp at e;subst e;exact⟨_,rfl,r⟩|_,_,i+1,x,.cons _ t,e=>by obtain⟨y,u,z⟩:=VH (i:=i) (x:=x) t (by simpa using e);exact⟨y,by simpa using u,z⟩
theorem gU{P:Program}{w:World}{K:QA}{es:List Expr}{kk:Nat}{pp:Pos}{a it:Addr}{n ep:Nat}:Turn0 P w K (.Tuple es kk pp) (Lv ep n a) [it] it (λi h=>∃ok Y,IsItemIter h it a i n ep ok Y) where
 mem:=by simp
 obj:=λi h st b hb=>by obtain⟨ok,Y,st⟩:=st;rw[QJ]at hb;subst hb;exact⟨_,st,λv q=>by cases(show Data.fields _=Data.cell v from q)⟩
 keep:=λi h h' st k=>by obtain⟨ok,Y,st⟩:=st;exact⟨ok,Y,k it (by simp) _ st⟩
 item:=by
  intro X J C L hc i Z s σ H E I A st G;subst J C L;obtain⟨j,p,e,F,ep⟩:=G;obtain⟨ok,Y,st⟩:=st;obtain⟨z,y,xs,r,o,u,N,h2,M,B,h5⟩:=(show FA X.prog X.w H s.heap a (.dT _ j) from I.hok a _ e)
  have l:u.size=n:=by have:=congrArg qt B;rw[QG,Qs]at this;rw[this,<- qH r,F]
  obtain⟨q,hq,rq⟩:=VH r ep;have he:u[i]?=some (entryOfKey (yF X.prog X.w) q):=by
   have:u.toList[i]?=some (entryOfKey (yF X.prog X.w) q):=by rw[B,Qd,hq];rfl
   simpa using this
  subst l;refine B4 st N M he λh' b1 b3 b4 b5=>⟨_,rfl,wpAny_letOwnedTupleGo_items b1 λm c1 sb=>?_⟩
  have hp:=I.hok.fresh (QZ s.heap.objs.size);have W:it<s.heap.objs.size:=QY st;have g:∀b∈[it],b<s.heap.objs.size:=λb hb=>by rw[QJ]at hb;subst hb;exact W
  have kept:∀b o,b∉[it]->s.heap.get? b=some o->m.get? b=some o:=λb o hb q=>by rw[QJ]at hb;exact(sb.2 b hb).trans (b5 b o hb q)
  have f:m.get? s.heap.objs.size=some { cls:=.type "tuple",data:=.seq #[.ref q.2.1,q.2.2] }:=(sb.2 _ (wt W)).trans b3;have I1:=I.pair (x:=.ref p.2.1) (y:=p.2.2) (h':=s.heap.push { cls:=.type "tuple",data:=.seq #[.ref q.2.1,q.2.2] }) (t':=s.toks) (λb o e=>QH _ e) (QZ _) (QU _ rfl) (show Value.ref q.2.1=Value.ref p.2.1 by rw[rq.2.1]) rq.2.2;have I2:=I1.turnedL (h':=m) (t':=s.toks) (ch:=[it]) (λb o hb e=>by
   rcases QA8 e with⟨q1,q2⟩| q;subst q1 q2;exact f;exact kept b o hb q) λb hb=>by
   obtain⟨f0,S,f2,R,Q,O⟩:=A b hb;exact⟨by rw[vA (Qj (g b hb))];exact f0,S,f2,R,Q,O⟩
  refine⟨.ref s.heap.objs.size,_,I2,rfl,⟨s.heap.objs.size,p,hp,rfl,rfl,λkvs' g1=>?_⟩,⟨_,_,c1⟩,λb hb=>?_⟩;rw[e]at g1;cases g1;exact ep;rw[vA (Qj (g b hb))];exact(A b hb).1
 done:=by
  intro X J C L hc i Z s σ H E I A st G;subst J C L;obtain⟨j,e,F,ep⟩:=G;obtain⟨ok,Y,st⟩:=st;obtain⟨z,y,xs,r,o,u,N,h2,M,B,h5⟩:=(show FA X.prog X.w H s.heap a (.dT _ j) from I.hok a _ e)
  have l:u.size=n:=by have:=congrArg qt B;rw[QG,Qs]at this;rw[this,<- qH r,F]
  subst l;obtain⟨f0,S,f2,R,Q,O⟩:=A it (by simp);exact PP (I.ok.hd hc) st N M (QAq ep) λh' eb=>⟨rfl,I.turned (t':=s.toks) (λb o hb e=>eb b o hb e) f0 S R Q O⟩
section
variable{prog:Program}{w:World}{A:Around}{E:pC}{s:Shared}
section
variable{d it:Addr}{h:Obj}{es:Array DictEntry}{ep i:Nat}{Q:Option Value->Shared->Prop}
theorem MG:Wr "dict_keyiterator"=false:=by decide +kernel
theorem Ra{Q:pC}(u:(d==sysModules)=false)(x:s.heap.get? d=some h)(hc:h.cls=.type "dict")(y:h.data=.dict es ep)
  (q:Q (.ref s.heap.objs.size) { s with heap:=s.heap.push { cls:=.type "dict_keyiterator",data:=.fields #[.ref d,.int 0 0,.int es.size 0,.int ep 0] } }) :
  wpAny (model prog w) A (pyIter (.ref d)) Q E s:=by
 have z:s.TypeIs (.ref d) "dict":=⟨_,x,hc⟩
 refine QBr z QB9 (qJ QB9 z F.entry_dict_iter ?body (F.args_dict_iter_1 _))
 case body =>
  show wpAny _ _ (bind _ _) _ _ _;refine QC ?sl
  case sl =>
   show wpAny _ _ (bind _ _) _ _ _;refine QC (Wg z (QK ?go))
   case go =>
    have e:Wh d=pure PUnit.unit:=by unfold Wh;rw[u];rfl
    show wpAny _ _ (Wh d >>= _) _ _ _;rw[e];refine QC (QK (QC (q0 x y (QC (wy x y (QC (Qw (QK ⟨_,rfl,"dict_keyiterator",_,⟨_,QU _ rfl,rfl⟩,qW.lookup,?_⟩))))))));simpa[rawInt]using q
theorem ba{e:DictEntry}
  (u:s.heap.IsKeyIter it d i es.size ep) (z:s.heap.get? d=some h) (v:h.data=.dict es ep) (f:es[i]?=some e)
  (q:∀h',h'.IsKeyIter it d (i+1) es.size ep->qU it s.heap h'->Q (some e.key) { s with heap:=h' }) :
  wpAny (model prog w) A (pyNext (.ref it)) Q E s:=by
 have k:=u.typeIs;obtain⟨j,a,b,x⟩:=id u;show wpAny _ _ (bind _ _) _ _ _;refine QC (Ws (qN k qW (qJ qW k Wn ?_ (Wi _))));show wpAny _ _ (bind _ _) _ _ _;refine QC (QK (QC (QC (QC (qu k (QK (QC (QAP a x ?_))))))));rw[MG];show wpAny _ _ (if(Value.ref d==Value.none)=true then _ else _) _ _ _;rw[if_neg (show ¬ (Value.ref d==Value.none)=true from QF)];show wpAny _ _ (wL (.ref d) >>= _) _ _ _;refine QC (QK (QC (q0 z v ?_)));rw[if_neg (show ¬ (((es.size:Nat):Int) != ((es.size:Nat):Int))=true by simp)];refine QC (QK (QC (wy z v ?_)));rw[if_neg (show ¬ (((ep:Nat):Int) != ((ep:Nat):Int))=true by simp)];refine QK ?_;have g:(if((i:Nat):Int)<0 then none else es[((i:Nat):Int).toNat]?)=some e:=by rw[if_neg (by omega),qM];exact f
 simp only[g];refine QC ?_;show wpAny _ _ (typeNameOfWhole (.ref it) >>= _) _ _ _;refine QC (qu k (QK (QC (QA0 k ?_))));rw[MG];show wpAny _ _ (setField (.ref it) 1 _ >>= _) _ _ _;refine QC (QAO a x (by simp) ?_);have y:(s.heap.update it (Obj.mapFields (·.setIfInBounds 1 (rawInt ((i:Int)+1))))).IsKeyIter it d (i+1) es.size ep :=
  ⟨_,ww _ a (QAz (WO x _)),(QBp ..).trans b,by rw[WO x];simp[rawInt]⟩
 refine QC (qi (QC (QA0 (s:={ s with heap:=s.heap.update it (Obj.mapFields (·.setIfInBounds 1 (rawInt ((i:Int)+1)))) }) y.typeIs ?_)));show wpAny _ _ (pure e.key) _ _ _;exact QK (QK ⟨_,rfl,QK (q _ y (Q4 ..))⟩)
theorem PR(e:A.handled=none)
  (y:s.heap.IsKeyIter it d i es.size ep) (x:s.heap.get? d=some h) (u:h.data=.dict es ep) (f:es[i]?=none)
  (q:∀h',Ww it s.heap h'->Q none { s with heap:=h' }) :
  wpAny (model prog w) A (pyNext (.ref it)) Q E s:=by
 have v:=y.typeIs;obtain⟨l,k,g,z⟩:=id y;show wpAny _ _ (bind _ _) _ _ _;refine QC (Ws (qN v qW (qJ qW v Wn ?_ (Wi _))));show wpAny _ _ (bind _ _) _ _ _;refine QC (QK (QC (QC (QC (qu v (QK (QC (QAP k z ?_))))))));rw[MG];show wpAny _ _ (if(Value.ref d==Value.none)=true then _ else _) _ _ _;rw[if_neg (show ¬ (Value.ref d==Value.none)=true from QF)];show wpAny _ _ (wL (.ref d) >>= _) _ _ _;refine QC (QK (QC (q0 x u ?_)));rw[if_neg (show ¬ (((es.size:Nat):Int) != ((es.size:Nat):Int))=true by simp)];refine QC (QK (QC (wy x u ?_)));rw[if_neg (show ¬ (((ep:Nat):Int) != ((ep:Nat):Int))=true by simp)];refine QK ?_;have j:(if((i:Nat):Int)<0 then none else es[((i:Nat):Int).toNat]?)=none:=by rw[if_neg (by omega),qM];exact f
 simp only[j];refine QC ?_;show wpAny _ _ (typeNameOfWhole (.ref it) >>= _) _ _ _;refine QC (qu v (QK ?_));rw[MG];show wpAny _ _ (setField (.ref it) 0 .none >>= _) _ _ _;refine QC (QAO k z (by simp) ?_);refine QC (m:=newExc (.type "StopIteration") []) ?_;simp only[newExc,newTuple];refine QC (Qw ?made (by size_fits));refine QC (m:=firstArgMember _ _) (QCF (a:=Value.none) (by first|rfl | (rw[firstArgMember];rfl)) ?arg);refine Qw ?made2 (by size_fits);simp only[raiseNew];refine QC (QBe ?_);first|rw[show A.in1.handled=none from e]|rw[e]
 refine QC (QK (QCG ?_));refine QC (QAk (T:="StopIteration") (b:=true) ⟨_,QU _ rfl,rfl⟩ (by kernel_rfl) ?_);rw[if_pos rfl];exact QK (q _ (((Q4 ..).extBut.push _).push _))
end
end
def Nv(ep n:Nat)(a:Addr):It :=
  ⟨λi H=>∃h p,H a=some (.dT ep h)/\h.length=n/\h[i]?=some p,
   λi H v x=>x=H/\∀h,H a=some (.dT ep h)->∃p,h[i]?=some p/\v=.ref p.2.1,
   λi H=>∃h,H a=some (.dT ep h)/\h.length=n/\n<=i⟩
theorem EX{P:Program}{w:World}{K:QA}{S:Expr}{a it:Addr}{n ep:Nat}:Turn P w K S (Nv ep n a) [it] it (λi h=>h.IsKeyIter it a i n ep) where
 mem:=by simp
 obj:=λi h st b hb=>by obtain⟨o,e,c,d⟩:=st;rw[QJ]at hb;subst hb;exact⟨o,e,λv z=>by rw[d]at z;cases z⟩
 keep:=λi h Y st k=>st.at λo e=>k it (by simp) o e
 item:=by
  intro X B Z C hc i u s Q H E I l st A;subst B Z C;obtain⟨f,p,e,W,ep⟩:=A;obtain⟨z,y,R,r,o,x,G,h2,F,m,h5⟩:=(show FA X.prog X.w H s.heap a (.dT _ f) from I.hok a _ e)
  have g:x.size=n:=by have:=congrArg qt m;rw[QG,Qs]at this;rw[this,<- qH r,W]
  obtain⟨q,hq,rq⟩:=VH r ep;have he:x[i]?=some (entryOfKey (yF X.prog X.w) q):=by
   have:x.toList[i]?=some (entryOfKey (yF X.prog X.w) q):=by rw[m,Qd,hq];rfl
   simpa using this
  subst g;obtain⟨O,N,f2,M,L,J⟩:=l it (by simp);refine ba st G F he λY j sb=>?_;have I1:Inv X u Q H { s with heap:=Y }:=I.turned (t':=s.toks) (λb o hb e=>(sb.2 b hb).trans e) O N M L J;obtain⟨oi,ei,ci,di⟩:=id j;exact⟨_,rfl,go_of (s:={ s with heap:=Y }) ei ci di (by decide) ⟨.ref p.2.1,H,I1,show Value.ref q.2.1=Value.ref p.2.1 by rw[rq.2.1],⟨rfl,λks hk=>by rw[e]at hk;cases hk;exact⟨p,ep,rfl⟩⟩,j,λb hb=>(l b hb).1⟩⟩
 done:=by
  intro X B Z C hc i u s Q H E I l st A;subst B Z C;obtain⟨f,e,W,ep⟩:=A;obtain⟨z,y,R,r,o,x,G,h2,F,m,h5⟩:=(show FA X.prog X.w H s.heap a (.dT _ f) from I.hok a _ e)
  have g:x.size=n:=by have:=congrArg qt m;rw[QG,Qs]at this;rw[this,<- qH r,W]
  subst g;obtain⟨O,N,f2,M,L,J⟩:=l it (by simp);exact PR (I.ok.hd hc) st G F (QAq ep) λY eb=>⟨rfl,I.turned (t':=s.toks) (λb o hb e=>eb b o hb e) O N M L J⟩
 self:=λ_ _ _ _ _ st h=>wpAny_pyIter_keyiter st h
open PySem.SeqAt
open AutoSeq1 (wpAny_loadPart')
open MeetsSeq MeetsSeq2 MeetsSeq3
def gk:LS->LS->Bool
 |[],[]=>false|[],_::_=>true|_::_,[]=>false|x::a,y::b=>if(x==y)=true then gk a b else decide (x.cps.toList<y.cps.toList)
theorem oP{vs:LW}{z:LS}(h:StrsAre vs z):vs.length=z.length/\∀(i:Nat) (x:Str),z[i]?=some x->∃t:Tok,vs[i]?=some (Value.str x t):=by
 induction h with
 |nil=>exact⟨rfl,λi x e=>by simp at e⟩|cons y t _ u =>
  refine⟨by rw[QM,QM,u.1],λi x e=>?_⟩;cases i with|zero=>simp at e;subst e;exact⟨t,rfl⟩|succ i=>simp at e;simpa using u.2 i x e
theorem OY(l b:Addr)(v x:Array Value)(n B:Nat)(L X:Option Addr)(W o:Array (Option Value))(a ts:LS)(I:StrsAre v.toList a)(G:StrsAre x.toList ts)(k:Nat) :
  ∀i:Nat,v.size - i=k->i<=v.size->i<=x.size->Meets (Builtin.«list.__eq__.loop» ⟨[.ref l,.ref b,rawInt i,rawInt 0],[]⟩)
   (λA R s=>s.heap.get? l=some { cls:=.type "list",dict:=L,data:=.seq v n,slots:=W }/\s.heap.get? b=some { cls:=.type "list",dict:=X,data:=.seq x B,slots:=o } /\
    R (.ok (.ret (.bool (gk (a.drop i) (ts.drop i))))) s):=by
 obtain⟨S,Q⟩:=oP I;obtain⟨O,N⟩:=oP G;rw[Qs]at S O;induction k with
 |zero =>
  intro i hk F p e w A R s h;obtain⟨E,g,d,Z,K⟩:=s;obtain⟨hl,hb,h⟩:=h;wp_walk using qC hl,qC hb;have m:v[((i:Nat):Int).toNat]?=none:=by simp;omega
  rw[m];wp_walk using qC hl,qC hb;have Y:a.drop i=[]:=by simp;omega
  rw[Y]at h;have f:gk [] (ts.drop i)=decide (v.size<x.size):=by
   cases z:ts.drop i with
   |nil =>
    have:ts.length<=i:=by simpa using z
    exact(dF (by omega)).symm
   |cons y r =>
    have:i<ts.length:=by by_cases c:i<ts.length;exact c;rw[WW (by omega)]at z;cases z
    exact(dT (by omega)).symm
  rw[f]at h;exact h
 |succ k C =>
  intro i hk F p e w A R s h;obtain⟨E,g,d,Z,K⟩:=s;obtain⟨hl,hb,h⟩:=h;wp_walk using qC hl,qC hb;have j:i<a.length:=by omega
  obtain⟨t,ev⟩:=Q i a[i] (Qx j);have m:v[((i:Nat):Int).toNat]?=some (.str a[i] t):=by simpa using ev
  rw[m];have Y:a.drop i=a[i]::a.drop (i+1):=QAQ j;rw[Y]at h;by_cases c:i<ts.length;obtain⟨u,J⟩:=N i ts[i] (Qx c);have f:x[((i:Nat):Int).toNat]?=some (.str ts[i] u):=by simpa using J
  have M:ts.drop i=ts[i]::ts.drop (i+1):=QAQ c;rw[M]at h;have h:R (.ok (.ret (.bool (if(a[i]==ts[i])=true then gk (a.drop (i+1)) (ts.drop (i+1)) else decide (a[i].cps.toList<ts[i].cps.toList))))) _:=h;rw[f];refine QC (EqAt.str_str a[i] t ts[i] u e w _ _ ?_);have hc:((i:Int)+1)=((i+1:Nat):Int):=by push_cast;rfl
  cases q:(a[i]==ts[i]) with|true=>rw[q,if_pos rfl]at h;wp_walk;rw[hc];exact⟨QBg plain_eq_loop _,Wx entry_eq_loop (by rw[WA plain_eq_loop _];exact C (i+1) (by omega) (by omega) (by omega) e w A R _ ⟨hl,hb,h⟩)⟩|false=>rw[q,if_neg QF]at h;wp_walk using qC hl,qC hb;rw[m,f];show wpAny _ _ (compareOp .Lt (.str a[i] t) (.str ts[i] u) >>= _) _ _ _;refine QC (PySem.P.lt_str ?_);exact QK h
  have f:x[((i:Nat):Int).toNat]?=none:=by simp;omega
  rw[f];wp_walk using qC hl,qC hb;rw[WW (show ts.length<=i by omega)]at h;have:decide (v.size<x.size)=false:=dF (by omega);have h:R (.ok (.ret (.bool false))) _:=h;rw[<- this]at h;exact h
theorem SY(l b:Addr)(y x:Array Value)(n e:Nat)(f v:Option Addr)(a z:Array (Option Value))(k ts:LS)(j:StrsAre y.toList k)(i:StrsAre x.toList ts) :
  Meets (Builtin.«list.__lt__» ⟨[.ref l,.ref b],[]⟩)
   (λA R s=>s.heap.get? l=some { cls:=.type "list",dict:=f,data:=.seq y n,slots:=a }/\s.heap.get? b=some { cls:=.type "list",dict:=v,data:=.seq x e,slots:=z } /\
    R (.ok (.ret (.bool (gk k ts)))) s):=by
 intro u w A R s h;obtain⟨p,g,d,m,o⟩:=s;obtain⟨hl,hb,h⟩:=h;have q:=AutoSeq1.sub_list_list;wp_walk using qC hl,qC hb;exact⟨QBg plain_eq_loop _,Wx entry_eq_loop (by rw[WA plain_eq_loop _];exact OY l b y x n e f v a z k ts j i _ 0 rfl (Qt _) (Qt _) u w A R _ ⟨hl,hb,h⟩)⟩
section
variable{prog:Program}{w:World}{A:Around}{E:pC}{s:Shared}
theorem ZU{l b:Addr}{y x:Array Value}{n a:Nat}{e u:Option Addr}{k z:Array (Option Value)}{v ts:LS}{Q:Bool->Shared->Prop}(f:A.units<cLine)(hl:s.heap.get? l=some { cls:=.type "list",dict:=e,data:=.seq y n,slots:=k })(hb:s.heap.get? b=some { cls:=.type "list",dict:=u,data:=.seq x a,slots:=z })
  (i:StrsAre y.toList v) (g:StrsAre x.toList ts) (h:Q (gk v ts) s):wpAny (model prog w) A (keyLt' oneType' (.ref l) (.ref b)) Q E s:=by
 rw[keyLt'_oneType,oneLt'_eq];simp only[if_true];refine QC (wpAny_cRoomFor f (QC (wpAny_callSpecialIfBound?_slot (T:="list") ⟨_,hl,rfl⟩ F.slot_list_lt ?_)));refine QBo F.slot_list_lt ⟨_,hl,rfl⟩ F.entry_list_lt (F.args_list_lt_2 _ _) (SY l b y x n a e u k z v ts i g) ⟨hl,hb,?_⟩;exact wO h
end
end L2.L3
namespace L2.L3
open PySem PySem.Spec PyProof.Rows PySem.W
def PC{α:Type}(n:Nat)(P:α->Prop):KasT α->Prop
 | .ret a=>P a|.ask i j k=>i<n/\j<n/\∀b,PC n P (k b)
theorem PC.bnd{α x:Type}{n:Nat}{P:α->Prop}{R:x->Prop}{f:α->KasT x}(y:∀a,P a->PC n R (f a)):∀{t:KasT α},PC n P t->PC n R (t.bind f)
 | .ret a,h=>y a h|.ask i j k,⟨h1,h2,h⟩=>⟨h1,h2,λb=>PC.bnd y (h b)⟩
theorem PC.wp{α:Type}{n:Nat}{P:α->Prop}{x:Nat->Nat->(Bool->Shared->Prop)->Shared->Prop}{Q:α->Shared->Prop}{s:Shared}(y:∀i j,i<n->j<n->∀C:Bool->Shared->Prop,(∀b,C b s)->x i j C s)(z:∀a,P a->Q a s):∀{t:KasT α},PC n P t->t.kasWp x Q s
 | .ret a,h=>z a h|.ask i j k,⟨h1,h2,h⟩=>y i j h1 h2 _ λb=>PC.wp y z (h b)
def Pm(n:Nat)(p:Array Nat):Prop:=p.Perm (qF (Qr n))
section
variable{n:Nat}
section
variable{p:Array Nat}
theorem Pm.lt(h:Pm n p)(x:0<n)(i:Nat):p.getD i 0<n:=by
 by_cases c:i<p.size;have e:p.getD i 0=p[i]:=by simp[Array.getD,c]
 rw[e];have m:p[i]∈p.toList:=by simp
 have:=(qO.mp h).mem_iff.mp m;simpa using this;have e:p.getD i 0=0:=by simp[Array.getD,c]
 rw[e];exact x
theorem Pm.rev(h:Pm n p)(i j:Nat):Pm n (kas_rev p i j):=(mirror_perm _ _ _ _).trans h
theorem TQ{p:Array Nat}(h:Pm n p)(x:0<n):∀(f m:Nat),PC n (λ_=>True) (kas_asc p f m)
 |0,m=>trivial|f+1,m=>⟨h.lt x _,h.lt x _,λb=>by
  cases b with|true=>exact trivial|false=>exact TQ h x f (m+1)⟩
theorem cJ(x:0<n):∀(f:Nat) {p:Array Nat}(h:Pm n p) (m q:Nat),PC n (λr=>Pm n r.1) (kas_desc f p m q)
 |0,p,h,m,q=>h|f+1,p,h,m,q=>⟨h.lt x _,h.lt x _,λb=>by
  cases b with
  |true=>show PC n _ (if q > 0 then _ else _);split;exact cJ x f (h.rev _ _) _ _;exact cJ x f h _ _|false =>
   refine⟨h.lt x _,h.lt x _,λb=>?_⟩;cases b with|true=>exact h|false=>exact cJ x f h _ _⟩
theorem kP(x:0<n)(h:Pm n p)(a b:Nat):PC n (λr=>Pm n r.2) (kas_tail3 a b p):=by refine PC.bnd (f:=λm=>.ret (m,kas_rev p 0 a)) (λm _=>?_) (TQ (h.rev _ _) x _ _);exact h.rev _ _
theorem bJ(x:0<n)(h:Pm n p)(a b:Nat):PC n (λr=>Pm n r.2) (kas_descPart a b p):=by refine PC.bnd (λr y=>?_) (cJ x _ h _ _);split;exact kP x (Pm.rev y _ _) _ _;exact kP x y _ _
theorem UZ(x:0<n)(h:Pm n p)(b:Nat):PC n (λr=>Pm n r.2) (kas_count b p):=by
 refine PC.bnd (λm _=>?_) (TQ h x _ _);split;exact h;split
 ·refine⟨h.lt x _,h.lt x _,λc=>?_⟩
  cases c with|true=>exact h|false=>exact bJ x (h.rev _ _) _ _
 exact bJ x h _ _
theorem cK(x:0<n){p:Array Nat}(h:Pm n p)(k:Nat):∀(f l r:Nat),PC n (λ_=>True) (kas_place p k f l r)
 |0,l,r=>trivial|f+1,l,r=>by
  show PC n _ (if l ≥ r then _ else _);split;exact trivial;refine⟨h.lt x _,h.lt x _,λb=>?_⟩;cases b with|true=>exact cK x h k f _ _|false=>exact cK x h k f _ _
theorem XX(x:0<n):∀(f:Nat) {p:Array Nat}(h:Pm n p) (k:Nat),PC n (Pm n) (kas_bin f p k)
 |0,p,h,k=>h|f+1,p,h,k=>PC.bnd (λl _=>XX x f ((bubble_perm _ _ _).trans h) _) (cK x h _ _ _ _)
theorem UT(x:0<n):PC n (Pm n) (kas_sort n):=by refine PC.bnd (λr h=>?_) (UZ x (QCI _) _);split;exact XX x _ h _;exact h
end
end
theorem sO{α:Type}(vs:List α)(d:α):(Qr vs.length).map (λi=>vs.getD i d)=vs:=by apply qz;intro i;rw[Qd];by_cases c:i<vs.length;rw[Wz c];simp[c];rw[Q8 (by simp;omega),Q8 (by omega)];rfl
section
variable{prog:Program}{w:World}{A:Around}{E:pC}{s:Shared}
theorem Mn{M:Model}{vs:LW}{Q:SortKind->Shared->Prop}(k:2<=vs.length)(z:∀v∈vs,s.TypeIs v "list")(h:Q oneType' s):wpAny M A (keyKind' vs.toArray) Q E s:=by
 cases vs with
 |nil=>simp at k|cons v r =>
  rw[keyKind'_eq,QBs,map_eq_pure_bind];refine QC (QC (kas_mapM (r:=none) _ (λu y e q=>?_) (QK ?_)));rw[kas_first_eq];exact QC (QB0 (z u y) (QK q));rw[if_neg (by simp),if_neg (by simp),oneTypeOnly'_eq,QBs,map_eq_pure_bind];refine QC (QC (QC (kas_mapM (r:=.type "list") _ (λu y e q=>QB0 (z u y) q) (QK ?_))));have b:((v::r).map λ_=>Value.type "list").toArray[0]?=some (.type "list"):=by simp
  have a:(((v::r).map λ_=>Value.type "list").toArray.all λx=>x==Value.type "list")=true:=by simp only[List.all_toArray,List.all_map,Qq];intro _ _;rfl
  rw[b];simp only[a,if_true];exact QK (QK h)
theorem Sh{a:Addr}{vs:LW}{n:Nat}{P:PySem.Fin->Shared->Prop}(Y:s.heap.get? a=some (seqObj "list" vs.toArray n))(K:vs.length<64)(S:∀v∈vs,∃b o,v=.ref b/\b≠a/\s.heap.get? b=some o/\o.cls=.type "list")
  (G:∀B:Heap,(∀b o,b≠a->s.heap.get? b=some o->B.get? b=some o)->∀x∈vs,∀y∈vs,∀C:Bool->Shared->Prop,(∀k,C k { s with heap:=B })->wpAny (model prog w) A (keyLt' oneType' x y) C (λ_ _=>False) { s with heap:=B })
  (k:∀out:LW,out.Perm vs->P (.done (.ret .none)) { s with heap:=sortedHeap s.heap a vs out.toArray }):wpAny (model prog w) A (Builtin.«list.sort» ⟨[.ref a],[]⟩) P E s:=by
 have ha:a<s.heap.objs.size:=QY Y;have J:=Q4 s.heap a (Q5 λ_=>(#[]:Array Value));obtain⟨Z,X⟩:∃Z,(s.heap.update a (Q5 λ_=>(#[]:Array Value))).get? a=some (seqObj "list" #[] Z):=⟨_,W0 Y λ_=>#[]⟩
 have r:(((s.heap.update a (Q5 λ_=>(#[]:Array Value))).push (seqObj "tuple" vs.toArray 0)).push (seqObj "list" #[] 0)).get? a=some (seqObj "list" #[] Z):=QH _ (QH _ X);have kept:∀b o,b≠a->s.heap.get? b=some o->(((s.heap.update a (Q5 λ_=>(#[]:Array Value))).push (seqObj "tuple" vs.toArray 0)).push (seqObj "list" #[] 0)).get? b=some o:=λb o hb e=>QH _ (QH _ ((J.2 b hb).trans e));rw[list_sort_plain];refine QC (QB2 Y rfl (QC (WP Y rfl ?_ (by rw[QN];omega) (Qt _))));refine QC (QBL X rfl (QC (QBE ?_ (by show vs.length<=_;omega))));refine QC (QAe (qi ?_) (Qt _));show wpAny (model prog w) A _ P E { s with heap:=((s.heap.update a (Q5 λ_=>(#[]:Array Value))).push (seqObj "tuple" vs.toArray 0)).push (seqObj "list" #[] 0) };dsimp only;have fin:∀out:LW,out.Perm vs->wpAny (model prog w) A (do
   let h:=(<- seqEpoch a) != Z
   Builtin.List.listUpdate (.ref a) λ_=>out.toArray
   if h then rule "list.sort.modified";raiseError "ValueError" "list modified during sort"
   ret .none) P E { s with heap:=((s.heap.update a (Q5 λ_=>(#[]:Array Value))).push (seqObj "tuple" vs.toArray 0)).push (seqObj "list" #[] 0) }:=λout m=>by
  have hl:=m.length_eq;refine QC (QBL r rfl (QC (WP r rfl ?_ (Qt _) (by rw[QN];omega))));simp only[bne_self_eq_false,Qn,if_false];exact QK (k out m)
 by_cases I:vs.length<2;have u:vs.toArray.size<2:=by rw[QN];exact I
 rw[if_pos u,if_pos u];refine QC (QK ?_);rw[QCJ];refine QC (QK ?_);have e:(arrOf (QBt general' (vs.toArray.zip vs.toArray) #[] 7 none)).map (·.2)=vs.toArray:=by show(vs.toArray.zip vs.toArray).map (·.2)=_;apply WC.mp;simp[WD]
 dsimp only;rw[e];exact fin vs (QBF _);have u:¬ vs.toArray.size<2:=by rw[QN];exact I
 rw[if_neg u,if_neg u];refine QC (Mn (by omega) (λv hv=>?_) ?_);obtain⟨b,o,rfl,hb,e,c⟩:=S v hv;exact⟨o,kept b o hb e,c⟩;have F:QBt oneType' (vs.toArray.zip vs.toArray) #[] 7 none=kas_st oneType' (pairsOf vs) (qF (Qr vs.length)):=by have e:=kas_range (pairsOf vs);rw[pairsOf_size]at e;show QBt oneType' (pairsOf vs) #[] 7 none=QBt oneType' ((qF (Qr vs.length)).map (kas_item (pairsOf vs))) #[] 7 none;rw[e]
 have all:=UT (n:=vs.length) (by omega);have f:(kas_sort vs.length).kasWp (kas_cmp prog w A oneType' (pairsOf vs)) (λp g=>g={ s with heap:=((s.heap.update a (Q5 λ_=>(#[]:Array Value))).push (seqObj "tuple" vs.toArray 0)).push (seqObj "list" #[] 0) }/\Pm vs.length p) { s with heap:=((s.heap.update a (Q5 λ_=>(#[]:Array Value))).push (seqObj "tuple" vs.toArray 0)).push (seqObj "list" #[] 0) }:=by
  rw[<- kas_ask_eq];refine PC.wp (λi j O N C H=>?_) (λp m=>⟨rfl,m⟩) all;have gi:vs.getD i Value.none∈vs:=by
   have:vs.getD i Value.none=vs[i]:=by simp[O]
   rw[this];exact wk _
  have gj:vs.getD j Value.none∈vs:=by
   have:vs.getD j Value.none=vs[j]:=by simp[N]
   rw[this];exact wk _
  exact G _ kept _ gi _ gj C H
 have l:=kas_runs (prog:=prog) (w:=w) (A:=A) (E:=E) (Q:=λ_ z g=>∃p:Array Nat,p.size=vs.length/\arrOf z=p.map (kas_item (pairsOf vs))/\failedOf z=none/\g={ s with heap:=((s.heap.update a (Q5 λ_=>(#[]:Array Value))).push (seqObj "tuple" vs.toArray 0)).push (seqObj "list" #[] 0) }/\Pm vs.length p)
  (by omega) K (λM z g a1 a2 a3 a4=>⟨M,a1,a2,a3,a4⟩) f
 rw[<- F]at l;refine QC (qr l ?_ λ_ _ e=>e);rintro⟨⟨⟩,z⟩ g ⟨p,m,W,R,rfl,L⟩;dsimp only;have q:(arrOf z).map (·.2)=qF (p.toList.map λi=>vs.getD i Value.none):=by apply WC.mp;rw[W,Array.map_map,Array.toList_map];exact wC λi _=>by show(kas_item (pairsOf vs) i).2=_;rw[kas_item_eq]
 rw[q,R];refine fin _ ?_;have:=(qO.mp L).map λi=>vs.getD i Value.none;refine this.trans ?_;show((Qr vs.length).map λi=>vs.getD i Value.none).Perm vs;rw[sO]
theorem K8{l:Addr}{vs:LW}{Q:pC}(hl:s.heap.IsList l vs.toArray)(g:vs.length<64)(X:∀v∈vs,∃b o,v=.ref b/\s.heap.get? b=some o/\o.cls=.type "list")
  (i:∀f:Heap,(∀b o,s.heap.get? b=some o->f.get? b=some o)->∀x∈vs,∀y∈vs,∀C:Bool->Shared->Prop,(∀k,C k { s with heap:=f })->wpAny (model prog w) A.in1.in1 (keyLt' oneType' x y) C (λ_ _=>False) { s with heap:=f })
  (k:∀out:LW,out.Perm vs->Q (.ref (s.heap.objs.size+1)) { s with heap:=sortedAll s.heap vs out.toArray }):wpAny (model prog w) A (call (.builtin "sorted") [.ref l]) Q E s:=by
 refine Calls.call_function_entry kind_sorted plain_sorted entry_sorted (args_sorted1 _) ?_;unfold Builtin.«sorted»;refine QC (m:=checkCount "sorted" 1 1 _) (QK (QC (collect_list hl ?_ (by omega))));refine QC (QAe ?_ (by show vs.length<=_;omega));have u:((s.heap.push (seqObj "list" #[] 0)).update s.heap.objs.size (Q5 (·++vs.toArray))).objs.size=s.heap.objs.size+1:=by rw[QCA,size_push']
 have a:(((s.heap.push (seqObj "list" #[] 0)).update s.heap.objs.size (Q5 (·++vs.toArray))).push (seqObj "list" vs.toArray 0)).get? (s.heap.objs.size+1)=some (seqObj "list" vs.toArray 0):=by rw[<- u];exact QU _ rfl
 have z:∀b o,s.heap.get? b=some o->(((s.heap.push (seqObj "list" #[] 0)).update s.heap.objs.size (Q5 (·++vs.toArray))).push (seqObj "list" vs.toArray 0)).get? b=some o:=λb o q=>by have h:b<s.heap.objs.size:=QY q;refine QH _ ?_;rw[Heap.get?_update_ne _ _ _ _ (Qj h)];exact QH _ q
 show wpAny _ _ _ _ _ { s with heap:=((s.heap.push (seqObj "list" #[] 0)).update s.heap.objs.size (Q5 (·++vs.toArray))).push (seqObj "list" vs.toArray 0) };rw[u];refine QC (qi (qJ slot_list_sort ⟨_,a,rfl⟩ entry_list_sort ?body (args_list_sort _)))
 case body =>
  refine Sh (s:={ s with heap:=((s.heap.push (seqObj "list" #[] 0)).update s.heap.objs.size (Q5 (·++vs.toArray))).push (seqObj "list" vs.toArray 0) }) a g (λv hv=>?_) (λf j x p y n C Y=>?_) λout r=>⟨_,rfl,QK ⟨_,rfl,k out r⟩⟩
  obtain⟨b,o,e,q,c⟩:=X v hv;have h:b<s.heap.objs.size:=QY q;exact⟨b,o,e,Qj (w6 h),z b o q,c⟩;refine i f (λb o q=>?_) x p y n C Y;have h:b<s.heap.objs.size:=QY q;exact j b o (Qj (w6 h)) (z b o q)
end
section
variable{prog:Program}{w:World}{A:Around}
theorem Oi(Z:A.handled=none)(j:Addr)(z:Src)(m:z.adr≠j)(y:Array Value)(c:Nat) :
  Draws prog w A j [j,z.adr] (c+y.size) (λi v=>∃k,i=c+k/\y[k]?=some v) (λi h=>∃k,i=c+k/\AD h j z k/\MB h z y) where
 live:=λ_ _ ⟨_,_,p,_⟩=>let⟨o,e,_⟩:=p.obj;⟨o,e⟩
 frame:=λ_ h f ⟨k,e,p,q⟩ u=>⟨k,e,p.keep λo x=>u j (by simp) o x,by
  cases z with|l a=>exact QCE.at q λo x=>u a (by simp[Src.adr]) o x|t a=>obtain⟨o,Y,X⟩:=q;exact⟨o,u a (by simp[Src.adr]) o Y,X⟩⟩
 item:=λi s Q E W ⟨k,e,p,q⟩ n=>by
  have hk:k<y.size:=by omega
  exact ca p q (x:=y[k]) (by simp[hk]) λf g b=>n _ f s.toks ⟨k,e,by simp[hk]⟩ ⟨k+1,by omega,g,Xg q b m⟩ b
 done:=λs Q E ⟨k,e,p,q⟩ r=>by
  have hk:k=y.size:=by omega
  exact C4 Z p q (by simp[hk]) r
theorem Pi(r:A.handled=none)(j:Addr)(z:Src)(y:Array Value)(n k:Nat)(v:y[k]?=none) :
  Draws prog w A j [j,z.adr] n (λ_ _=>False) (λi h=>i=n/\AD h j z k/\MB h z y) where
 live:=λ_ _ ⟨_,p,_⟩=>let⟨o,e,_⟩:=p.obj;⟨o,e⟩
 frame:=λ_ h Y ⟨e,p,q⟩ u=>⟨e,p.keep λo x=>u j (by simp) o x,by
  cases z with|l a=>exact QCE.at q λo x=>u a (by simp[Src.adr]) o x|t a=>obtain⟨o,m,g⟩:=q;exact⟨o,u a (by simp[Src.adr]) o m,g⟩⟩
 item:=λi s Q E b ⟨e,_,_⟩ X=>absurd b (by omega)
 done:=λs Q E ⟨_,p,q⟩ f=>C4 r p q v f
def Ov(K:QA)(z:Src)(c:Nat):It :=
  ⟨λi H=>∃h x,MZ K H z h/\h[i]?=some x,
   λi H v y=>∃p x,H p=none/\v=.ref p/\y=CA H p (.tup [.int ((c+i:Nat):Int),x])/\∀h,MZ K H z h->h[i]?=some x,
   λi H=>∃h,MZ K H z h/\h.length<=i⟩
def yW(e j:Addr)(z:Src)(c i:Nat)(h:Heap):Prop:=(∃x,IsEnum h e j ((c+i:Nat):Int) x)/\AD h j z i
theorem IX{P:Program}{K:QA}{es:List Expr}{kk:Nat}{pp:Pos}{e j:Addr}{z:Src}{c:Nat}(L:e≠j)(n2:z.adr≠e)(n3:z.adr≠j) :
  Turn P w K (.Tuple es kk pp) (Ov K z c) [e,j] e (yW e j z c) where
 mem:=by simp
 obj:=λi h st b hb=>by obtain⟨⟨a,g⟩,n⟩:=st;simp only[QL,wm,or_false]at hb;rcases hb with rfl|rfl;exact⟨_,g,λv q=>by cases(show Data.fields _=Data.cell v from q)⟩;exact n.obj
 keep:=λi h h' st k=>by obtain⟨⟨a,g⟩,n⟩:=st;exact⟨⟨a,k e (by simp) _ g⟩,n.keep λo x=>k j (by simp) o x⟩
 item:=by
  intro X O M Q hc i r s σ H E I B st N;subst O M Q;obtain⟨xs,x,C,ex⟩:=N;obtain⟨f,J,F,_⟩:=I.src C;obtain⟨u,hu,ru⟩:=J.get ex;obtain⟨⟨a,g⟩,n⟩:=st;have hi:i<f.toArray.size:=by have:=(Qg.mp hu).1;simpa using this
  refine wpAny_pyNext_enum_itemD (Oi (show X.A.in1.handled=none from I.ok.hd hc) j z n3 f.toArray c) g ⟨i,rfl,n,F⟩ (by omega) L (by simp[L,Q9 n2]) λy h' W ⟨k,ek,hy⟩ b1 b2 b3 b4 b5=>?_;have ek:k=i:=by omega
  subst ek;have ey:y=u:=by
   have:f.toArray[k]?=some u:=by simpa using hu
   rw[this]at hy;exact(Qo hy).symm
  subst ey;refine⟨_,rfl,wpAny_letOwnedTupleGo_enum b1 λp c1 G=>?_⟩;obtain⟨k2,Z,b2,b2'⟩:=b2;have Z:k2=k+1:=by omega
  subst Z;have hp:=I.hok.fresh (QZ s.heap.objs.size);have Y:e<s.heap.objs.size:=QY g;have m:∀b∈[e,j],b<s.heap.objs.size:=λb hb=>by simp only[QL,wm,or_false]at hb;rcases hb with rfl|rfl;exact Y;exact n.lt
  have kept:∀b o,b∉[e,j]->s.heap.get? b=some o->p.get? b=some o:=λb o hb q=>by simp only[QL,wm,or_false,not_or]at hb;exact(G.2 b hb.1).trans (b5 b o hb.1 hb.2 q)
  have l:p.get? s.heap.objs.size=some { cls:=.type "tuple",data:=.seq #[.int ((c+k:Nat):Int) W,y] }:=(G.2 _ (wt Y)).trans b3;have I1:=I.pair (x:=.int ((c+k:Nat):Int)) (h':=s.heap.push { cls:=.type "tuple",data:=.seq #[.int ((c+k:Nat):Int) W,y] }) (t':=W+1) (λb o e=>QH _ e) (QZ _) (QU _ rfl) ⟨_,rfl⟩ ru;have I2:=I1.turnedL (h':=p) (t':=W+1) (ch:=[e,j]) (λb o hb e=>by
   rcases QA8 e with⟨q1,q2⟩| q;subst q1 q2;exact l;exact kept b o hb q) λb hb=>by
   obtain⟨f0,f1,f2,f3,S,R⟩:=B b hb;exact⟨by rw[vA (Qj (m b hb))];exact f0,f1,f2,f3,S,R⟩
  refine⟨.ref s.heap.objs.size,_,I2,rfl,⟨s.heap.objs.size,x,hp,rfl,rfl,λxs' g1=>?_⟩,⟨⟨y,?_⟩,b2.keep λo q=>(G.2 _ (Q9 L)).trans q⟩,λb hb=>?_⟩;rw[I.src_inj g1 C];exact ex;have:(((c+(k+1):Nat)):Int)=((c+k:Nat):Int)+1:=by omega
  rw[this];exact c1;rw[vA (Qj (m b hb))];exact(B b hb).1
 done:=by intro X O M Q hc i r s σ H E I B st N;subst O M Q;obtain⟨xs,C,en⟩:=N;obtain⟨f,J,F,_⟩:=I.src C;obtain⟨⟨a,g⟩,n⟩:=st;have l1:=J.length;obtain⟨f0,f1,f2,f3,S,R⟩:=B j (by simp);exact wpAny_pyNext_enum_endD (Pi (show X.A.in1.handled=none from I.ok.hd hc) j z f.toArray 0 i (by simp;omega)) g ⟨rfl,n,F⟩ λh' eb=>⟨rfl,I.turned (t':=s.toks) (λb o hb e=>eb b o hb e) f0 f1 f3 S R⟩
 self:=λ_ _ _ _ _ st h=>by obtain⟨⟨a,g⟩,_⟩:=st;exact QBu g h
end
theorem mZ(z:Src)(xs:Array Value):Meets (Builtin.«enumerate.__new__» ⟨[.type "enumerate",.ref z.adr],[]⟩) (λ_ R s=>MB s.heap z xs /\
   R (.ok (.ret (.ref (s.heap.push z.it).objs.size))) { s with heap:=(s.heap.push z.it).push { cls:=.type "enumerate",data:=.fields #[.none,.bool false,.ref s.heap.objs.size,rawInt 0,.none,.none] } }) :=
 .of_wp λy w A R s h=>by
  obtain⟨b,g,d,v,a⟩:=s;obtain⟨k,h⟩:=h;have u:=sub_enumerate;have x:MB (Shared.heap ⟨b,g,d,v,a⟩) z xs:=k;wp_walk;refine wpAny_stack_any λst=>QK ?_;split;rename_i cl _ _ _ _ _;cases(cl==Value.type "enumerate")<;>(wp_walk using tR x;exact⟨_,rfl,h⟩)
  wp_walk using tR x;exact⟨_,rfl,h⟩
section
variable{prog:Program}{w:World}{A:Around}{E:pC}{s:Shared}
theorem rX{h:Heap}{z:Src}{n:Int}:IsEnum ((h.push z.it).push { cls:=.type "enumerate",data:=.fields #[.none,.bool false,.ref h.objs.size,rawInt n,.none,.none] }) (h.objs.size+1) h.objs.size n .none:=by have:=QU (h.push z.it) (o:={ cls:=.type "enumerate",data:=.fields #[.none,.bool false,.ref h.objs.size,rawInt n,.none,.none] }) rfl;rw[QAL]at this;exact this
theorem MV{z:Src}{xs:Array Value}{Q:pC}(y:MB s.heap z xs)
  (h:∀h',yW (s.heap.objs.size+1) s.heap.objs.size z 0 0 h'->(∀c o,s.heap.get? c=some o->h'.get? c=some o)->Q (.ref (s.heap.objs.size+1)) { s with heap:=h' }):wpAny (model prog w) A (call (.type "enumerate") [.ref z.adr]) Q E s:=by
 refine callType_new PySem.F.called_enumerate (by decide) (PySem.F.typeCall_enumerate_1 _) (PySem.F.newCall_enumerate_1 _) (λobj=>PySem.F.args_object_init_2 obj _) PySem.F.entry_enumerate_new (mZ z xs) ⟨y,?_⟩;show _/\_;rw[QAL];exact⟨⟨_,rX,rfl⟩,h _ ⟨⟨.none,rX⟩,(Z8 s.heap z).keep λo e=>QH _ e⟩ λc o x=>QH _ (QH _ x)⟩
end
theorem mw{a b:Nat}(h:a≠b):((a:Addr)≠(b:Addr)):=h
inductive Bi where
 |len|any|sorted|tuple|int
 deriving DecidableEq
inductive Mt where
 |append|pop|setd|extend
 deriving DecidableEq
inductive ItK where
 |val|rng1|enum|itm
 deriving DecidableEq
inductive Tg where
 |nm (i:Nat)|tp (is:LN)
 deriving DecidableEq
set_option genSizeOf false in
set_option genInjectivity false in
inductive PX where
 |xz (i:Nat)|int (i:Int)|str (x:Str)|bl (b:Bool)|non
 |glo (x:Str)|bty (x:Str) (n:String)
 |bin (op:Operator) (a b:PX)
 |cmp (op:CmpOp) (a b:PX)
 |and (a b:PX)|or (a b:PX)|not (a:PX)
 |call (f:Str) (as:PX)
 |bi (f:Bi) (as:PX)|isi (a c:PX)
 |mt (m:Mt) (o as:PX)
 |idx (a b:PX)|slc (a lo hi:PX)|nop
 |lst (as:PX)|tup (as:PX)|dnew (b:Bool)|dsp (a b:PX)
 |comp (mask:List Bool) (tgs:LS) (tg:Tg) (ik:ItK) (its cond elt:PX)
 |nz|ny (a as:PX)
structure Ev where
 sp:Str->Sp
 va:Str->V
structure W3 where
 e:TE
 t:TT
 a:TA
def never:W3:=⟨λ_ _ _=>False,λ_ _ _=>False,λ_ _ _=>False⟩
def FF(K:QA)(x:V)(H:Hp)(Q:Bool->Hp->Prop):Prop:=match x with
 | .bl b=>Q b H|.int i=>Q (i != 0) H|.non=>Q false H|.str z=>z.length<=sizeLine/\Q ((z.length:Int) != 0) H|x=>∃k,Gj K x H k/\Q k H
def z7(x:V)(H:Hp)(Q:Bool->Hp->Prop):Prop:=match x with
 | .bl b=>Q b H|_=>False
def Ab(K:QA):Operator->R2
 | .Add=>Ym K|.Sub=>km|.Mult=>cm K|.FloorDiv=>Gc|.Mod=>gm|_=>λ_ _ _ _=>False
def dX(neg:Bool):R2:=λx y H Q=>match y with
 | .non=>Q (.bl (if neg then !decide (x=.non) else decide (x=.non))) H|.bl c=>∃b,x=.bl b/\Q (.bl (if neg then !decide (b=c) else decide (b=c))) H|_=>False
noncomputable def L6(K:QA):CmpOp->R2
 | .Eq=>rEq K false|.NotEq=>rEq K true|.Lt=>nY λi j=>decide (i<j)|.LtE=>nY λi j=>decide (i<=j)|.Gt=>nY λi j=>decide (j<i)|.GtE=>nY λi j=>decide (j<=i)|.In=>FR K false|.NotIn=>FR K true|.Is=>dX false|.IsNot=>dX true
noncomputable def oY(K:QA):R2:=λx y H Q=>match x,y with
 | .str z,.int i=>z.length<=sizeLine/\∃c,gE z.cps.toList i=some c/\Q (.str ⟨#[c]⟩) H|.ref a,.int i=>∃h v,(AC K H a h∨ED K H a h)/\gE h i=some v/\Q v H|.ref a,.str z=>∃v,jR K H a (.str z) (some v)/\Q v H|.ref a,.ref b=>∃v,jR K H a (.ref b) (some v)/\Q v H|_,_=>False
def JW(K:QA):LV->Hp->VK->Prop:=λk H Q=>∃p,k=[.ref p]/\((∃z:LS,AC K H p (z.map V.str)/\z.length<64/\∀l h,H l=none->h.Perm z->sortedS h=true->Q (.ref l) (CA H l (.lst (h.map V.str)))) ∨
   (∃u,AC K H p u/\u.length<64/\(∀x∈u,∃a,∃z:LS,x=.ref a/\AC K H a (z.map V.str))/\∀l w,H l=none->w.Perm u->Q (.ref l) (CA H l (.lst w))) ∨
   (∃v:LJ,AC K H p (v.map V.int)/\v.length<64/\∀l (y:LJ),H l=none->y.Perm v->y.Pairwise (·<=·)->Q (.ref l) (CA H l (.lst (y.map V.int)))))
def A2(K:QA):LV->Hp->VK->Prop:=λx H Q=>∃p h,x=[.ref p]/\AC K H p h/\∀l,H l=none->Q (.ref l) (CA H l (.tup h))
def Fc:LV->Hp->VK->Prop:=λh H Q=>∃b:Bool,h=[.bl b]/\Q (.int (if b then 1 else 0)) H
def To(K:QA):Bi->LV->Hp->VK->Prop
 | .len=>lm K|.any=>Jm K|.sorted=>JW K|.tuple=>A2 K|.int=>Fc
def Dc:V->LV->Hp->VK->Prop:=λx y H Q=>∃l i h k v,x=.ref l/\y=[.int i]/\H l=some (.lst h)/\kU h.length i=some k/\h[k]?=some v/\Q v (CA H l (.lst (h.eraseIdx k)))
def Hc:V->LV->Hp->VK->Prop:=λx z H Q=>∃l b y h,x=.ref l/\z=[.ref b]/\H l=some (.lst y)/\H b=some (.lst h)/\y.length+h.length<=sizeLine/\Q .non (CA H l (.lst (y++h)))
def Xa(K:QA):Mt->V->LV->Hp->VK->Prop
 | .append=>YW|.pop=>Dc|.setd=>yL K|.extend=>Hc
def Mt.ty:Mt->String
 | .append=>"list"|.pop=>"list"|.setd=>"dict"|.extend=>"list"
def gM(x:V)(H:Hp)(Q:Option Int->Hp->Prop):Prop:=match x with
 | .int i=>Q (some i) H|_=>False
inductive Item where
 |one (v:V)|tup (vs:LV)
noncomputable def aC(K:QA):ItK->LV->Hp->(List Item->(Hp->Prop)->Hp->Prop)->Prop
 | .val,[.ref a],H,R=>(∃x,AC K H a x/\R (x.map .one) (λH=>AC K H a x) H)∨(∃x,ED K H a x/\R (x.map .one) (λH=>ED K H a x) H)∨(∃y,∃h:List KE,H a=some (.dT y h)/\R (h.map λp=>.one (.ref p.2.1)) (λH=>H a=some (.dT y h)) H)|.rng1,[.int j],H,R=>(-(2 ^ 62)<=j/\j<2 ^ 62)/\R ((Qr j.toNat).map λ(i:Nat)=>.one (.int (i:Int))) (λ_=>True) H|.enum,[.ref a],H,R=>∃z x,Src.adr z=a/\MZ K H z x/\R (x.zipIdx.map λp=>.tup [.int (p.2:Int),p.1]) (λH=>MZ K H z x) H|.itm,[.ref a],H,R=>∃y,∃h:List KE,H a=some (.dT y h)/\R (h.map λp=>.tup [.ref p.2.1,p.2.2]) (λH=>H a=some (.dT y h)) H|_,_,_,_=>False
def vB:LN->LV->St->Option St
 |[],[],σ=>some σ|i::is,v::vs,σ=>vB is vs (σ.set i (some v))|_,_,_=>none
def VE(K:QA):Tg->TG
 | .nm i=>λv x H Q=>Q (x.set i (some v)) H|.tp z=>λv x H Q=>match v with
  | .ref p=>∃y h,ED K H p y/\vB z y x=some h/\Q h H|_=>False
noncomputable def bindI(K:QA)(z:Tg):Item->St->Hp->(St->Hp->Prop)->Prop
 | .one v=>VE K z v|.tup y=>λx H Q=>match z with
  | .tp w=>∀u,Same H u->∃h,vB w y x=some h/\Q h u|.nm i=>∀p,H p=none->Q (x.set i (some (.ref p))) (CA H p (.tup y))
def Ko(K:QA)(xs:List Item)(st:Hp->Prop)(bind:Item->St->Hp->(St->Hp->Prop)->Prop)(tc:TT)(te:TE)(σ:St)(H:Hp)(Q:VK):Prop :=
 ∃W:Nat->LV->Hp->Prop,W 0 [] H/\(∀i h H,i<=xs.length->W i h H->st H) /\
  (∀i x h H,xs[i]?=some x->W i h H->bind x σ H λz u=>tc z u λb v=>if b=true then te z v λy w=>h.length<sizeLine/\W (i+1) (h++[y]) w else W (i+1) h v) /\
  ∀h u,W xs.length h u->h.length<=sizeLine/\∀p,u p=none->Q (.ref p) (CA u p (.lst h))
structure Yields(J:It)(xs:List Item)(st:Hp->Prop):Prop where
 go:∀i H,st H->i<xs.length->J.go i H
 yld:∀i H x H',st H->i<xs.length->J.yld i H x H'->∃it,xs[i]?=some it/\match it with
  | .one v=>x=v/\H'=H|.tup vs=>∃p,H p=none/\x=.ref p/\H'=CA H p (.tup vs)
 stop:∀i H,st H->xs.length<=i->J.stop i H
def Vo(J:It)(g:TG)(tc:TT)(te:TE)(k:St)(l:Hp)(Q:VK):Prop:=∃W:Nat->Nat->LV->St->Hp->Prop,(∃m,W 0 m [] k l) /\
 ∀i m h v u,W i m h v u->(J.stop i u/\h.length<=sizeLine/\∀p,u p=none->Q (.ref p) (CA u p (.lst h))) ∨
  (J.go i u/\∀x e,J.yld i u x e->g x v e λz j=>tc z j λb a=>if b=true then te z a λy f=>h.length<sizeLine/\∃w,w < m/\W (i+1) w (h++[y]) z f else ∃w,w < m/\W (i+1) w h z a)
def OX(K:QA)(xs:List Item)(st:Hp->Prop)(x:Tg)(tc:TT)(te:TE)(h:St)(H:Hp)(Q:VK):Prop:=∀J,Yields J xs st->Vo J (VE K x) tc te h H Q
def isNop:PX->Bool
 | .nop=>true|_=>false
noncomputable def wp(K:QA)(Γ:Ev):PX->XK->W3
 | .xz i,E=>let e:TE:=λh H Q=>match h[i]? with
   |some (some v)=>Q v H|_=>False
  ⟨e,λh H Q=>e h H λx z=>FF K x z Q,never.a⟩
 | .int i,E=>⟨λ_ H Q=>Q (.int i) H,λ_ H Q=>Q (i != 0) H,never.a⟩|.str x,E=>⟨λ_ H Q=>Q (.str x) H,never.t,never.a⟩|.bl b,E=>⟨λ_ H Q=>Q (.bl b) H,λ_ H Q=>Q b H,never.a⟩|.non,E=>⟨λ_ H Q=>Q .non H,λ_ H Q=>Q false H,never.a⟩|.glo x,E=>⟨λ_ H Q=>Q (Γ.va x) H,λ_ H Q=>FF K (Γ.va x) H Q,never.a⟩|.bty _ n,E=>⟨λ_ H Q=>Q (.ty n) H,never.t,never.a⟩|.bin op a b,E=>let e:TE:=λh H Q=>(wp K Γ a E).e h H λx z=>(wp K Γ b E).e h z λy w=>Ab K op x y w Q
  ⟨e,λh H Q=>e h H λx z=>FF K x z Q,never.a⟩
 | .cmp op a b,E=>let e:TE:=λh H Q=>(wp K Γ a E).e h H λx z=>(wp K Γ b E).e h z λy w=>L6 K op x y w Q
  ⟨e,λh H Q=>e h H λx z=>z7 x z Q,never.a⟩
 | .and a b,E=>⟨λh H Q=>(wp K Γ a E).e h H λx z=>z7 x z λc w=>if c=true then(wp K Γ b E).e h w Q else Q (.bl false) w,
   λh H Q=>(wp K Γ a E).t h H λc z=>if c=true then(wp K Γ b E).t h z Q else Q false z,never.a⟩
 | .or a b,E=>⟨λh H Q=>(wp K Γ a E).e h H λx z=>z7 x z λc w=>if c=true then Q (.bl true) w else(wp K Γ b E).e h w Q,
   λh H Q=>(wp K Γ a E).t h H λc z=>if c=true then Q true z else(wp K Γ b E).t h z Q,never.a⟩
 | .not a,E=>⟨λh H Q=>(wp K Γ a E).e h H λx z=>FF K x z λc w=>Q (.bl (!c)) w,λh H Q=>(wp K Γ a E).t h H λc z=>Q (!c) z,never.a⟩|.call f as,E=>let e:TE:=λh H Q=>(wp K Γ as E).a h H λg z=>Γ.sp f g z Q E
  ⟨e,λh H Q=>e h H λx z=>FF K x z Q,never.a⟩
 | .bi f as,E=>let e:TE:=λh H Q=>(wp K Γ as E).a h H λg z=>To K f g z Q
  ⟨e,λh H Q=>e h H λx z=>FF K x z Q,never.a⟩
 | .isi a c,E=>let e:TE:=λh H Q=>(wp K Γ a E).e h H λx z=>(wp K Γ c E).e h z λy w=>Gg K [x,y] w Q
  ⟨e,λh H Q=>e h H λx z=>FF K x z Q,never.a⟩
 | .mt m o as,E=>let e:TE:=λh H Q=>(wp K Γ o E).e h H λx z=>FZ K m.ty x z/\(wp K Γ as E).a h z λg w=>Xa K m x g w Q
  ⟨e,λh H Q=>e h H λx z=>FF K x z Q,never.a⟩
 | .idx a b,E=>let e:TE:=λh H Q=>(wp K Γ a E).e h H λx z=>(wp K Γ b E).e h z λy w=>oY K x y w Q
  ⟨e,λh H Q=>e h H λx z=>FF K x z Q,never.a⟩
 | .slc a lo hi,E=>⟨λh H Q=>(wp K Γ a E).e h H λx z =>
   (if isNop lo=true then λ(R:Option Int->Hp->Prop)=>R none z else λR=>(wp K Γ lo E).e h z λl w=>gM l w R) λl w =>
   (if isNop hi=true then λ(R:Option Int->Hp->Prop)=>R none w else λR=>(wp K Γ hi E).e h w λu j=>gM u j R) λu j=>nr K x l u j Q,never.t,never.a⟩
 | .nop,E=>never|.lst as,E=>⟨λh H Q=>(wp K Γ as E).a h H λk z=>k.length<=sizeLine/\∀p,z p=none->Q (.ref p) (CA z p (.lst k)),never.t,never.a⟩|.tup as,E=>⟨λh H Q=>(wp K Γ as E).a h H λk z=>k.length<=sizeLine/\∀p,z p=none->Q (.ref p) (CA z p (.tup k)),never.t,never.a⟩|.comp mask tgs tg ik its cond elt,E=>⟨λh H Q=>(wp K Γ its E).a h H λg z=>aC K ik g z λk st w =>
   OX K k st tg (if isNop cond=true then λ_ H Q=>Q true H else(wp K Γ cond (λ_ _ _=>False)).t) (wp K Γ elt (λ_ _ _=>False)).e (AI tgs.length mask h) w Q,never.t,never.a⟩
 | .dnew b,E=>⟨λ_ H Q=>∀p,H p=none->Q (.ref p) (CA H p (.dT 0 [])),never.t,never.a⟩|.dsp a b,E=>⟨λh H Q=>∀p,H p=none->(wp K Γ a E).e h (CA H p (.dT 0 [])) λy z=>(wp K Γ b E).e h z λv w=>w p=some (.dT 0 [])/\∃b q,y=.ref b/\yO K w b q/\∀r,Q (.ref p) (CA w p (.dT r [(q,b,v)])),never.t,never.a⟩|.nz,E=>⟨never.e,never.t,λ_ H Q=>Q [] H⟩|.ny a as,E=>⟨never.e,never.t,λh H Q=>(wp K Γ a E).e h H λx z=>(wp K Γ as E).a h z λk w=>Q (x::k) w⟩
structure Glob where
 ev:Ev
 fn:Str->Prop
 val:Str->Prop
 no:Str->Prop
def Bi.nm:Bi->Str
 | .len=>"len"|.any=>"any"|.sorted=>"sorted"|.tuple=>"tuple"|.int=>"int"
def Mt.nm:Mt->Str
 | .append=>"append"|.pop=>"pop"|.setd=>"setdefault"|.extend=>"extend"
def An(G:Glob):ItK->Prop
 | .val=>True|.rng1=>G.no "range"|.enum=>G.no "enumerate"|.itm=>True
noncomputable def IA(G:Glob):PX->Prop
 | .glo x=>G.val x|.bty x n=>G.no x/\bootBuiltins x=some (.type n)|.bin _ a b | .cmp _ a b | .and a b | .or a b | .idx a b | .ny a b | .dsp a b=>IA G a/\IA G b
 | .not a | .lst a | .tup a=>IA G a
 | .slc a b c=>IA G a/\IA G b/\IA G c|.call f y=>G.fn f/\IA G y|.bi f y=>G.no f.nm/\IA G y|.isi a c=>G.no "isinstance"/\IA G a/\IA G c|.mt _ o y=>IA G o/\IA G y|.comp _ _ _ v z h u=>An G v/\IA G z/\IA G h/\IA G u|_=>True
structure SC where
 N:LS
 sc:Scope
def vD:Expr->Bool
 | .Starred _ _=>false|_=>true
def zg(S:SC)(i:Nat)(x:Str):Bool :=
 S.N[i]?==some x&&(S.sc.names.lookup x==some .local||S.sc.names.lookup x==some .cell||S.sc.names.lookup x==some .free)&&x != "__debug__" && x != "__classdict__"
def Ah(S:SC)(i:Nat)(x:Str):Bool:=S.N[i]?==some x&&S.sc.names.lookup x==some .local
def FS(S:SC)(x:Str):Bool:=S.sc.names.lookup x==some .globalImplicit&&x != "__debug__" && x != "__name__"
def JX(S:SC)(h:Scope)(y:LS)(x:List Bool):SC:=⟨y++KB x 0 S.N,TL h S.sc⟩
def NJ:LS->Bool
 |[]=>true|x::r=>!r.contains x&&NJ r
noncomputable def F6(S:SC)(h:Scope)(z:LS)(x:List Bool):Bool :=
 h.kind==.function&&h.names.all (λy=>y.2 != .cell&&(y.2 != .local||(h.names.lookup y.1==some .local&&(z.contains y.1||y.1==(".0":Str)))) &&
  (y.2 != .free||S.sc.names.lookup y.1==some .cell||S.sc.names.lookup y.1==some .free))&&NJ (z++KB x 0 S.N)&&!(z++KB x 0 S.N).contains (".0":Str)
def nk(c:Bool)(S:SC)(i:Nat)(x:Str):Bool:=S.N[i]?==some x&&(S.sc.names.lookup x==some .local||(c&&S.sc.names.lookup x==some .cell))
def Ip(c:Bool)(S:SC):Tg->Expr->Bool
 | .nm i,.Name x _=>nk c S i x|.tp is,.Tuple es _ _=>is.length==es.length&&(is.zip es).all λp=>match p.2 with
  | .Name x _=>nk c S p.1 x|_=>false
 |_,_=>false
def yQ:Expr->Bool
 | .Call (.Name _ _) [] [] _=>false|_=>true
def ER:Expr->Bool
 | .Set _ _ _=>false|_=>true
def zQ:Expr->Bool
 | .Slice _ _ _ _=>false|_=>true
def cF:PX->Bool
 | .nz=>true|.ny _ r=>cF r|_=>false
def aQ:Expr->Bool
 | .Tuple _ _ _=>true|_=>false
section
variable{α:Type}
section
variable{e:Expr}{l:List α}
def BH(e:Expr)(f:Str->Pos->Bool):Bool:=match e with | .Name x p=>f x p|_=>false
def JI(e:Expr)(f:Const->Bool):Bool:=match e with | .Constant c _ _=>f c|_=>false
def Ic(e:Expr)(f:Expr->Operator->Expr->Pos->Bool):Bool:=match e with | .BinOp l o r p=>f l o r p|_=>false
def Hm(e:Expr)(f:UnaryOp->Expr->Bool):Bool:=match e with | .UnaryOp o x _=>f o x|_=>false
def Ec(e:Expr)(f:Expr->List CmpOp->List Expr->Bool):Bool:=match e with | .Compare l x h _=>f l x h|_=>false
def UU(e:Expr)(f:BoolOp->List Expr->Pos->Bool):Bool:=match e with | .BoolOp o h p=>f o h p|_=>false
def XU(e:Expr)(f:Expr->List Expr->List Keyword->Pos->Bool):Bool:=match e with | .Call g x h p=>f g x h p|_=>false
def m4(e:Expr)(f:Expr->Str->Pos->Bool):Bool:=match e with | .Attribute v n p=>f v n p|_=>false
def HW(e:Expr)(f:Expr->Expr->Pos->Bool):Bool:=match e with | .Subscript v i p=>f v i p|_=>false
def MW(e:Expr)(f:Option Expr->Option Expr->Option Expr->Bool):Bool:=match e with | .Slice l h s _=>f l h s|_=>false
def NP(e:Expr)(f:List Expr->Pos->Bool):Bool:=match e with | .List h p=>f h p|_=>false
def Rc(e:Expr)(f:List Expr->Nat->Pos->Bool):Bool:=match e with | .Tuple h k p=>f h k p|_=>false
def nh(e:Expr)(f:Expr->List Comprehension->Scope->Pos->Bool):Bool:=match e with | .ListComp x h sc p=>f x h sc p|_=>false
def VU(e:Expr)(f:List (Option Expr)->List Expr->Bool):Bool:=match e with | .Dict x h _=>f x h|_=>false
def ZN(l:List α)(f:α->Bool):Bool:=match l with | [x]=>f x|_=>false
def Lu(l:List α)(f:α->α->Bool):Bool:=match l with | [x,y]=>f x y|_=>false
def D9(l:List α)(f:α->List α->Bool):Bool:=match l with|x::r=>f x r|_=>false
def Lm(o:Option α)(n:Bool)(f:α->Bool):Bool:=match o with|none=>n|some x=>f x
theorem sE{f:Str->Pos->Bool}(h:BH e f=true):∃x p,e=.Name x p/\f x p=true:=by
 cases e with|Name x p=>exact⟨x,p,rfl,h⟩|_=>exact(QF h).elim
theorem NG{f:Const->Bool}(h:JI e f=true):∃c k p,e=.Constant c k p/\f c=true:=by
 cases e with|Constant c k p=>exact⟨c,k,p,rfl,h⟩|_=>exact(QF h).elim
theorem F9{f:Expr->Operator->Expr->Pos->Bool}(h:Ic e f=true):∃l o r p,e=.BinOp l o r p/\f l o r p=true:=by
 cases e with|BinOp l o r p=>exact⟨l,o,r,p,rfl,h⟩|_=>exact(QF h).elim
theorem mh{f:UnaryOp->Expr->Bool}(h:Hm e f=true):∃o x p,e=.UnaryOp o x p/\f o x=true:=by
 cases e with|UnaryOp o x p=>exact⟨o,x,p,rfl,h⟩|_=>exact(QF h).elim
theorem C9{f:Expr->List CmpOp->List Expr->Bool}(h:Ec e f=true):∃l y x p,e=.Compare l y x p/\f l y x=true:=by
 cases e with|Compare l y x p=>exact⟨l,y,x,p,rfl,h⟩|_=>exact(QF h).elim
theorem MR{f:BoolOp->List Expr->Pos->Bool}(h:UU e f=true):∃o es p,e=.BoolOp o es p/\f o es p=true:=by
 cases e with|BoolOp o es p=>exact⟨o,es,p,rfl,h⟩|_=>exact(QF h).elim
theorem LR{f:Expr->List Expr->List Keyword->Pos->Bool}(h:XU e f=true):∃g es ks p,e=.Call g es ks p/\f g es ks p=true:=by
 cases e with|Call g es ks p=>exact⟨g,es,ks,p,rfl,h⟩|_=>exact(QF h).elim
theorem u4{f:Expr->Str->Pos->Bool}(h:m4 e f=true):∃v n p,e=.Attribute v n p/\f v n p=true:=by
 cases e with|Attribute v n p=>exact⟨v,n,p,rfl,h⟩|_=>exact(QF h).elim
theorem MP{f:Expr->Expr->Pos->Bool}(h:HW e f=true):∃v i p,e=.Subscript v i p/\f v i p=true:=by
 cases e with|Subscript v i p=>exact⟨v,i,p,rfl,h⟩|_=>exact(QF h).elim
theorem JY{f:Option Expr->Option Expr->Option Expr->Bool}(h:MW e f=true):∃l u s p,e=.Slice l u s p/\f l u s=true:=by
 cases e with|Slice l u s p=>exact⟨l,u,s,p,rfl,h⟩|_=>exact(QF h).elim
theorem pM{f:List Expr->Pos->Bool}(h:NP e f=true):∃es p,e=.List es p/\f es p=true:=by
 cases e with|List es p=>exact⟨es,p,rfl,h⟩|_=>exact(QF h).elim
theorem V9{f:List Expr->Nat->Pos->Bool}(h:Rc e f=true):∃es k p,e=.Tuple es k p/\f es k p=true:=by
 cases e with|Tuple es k p=>exact⟨es,k,p,rfl,h⟩|_=>exact(QF h).elim
theorem KU{f:Expr->List Comprehension->Scope->Pos->Bool}(h:nh e f=true):∃x y sc p,e=.ListComp x y sc p/\f x y sc p=true:=by
 cases e with|ListComp x y sc p=>exact⟨x,y,sc,p,rfl,h⟩|_=>exact(QF h).elim
theorem HR{f:List (Option Expr)->List Expr->Bool}(h:VU e f=true):∃ks vs p,e=.Dict ks vs p/\f ks vs=true:=by
 cases e with|Dict ks vs p=>exact⟨ks,vs,p,rfl,h⟩|_=>exact(QF h).elim
theorem JK{f:α->List α->Bool}(h:D9 l f=true):∃x r,l=x::r/\f x r=true:=by
 cases l with|nil=>exact(QF h).elim|cons x r=>exact⟨x,r,rfl,h⟩
theorem GB{f:α->Bool}(h:ZN l f=true):∃x,l=[x]/\f x=true:=by
 cases l with
 |nil=>exact(QF h).elim|cons x r =>
  cases r with|nil=>exact⟨x,rfl,h⟩|cons _ _=>exact(QF h).elim
theorem Mm{f:α->α->Bool}(h:Lu l f=true):∃x y,l=[x,y]/\f x y=true:=by
 cases l with
 |nil=>exact(QF h).elim|cons x r =>
  obtain⟨y,e,h⟩:=GB (l:=r) (f:=f x) (by
   cases r with|nil=>exact h|cons y r=>cases r<;>exact h)
  exact⟨x,y,by rw[e],h⟩
end
end
section
variable{c:Const}{n:Str}{e:Expr}
def No(c:Const)(f:Int->Bool):Bool:=match c with | .int i=>f i|_=>false
def Mo(c:Const)(f:Str->Bool):Bool:=match c with | .str i=>f i|_=>false
def Ye(c:Const)(f:Bool->Bool):Bool:=match c with | .bool i=>f i|_=>false
def Je(c:Const):Bool:=match c with | .none=>true|_=>false
theorem mj{f:Int->Bool}(h:No c f=true):∃i,c=.int i/\f i=true:=by
 cases c with|int i=>exact⟨i,rfl,h⟩|_=>exact(QF h).elim
theorem lj{f:Str->Bool}(h:Mo c f=true):∃i,c=.str i/\f i=true:=by
 cases c with|str i=>exact⟨i,rfl,h⟩|_=>exact(QF h).elim
theorem Sb{f:Bool->Bool}(h:Ye c f=true):∃i,c=.bool i/\f i=true:=by
 cases c with|bool i=>exact⟨i,rfl,h⟩|_=>exact(QF h).elim
theorem Rb(h:Je c=true):c=.none:=by
 cases c with|none=>rfl|_=>exact(QF h).elim
theorem yA{a b:Bool}(h:(a&&b)=true):a=true/\b=true:=by cases a<;>cases b<;>first|exact⟨rfl,rfl⟩| exact(QF h).elim
def SO(S:SC)(n:Str)(e:Expr)(f:List Expr->List Keyword->Pos->Bool):Bool:=XU e λg y h p=>BH g λx _=>n==x&&(FS S x&&f y h p)
theorem zJ{S:SC}{f:List Expr->List Keyword->Pos->Bool}(h:SO S n e f=true):∃y es ks p,e=.Call (.Name n y) es ks p/\FS S n=true/\f es ks p=true:=by obtain⟨g,es,ks,p,rfl,w⟩:=LR h;obtain⟨x,y,rfl,v⟩:=sE w;have u:=yA v;have z:=yA u.2;have e:=qX u.1;exact⟨y,es,ks,p,by rw[e],by rw[e];exact z.1,z.2⟩
def u5(n:Str)(e:Expr)(f:Expr->List Expr->Pos->Pos->Bool):Bool:=XU e λg z y p=>m4 g λv x h=>n==x&&(y.isEmpty&&(h.endLine==p.line&&f v z h p))
theorem EW{f:Expr->List Expr->Pos->Pos->Bool}(h:u5 n e f=true):∃v y es p,e=.Call (.Attribute v n y) es [] p/\(y.endLine==p.line)=true/\f v es y p=true:=by obtain⟨g,es,i,p,rfl,a⟩:=LR h;obtain⟨v,x,y,rfl,k⟩:=u4 a;have w:=yA k;have u:=yA w.2;have z:=yA u.2;have e:=qX w.1;have b:=Qz.mp u.1;exact⟨v,y,es,p,by rw[e,b],z.1,z.2⟩
def Vd(x:BoolOp)(r:Expr)(h:List Expr)(pos:Pos):Expr:=match h with
 |[]=>r|q::t=>.BoolOp x (r::q::t) pos
noncomputable def xq(y:Bool)(S:SC)(z:ItK)(c:List Expr->Pos->Bool)(t it:Expr)(pos:Pos):Bool:=match z with
 | .val=>y&&c [it] pos|.rng1=>SO S "range" it λh x p=>x.isEmpty&&ZN h λa=>c [a] p|.enum=>aQ t&&SO S "enumerate" it λh x p=>x.isEmpty&&ZN h λa=>c [a] p|.itm=>aQ t&&(y&&u5 "items" it λv h _ p=>yQ v&&(h.isEmpty&&c [v] p))
def js(h:List Expr)(n:Bool)(f:Expr->Bool):Bool:=match h with
 |[]=>n|c::r=>r.isEmpty&&(!n&&f c)
def isItm:ItK->Bool
 | .itm=>true|_=>false
noncomputable def yC:PX->SC->Expr->Bool
 | .xz i,S,e=>BH e λx _=>zg S i x|.int i,_,e=>JI e λc=>No c λj=>i==j|.str x,_,e=>JI e λc=>Mo c λy=>x==y|.bl b,_,e=>JI e λc=>Ye c λk=>b==k|.non,_,e=>JI e Je|.glo x,S,e=>BH e λy _=>x==y&&FS S x|.bty x _,S,e=>BH e λy _=>x==y&&FS S x|.bin op a b,S,e=>Ic e λl o r _=>op==o&&(yC a S l&&yC b S r)|.cmp op a b,S,e=>Ec e λl Z Y=>ZN Z λo=>ZN Y λr=>op==o&&(ER r&&(yC a S l&&yC b S r))|.and a b,S,e=>UU e λo z p=>o==.And&&D9 z λl t=>D9 t λr t=>yC a S l&&yC b S (Vd .And r t p)|.or a b,S,e=>UU e λo z p=>o==.Or&&D9 z λl t=>D9 t λr t=>yC a S l&&yC b S (Vd .Or r t p)|.not a,S,e=>Hm e λo x=>o==.Not&&yC a S x|.call f as,S,e=>SO S f e λz w p=>w.isEmpty&&yC as S (.List z p)|.bi f as,S,e=>SO S f.nm e λz w p=>w.isEmpty&&D9 z λx t=>yC as S (.List (x::t) p)|.isi a c,S,e=>SO S "isinstance" e λz w _=>w.isEmpty&&Lu z λl r=>vD l&&(vD r&&(yC a S l&&yC c S r))|.mt m o as,S,e=>u5 m.nm e λv z _ p=>cF as&&(yQ v&&(decide (z.length<20)&&(yC o S v&&yC as S (.List z p))))|.idx a b,S,e=>HW e λv i _=>zQ i&&(yC a S v&&yC b S i)|.slc a lo hi,S,e=>HW e λv X _=>MW X λl h s=>s.isNone&&(yC a S v&&(Lm l (isNop lo) (λe=>!isNop lo&&yC lo S e)&&Lm h (isNop hi) λe=>!isNop hi&&yC hi S e))|.nop,_,_=>false|.lst as,S,e=>NP e λz p=>yC as S (.List z p)|.tup as,S,e=>Rc e λz _ p=>yC as S (.List z p)|.comp mask tgs tg ik its cond elt,S,e=>nh e λK W u p=>ZN W λg=>g.is_async==0&&(!isItm ik&&(F6 S u tgs mask&&(Ip false (JX S u tgs mask) tg g.target&&(ER g.iter &&
   (xq (cF its) S ik (λz p=>yC its S (.List z p)) g.target g.iter p&&(js g.ifs (isNop cond) (λc=>yC cond (JX S u tgs mask) c)&&yC elt (JX S u tgs mask) K))))))
 | .dnew _,_,e=>VU e λw q=>w.isEmpty&&q.isEmpty|.dsp a b,S,e=>VU e λw q=>ZN w λk=>ZN q λv=>Lm k false (yC a S)&&yC b S v|.nz,_,e=>NP e λz _=>z.isEmpty|.ny a as,S,e=>NP e λz p=>D9 z λx t=>vD x&&(yC a S x&&yC as S (.List t p))
end
variable{Γ:Ev}
theorem Xj(x:V)(H:Hp)(Q:Bool->Hp->Prop):z7 x H Q=∃k,x=.bl k/\Q k H:=by
 apply propext;cases x with|bl b=>exact⟨λh=>⟨b,rfl,h⟩,λ⟨k,e,h⟩=>by cases e;exact h⟩|_=>exact⟨λh=>Qc h,λ⟨k,e,h⟩=>by cases e⟩
theorem R3(x:V)(H:Hp)(Q:Option Int->Hp->Prop):gM x H Q=∃i,x=.int i/\Q (some i) H:=by
 apply propext;cases x with|int b=>exact⟨λh=>⟨b,rfl,h⟩,λ⟨k,e,h⟩=>by cases e;exact h⟩|_=>exact⟨λh=>Qc h,λ⟨k,e,h⟩=>by cases e⟩
theorem fW(K:QA)(x:V)(H:Hp)(Q:Bool->Hp->Prop):FF K x H Q=∃k,Gj K x H k/\Q k H:=by
 apply propext;cases x with|bl b=>exact⟨λh=>⟨b,rfl,h⟩,λ⟨k,(e:k=b),h⟩=>by subst e;exact h⟩|int i=>exact⟨λh=>⟨i != 0,rfl,h⟩,λ⟨k,(e:k=(i != 0)),h⟩=>by subst e;exact h⟩|non=>exact⟨λh=>⟨false,rfl,h⟩,λ⟨k,(e:k=false),h⟩=>by subst e;exact h⟩|str z=>exact⟨λh=>⟨_,⟨h.1,rfl⟩,h.2⟩,λ⟨k,⟨u,y⟩,h⟩=>by subst y;exact⟨u,h⟩⟩|_=>exact wo
section
variable{X:Cx}
section
variable{e b:Expr}{es:List Expr}{env:Env}{its:LW}
theorem M3:PE X e never.e:=λ_ _ _ _ _ _ h=>Qc h
theorem yM:PT X e never.t:=λ_ _ _ _ _ _ h=>Qc h
theorem GR:PA X es never.a:=λ_ _ _ _ _ _ _ h=>Qc h
theorem rD{a:Expr}{ta:TE}(i:PE X a ta)(g:∀y,isTrue a X.env y=(do let v <- y;standAt a.pos;holding [v] (truthy v))) :
  PT X a (λσ H Q=>ta σ H λx l=>FF X.K x l Q):=by
 intro z s σ H Q I h;refine isTrue_plain (TB (i z s σ H _ I h) λv k ⟨x,w,j,f,u⟩=>?_) (g _);have u:FF X.K x w Q:=u;rw[fW]at u;exact R0 z k σ w x v Q j f u
theorem y4{f:Value->Value->Sem Value}:NE X f (λ_ _ _ _=>False):=λ_ _ _ _ _ _ _ _ _ _ _ _ h=>h.elim
theorem gh(h:Operator):NE X (binaryOp h) (Ab X.K h):=by
 cases h with|Add=>exact op_add|Sub=>exact op_sub|Mult=>exact bh|FloorDiv=>exact Z9|Mod=>exact op_mod|_=>exact y4
theorem KS(neg:Bool){h:PB}{s:Shared}{σ:St}{H:Hp}{b c:Bool}{Q:VK}(I:Inv X h σ H s)(q:Q (.bl (if neg then !decide (b=c) else decide (b=c))) H):wpAny (model X.prog X.w) X.A (compareOp (if neg then .IsNot else .Is) (.bool b) (.bool c)) (EP X h σ Q) X.xe s:=by
 have e:compareOp (if neg then .IsNot else .Is) (.bool b) (.bool c)=pure (.bool (if neg then !decide (b=c) else decide (b=c))):=by cases neg<;>cases b<;>cases c<;>rfl
 rw[e];exact QK ⟨.bl _,H,I,rfl,q⟩
theorem v4(g:X.A.units+66<cLine)(f:CmpOp):NE X (compareOp f) (L6 X.K f):=by
 cases f with
 |Eq=>exact op_eq (by omega)|NotEq=>exact op_ne (by omega)|Lt=>exact GP _root_.L2.op_lt|LtE=>exact GP _root_.L2.op_le|Gt=>exact GP _root_.L2.op_gt|GtE=>exact GP _root_.L2.op_ge|In=>exact Dm g|NotIn=>exact j4 g|Is =>
  intro z s a H x y v u Q I k w h;cases y with|non=>exact dh z s a H x _ v u Q I k w ⟨rfl,h⟩|bl c=>obtain⟨b,rfl,q⟩:=h;cases k;cases w;cases b<;>cases c<;>exact KS false I q|_=>exact Qc h
 |IsNot =>
  intro z s a H x y v u Q I k w h;cases y with|non=>exact Y9 z s a H x _ v u Q I k w ⟨rfl,h⟩|bl c=>obtain⟨b,rfl,q⟩:=h;cases k;cases w;cases b<;>cases c<;>exact KS true I q|_=>exact Qc h
theorem Zi(Z:X.A.units+66<cLine):B7 X (oY X.K):=by
 intro w k f s n H x y v u Q I r p h Y;have sq:=λh=>Yi (X:=X) w k f s n H x y v u Q I r p h Y;have dc:=λh=>Na Z w k f s n H x y v u Q I r p h Y;cases x with
 |str z =>
  cases y with|int i=>obtain⟨W,c,m,q⟩:=h;exact sq (.inr (.inr ⟨z,i,c,rfl,rfl,W,m,q⟩))|_=>exact Qc h
 |ref a =>
  cases y with
  |int i=>obtain⟨o,j,l,m,q⟩:=h;rcases l with l|l;exact sq (.inl ⟨a,o,i,j,rfl,rfl,l,m,q⟩);exact sq (.inr (.inl ⟨a,o,i,j,rfl,rfl,l,m,q⟩))
  |str z=>obtain⟨j,g,q⟩:=h;exact dc ⟨a,j,rfl,g,q⟩|ref b=>obtain⟨j,g,q⟩:=h;exact dc ⟨a,j,rfl,g,q⟩|_=>exact Qc h
 |_=>exact Qc h
theorem M4{x:CmpOp}(h:ER b=true):behindInMarks x b=false:=by cases b<;>first|rfl|cases h
theorem u9(h:zQ b=true):MX b:=by intro o i;cases b<;>first|rfl|cases h
theorem uB(env:Env)(h:vD e=true):starEach (e::es) env=(false,eval e env)::starEach es env:=by cases e<;>first|rfl|cases h
theorem FU(h:ER e=true)(x:Value):foldedSetIterable e env x=pure x:=by cases e<;>first|rfl|cases h
theorem L4{o:Expr}{n:Str}(h:yQ o=true):attributeBase o n env (eval o env)=eval o env:=by unfold attributeBase;split;cases h;rfl
theorem Ja:v8 X "list.pop" Dc:=by intro z s f H x u v g Q I j m h;obtain⟨l,i,u,k,y,rfl,rfl,a,hk,n,q⟩:=h;obtain⟨o,Y,r,p⟩:=tQ hk;have hl:u.length<=sizeLine:=(show FA X.prog X.w H s.heap l (.lst u) from I.hok l _ a).1;rw[Q7]at hl;exact x5 z s f H _ _ v g Q I j m ⟨l,u,i,k,y,rfl,rfl,a,by omega,by omega,o,n,q⟩
theorem nR{x:LS}(h:oA (x.map V.str) its):StrsAre its x:=by
 induction x generalizing its with
 |nil=>cases h;exact .nil|cons y x z =>
  cases h with|cons h t=>obtain⟨k,rfl⟩:=h;exact .cons _ _ (z t)
theorem SX{x:LS}(h:StrsAre its x):oA (x.map V.str) its:=by
 induction h with|nil=>exact .nil|cons y t _ z=>exact .cons ⟨t,rfl⟩ z
theorem sY{out:LW}(g:its.Perm out):∀{xs:LV},oA xs its->∃z,z.Perm xs/\oA z out:=by
 induction g with
 |nil=>intro xs r;cases r;exact⟨[],QBF _,.nil⟩|cons x _ k =>
  intro xs r;cases r with|cons h t=>obtain⟨z,p,v⟩:=k t;exact⟨_::z,p.cons _,.cons h v⟩
 |swap x y l =>
  intro xs r;cases r with
  |cons h t=>cases t with|cons i t=>exact⟨_::_::_,QCK.swap _ _ _,.cons i (.cons h t)⟩
 |trans _ _ f a=>intro xs r;obtain⟨z,p,v⟩:=f r;obtain⟨w,q,u⟩:=a v;exact⟨w,q.trans p,u⟩
theorem C0{xs:LV}{v:Value}(r:oA xs its)(h:v∈its):∃x∈xs,iA x v:=by
 induction r with
 |nil=>exact nomatch h
 |cons r t z=>rcases QL.mp h with e|h;subst e;exact⟨_,QD,r⟩;obtain⟨x,u,y⟩:=z h;exact⟨x,QE _ u,y⟩
theorem kZ{vs:LW}{ns:LJ}(h:IntsAre vs ns):oA (ns.map V.int) vs:=by
 induction h with|nil=>exact .nil|cons n t _ x=>exact .cons ⟨t,rfl⟩ x
theorem rT(hu:X.A.units+66<cLine):rC X (.builtin "sorted") (JW X.K):=by
 intro pins s σ H xs us Q I r h;obtain⟨p,rfl,h⟩:=h;rcases h with⟨ss,W,E,q⟩| ⟨xs,W,E,hx,q⟩| ⟨ns,W,E,q⟩
 skip;obtain⟨u,rfl,m⟩:=kI r;cases m;obtain⟨its,g,Y,hz⟩:=I.list W;have hl:=g.length;rw[QG]at hl;refine sorted_strs Y.isList (by simpa using nR g) (by omega) λout l J F a3=>?_;obtain⟨e,B⟩:=QB3 s.heap its out;have hlen:=(oP J).1;have hp:=F.length_eq;refine⟨.ref (s.heap.objs.size+1),_,I.laid (t':=s.toks) (λb o z=>QBh z) (wc _) (show FA X.prog X.w _ _ _ (.lst (l.map V.str)) from⟨by rw[QG,Q7];omega,out.toList,e,SX J,by simpa using B⟩),rfl,q _ l (I.hok.fresh (wc _)) F a3⟩;skip;obtain⟨u,rfl,m⟩:=kI r;cases m;obtain⟨its,g,Y,hz⟩:=I.list W;have hl:=g.length;have f:∀v∈its,∃b dd M n k,∃j:LS,v=.ref b/\s.heap.get? b=some { cls:=.type "list",dict:=dd,data:=.seq k n,slots:=M }/\StrsAre k.toList j:=λv hv=>by obtain⟨x,S,N⟩:=C0 g hv;obtain⟨a,j,rfl,sq⟩:=hx x S;cases N;obtain⟨i,O,⟨o,n,e,c,d,z⟩,_⟩:=I.list sq;obtain⟨oc,od,R,P⟩:=o;cases c;exact⟨a,od,P,n,i.toArray,j,rfl,by rw[e,show R=Data.seq i.toArray n from z],by simpa using nR O⟩
 refine K8 Y.isList (by omega) (λv hv=>?_) (λh3 kp x hx y hy C hC=>?_) λout hp=>?_;obtain⟨b,dd,M,n,k,j,rfl,e,_⟩:=f v hv;exact⟨b,_,rfl,e,rfl⟩;obtain⟨b,dd,M,n,k,j,rfl,e,st⟩:=f x hx;obtain⟨b2,dd2,sl2,n2,G,ts2,rfl,e2,L⟩:=f y hy;exact ZU (s:={ s with heap:=h3 }) (show X.A.units+1+1<cLine by omega) (kp _ _ e) (kp _ _ e2) st L (hC _);obtain⟨e,B⟩:=QB3 s.heap its out.toArray;obtain⟨ys,py,vy⟩:=sY hp.symm g;have hp2:=py.length_eq;refine⟨.ref (s.heap.objs.size+1),_,I.laid (t':=s.toks) (λb o z=>QBh z) (wc _) (show FA X.prog X.w _ _ _ (.lst ys) from⟨by rw[Q7];omega,out,e,vy,B⟩),rfl,q _ ys (I.hok.fresh (wc _)) py⟩;obtain⟨u,rfl,m⟩:=kI r;cases m;obtain⟨its,g,Y,hz⟩:=I.list W;have hl:=g.length;rw[QG]at hl;refine sorted_ints Y.isList (hV g) (by omega) λout Z J F a3=>?_;obtain⟨e,B⟩:=QB3 s.heap its out;have hp:=F.length_eq;refine⟨.ref (s.heap.objs.size+1),_,I.laid (t':=s.toks) (λb o z=>QBh z) (wc _) (show FA X.prog X.w _ _ _ (.lst (Z.map V.int)) from⟨by rw[QG,Q7];omega,out.toList,e,kZ J,by simpa using B⟩),rfl,q _ Z (I.hok.fresh (wc _)) F a3⟩
theorem aZ:rC X (.type "tuple") (A2 X.K):=by intro x s y H k u Q I r h;obtain⟨p,z,rfl,w,v⟩:=h;exact IN x s y H _ u Q I r ⟨p,z,rfl,.inl ⟨w,v⟩⟩
theorem iZ:rC X (.type "int") Fc:=by intro x s y H u z Q I r h;obtain⟨b,rfl,q⟩:=h;exact JZ x s y H _ z Q I r (.inr ⟨b,rfl,q⟩)
theorem Ka:v8 X "list.extend" Hc:=by intro y s u H x z v k Q I a f h;obtain⟨l,b,z,w,rfl,rfl,h⟩:=h;exact HY y s u H _ _ v k Q I a f ⟨l,b,z,w,rfl,rfl,h⟩
theorem Po(h:X.A.units+66<cLine)(hc:X.calm=true)(f:Bi):(∃id,bootBuiltins f.nm=some (.builtin id)/\rC X (.builtin id) (To X.K f))∨∃T,bootBuiltins f.nm=some (.type T)/\rC X (.type T) (To X.K f):=by
 cases f with|len=>exact .inl ⟨_,PySem.boot_len,N6⟩|any=>exact .inl ⟨_,PyProof.Rows.boot_any,P6 hc⟩|sorted=>exact .inl ⟨_,PyProof.Rows.boot_sorted,rT h⟩|tuple=>exact .inr ⟨_,by kernel_rfl,aZ⟩|int=>exact .inr ⟨_,PyProof.Rows.boot_int,iZ⟩
end
end
end L2.L3
namespace L2.L3
open PySem PySem.Spec PyProof.Rows
section
variable{S:SC}{i:Nat}{x:Str}
structure OkX(X:Cx)(S:SC)(G:Glob)(E:XK):Prop where
 N:X.N=S.N
 sc:X.env.scope=S.sc
 calm:X.calm=true
 un:X.A.units+66<cLine
 fn:∀f,G.fn f->∃(CX:O7) (k:Nat) (a:Addr) (fd:FuncData) (ps:LS),FnOk X.prog X.w X.K X.mg X.base CX k a fd ps (G.ev.sp f)/\Room k X.A/\X.mg f=some (.ref a)/\wI X.K (.ref a)=true/\rJ X.K fd ps [] /\
  gN CX X E/\∀l H s e s',CX l H s (λ_ _ _=>False) e s'->False
 val:∀x,G.val x->∃u,X.mg x=some u/\iA (G.ev.va x) u
 no:∀x,G.no x->X.mg x=none
def yR(X:Cx)(Γ:Ev)(E:XK):PX->List Expr->Prop
 | .ny a as,e::es=>PE X e (wp X.K Γ a E).e/\yR X Γ E as es|_,_=>True
structure Snd(X:Cx)(Γ:Ev)(E:XK)(p:PX)(e:Expr):Prop where
 pe:PE X e (wp X.K Γ p E).e
 pt:PT X e (wp X.K Γ p E).t
 pw:∀op es pos,e=.BoolOp op es pos->PW X e (wp X.K Γ p E).t
 pa:∀es pos,e=.List es pos->PA X es (wp X.K Γ p E).a
 pas:∀es pos,e=.List es pos->yR X Γ E p es
theorem l8(h:zg S i x=true):S.N[i]?=some x/\yp S.sc x/\(x==("__debug__":Str))=false/\(x==("__classdict__":Str))=false:=by simp only[zg,Qa,wU,beq_iff_eq,bne_iff_ne,ne_eq]at h;obtain⟨⟨⟨v,y⟩,u⟩,z⟩:=h;refine⟨v,?_,by simpa using u,by simpa using z⟩;rcases y with(y|y)|y;exact .inl y;exact .inr (.inl y);exact .inr (.inr y)
theorem Da(h:Ah S i x=true):S.N[i]?=some x/\S.sc.names.lookup x=some .local:=by simp only[Ah,Qa,beq_iff_eq]at h;exact h
theorem SG(h:FS S x=true):S.sc.names.lookup x=some .globalImplicit/\(x==("__debug__":Str))=false/\x≠"__name__":=by simp only[FS,Qa,beq_iff_eq,bne_iff_ne,ne_eq]at h;exact⟨h.1.1,by simpa using h.1.2,h.2⟩
theorem aE:∀{l:LS},NJ l=true->l.Nodup
 |[],_=>Q0|x::r,h=>by simp only[NJ,Qa,Qy]at h;exact Qi.mpr ⟨by simpa using h.1,aE h.2⟩
theorem zT{z:Scope}{w:LS}{u:List Bool}(h:F6 S z w u=true):CompSt S.N S.sc z w u:=by simp only[F6,Qa,Qq,beq_iff_eq,Qy]at h;obtain⟨⟨⟨f,k⟩,b⟩,a⟩:=h;refine⟨f,λy v e=>?_,λy v e=>?_,λy v e=>?_,λy v e=>?_,aE b,by simpa using a⟩;have:=(k y v).1.1;rw[e]at this;exact absurd this (by decide);have:=(k y v).1.2;rw[e]at this;simp at this;exact this.1;have:=(k y v).2;rw[e]at this;simp at this;exact this;have:=(k y v).1.2;rw[e]at this;simp at this;exact this.2
theorem OkX.comp{X:Cx}{G:Glob}{E:XK}(ok:OkX X S G E)(y:Scope)(v:LS)(u:List Bool)(s:Shared)(H:Hp)(ex:List Addr):OkX (OA X y v u s H ex) (JX S y v u) G (λ_ _ _=>False) where
 N:=by show v++KB u 0 X.N=v++KB u 0 S.N;rw[ok.N]
 sc:=by show TL y X.env.scope=TL y S.sc;rw[ok.sc]
 calm:=ok.calm
 un:=ok.un
 fn:=λf h=>by obtain⟨o,k,a,n,b,m,l,j,g,e,p,w⟩:=ok.fn f h;exact⟨o,k,a,n,b,m,l,j,g,e,λ_ _ _ _ _ _ _ z=>(w _ _ _ _ _ z).elim,w⟩
 val:=ok.val
 no:=ok.no
end
section
variable{X:Cx}
theorem J5{c:Bool}{S:SC}{i:Nat}{x:Str}(k:X.N=S.N)(y:X.env.scope=S.sc)(u:c=true->∀x,X.fn x=true)(h:nk c S i x=true):X.N[i]?=some x/\Xk X.env.scope x/\(X.fn x=true∨X.env.scope.names.lookup x=some .local):=by
 simp only[nk,Qa,wU,beq_iff_eq]at h;rw[k,y];rcases h.2 with z|⟨w,v⟩
 exact⟨h.1,.inl z,.inr z⟩;exact⟨h.1,.inr v,.inl (u w x)⟩
theorem mO{c:Bool}{S:SC}(k:c=true->∀x,X.fn x=true)(g:X.N=S.N)(w:X.env.scope=S.sc)(nd:X.N.Nodup):∀(is:LN) (es:List Expr),is.length=es.length->((is.zip es).all λp=>match p.2 with | .Name x _=>nk c S p.1 x|_=>false)=true ->
  dv X es (λvs σ H Q=>∃y,vB is vs σ=some y/\Q y H)
 |[],[],_,_=>by
  intro z s σ H vs m Q I r h;obtain⟨y,e,q⟩:=h;cases vs with|nil=>cases r;simp only[vB]at e;cases e;exact assignInOrder_nil ⟨σ,H,I,q⟩|cons _ _=>simp[vB]at e
 |[],_::_,h,_=>by cases h|_::_,[],h,_=>by cases h|i::is,e::es,hl,hz=>by
  simp only[QAE,qZ,Qa]at hz;obtain⟨j,Z⟩:=hz;cases e with
  |Name x pos =>
   obtain⟨f,b,a⟩:=J5 g w k j;have Y:=mO k g w nd is es (by simpa using hl) Z;intro z s σ H vs m Q I r h;obtain⟨y,e,q⟩:=h;cases vs with
   |nil=>simp[vB]at e|cons v vs =>
    simp only[vB]at e;cases r with|cons r o=>show wpAny _ _ (assignInOrder (assign (.Name x pos) X.env::(assignEach es X.env).map (·.2)) _) _ _ _;refine assignInOrder_cons (TB (DW (pos:=pos) nd f b a z s σ H v _ _ I r (show hX i v σ H (λu l=>u=σ.set i (some v)/\l=H) from⟨rfl,rfl⟩)) λ_ n ⟨u,l,A,K,W⟩=>?_);subst K W;exact Y z n _ _ vs _ Q A o ⟨y,e,q⟩
  |_=>simp at j
theorem sS{c:Bool}:∀(is:LN) (es:List Expr) (S:SC),is.length=es.length->((is.zip es).all λp=>match p.2 with | .Name x _=>nk c S p.1 x|_=>false)=true->(assignEach es X.env).length=es.length/\(assignEach es X.env).findIdx? (·.1)=none
 |[],[],_,_,_=>⟨rfl,rfl⟩|[],_::_,_,h,_=>by cases h|_::_,[],_,h,_=>by cases h|i::is,e::es,S,hl,hz=>by
  simp only[QAE,qZ,Qa]at hz;obtain⟨v,u⟩:=hz;cases e with|Name x y=>have z:=sS is es S (by simpa using hl) u;have w:assignEach (.Name x y::es) X.env=(false,assign (.Name x y) X.env)::assignEach es X.env:=rfl;rw[w];refine⟨by rw[QM,QM,z.1],?_⟩;rw[List.findIdx?_cons];simp[z.2]|_=>simp at v
theorem NL:∀{is:LN}{vs:LV}{σ x:St},vB is vs σ=some x->vs.length=is.length
 |[],[],_,_,_=>rfl|[],_::_,_,_,h=>by simp[vB]at h|_::_,[],_,_,h=>by simp[vB]at h|_::is,_::vs,σ,x,h=>by simp only[vB]at h;rw[QM,QM,NL h]
theorem CW{c:Bool}{S:SC}{G:Glob}{E:XK}(ok:OkX X S G E)(z:c=true->∀x,X.fn x=true)(nd:X.N.Nodup){b:Tg}{e:Expr}(h:Ip c S b e=true):PG X e (VE X.K b):=by
 cases b with
 |nm i =>
  cases e with|Name x pos=>obtain⟨l,j,g⟩:=J5 ok.N ok.sc z h;exact DW nd l j g|_=>cases h
 |tp o =>
  cases e with
  |Tuple m k pos =>
   obtain⟨J,Z⟩:=yA h;have f:=qX J;obtain⟨C,B⟩:=sS (X:=X) o m S f Z;have w:=Ag (pos:=pos) (k:=k) (n:=m.length) ok.calm (mO z ok.N ok.sc nd o m f Z) C B;intro y s W H v u Q I r Y;refine w y s W H v u Q I r ?_;cases v with|ref p=>obtain⟨A,a,F,e,q⟩:=Y;exact⟨p,A,rfl,F,by rw[NL e,f],a,e,q⟩|_=>exact Qc Y
  |_=>cases h
end
variable{Γ:Ev}
theorem x8(K:QA)(a:Addr)(xs:LV):Yields (Mv K a) (xs.map .one) (λH=>AC K H a xs) :=
  { go:=λi H h u=>by
      have z:i<xs.length:=by simpa using u
      exact⟨xs,xs[i],h,by simp[z]⟩
    yld:=λi H x v h _ ⟨e,y⟩=>⟨.one x,by rw[Qd,y xs h];rfl,rfl,e⟩
    stop:=λi H h u=>⟨xs,h,by simpa using u⟩ }
theorem Mf(K:QA)(a:Addr)(xs:LV):Yields (Hv K a) (xs.map .one) (λH=>ED K H a xs) :=
  { go:=λi H h u=>by
      have z:i<xs.length:=by simpa using u
      exact⟨xs,xs[i],h,by simp[z]⟩
    yld:=λi H x v h _ ⟨e,y⟩=>⟨.one x,by rw[Qd,y xs h];rfl,rfl,e⟩
    stop:=λi H h u=>⟨xs,h,by simpa using u⟩ }
theorem Nf(u:Int)(n:Nat):Yields (au u n) ((Qr n).map λ(k:Nat)=>.one (.int (u+(k:Int)))) (λ_=>True) :=
  { go:=λi H h z=>by
      have y:i<n:=by simpa using z
      exact y
    yld:=λi H x w h z ⟨e,v⟩=>by
      have y:i<n:=by simpa using z
      exact⟨.one x,by rw[Qd,Wz y,v];rfl,rfl,e⟩
    stop:=λi H h z=>by
      have y:n<=i:=by simpa using z
      exact y }
theorem b8(K:QA)(z:Src)(c:Nat)(xs:LV):Yields (Ov K z c) (xs.zipIdx.map λp=>.tup [.int ((c+p.2:Nat):Int),p.1]) (λH=>MZ K H z xs) :=
  { go:=λi H h u=>by
      have y:i<xs.length:=by simpa using u
      exact⟨xs,xs[i],h,by simp[y]⟩
    yld:=λi H x g h u ⟨p,a,v,e,w,k⟩=>by
      have y:i<xs.length:=by simpa using u
      have f:=k xs h;refine⟨.tup [.int ((c+i:Nat):Int),a],?_,p,v,e,w⟩;have b:xs.zipIdx[i]?=some (a,i):=by rw[List.getElem?_zipIdx,f];simp
      rw[Qd,b];rfl
    stop:=λi H h u=>⟨xs,h,by simpa using u⟩ }
theorem SZ(ep:Nat)(a:Addr)(kvs:List KE):Yields (Lv ep kvs.length a) (kvs.map λp=>.tup [.ref p.2.1,p.2.2]) (λH=>H a=some (.dT ep kvs)) :=
  { go:=λi H h y=>by
      have z:i<kvs.length:=by simpa using y
      exact⟨kvs,kvs[i],h,rfl,by simp[z]⟩
    yld:=λi H x w h y ⟨q,p,u,e,v,k⟩=>⟨.tup [.ref p.2.1,p.2.2],by rw[Qd,k kvs h];rfl,q,u,e,v⟩
    stop:=λi H h y=>⟨kvs,h,rfl,by simpa using y⟩ }
theorem u8(ep:Nat)(a:Addr)(kvs:List KE):Yields (Nv ep kvs.length a) (kvs.map λp=>.one (.ref p.2.1)) (λH=>H a=some (.dT ep kvs)) :=
  { go:=λi H h y=>by
      have z:i<kvs.length:=by simpa using y
      exact⟨kvs,kvs[i],h,rfl,by simp[z]⟩
    yld:=λi H x b h y ⟨u,k⟩=>by obtain⟨p,w,v⟩:=k kvs h;exact⟨.one (.ref p.2.1),by rw[Qd,w];rfl,v,u⟩
    stop:=λi H h y=>⟨kvs,h,rfl,by simpa using y⟩ }
def vU(h:St->Hp->(List Item->(Hp->Prop)->Hp->Prop)->Prop):TI:=λx H R=>h x H λy st z=>∀J,Yields J y st->R J z
section
variable{X:Cx}{f:Expr}
section
variable{a:Expr}{ta:TA}{p pos k:Pos}{x:Str}{es:List Expr}{d:Nat}
theorem b9{l:Expr}{t:TE}(hl:PE X l t):PI X f l (vU λσ H R=>t σ H λv m=>aC X.K .val [v] m R):=by
 intro g s σ H R I h;refine TB (hl g s σ H _ I h) λv y ⟨x,m,i,F,C⟩=>?_;have j:∀b∈[y.heap.objs.size],pJ X g m b:=λb hb=>by
  have e:b=y.heap.objs.size:=by simpa using hb
  subst e;exact i.fpOk (QZ _) (i.hok.fresh (QZ _))
 cases x with
 |ref a =>
  cases F;rcases C with⟨Z,A,q⟩| ⟨Z,A,q⟩| ⟨ep,u,e,q⟩
  obtain⟨Y,E,p,G⟩:=i.list A;refine QAX p.isList ?_;exact⟨y.heap.objs.size,[y.heap.objs.size],_,_,m,rfl,i.kept (t':=y.toks) λb o e=>QH _ e,AX a _,⟨_,QU _ rfl,rfl,rfl⟩,j,q _ (x8 _ a Z)⟩;obtain⟨Y,E,p,G⟩:=i.tuple A;refine QBf (show y.heap.IsTuple a Y.toArray from p) ?_;exact⟨y.heap.objs.size,[y.heap.objs.size],_,_,m,rfl,i.kept (t':=y.toks) λb o e=>QH _ e,dU a _,⟨_,QU _ rfl,rfl,rfl⟩,j,q _ (Mf _ a Z)⟩;obtain⟨z,J,Z,r,ob,B,O,N,M,L,P⟩:=(show FA X.prog X.w m y.heap a (.dT ep u) from i.hok a _ e)
  have W:B.size=u.length:=by have:=congrArg qt L;rw[QG,Qs]at this;rw[this,<- qH r]
  refine Ra J O N.1 M ?_;exact⟨y.heap.objs.size,[y.heap.objs.size],_,_,m,rfl,i.kept (t':=y.toks) λb o e=>QH _ e,EX (a:=a) (n:=u.length) (ep:=ep),⟨_,QU _ rfl,rfl,by rw[<- W];rfl⟩,j,q _ (u8 ep a u)⟩
 |_=>exact Qc C
theorem c9(g:x="range")(m:Gl X x)(l:X.mg x=none)(n:PA X [a] ta)(i:vD a=true) :
  PI X f (.Call (.Name x p) [a] [] pos) (vU λσ H R=>ta σ H λvs v=>aC X.K .rng1 vs v R):=by
 subst g;intro z s σ H R I h;refine Call_ (FH I m l boot_range (wu (TB (n pos z s σ H _ I h) λY Z ⟨vs,v,o,b,u⟩=>?_) (uB _ i) rfl))
 match vs,u with
 |[.int j],⟨⟨u,q2⟩,q⟩ =>
  cases b with
  |cons r w =>
   cases w;obtain⟨t,rfl⟩:=r;refine call_range_1 (T2 o (by omega) (by omega) u q2 ?_);have e:(j - 0).toNat=j.toNat:=by simp
   rw[e];have y:=Nf 0 j.toNat;refine q _ ?_;simpa using y
theorem ZZ:bootBuiltins ("enumerate":Str)=some (.type "enumerate"):=by kernel_rfl
theorem Y6{y:PB}{σ:St}{e:Hp}{h:Shared}{R:It->Hp->Prop}{c:Nat}{z:Src}{xs:LV}{its:Array Value}{h':Heap}(v:Inv X y σ e h)(g:MB h.heap z its)(st:yW (h.heap.objs.size+1) h.heap.objs.size z c 0 h')(j:∀c o,h.heap.get? c=some o->h'.get? c=some o)
  (q:∀J,Yields J (xs.zipIdx.map λp=>.tup [.int ((c+p.2:Nat):Int),p.1]) (λH=>MZ X.K H z xs)->R J e):wpAny (model X.prog X.w) X.A (pyIter (.ref (h.heap.objs.size+1))) (du X y σ (.Tuple es d k) R) X.xe { h with heap:=h' }:=by
 obtain⟨⟨i,l⟩,_⟩:=id st;refine QBu l ?_;have m:=v.kept (h':=h') (t':=h.toks) j;have lt:=g.lt;refine⟨_,[h.heap.objs.size+1,h.heap.objs.size],_,_,e,rfl,m,IX (mw (Nat.succ_ne_self _)) (Qj (w6 lt)) (Qj lt),st,λb hb=>?_,q _ (b8 _ z c xs)⟩;have u:h.heap.objs.size<=b:=by simp only[QL,wm,or_false]at hb;rcases hb with rfl|rfl;exact QAm _ _;exact QZ _
 exact v.fpOk u (v.hok.fresh u)
theorem f9(l:x="enumerate")(o:Gl X x)(n:X.mg x=none)(Y:PA X [a] ta)(m:vD a=true) :
  PI X (.Tuple es d k) (.Call (.Name x p) [a] [] pos) (vU λσ H R=>ta σ H λvs w=>aC X.K .enum vs w R):=by
 subst l;intro u s σ H R I h;refine Call_ (FH I o n ZZ (wu (TB (Y pos u s σ H _ I h) λZ W ⟨vs,w,v,e,g⟩=>?_) (uB _ m) rfl))
 match vs,g with
 |[.ref l1],⟨z,xs,e1,h1,q⟩ =>
  subst e1;cases e with|cons r b=>cases b;cases r;obtain⟨j,_,y,_⟩:=v.src h1;refine MV y λA st i=>Y6 (xs:=xs) v y st i ?_;simpa using q
theorem Oa{K:QA}{u:V}{H:Hp}{R:List Item->(Hp->Prop)->Hp->Prop}(h:aC K .itm [u] H R):∃a ep kvs,u=.ref a/\H a=some (.dT ep kvs)/\R (kvs.map λp=>.tup [.ref p.2.1,p.2.2]) (λH=>H a=some (.dT ep kvs)) H:=by
 cases u with|ref a=>obtain⟨ep,kvs,e,q⟩:=h;exact⟨a,ep,kvs,rfl,e,q⟩|_=>exact Qc h
theorem Sg{o:Expr}{B:TE}{apos cpos:Pos}(J:PE X o B)(i:attributeBase o "items" X.env (eval o X.env)=eval o X.env)(g:(apos.endLine==cpos.line)=true) :
  fq X (.Tuple es d k) (.Call (.Attribute o "items" apos) [] [] cpos) (vU λσ H R=>B σ H λv l=>aC X.K .itm [v] l R):=by
 intro u s σ H R I h;refine QAd i g (TB (J u s σ H _ I h) λv j ⟨x,l,C,E,G⟩=>?_);obtain⟨a,ep,y,rfl,e,q⟩:=Oa G;cases E;obtain⟨z,L,P,r,ob,W,m,Z,N,M,Q⟩:=(show FA X.prog X.w l j.heap a (.dT ep y) from C.hok a _ e)
 refine⟨"dict",_,QAf,PySem.F.slot_dict_items,PySem.F.type_dict_items,⟨ob,m,Z.1⟩,λb O=>?_,WU rfl (QBJ (HV m Z.1 L ?_))⟩;cases O;exact⟨ob,m,Z.2.1⟩;have A:Inv X u σ l { j with heap:=j.heap.push { cls:=.type "dict_items",data:=.fields #[.ref a] } }:=C.kept (t':=j.toks) λb o e=>QH _ e;refine N5 ⟨_,QU _ rfl,rfl,rfl⟩ (QH _ m) N ?_;have Y:W.size=y.length:=by have:=congrArg qt M;rw[QG,Qs]at this;rw[this,<- qH r]
 refine⟨_,[_],_,_,l,rfl,A.kept (t':=j.toks) λb o e=>QH _ e,gU (a:=a) (n:=y.length) (ep:=ep),⟨.none,.none,?_⟩,λb hb=>?_,q _ (SZ ep a y)⟩;rw[<- Y];exact QU _ rfl;have e:=QJ.mp hb;subst e;exact A.fpOk (QZ _) (A.hok.fresh (QZ _))
end
end
section
variable{u σ:St}{K:QA}{k:Tg}{H:Hp}{Q:St->Hp->Prop}
def Tg.at:Tg->LN
 | .nm i=>[i]|.tp h=>h
def AT(k:Tg)(u σ:St):Prop:=u.length=σ.length/\∀(j:Nat),j∉k.at->u[j]?=σ[j]?
theorem yY{i:Nat}{v:Option V}(h:u.length=σ.length)(x:∀j,j≠i->u[j]?=σ[j]?):u.set i v=σ.set i v:=by apply qz;intro j;by_cases e:j=i;subst e;by_cases hl:j<σ.length;rw[qd (by omega),qd hl];rw[Q8 (by rw[qY];omega),Q8 (by rw[qY];omega)];rw[qP (Q9 e),qP (Q9 e)];exact x j e
theorem lI:∀(is:LN) (vs:LV) (u σ:St),u.length=σ.length->(∀j,j∉is->u[j]?=σ[j]?)->vB is vs u=vB is vs σ
 |[],[],u,σ,hl,h=>by have:u=σ:=qz λj=>h j (by simp);rw[this]|[],_::_,_,_,_,_=>rfl|_::_,[],_,_,_,_=>rfl|i::is,v::vs,u,σ,hl,h=>by simp only[vB];refine lI is vs _ _ (by simp[hl]) λj y=>?_;by_cases e:j=i;subst e;by_cases x:j<σ.length;rw[qd (by omega),qd x];rw[Q8 (by rw[qY];omega),Q8 (by rw[qY];omega)];rw[qP (Q9 e),qP (Q9 e)];exact h j (by simp[e,y])
theorem jF:∀(is:LN) (vs:LV) (σ u:St),vB is vs σ=some u->u.length=σ.length/\∀j,j∉is->u[j]?=σ[j]?
 |[],[],σ,u,e=>by simp only[vB]at e;cases e;exact⟨rfl,λ_ _=>rfl⟩|[],_::_,_,_,e=>by simp[vB]at e|_::_,[],_,_,e=>by simp[vB]at e|i::is,v::vs,σ,u,e=>by simp only[vB]at e;obtain⟨y,x⟩:=jF is vs _ _ e;refine⟨by rw[y,qY],λj h=>?_⟩;rw[x j (λz=>h (QE _ z)),qP (λz=>h (by simp[z]))]
theorem JT{v:V}(a:AT k u σ)(h:VE K k v σ H Q):VE K k v u H λx m=>AT k x σ/\Q x m:=by
 obtain⟨f,g⟩:=a;cases k with
 |nm i=>have e:u.set i (some v)=σ.set i (some v):=yY f λj y=>g j (by simpa[Tg.at]using y);show AT (.nm i) (u.set i (some v)) σ/\Q (u.set i (some v)) H;rw[e];exact⟨⟨by simp,λj y=>qP (λz=>y (by simp[Tg.at,z]))⟩,h⟩|tp b =>
  cases v with|ref p=>obtain⟨w,x,l,e,q⟩:=h;exact⟨w,x,l,by rw[lI b w u σ f λj y=>g j y];exact e,⟨(jF b w σ x e).1,λj y=>(jF b w σ x e).2 j y⟩,q⟩|_=>exact Qc h
theorem PV{v:V}{y:St->Hp->Prop}(m:∀σ H,Q σ H->y σ H)(h:VE K k v σ H Q):VE K k v σ H y:=by
 cases k with
 |nm i=>exact m _ _ h|tp a =>
  cases v with|ref p=>obtain⟨z,x,w,e,q⟩:=h;exact⟨z,x,w,e,m _ _ q⟩|_=>exact Qc h
theorem yN{it:Item}{x:V}{y:Hp}(w:match it with | .one v=>x=v/\y=H | .tup vs=>∃p,H p=none/\x=.ref p/\y=CA H p (.tup vs))(h:bindI K k it σ H Q):VE K k x σ y Q:=by
 cases it with
 |one v=>obtain⟨rfl,rfl⟩:=w;exact h|tup vs =>
  obtain⟨p,z,rfl,rfl⟩:=w;cases k with
  |nm i=>exact h p z|tp a =>
   obtain⟨u,e,q⟩:=h (CA H p (.tup vs)) λb o e=>by rw[vA (aA e z)];exact e
   exact⟨vs,u,ED.of YA,e,q⟩
theorem D6{xs:List Item}{st:Hp->Prop}{tc:TT}{te:TE}{a:St}{Q:VK}(h:Ko K xs st (bindI K k) tc te a H Q):OX K xs st k tc te a H Q:=by
 obtain⟨W,Z,o,j,done⟩:=h;intro J Y;refine⟨λi m v u f=>m=xs.length - i/\i<=xs.length/\AT k u a/\W i v f,⟨xs.length,by simp,Qt _,⟨rfl,λ_ _=>rfl⟩,Z⟩,?_⟩;rintro i m v u f ⟨rfl,C,F,w⟩;have n:=o i v f C w;by_cases g:i<xs.length;refine .inr ⟨Y.go i f n g,λx G y=>?_⟩;obtain⟨it,p,B⟩:=Y.yld i f x G n g y;have b:=JT F (yN B (j i it v f p w));refine PV (λl I q=>?_) b;obtain⟨r,q⟩:=q;have E:∀(z:LV) (s:Hp),(∃X,X < xs.length - i/\X=xs.length - (i+1)/\i+1<=xs.length/\AT k l a/\W (i+1) z s)=W (i+1) z s:=λz s =>
  propext ⟨λ⟨_,_,_,_,_,w⟩=>w,λw=>⟨_,by omega,rfl,g,r,w⟩⟩
 simp only[E];exact q
 ·have e:i=xs.length:=by omega
  subst e;obtain⟨A,q⟩:=done v f w;exact .inl ⟨Y.stop _ f n (QZ _),A,q⟩
end
end L2.L3
namespace L2.L3
open PySem PySem.Spec PyProof.Rows
variable{Γ:Ev}
section
variable{X:Cx}{E:XK}{p its:PX}{es:List Expr}{e t it:Expr}{pos:Pos}{S:SC}{Q:LV->Hp->Prop}{G:Glob}{d:ItK}
def jQ:PX->Bool
 | .ny _ _=>false|_=>true
theorem VT(h:jQ p=true):yR X Γ E p es:=by cases p<;>first|trivial|cases h
theorem RQ(Q:Bool->Hp->Prop):(λ(x:V) (h:Hp)=>z7 x h Q)=λ(x:V) (h:Hp)=>∃k,x=.bl k/\Q k h:=by funext x h;exact Xj x h Q
theorem Snd.of(pe:PE X e (wp X.K Γ p E).e)(pt:PT X e (wp X.K Γ p E).t)(hb:∀h es pos,e≠.BoolOp h es pos)(y:(wp X.K Γ p E).a=never.a)(x:jQ p=true:=by rfl):Snd X Γ E p e :=
 ⟨pe,pt,λh es pos z=>absurd z (hb h es pos),λes pos z=>by rw[y];exact GR,λ_ _ _=>VT x⟩
theorem Snd.lit(pe:PE X e (wp X.K Γ p E).e)(x:(wp X.K Γ p E).t=never.t)(hb:∀h es pos,e≠.BoolOp h es pos)(z:(wp X.K Γ p E).a=never.a)(y:jQ p=true:=by rfl):Snd X Γ E p e :=
 Snd.of pe (by rw[x];exact yM) hb z y
theorem Snd.args(w:PA X es (wp X.K Γ p E).a)(u:yR X Γ E p es)(v:(wp X.K Γ p E).e=never.e)(y:(wp X.K Γ p E).t=never.t):Snd X Γ E p (.List es pos) :=
 ⟨by rw[v];exact M3,by rw[y];exact yM,λ_ _ _ z=>(by cases z),λx h z=>by cases z;exact w,λx h z=>by cases z;exact u⟩
theorem kh{x:Str}{v:V}{u:Value}(y:X.env.scope=S.sc)(h:FS S x=true)(z:X.mg x=some u)(r:iA v u):PE X (.Name x pos) (λ_ H Q=>Q v H):=by obtain⟨k,w,a⟩:=SG h;exact l9 (show X.env.scope.names.lookup x=some .globalImplicit by rw[y];exact k) z r w
theorem DE:∀(p:PX) {es:List Expr},yC p S (.List es pos)=true->es.all vD=true:=by
 intro p;induction p with|nz=>intro es h;have h:es.isEmpty=true:=h;rw[Qz.mp h];rfl|ny a u _ y=>intro es h;have h:D9 es _=true:=h;obtain⟨x,t,rfl,h⟩:=JK h;have z:=yA h;rw[qZ,z.1,y (yA z.2).2];rfl|lst u y=>exact λh=>y h|_=>exact λh=>(QF h).elim
theorem KT{K:QA}{σ:St}{H:Hp}:∀(p:PX),cF p=true->yC p S (.List [] pos)=true->((wp K Γ p E).a σ H Q↔Q [] H):=by
 intro p;cases p with|nz=>exact λ_ _=>wo|ny _ _=>exact λ_ h=>(QF h).elim|_=>exact λh=>(QF h).elim
theorem XZ{K:QA}{σ:St}{H:Hp}(p:PX)(h:yC p S (.List [] pos)=true)(q:(wp K Γ p E).a σ H Q):Q [] H:=by
 cases x:cF p with
 |true=>exact(KT p x h).mp q|false =>
  cases p with|nz=>exact q|ny _ _=>exact(QF h).elim|_=>exact q.elim
theorem ZT{a:Expr}(p:PX)(y:cF p=true)(h:yC p S (.List [a] pos)=true):∃x,p=.ny x .nz:=by
 cases p with
 |ny x r =>
  have z:yC r S (.List [] pos)=true:=(yA (yA h).2).2;cases r with|nz=>exact⟨x,rfl⟩|ny _ _=>exact(QF z).elim|_=>exact(QF y).elim
 |nz=>exact(QF h).elim|_=>exact(QF y).elim
theorem dn(h:X.A.units+66<cLine)(m:Mt):∃id,PlainAttrs m.ty/\Slot m.ty m.nm id/\typeOf (.builtin id)=pure (.type "method_descriptor")/\v8 X id (Xa X.K m):=by
 cases m with|append=>exact⟨_,WQ,PySem.F.slot_list_append,PySem.F.type_list_append,LY⟩|pop=>exact⟨_,WQ,PySem.F.slot_list_pop,PySem.F.type_list_pop,Ja⟩|extend=>exact⟨_,WQ,PySem.F.slot_list_extend,PySem.F.type_list_extend,Ka⟩|setd=>exact⟨_,QAf,PySem.F.slot_dict_setdefault,PySem.F.type_dict_setdefault,GY h⟩
theorem FE{env:Env}{pos:Pos}:∀{es:List Expr},es.all vD=true->(backTo pos (starEach es env)).any (·.1)=false
 |[],_=>rfl|e::es,h=>by rw[qZ]at h;obtain⟨y,x⟩:=yA h;rw[uB env y];show(false||(backTo pos (starEach es env)).any (·.1))=false;rw[FE x];rfl
theorem XT{env:Env}{pos:Pos}:∀{es:List Expr},es.all vD=true->(backTo pos (starEach es env)).all (λx=>!x.1)=true
 |[],_=>rfl|e::es,h=>by rw[qZ]at h;obtain⟨z,y⟩:=yA h;rw[uB env z];show(true&&(backTo pos (starEach es env)).all (λx=>!x.1))=true;rw[XT y];rfl
theorem iU(ok:OkX X S G E)(y:xq (cF its) S d (λes p=>yC its S (.List es p)) t it pos=true)(j:An G d)(m:isItm d=false)
  (b:∀es p,yC its S (.List es p)=true->Snd X G.ev E its (.List es p)):PI X t it (vU λσ H R=>(wp X.K G.ev its E).a σ H λvs o=>aC X.K d vs o R):=by
 have w:∀{x:Str},FS S x=true->Gl X x:=λ{x} h=>by show X.env.scope.names.lookup x=some .globalImplicit;rw[ok.sc];exact(SG h).1
 have z:aQ t=true->∃es k p,t=.Tuple es k p:=λh=>by
  cases t with|Tuple es k p=>exact⟨es,k,p,rfl⟩|_=>exact(QF h).elim
 cases d with|val=>have i:=yA y;have f:=(b _ pos i.2).pas _ pos rfl;obtain⟨a,rfl⟩:=ZT its i.1 i.2;exact b9 f.1|rng1=>obtain⟨l,es,n,p,rfl,g,h⟩:=zJ y;have v:=yA h;cases Qz.mp v.1;obtain⟨a,rfl,u⟩:=GB v.2;exact c9 rfl (w g) (ok.no _ j) ((b _ p u).pa _ p rfl) (by simpa using DE its u)|enum=>have i:=yA y;obtain⟨es,k,pt,rfl⟩:=z i.1;obtain⟨l,es,n,p,rfl,g,h⟩:=zJ i.2;have v:=yA h;cases Qz.mp v.1;obtain⟨a,rfl,u⟩:=GB v.2;exact f9 rfl (w g) (ok.no _ j) ((b _ p u).pa _ p rfl) (by simpa using DE its u)|itm=>cases m
theorem d9(ok:OkX X S G E)(x:xq (cF its) S d (λes p=>yC its S (.List es p)) t it pos=true)(g:An G d)
  (u:∀es p,yC its S (.List es p)=true->Snd X G.ev E its (.List es p)):fq X t it (vU λσ H R=>(wp X.K G.ev its E).a σ H λvs j=>aC X.K d vs j R):=by
 cases b:isItm d with
 |false=>exact(iU ok x g b u).to0|true =>
  cases d with
  |itm =>
   have i:=yA x;have w:=yA i.2;cases t with|Tuple es k pt=>obtain⟨v,l,es,p,rfl,hl,h⟩:=EW w.2;have f:=yA h;have z:=yA f.2;cases Qz.mp z.1;have y:=(u _ p z.2).pas _ p rfl;obtain⟨a,rfl⟩:=ZT its w.1 z.2;exact Sg y.1 (L4 f.1) hl|_=>exact(QF i.1).elim
  |_=>cases b
theorem LG{te x:TE}(h:PE X e te)(q:∀σ H Q,x σ H Q->te σ H Q):PE X e x:=λy s σ H Q I z=>h y s σ H Q I (q σ H Q z)
theorem snd:∀(p:PX) {X:Cx}{S:SC}{E:XK}(ok:OkX X S G E) {e:Expr},yC p S e=true->IA G p->Snd X G.ev E p e:=by
 intro p;induction p with
 |xz i =>
  intro X S E ok e h _;obtain⟨x,pos,rfl,h⟩:=sE h;obtain⟨Y,B,J,O⟩:=l8 h;have base:=U3 (pos:=pos) (show X.N[i]?=some x by rw[ok.N];exact Y) (show yp X.env.scope x by rw[ok.sc];exact B) J O;have pe:PE X (.Name x pos) (wp X.K G.ev (.xz i) E).e:=LG base λA H Q q=>by
   have q:(match A[i]? with|some (some v)=>Q v H|_=>False):=q;cases hs:A[i]? with
   |none=>rw[hs]at q;exact q.elim|some o =>
    rw[hs]at q;cases o with|none=>exact q.elim|some v=>exact⟨v,hs,q⟩
  exact Snd.of pe (rD pe λ_=>rfl) (λ_ _ _ z=>by cases z) rfl
 |int i=>intro X S E ok e h _;obtain⟨c,k,pos,rfl,h⟩:=NG h;obtain⟨j,rfl,h⟩:=mj h;cases qX h;exact Snd.of N3 (rD (ta:=λ_ H Q=>Q (.int i) H) N3 λ_=>rfl) (λ_ _ _ z=>by cases z) rfl|str x=>intro X S E ok e h _;obtain⟨c,k,pos,rfl,h⟩:=NG h;obtain⟨j,rfl,h⟩:=lj h;cases qX h;exact Snd.lit yh rfl (λ_ _ _ z=>by cases z) rfl|bl b=>intro X S E ok e h _;obtain⟨c,k,pos,rfl,h⟩:=NG h;obtain⟨j,rfl,h⟩:=Sb h;cases qX h;exact Snd.of Pc (rD (ta:=λ_ H Q=>Q (.bl b) H) Pc λ_=>rfl) (λ_ _ _ z=>by cases z) rfl|non=>intro X S E ok e h _;obtain⟨c,k,pos,rfl,h⟩:=NG h;cases Rb h;exact Snd.of G3 (rD (ta:=λ_ H Q=>Q .non H) G3 λ_=>rfl) (λ_ _ _ z=>by cases z) rfl|glo x=>intro X S E ok e h nd;obtain⟨y,pos,rfl,h⟩:=sE h;have h:=yA h;cases qX h.1;obtain⟨u,hm,r⟩:=ok.val x nd;have pe:=kh (pos:=pos) ok.sc h.2 hm r;exact Snd.of pe (rD pe λ_=>rfl) (λ_ _ _ z=>by cases z) rfl|bty x n=>intro X S E ok e h nd;obtain⟨y,pos,rfl,h⟩:=sE h;have h:=yA h;cases qX h.1;obtain⟨g1,g2,g3⟩:=SG h.2;exact Snd.lit (e9 (show X.env.scope.names.lookup x=some .globalImplicit by rw[ok.sc];exact g1) (ok.no x nd.1) nd.2 rfl g3 g2) rfl (λ_ _ _ z=>by cases z) rfl|bin op a b W L=>intro X S E ok e h nd;obtain⟨l,o,r,pos,rfl,h⟩:=F9 h;have Y:=yA h;have B:=yA Y.2;cases qX Y.1;have pe:=Km (pos:=pos) (gh op) (W ok B.1 nd.1).pe (L ok B.2 nd.2).pe;exact Snd.of pe (rD pe λ_=>rfl) (λ_ _ _ z=>by cases z) rfl|cmp op a b W L=>intro X S E ok e h nd;obtain⟨l,os,rs,pos,rfl,h⟩:=C9 h;obtain⟨o,rfl,h⟩:=GB h;obtain⟨r,rfl,h⟩:=GB h;have Y:=yA h;have B:=yA Y.2;have J:=yA B.2;cases qX Y.1;have pa:=(W ok J.1 nd.1).pe;have pb:=(L ok J.2 nd.2).pe;refine Snd.of (r9 (pos:=pos) (v4 ok.un op) pa pb (M4 B.1)) (λM s A H Q I q=>j9 (pos:=pos) (v4 ok.un op) pa pb (M4 B.1) M s A H Q I ?_) (λ_ _ _ z=>by cases z) rfl;show Kl _ _ _ A H (λ(x:V) (Z:Hp)=>∃k,x=.bl k/\Q k Z);rw[<- RQ Q];exact q|and a b W L =>
  intro X S E ok e h nd;obtain⟨o,es,pos,rfl,h⟩:=MR h;have Y:=yA h;cases qX Y.1;obtain⟨l,t,rfl,B⟩:=JK Y.2;obtain⟨r,t,rfl,J⟩:=JK B;have O:=yA J;have sa:=W ok O.1 nd.1;have sb:=L ok O.2 nd.2;have eqA:∀(A:St) (Q:VK),(λ(x:V) (Z:Hp)=>∃c,x=.bl c/\if c=true then(wp X.K G.ev b E).e A Z Q else Q (.bl false) Z)=λ(x:V) (Z:Hp)=>z7 x Z λc H2=>if c=true then(wp X.K G.ev b E).e A H2 Q else Q (.bl false) H2:=λA Q=>(RQ _).symm
  have key:PW X (.BoolOp .And (l::r::t) pos) (wp X.K G.ev (.and a b) E).t/\PE X (.BoolOp .And (l::r::t) pos) (λA H Q=>(wp X.K G.ev a E).e A H λx Z=>∃c,x=.bl c/\if c=true then(wp X.K G.ev b E).e A Z Q else Q (.bl false) Z):=by
   cases t with|nil=>exact⟨E2 sa.pt (E8 sb.pt),P3 (pos:=pos) sa.pe (C3 sb.pe)⟩|cons q t=>exact⟨E2 sa.pt (sb.pw _ _ _ rfl),P3 (pos:=pos) sa.pe sb.pe⟩
  refine⟨LG key.2 λA H Q q=>?_,key.1.pt,λ_ _ _ _=>key.1,λ_ _ z=>(by cases z),λ_ _ z=>trivial⟩;rw[eqA];exact q
 |or a b W L =>
  intro X S E ok e h nd;obtain⟨o,es,pos,rfl,h⟩:=MR h;have Y:=yA h;cases qX Y.1;obtain⟨l,t,rfl,B⟩:=JK Y.2;obtain⟨r,t,rfl,J⟩:=JK B;have O:=yA J;have sa:=W ok O.1 nd.1;have sb:=L ok O.2 nd.2;have eqA:∀(A:St) (Q:VK),(λ(x:V) (Z:Hp)=>∃c,x=.bl c/\if c=true then Q (.bl true) Z else(wp X.K G.ev b E).e A Z Q)=λ(x:V) (Z:Hp)=>z7 x Z λc H2=>if c=true then Q (.bl true) H2 else(wp X.K G.ev b E).e A H2 Q:=λA Q=>(RQ _).symm
  have key:PW X (.BoolOp .Or (l::r::t) pos) (wp X.K G.ev (.or a b) E).t/\PE X (.BoolOp .Or (l::r::t) pos) (λA H Q=>(wp X.K G.ev a E).e A H λx Z=>∃c,x=.bl c/\if c=true then Q (.bl true) Z else(wp X.K G.ev b E).e A Z Q):=by
   cases t with|nil=>exact⟨Lc sa.pt (Hg sb.pt),Oc (pos:=pos) sa.pe (C3 sb.pe)⟩|cons q t=>exact⟨Lc sa.pt (sb.pw _ _ _ rfl),Oc (pos:=pos) sa.pe sb.pe⟩
  refine⟨LG key.2 λA H Q q=>?_,key.1.pt,λ_ _ _ _=>key.1,λ_ _ z=>(by cases z),λ_ _ z=>trivial⟩;rw[eqA];exact q
 |not a W=>intro X S E ok e h nd;obtain⟨o,x,pos,rfl,h⟩:=mh h;have Y:=yA h;cases qX Y.1;have sa:=W ok Y.2 nd;refine Snd.of (λM s A H Q I q=>?_) (Lg sa.pt) (λ_ _ _ z=>by cases z) rfl;refine UnaryOp_ (TB (sa.pe M s A H _ I q) λv s1 ⟨x,Z,I1,r1,q1⟩=>?_);have q1:FF X.K x Z (λc H2=>Q (.bl (!c)) H2):=q1;rw[fW]at q1;refine not_of (TB (R0 M s1 A Z x v _ I1 r1 q1) λc s2 ⟨H2,I2,q2⟩=>?_);exact⟨.bl (!c),H2,I2,rfl,q2⟩|call f as ih =>
  intro X S E ok e h nd;obtain⟨p,es,ks,pos,rfl,hg,h⟩:=zJ h;have Y:=yA h;cases Qz.mp Y.1;obtain⟨g1,g2,g3⟩:=SG hg;have hg:Gl X f:=show X.env.scope.names.lookup f=some .globalImplicit by rw[ok.sc];exact g1
  obtain⟨CX,k,a,fd,ps,F,hr,hm,hk,hb,hx,_⟩:=ok.fn f nd.1;have pa:=(ih ok Y.2 nd.2).pa es pos rfl;have st:=DE as Y.2;have pe:PE X (.Call (.Name f p) es [] pos) (wp X.K G.ev (.call f as) E).e:=by
   cases es with|nil=>exact LG (O3 (pos:=pos) (p:=p) F hr hg hm hk hb .nil hx g2) λA H Q q=>XZ as Y.2 q|cons e1 P=>have st:=yA st;refine LG (t9 (pos:=pos) (p:=p) F hr hg hm hk hb .nil hx pa g2 (uB _ st.1) (FE st.2)) λA H Q q=>?_;show(wp X.K G.ev as E).a A H λvs Z=>G.ev.sp f (vs++[]) Z Q E;simp only[qB];exact q
  exact Snd.of pe (rD pe λ_=>rfl) (λ_ _ _ z=>by cases z) rfl
 |idx a b W L=>intro X S E ok e h nd;obtain⟨v,i,pos,rfl,h⟩:=MP h;have Y:=yA h;have B:=yA Y.2;have pe:=Vm (pos:=pos) (Zi ok.un) (W ok B.1 nd.1).pe (L ok B.2 nd.2).pe (u9 Y.1);exact Snd.of pe (rD pe λ_=>rfl) (λ_ _ _ z=>by cases z) rfl|nop=>intro X S E ok e h nd;exact(QF h).elim|lst as ih=>intro X S E ok e h nd;obtain⟨es,pos,rfl,h⟩:=pM h;have pa:=(ih ok h nd).pa es pos rfl;exact⟨zh pa,yM,λ_ _ _ z=>(by cases z),λ_ _ z=>GR,λ_ _ z=>trivial⟩|tup as ih=>intro X S E ok e h nd;obtain⟨es,k,pos,rfl,h⟩:=V9 h;exact Snd.lit (jh ((ih ok h nd).pa es pos rfl)) rfl (λ_ _ _ z=>by cases z) rfl|dnew b=>intro X S E ok e h nd;obtain⟨ks,vs,pos,rfl,h⟩:=HR h;have Y:=yA h;cases Qz.mp Y.1;cases Qz.mp Y.2;exact Snd.lit n9 rfl (λ_ _ _ z=>by cases z) rfl|dsp a b W L =>
  intro X S E ok e h nd;obtain⟨ks,vs,pos,rfl,h⟩:=HR h;obtain⟨k,rfl,h⟩:=GB h;obtain⟨v,rfl,h⟩:=GB h;have Y:=yA h;cases k with|none=>exact(QF Y.1).elim|some k=>exact Snd.lit (m9 ok.un (W ok Y.1 nd.1).pe (L ok Y.2 nd.2).pe) rfl (λ_ _ _ z=>by cases z) rfl
 |nz=>intro X S E ok e h nd;obtain⟨es,pos,rfl,h⟩:=pM h;cases Qz.mp h;exact Snd.args CP trivial rfl rfl|ny a as W ih=>intro X S E ok e h nd;obtain⟨es,pos,rfl,h⟩:=pM h;obtain⟨e1,P,rfl,h⟩:=JK h;have Y:=yA h;have B:=yA Y.2;have sa:=(W ok B.1 nd.1).pe;have ss:=ih ok B.2 nd.2;exact Snd.args (eI sa (ss.pa P pos rfl) (uB _ Y.1)) ⟨sa,ss.pas P pos rfl⟩ rfl rfl|bi f as ih =>
  intro X S E ok e h nd;obtain⟨p,es,ks,pos,rfl,hg,h⟩:=zJ h;have Y:=yA h;cases Qz.mp Y.1;obtain⟨e1,P,rfl,J⟩:=JK Y.2;obtain⟨g1,g2,g3⟩:=SG hg;have hg:Gl X f.nm:=show X.env.scope.names.lookup f.nm=some .globalImplicit by rw[ok.sc];exact g1
  have pa:=(ih ok J nd.2).pa _ pos rfl;have st:=yA (DE as J);have pe:PE X (.Call (.Name f.nm p) (e1::P) [] pos) (wp X.K G.ev (.bi f as) E).e:=by
   rcases Po ok.un ok.calm f with⟨id,hb,hc⟩| ⟨T,hb,hc⟩
   exact cM (pos:=pos) (p:=p) hc hg (ok.no _ nd.1) hb pa g3 g2 (uB _ st.1) (FE st.2);exact tY (pos:=pos) (p:=p) hc hg (ok.no _ nd.1) hb pa g3 g2 (uB _ st.1) (FE st.2)
  exact Snd.of pe (rD pe λ_=>rfl) (λ_ _ _ z=>by cases z) rfl
 |isi a c W ihc =>
  intro X S E ok e h nd;obtain⟨p,es,ks,pos,rfl,hg,h⟩:=zJ h;have Y:=yA h;cases Qz.mp Y.1;obtain⟨l,r,rfl,B⟩:=Mm Y.2;have J:=yA B;have O:=yA J.2;have h5:=yA O.2;obtain⟨g1,g2,g3⟩:=SG hg;have hg:Gl X "isinstance":=show X.env.scope.names.lookup ("isinstance":Str)=some .globalImplicit by rw[ok.sc];exact g1
  have pe:PE X (.Call (.Name "isinstance" p) [l,r] [] pos) (wp X.K G.ev (.isi a c) E).e :=
   cM (pos:=pos) (p:=p) O6 hg (ok.no _ nd.1) (by kernel_rfl) (eI (W ok h5.1 nd.2.1).pe (eI (ihc ok h5.2 nd.2.2).pe CP (uB _ O.1)) (uB _ J.1)) g3 g2 (uB _ J.1) (FE (by rw[qZ,O.1];rfl))
  exact Snd.of pe (rD pe λ_=>rfl) (λ_ _ _ z=>by cases z) rfl
 |mt m o as iho ih =>
  intro X S E ok e h nd;obtain⟨v,ap,es,pos,rfl,B,h⟩:=EW h;have h0:=yA h;have Y:=yA h0.2;have J:=yA Y.2;have O:=yA J.2;have po:=(iho ok O.1 nd.1).pe;have pa:=(ih ok O.2 nd.2).pa _ pos rfl;have st:=DE as O.2;obtain⟨id,pat,sl,ty,mr⟩:=dn (X:=X) ok.un m;have pe:PE X (.Call (.Attribute v m.nm ap) es [] pos) (wp X.K G.ev (.mt m o as) E).e:=by
   cases es with
   |nil =>
    refine LG (vh (apos:=ap) (cpos:=pos) pat sl ty mr po (L4 Y.1) B) λA H Q q=>?_;have e:(λ(x:V) (Z:Hp)=>FZ X.K m.ty x Z/\Xa X.K m x [] Z Q)=λ(x:V) (Z:Hp)=>FZ X.K m.ty x Z/\(wp X.K G.ev as E).a A Z λvs H2=>Xa X.K m x vs H2 Q:=by funext x Z;rw[propext (KT as h0.1 O.2)]
    show(wp X.K G.ev o E).e A H (λ(x:V) (Z:Hp)=>FZ X.K m.ty x Z/\Xa X.K m x [] Z Q);rw[e];exact q
   |cons e1 P=>have s2:=yA st;refine Xm (apos:=ap) (cpos:=pos) pat sl ty mr po pa (L4 Y.1) ?_ B (uB _ s2.1) (FE s2.2);rw[XT st];have hl':(e1::P).length<20:=of_decide_eq_true J.1;show(true&&true&&decide ((e1::P).length+0+0<30))=true;rw[dT (Qm hl' (by decide:20<=30):(e1::P).length+0+0<30)];rfl
  exact Snd.of pe (rD pe λ_=>rfl) (λ_ _ _ z=>by cases z) rfl
 |slc a lo hi W ihl ihh =>
  intro X S E ok e h nd;obtain⟨v,sl,pos,rfl,h⟩:=MP h;obtain⟨l,u,st,p2,rfl,h⟩:=JY h;have Y:=yA h;have B:=yA Y.2;have J:=yA B.2;have part:∀(q:PX) (w:Option Expr),(∀{e:Expr},yC q S e=true->PE X e (wp X.K G.ev q E).e)->Lm w (isNop q) (λe=>!isNop q&&yC q S e)=true ->
    PO X w (λA H R=>(if isNop q=true then λ(R:Option Int->Hp->Prop)=>R none H else λR=>(wp X.K G.ev q E).e A H λl H2=>gM l H2 R) R):=by
   intro q w ihq hq;cases w with
   |none=>have e:isNop q=true:=hq;simp only[e,if_true];exact x9|some e' =>
    have q1:=yA hq;have e:isNop q=false:=(Qy _).mp q1.1;simp only[e,Qn,if_false];intro M s A H Q I w;refine v9 (ihq q1.2) M s A H Q I ?_;show(wp X.K G.ev q E).e A H (λ(x:V) (Z:Hp)=>∃i,x=.int i/\Q (some i) Z);have e2:(λ(x:V) (Z:Hp)=>∃i,x=.int i/\Q (some i) Z)=λ(x:V) (Z:Hp)=>gM x Z Q:=by funext x Z;exact(R3 x Z Q).symm
    rw[e2];exact w
  cases QAR.mp Y.1;exact Snd.lit (B3 (pos:=pos) (p2:=p2) Zg (W ok B.1 nd.1).pe (part lo l (λhc=>(ihl ok hc nd.2.1).pe) J.1) (part hi u (λhc=>(ihh ok hc nd.2.2).pe) J.2)) rfl (λ_ _ _ z=>by cases z) rfl
 |comp mask tgs tg d its cond elt ihi ihc ihe =>
  intro X S E ok e h nd;obtain⟨e,gens,scope,pos,rfl,h⟩:=KU h;obtain⟨⟨t,it,ifs,asy⟩,rfl,h⟩:=GB h;have h0:=yA h;have hi:=yA h0.2;have Y:=yA hi.2;have B:=yA Y.2;have J:=yA B.2;have O:=yA J.2;have h5:=yA O.2;have ea:asy=0:=qX h0.1;cases ea;have C:CompSt X.N X.env.scope scope tgs mask:=by rw[ok.N,ok.sc];exact zT Y.1
  obtain⟨n1,n2,n3,n4⟩:=nd;have pi:PI X t it (vU λA H R=>(wp X.K G.ev its E).a A H λvs Z=>aC X.K d vs Z R):=iU ok O.1 n1 ((Qy _).mp hi.1) λes p q=>ihi ok q n2;refine Snd.lit (p9 (pos:=pos) (g:=VE X.K tg) (tc:=if isNop cond=true then λ_ H Q=>Q true H else(wp X.K G.ev cond (λ_ _ _=>False)).t) (te:=(wp X.K G.ev elt (λ_ _ _=>False)).e) ok.calm pi C (λs H ex=>?_) (λx=>FU J.1 x)) rfl (λ_ _ _ z=>by cases z) rfl;have okc:=ok.comp scope tgs mask s H ex;refine⟨CW okc (λz=>(QF z).elim) C.nd B.1,?_,(ihe okc h5.2 n4).pe⟩;have hif:=h5.1;cases ifs with|nil=>have e:isNop cond=true:=hif;simp only[e,if_true];exact BW|cons c r=>have q1:=yA hif;have q2:=yA q1.2;cases Qz.mp q1.1;have e:isNop cond=false:=(Qy _).mp q2.1;simp only[e,Qn,if_false];exact UW (ihc okc q2.2 n3).pt
end
end L2.L3
namespace L2.L3
open PySem PySem.Spec PyProof.Rows
section
variable{s:Stmt}{f:Expr->List Stmt->List Stmt->Bool}
set_option genSizeOf false in
set_option genInjectivity false in
inductive PT where
 |nil|seq (s r:PT)
 |set (i:Nat) (e:PX)
 |expr (e:PX)|ret (e:PX)
 |ife (c:PX) (a b:PT)
 |for_ (tg:Tg) (ik:ItK) (its:PX) (body:PT)
 |own (i:Nat) (e:PX)|tset (is:LN) (e:PX)|six (o i e:PX)|sdf (i:Nat) (k:PX)|whl (c:PX) (body:PT)|frz (is:LN) (s:PT)
def YR(K:QA):V->V->V->Hp->(Hp->Prop)->Prop:=λo i v H Q=>match o,i with
 | .ref p,.int k=>∃h j,H p=some (.lst h)/\kU h.length k=some j/\Q (CA H p (.lst (h.set j v)))|.ref p,.str z=>Tj K H p (.str z) v Q|.ref p,.ref b=>Tj K H p (.ref b) v Q|_,_=>False
def ym(i:Nat)(k:PX):PX:=.mt .setd (.xz i) %[k,.dnew true|1]
def Es(J:It)(g:TG)(tb:TS)(D:Ends)(σ:St)(w:Hp):Prop:=∃W:Nat->Nat->St->Hp->Prop,(∃m,W 0 m σ w)/\∀i m σ H,W i m σ H ->
 (J.stop i H/\D.nx σ H)∨(J.go i H/\∃N:St->Hp->Prop,(∀h y,N h y->∃u,u < m/\W (i+1) u h y)/\∀x y,J.yld i H x y->g x σ y λz v=>tb { D with nx:=N,ct:=N,bk:=D.nx } z v)
def Pj(K:QA)(xs:List Item)(st:Hp->Prop)(h:Tg)(tb:TS)(D:Ends)(σ:St)(H:Hp):Prop:=∀J,Yields J xs st->Es J (VE K h) tb D σ H
noncomputable def uR(K:QA)(Γ:Ev)(E:XK):PT->TS
 | .nil=>λD h H=>D.nx h H|.seq s r=>λD h H=>uR K Γ E s { D with nx:=λh H=>uR K Γ E r D h H } h H|.set i e=>λD h H=>(wp K Γ e E).e h H λx y=>D.nx (h.set i (some x)) y|.own i e=>λD h H=>(wp K Γ e E).e h H λx y=>D.nx (h.set i (some x)) y|.expr e=>λD h H=>(wp K Γ e E).e h H λ_ y=>D.nx h y|.ret e=>λD h H=>(wp K Γ e E).e h H D.rt|.ife c a b=>λD h H=>(wp K Γ c E).t h H λk y=>if k=true then uR K Γ E a D h y else uR K Γ E b D h y|.for_ l q u z=>λD h H=>(wp K Γ u E).a h H λj y=>aC K q j y λg st w=>Pj K g st l (uR K Γ E z) D h w|.tset p e=>λD h H=>(wp K Γ e E).e h H λx y=>VE K (.tp p) x h y D.nx|.six o i e=>λD h H=>(wp K Γ e E).e h H λv y=>(wp K Γ o E).e h y λm w=>(wp K Γ i E).e h w λn Y=>YR K m n v Y λX=>D.nx h X|.sdf i k=>λD h H=>(wp K Γ (ym i k) E).e h H λ_ y=>D.nx h y|.whl c z=>J1 (wp K Γ c E).t (uR K Γ E z)|.frz _ s=>uR K Γ E s
noncomputable def kF(G:Glob):PT->Prop
 | .nil=>True|.seq s r=>kF G s/\kF G r|.set _ e=>IA G e|.own _ e=>IA G e|.tset _ e=>IA G e|.six o i e=>IA G o/\IA G i/\IA G e|.sdf i k=>IA G (ym i k)|.whl c h=>IA G c/\kF G h|.frz _ s=>kF G s|.expr e=>IA G e|.ret e=>IA G e|.ife c a b=>IA G c/\kF G a/\kF G b|.for_ _ y x h=>An G y/\IA G x/\kF G h
def yG:Expr->Bool
 | .ListComp _ _ _ _ | .SetComp _ _ _ _ | .DictComp _ _ _ _ _=>false
 |_=>true
def pP(S:SC)(i:Nat)(x:Str):Bool:=S.N[i]?==some x&&(S.sc.names.lookup x==some .local||S.sc.names.lookup x==some .cell)
def cX:PT->Bool
 | .nil=>false|.seq _ _=>false|.frz _ s=>cX s|_=>true
def NR(s:Stmt)(f:List Expr->Expr->Bool):Bool:=match s with | .Assign h v _=>f h v|_=>false
def oh(s:Stmt)(f:Expr->Bool):Bool:=match s with | .Expr v _=>f v|_=>false
def Sc(s:Stmt)(f:Option Expr->Bool):Bool:=match s with | .Return v _=>f v|_=>false
def Tc(s:Stmt)(f:Expr->List Stmt->List Stmt->Bool):Bool:=match s with | .If t x y _=>f t x y|_=>false
def Ac(s:Stmt)(f:Expr->Expr->List Stmt->List Stmt->Pos->Bool):Bool:=match s with | .For t it x y p=>f t it x y p|_=>false
def Gm(s:Stmt)(f:Expr->List Stmt->List Stmt->Bool):Bool:=match s with | .While t x y _=>f t x y|_=>false
def Om:Expr->Bool
 | .Tuple _ _ _=>false|.List _ _=>false|_=>true
theorem zL{f:List Expr->Expr->Bool}(h:NR s f=true):∃ts v p,s=.Assign ts v p/\f ts v=true:=by
 cases s with|Assign ts v p=>exact⟨ts,v,p,rfl,h⟩|_=>exact(QF h).elim
theorem x4{f:Expr->Bool}(h:oh s f=true):∃v p,s=.Expr v p/\f v=true:=by
 cases s with|Expr v p=>exact⟨v,p,rfl,h⟩|_=>exact(QF h).elim
theorem X9{f:Option Expr->Bool}(h:Sc s f=true):∃v p,s=.Return v p/\f v=true:=by
 cases s with|Return v p=>exact⟨v,p,rfl,h⟩|_=>exact(QF h).elim
theorem U9(h:Tc s f=true):∃t x y p,s=.If t x y p/\f t x y=true:=by
 cases s with|If t x y p=>exact⟨t,x,y,p,rfl,h⟩|_=>exact(QF h).elim
theorem B9{f:Expr->Expr->List Stmt->List Stmt->Pos->Bool}(h:Ac s f=true):∃t it x y p,s=.For t it x y p/\f t it x y p=true:=by
 cases s with|For t it x y p=>exact⟨t,it,x,y,p,rfl,h⟩|_=>exact(QF h).elim
theorem lh(h:Gm s f=true):∃t x y p,s=.While t x y p/\f t x y=true:=by
 cases s with|While t x y p=>exact⟨t,x,y,p,rfl,h⟩|_=>exact(QF h).elim
def setB(S:SC)(i:Nat)(c:Expr->Bool)(l:List Stmt):Bool:=ZN l λst=>NR st λh v=>ZN h λt=>BH t λx _=>pP S i x&&((yG v||S.sc.names.lookup x==some .cell)&&c v)
def Fd:PX->Bool
 | .comp _ _ _ _ _ _ _=>true|_=>false
noncomputable def pW(S:SC)(i:Nat)(e:PX)(l:List Stmt):Bool:=ZN l λst=>NR st λy v=>ZN y λt=>BH t λx z=>nh v λw u sc h=>Ah S i x&&(S.sc.kind==.function&&(z.line==h.line&&(!(sc.names.any λ(n,k)=>n==x&&(k==.local||k==.cell))&&(Fd e&&yC e S (.ListComp w u sc h)))))
noncomputable def HQ:PT->SC->List Stmt->Bool
 | .nil,_,l=>l.isEmpty|.seq s r,S,l=>D9 l λst l=>cX s&&(HQ s S [st]&&HQ r S l)|.set i e,S,l=>setB S i (yC e S) l||pW S i e l
 | .own i e,S,l=>setB S i (yC e S) l||pW S i e l
 | .frz _ s,S,l=>HQ s S l|.expr e,S,l=>ZN l λst=>oh st λv=>yG v&&yC e S v|.ret e,S,l=>ZN l λst=>Sc st λv=>Lm v false (yC e S)|.ife c a b,S,l=>ZN l λst=>Tc st λt x y=>yC c S t&&(HQ a S x&&HQ b S y)|.for_ tg ik its body,S,l=>ZN l λst=>Ac st λt it x y z=>y.isEmpty&&(Ip true S tg t&&(ER it&&(xq (cF its) S ik (λg p=>yC its S (.List g p)) t it z&&HQ body S x)))|.tset is e,S,l=>ZN l λst=>NR st λh v=>ZN h λt=>Om v&&(yG v&&(aQ t&&(Ip true S (.tp is) t&&yC e S v)))|.six o i e,S,l=>ZN l λst=>NR st λh v=>ZN h λt=>HW t λw u _=>zQ u&&(yG v&&(yC e S v&&(yC o S w&&yC i S u)))|.sdf i k,S,l=>ZN l λst=>oh st λv=>yG v&&yC (ym i k) S v|.whl c body,S,l=>ZN l λst=>Gm st λt x y=>y.isEmpty&&(yC c S t&&HQ body S x)
structure OkS(X:Cx)(S:SC)(G:Glob)(E:XK):Prop extends OkX X S G E where
 po:PassesOwn (model X.prog X.w) X.A X.env X.xe
 nd:X.N.Nodup
 cel:∀x,X.fn x=true
end
section
variable{X:Cx}{S:SC}{G:Glob}{E:XK}
section
variable{i:Nat}{x:Str}{e:PX}
theorem rM{e:Expr}{t:Option Expr}{n:Nat}{env:Env}(h:yG e=true):swapsWith e t n env=pure false:=by cases e<;>first|rfl|cases h
theorem L1(n:X.A.units+66<cLine):zc X (YR X.K):=by
 intro y s w H o i v l m u Q I f g a h;cases o with
 |ref p =>
  cases i with|int k=>obtain⟨r,j,Z,Y,q⟩:=h;exact M1 y s w H _ _ v l m u Q I f g a ⟨p,r,k,j,rfl,rfl,Z,Y,q⟩|str z=>exact JR n y s w H _ _ v l m u Q I f g a h|ref b=>exact JR n y s w H _ _ v l m u Q I f g a h|_=>exact Qc h
 |_=>exact Qc h
theorem jY(ok:OkX X S G E)(h:pP S i x=true):X.N[i]?=some x/\Xk X.env.scope x:=by simp only[pP,Qa,wU,beq_iff_eq]at h;rw[ok.N,ok.sc];exact⟨h.1,h.2⟩
theorem rY(ok:OkS X S G E){v:Expr}{u pos:Pos}(g:pP S i x=true)(w:(yG v||S.sc.names.lookup x==some .cell)=true)(pe:PE X v (wp X.K G.ev e E).e) :
  PS X (.Assign [.Name x u] v pos) (uR X.K G.ev E (.set i e)):=by
 obtain⟨l,j⟩:=jY ok.toOkX g;refine Mg (pos':=u) ok.nd l j pe ?_ (.inl (ok.cel x));cases z:yG v with
 |true=>exact rM z|false =>
  rw[z,QAb,beq_iff_eq,<- ok.sc]at w;have hk:X.env.kindOf x=some .cell:=w;have key:∀(b c:Bool) (y h:Nat),(pure (b&&X.env.kindOf x==some .local&&y==h&&!c):Sem Bool)=pure false:=λb c y h=>by
   rw[hk];have:(b&&(some NameKind.cell==some NameKind.local)&&y==h&&!c)=false:=by cases b<;>rfl
   rw[this]
  cases v with|ListComp m a sc f=>exact key _ _ _ _|SetComp m a sc f=>exact key _ _ _ _|DictComp k v a sc f=>exact key _ _ _ _|_=>cases z
theorem Sa(h:Fd e=true):∃a b c d f g k,e=.comp a b c d f g k:=by
 cases e with|comp a b c d f g k=>exact⟨a,b,c,d,f,g,k,rfl⟩|_=>exact(QF h).elim
theorem Og(ok:OkS X S G E){l:List Stmt}(h:pW S i e l=true)(nd:IA G e):∃st,l=[st]/\PS X st (uR X.K G.ev E (.set i e)):=by
 obtain⟨st,e1,q1⟩:=GB h;obtain⟨ts,v,p,e2,q2⟩:=zL q1;obtain⟨t,e3,q3⟩:=GB q2;obtain⟨x,px,e4,q4⟩:=sE q3;obtain⟨el,gs,sc,cp,e5,q5⟩:=KU q4;subst e1 e2 e3 e4 e5;have L:=yA q5;have J:=yA L.2;have I:=yA J.2;have F:=yA I.2;have B:=yA F.2;obtain⟨u,a,tg,ik,o,y,j,rfl⟩:=Sa B.1;refine⟨_,rfl,?_⟩;have h6:=B.2;obtain⟨el',O,m,pos,ee,g⟩:=KU h6;cases ee;obtain⟨⟨t,it,Y,Z⟩,rfl,g⟩:=GB g;have g0:=yA g;have M:=yA g0.2;have g1:=yA M.2;have g2:=yA g1.2;have g3:=yA g2.2;have R:=yA g3.2;have P:=yA R.2;have ea:Z=0:=qX g0.1;cases ea;have C:CompSt X.N X.env.scope sc a u:=by rw[ok.N,ok.sc];exact zT g1.1
 obtain⟨n1,n2,n3,n4⟩:=nd;obtain⟨l1,l2⟩:=Da L.1;have b:X.env.scope.names.lookup x=some .local:=by rw[ok.sc];exact l2
 refine z9 (g:=VE X.K tg) (tc:=if isNop y=true then λ_ H Q=>Q true H else(wp X.K G.ev y (λ_ _ _=>False)).t) (te:=(wp X.K G.ev j (λ_ _ _=>False)).e) ok.calm ok.nd (by rw[ok.N];exact l1) b (iU ok.toOkX (pos:=cp) R.1 n1 ((Qy _).mp M.1) λes p q=>snd o ok.toOkX q n2) C (λs H ex=>?_) (λx=>FU g3.1 x) ?_;have w:=ok.toOkX.comp sc a u s H ex;refine⟨CW w (λz=>(QF z).elim) C.nd g2.1,?_,(snd j w P.2 n4).pe⟩;have f:=P.1;cases Y with|nil=>have e:isNop y=true:=f;simp only[e,if_true];exact BW|cons c r=>have A:=yA f;have W:=yA A.2;cases Qz.mp A.1;have e:isNop y=false:=(Qy _).mp W.1;simp only[e,Qn,if_false];exact UW (snd y w W.2 n3).pt
 have k1:X.env.scope.kind=.function:=by rw[ok.sc];exact qX J.1
 have k2:(X.env.blockKind==.function)=true:=by simp[Env.blockKind,k1,ScopeKind.isAnnotationScope]
 have k3:(X.env.kindOf x==some .local)=true:=by show(X.env.scope.names.lookup x==some .local)=true;rw[b];rfl
 show(pure (X.env.blockKind==.function&&X.env.kindOf x==some .local&&px.line==cp.line&&!(sc.names.any λ(n,k)=>n==x&&(k==.local||k==.cell))):Sem Bool)=pure true;rw[k2,k3,I.1,F.1];rfl
theorem Iq:∀(p:PT) {l:List Stmt},OkS X S G E->HQ p S l=true->kF G p->jW X l (uR X.K G.ev E p)/\(cX p=true->∀st,l=[st]->PS X st (uR X.K G.ev E p)):=by
 intro p;have one:∀{p:PT}{st:Stmt},PS X st (uR X.K G.ev E p)->jW X [st] (uR X.K G.ev E p)/\(cX p=true->∀j,[st]=[j]->PS X j (uR X.K G.ev E p)):=λh=>⟨KW h,λ_ j e=>by cases e;exact h⟩
 have f:∀{i:Nat}{e:PX}{l:List Stmt},OkS X S G E->(setB S i (yC e S) l||pW S i e l)=true->IA G e->∃st,l=[st]/\PS X st (uR X.K G.ev E (.set i e)):=λ{i e l} ok h nd=>by
  rcases(wU _ _).mp h with h|h
  rotate_left
  exact Og ok h nd;obtain⟨st,B,n⟩:=GB h;obtain⟨P,v,p,A,m⟩:=zL n;obtain⟨t,W,q3⟩:=GB m;obtain⟨x,px,O,F⟩:=sE q3;subst B A W O;have z:=yA F;have u:=yA z.2;exact⟨_,rfl,rY ok z.1 u.1 (snd e ok.toOkX u.2 nd).pe⟩
 induction p with
 |nil=>intro l ok h nd;cases Qz.mp h;exact⟨y9,λh=>(QF h).elim⟩|seq s r J L=>intro l ok h nd;obtain⟨st,l,rfl,h⟩:=JK h;have z:=yA h;have u:=yA z.2;exact⟨y3 ((J ok u.1 nd.1).2 z.1 st rfl) (L ok u.2 nd.2).1,λh=>(QF h).elim⟩|set i e=>intro l ok h nd;obtain⟨st,rfl,q⟩:=f ok h nd;exact one q|own i e=>intro l ok h nd;obtain⟨st,rfl,q⟩:=f ok h nd;exact one q|expr e=>intro l ok h nd;obtain⟨st,rfl,h⟩:=GB h;obtain⟨v,p,rfl,h⟩:=x4 h;have z:=yA h;exact one (XW (snd e ok.toOkX z.2 nd).pe (rM z.1))|ret e =>
  intro l ok h nd;obtain⟨st,rfl,h⟩:=GB h;obtain⟨v,p,rfl,h⟩:=X9 h;cases v with|none=>exact(QF h).elim|some v=>exact one (x3 (snd e ok.toOkX h nd).pe)
 |ife c a b N M=>intro l ok h nd;obtain⟨st,rfl,h⟩:=GB h;obtain⟨t,x,y,p,rfl,h⟩:=U9 h;have z:=yA h;have u:=yA z.2;exact one (Zm (snd c ok.toOkX z.1 nd.1).pt (N ok u.1 nd.2.1).1 (M ok u.2 nd.2.2).1)|for_ tg ik I C Y=>intro l ok h nd;obtain⟨st,rfl,h⟩:=GB h;obtain⟨t,it,x,y,p,rfl,h⟩:=B9 h;have H:=yA h;have z:=yA H.2;have u:=yA z.2;have g:=yA u.2;cases Qz.mp H.1;exact one (Ng ok.po ok.calm (d9 ok.toOkX g.1 nd.1 λes p q=>snd I ok.toOkX q nd.2.1) (CW ok.toOkX (λ_=>ok.cel) ok.nd z.1) (Y ok g.2 nd.2.2).1 λx=>FU u.1 x)|tset is e =>
  intro l ok h nd;obtain⟨st,B,n⟩:=GB h;obtain⟨P,v,p,A,m⟩:=zL n;obtain⟨t,W,h⟩:=GB m;subst B A W;have z:=yA h;have u:=yA z.2;have g:=yA u.2;have Z:=yA g.2;cases t with
  |Tuple es k pt =>
   refine one (d3 (snd e ok.toOkX Z.2 nd).pe (CW ok.toOkX (λ_=>ok.cel) ok.nd Z.1) ?_ ?_ ?_);show swapsWith v (some (.Tuple es k pt)) p.line X.env=pure false;exact rM u.1;cases v<;>first|rfl|exact(QF z.1).elim
   rfl
  |_=>exact(QF g.1).elim
 |six o i e =>
  intro l ok h nd;obtain⟨st,B,n⟩:=GB h;obtain⟨P,v,p,A,m⟩:=zL n;obtain⟨t,W,h⟩:=GB m;subst B A W;obtain⟨ov,R,Q,O,F⟩:=MP h;subst O;have z:=yA F;have u:=yA z.2;have g:=yA u.2;have Z:=yA g.2;refine one (d3 (snd e ok.toOkX g.1 nd.2.2).pe (Eg (pos:=Q) (snd o ok.toOkX Z.1 nd.1).pe (snd i ok.toOkX Z.2 nd.2.1).pe (L1 ok.un) ?_) ?_ ?_ ?_);intro w;cases R<;>first|rfl|exact(QF z.1).elim
  show swapsWith v (some (.Subscript ov R Q)) p.line X.env=pure false;exact rM u.1;cases v<;>rfl;rfl
 |sdf i k=>intro l ok h nd;obtain⟨st,rfl,h⟩:=GB h;obtain⟨v,p,rfl,h⟩:=x4 h;have z:=yA h;exact one (XW (snd (ym i k) ok.toOkX z.2 nd).pe (rM z.1))|whl c C Y=>intro l ok h nd;obtain⟨st,rfl,h⟩:=GB h;obtain⟨t,x,y,p,rfl,h⟩:=lh h;have z:=yA h;have u:=yA z.2;cases Qz.mp z.1;exact one (v3 ok.po (snd c ok.toOkX u.1 nd.1).pt (Y ok u.2 nd.2).1)|frz is s Y=>intro l ok h nd;exact Y ok h nd
end
end
noncomputable abbrev D:=PyData
set_option genInjectivity true in
inductive T where
 |d (x:D)|lst (ts:List T)|tup (ts:List T)|dct (b:Bool) (ks:List D) (ts:List T)
abbrev LT:=List T
mutual
def T.er:T->D
 | .d x=>x|.lst h=>.list (ersT h)|.tup h=>.tuple (ersT h)|.dct _ y h=>.dict (y.zip (ersT h))
def ersT:LT->List D
 |[]=>[]|t::r=>t.er::ersT r
end
theorem pB(ds:List D):ersT (ds.map T.d)=ds:=by
 induction ds with|nil=>rfl|cons d r h=>simp only[QV,ersT,h,T.er]
theorem e6:∀(ts:LT),(ersT ts).length=ts.length
 |[]=>rfl|t::r=>by simp only[ersT,QM,e6 r]
theorem BQ:∀(ts:LT),ersT ts=ts.map T.er
 |[]=>rfl|t::r=>by simp only[ersT,QV,BQ r]
def T.isD:T->Bool
 | .d _=>true|_=>false
set_option genInjectivity true in
inductive Sl where
 |own (t:T)|ky (t:T)
noncomputable abbrev kA:=List (Option Sl)
abbrev bD(x:D):Option Sl:=some (.ky (.d x))
abbrev oW(t:T):Option Sl:=some (.own t)
def lH(t:T)(n:Bool):Bool:=n||t.isD
def pA(t:T):Bool->T
 |true=>.d t.er|false=>t
theorem rA(x:D)(n:Bool):pA (.d x) n=.d x:=by cases n<;>rfl
theorem mX(t:T)(n:Bool):(pA t n).er=t.er:=by cases n<;>rfl
def vH:LT->Option (List D)
 |[]=>some []|.d x::r=>(vH r).map (x::·)|_::_=>none
theorem VA(ds:List D):vH (ds.map T.d)=some ds:=by
 induction ds with|nil=>rfl|cons d r h=>simp only[QV,vH,h,Q2]
theorem BL:∀{ts:LT}{ds:List D},vH ts=some ds->ts=ds.map T.d
 |[],ds,h=>by simp only[vH,Qk]at h;subst h;rfl|.d x::r,ds,h=>by
  simp only[vH]at h;cases e:vH r with|none=>rw[e]at h;cases h|some y=>rw[e]at h;cases h;rw[QV,BL e]
 | .lst _::_,_,h=>by simp[vH]at h|.tup _::_,_,h=>by simp[vH]at h|.dct _ _ _::_,_,h=>by simp[vH]at h
def jD:List (D×D)->Option Bool
 | (.tuple _,_)::_=>some true|(.str _,_)::_=>some false|_=>none
def GD:Bool->D->Prop
 |true,k=>∃q,k=tD (.t q)/\N4 (.t q)<=6|false,k=>∃z,k=.str z
open Classical in
def bA:List D->D->Option Nat
 |[],_=>none|x::r,k=>if x=k then some 0 else(bA r k).map (·+1)
def HJ(b:Bool)(ks:List D)(ts:LT)(k:D)(t:T):T:=match bA ks k with
 |some n=>.dct b ks (ts.set n t)|none=>.dct b (ks++[k]) (ts++[t])
theorem NC:∀{ks:List D}{k:D}{n:Nat},bA ks k=some n->ks[n]?=some k
 |[],_,_,h=>by cases h|x::r,k,n,h=>by
  unfold bA at h;by_cases e:x=k;rw[if_pos e]at h;cases h;rw[e];rfl;rw[if_neg e]at h;cases q:bA r k with|none=>rw[q]at h;cases h|some m=>rw[q]at h;cases h;simpa using NC q
theorem jB:∀{ks:List D}{k:D},bA ks k=none↔k∉ks
 |[],_=>by simp[bA]|x::r,k=>by unfold bA;by_cases e:x=k;simp[e];rw[if_neg e,Option.map_eq_none_iff,jB];simp[Q9 e]
theorem iV{ks:List D}{k:D}:(bA ks k).isSome=true↔k∈ks:=by
 cases h:bA ks k with|none=>simp[jB.mp h]|some n=>simp[qQ (NC h)]
set_option genInjectivity true in
inductive Vw where
 |sc (x:D)|ls (ts:LT)|tp (ts:LT)|dc (b:Bool) (ks:List D) (ts:LT)
def BB(kvs:List (D×D)):Vw:=match jD kvs with
 |some b=>.dc b (kvs.map (·.1)) (kvs.map λp=>T.d p.2)|none=>.sc (.dict kvs)
noncomputable def T.vw:T->Vw
 | .lst h=>.ls h|.tup h=>.tp h|.dct b u h=>.dc b u h|.d x=>match x with
  | .list z=>.ls (z.map T.d)|.tuple z=>.tp (z.map T.d)|.dict y=>BB y|.none=>.sc .none|.bool b=>.sc (.bool b)|.int i=>.sc (.int i)|.str s=>.sc (.str s)
def UF(ts:LT):T:=match vH ts with
 |some h=>.d (.tuple h)|none=>.tup ts
noncomputable abbrev XD:=Value×List (Str×D)
noncomputable abbrev XE:=XD->Prop
noncomputable abbrev TK:=T->Bool->kA->Prop
inductive Md where
 |xx|xy|ky|chg
 deriving DecidableEq
structure PSp where
 md:List Md
 run:LT->(T->LT->Prop)->XE->Prop
 mono:∀{ts:LT}{Q Q':T->LT->Prop}{E E':XE},(∀t os,Q t os->Q' t os)->(∀x,E x->E' x)->run ts Q E->run ts Q' E'
structure PEv where
 sp:Str->PSp
 va:Str->Option D
def binT(w:Operator)(x y:Vw)(Q:T->Bool->Prop):Prop:=match w with
 | .Add=>(∃i j,x=.sc (.int i)/\y=.sc (.int j)/\Q (.d (.int (i+j))) false)∨(∃a b,x=.sc (.str a)/\y=.sc (.str b)/\a.length+b.length<=sizeLine/\Q (.d (.str (a++b))) false) ∨
  (∃v u z h,x=.ls v/\y=.ls u/\vH v=some z/\vH u=some h/\z.length+h.length<=sizeLine/\Q (.lst ((z++h).map T.d)) true)
 | .Sub=>∃i j,x=.sc (.int i)/\y=.sc (.int j)/\Q (.d (.int (i - j))) false|.Mult=>(∃i j,x=.sc (.int i)/\y=.sc (.int j)/\IntMulOk i j/\Q (.d (.int (i * j))) false)∨(∃a k,x=.sc (.str a)/\y=.sc (.int k)/\(-(2 ^ 31)<=k/\k<2 ^ 31/\a.length * k.toNat<=sizeLine)/\Q (.d (.str (GJ a k))) false)|.FloorDiv=>∃i j,x=.sc (.int i)/\y=.sc (.int j)/\(0<j/\j<2 ^ 200)/\Q (.d (.int (i / j))) false|.Mod=>∃i j,x=.sc (.int i)/\y=.sc (.int j)/\0<j/\Q (.d (.int (i % j))) false|_=>False
section
variable{Q:T->Bool->Prop}
theorem Yj(i j:Int):binT .Add (.sc (.int i)) (.sc (.int j)) Q=Q (.d (.int (i+j))) false:=by simp[binT]
theorem Jj(a b:Str):binT .Add (.sc (.str a)) (.sc (.str b)) Q=(a.length+b.length<=sizeLine/\Q (.d (.str (a++b))) false):=by simp[binT]
theorem ij(i j:Int):binT .Sub (.sc (.int i)) (.sc (.int j)) Q=Q (.d (.int (i - j))) false:=by simp[binT]
theorem sj(i j:Int):binT .Mult (.sc (.int i)) (.sc (.int j)) Q=(IntMulOk i j/\Q (.d (.int (i * j))) false):=by simp[binT]
theorem rj(a:Str)(k:Int):binT .Mult (.sc (.str a)) (.sc (.int k)) Q=((-(2 ^ 31)<=k/\k<2 ^ 31/\a.length * k.toNat<=sizeLine)/\Q (.d (.str (GJ a k))) false):=by simp[binT]
theorem pj(i j:Int):binT .FloorDiv (.sc (.int i)) (.sc (.int j)) Q=((0<j/\j<2 ^ 200)/\Q (.d (.int (i / j))) false):=by simp[binT]
theorem oj(i j:Int):binT .Mod (.sc (.int i)) (.sc (.int j)) Q=(0<j/\Q (.d (.int (i % j))) false):=by simp[binT]
end
section
variable{Q:T->Prop}
def dq:D->D->(Bool->Prop)->Prop
 | .int i,.int j,Q=>Q (decide (i=j))|.str x,.str y,Q=>Q (decide (x=y))|.bool x,.bool y,Q=>Q (decide (x=y))|a,b,Q=>kE a/\kE b/\Q (Ql a b)
def iB:D->Bool
 | .none | .bool _ | .int _ | .str _=>true
 |_=>false
noncomputable def uq:D->D->(Bool->Prop)->Prop
 | .str x,.str y,Q=>Q (inStr y x)|a,.list ds,Q|a,.tuple ds,Q=>((iB a=true/\ds.all iB=true)∨(kE a/\kE (.list ds)))/\Q (ds.any λy=>Ql y a)
 |a,.dict kvs,Q=>∃b,jD kvs=some b/\GD b a/\Q (bA (kvs.map (·.1)) a).isSome|_,_,_=>False
def aY(f:Int->Int->Bool):D->D->(Bool->Prop)->Prop
 | .int i,.int j,Q=>Q (f i j)|_,_,_=>False
def P5:D->Bool
 | .none=>true|_=>false
def yZ:D->D->(Bool->Prop)->Prop
 |a,.none,Q=>Q (P5 a)|.bool a,.bool b,Q=>Q (decide (a=b))|_,_,_=>False
noncomputable def pZ:CmpOp->D->D->(Bool->Prop)->Prop
 | .Eq,a,b,Q=>dq a b Q|.NotEq,a,b,Q=>dq a b λk=>Q (!k)|.Lt,a,b,Q=>aY (λi j=>decide (i<j)) a b Q|.LtE,a,b,Q=>aY (λi j=>decide (i<=j)) a b Q|.Gt,a,b,Q=>aY (λi j=>decide (j<i)) a b Q|.GtE,a,b,Q=>aY (λi j=>decide (j<=i)) a b Q|.In,a,b,Q=>uq a b Q|.NotIn,a,b,Q=>uq a b λk=>Q (!k)|.Is,a,b,Q=>yZ a b Q|.IsNot,a,b,Q=>yZ a b λk=>Q (!k)
def Fb(h:CmpOp)(x:D)(y:T)(Q:Bool->Prop):Prop:=match y with
 | .dct b u _=>GD b x/\((h=.In/\Q (bA u x).isSome)∨(h=.NotIn/\Q (!(bA u x).isSome)))|.d y=>pZ h x y Q|.lst z=>pZ h x (.list (ersT z)) Q|.tup z=>pZ h x (.tuple (ersT z)) Q
def vI:D->(Bool->Prop)->Prop
 | .bool b,Q=>Q b|.int i,Q=>Q (i != 0)|.none,Q=>Q false|.str z,Q=>z.length<=sizeLine/\Q ((z.length:Int) != 0)|.list ds,Q=>Q (!ds.isEmpty)|.tuple ds,Q=>Q (!ds.isEmpty)|_,_=>False
def Vj:D->(Bool->Prop)->Prop
 | .bool b,Q=>Q b|_,_=>False
def SS(x:Vw)(k:D)(Q:T->Prop):Prop:=∃b y h n t,x=.dc b y h/\GD b k/\bA y k=some n/\h[n]?=some t/\Q t
def GN(x y:Vw)(Q:T->Prop):Prop:=(∃z i c,x=.sc (.str z)/\y=.sc (.int i)/\z.length<=sizeLine/\gE z.cps.toList i=some c/\Q (.d (.str ⟨#[c]⟩))) ∨
 (∃h i t,x=.ls h/\y=.sc (.int i)/\gE h i=some t/\Q t)∨(∃h i t,x=.tp h/\y=.sc (.int i)/\gE h i=some t/\Q t)
theorem Ui(z:Str)(i:Int):GN (.sc (.str z)) (.sc (.int i)) Q=(z.length<=sizeLine/\∃c,gE z.cps.toList i=some c/\Q (.d (.str ⟨#[c]⟩))):=by simp[GN]
theorem A5(ts:LT)(i:Int):GN (.ls ts) (.sc (.int i)) Q=∃t,gE ts i=some t/\Q t:=by simp[GN]
theorem Xi(ts:LT)(i:Int):GN (.tp ts) (.sc (.int i)) Q=∃t,gE ts i=some t/\Q t:=by simp[GN]
def gF{α:Type}(xs:List α)(h x:Option Int):List α:=(xs.drop (HT.sIx xs.length 0 h)).take (HT.sIx xs.length xs.length x - HT.sIx xs.length 0 h)
def LL(x:Vw)(u v:Option Int)(Q:T->Bool->Prop):Prop:=(∃z,x=.sc (.str z)/\z.length<=sizeLine/\Q (.d (.str (wl z u v))) false)∨(∃y h,x=.ls y/\vH y=some h/\Q (.lst ((gF h u v).map T.d)) true) ∨
 (∃y h,x=.tp y/\vH y=some h/\¬ (HT.sIx h.length 0 u=0/\HT.sIx h.length h.length v=h.length)/\Q (.d (.tuple (gF h u v))) false)
end
section
variable{Q:T->Bool->Prop}{h x:Option Int}
theorem Jg(z:Str):LL (.sc (.str z)) h x Q=(z.length<=sizeLine/\Q (.d (.str (wl z h x))) false):=by simp[LL]
theorem ig(ts:LT):LL (.ls ts) h x Q=∃ds,vH ts=some ds/\Q (.lst ((gF ds h x).map T.d)) true:=by simp[LL]
end
def IF:D->(Option Int->Prop)->Prop
 | .int i,Q=>Q (some i)|_,_=>False
noncomputable def isD(n:String):D->Option Bool
 | .none=>some false|.bool _=>some (n == "bool" || n == "int")
 | .int _=>some (n == "int")|.str _=>some (n == "str")|.list _=>some (n == "list")|.tuple _=>some (n == "tuple")|.dict _=>none
def bX(n:String):Bool:=n == "bool" || n == "int" || n == "str" || n == "list" || n == "tuple" || n == "ValueError"
def EC(l:LS):D:=.list (l.map PyData.str)
def VX(f:Bi)(vs:List Vw)(Q:T->Bool->Prop):Prop:=match f with
 | .len=>(∃z,vs=[.sc (.str z)]/\z.length<=sizeLine/\Q (.d (.int z.length)) false)∨(∃h,vs=[.ls h]/\Q (.d (.int h.length)) false)∨(∃h,vs=[.tp h]/\Q (.d (.int h.length)) false)|.any=>∃h,∃bs:List Bool,vs=[.ls h]/\vH h=some (bs.map PyData.bool)/\Q (.d (.bool (bs.any id))) false|.sorted=>(∃h,∃v:LS,vs=[.ls h]/\vH h=some (v.map PyData.str)/\v.length<64/\∀x:LS,x.Perm v->sortedS x=true->Q (.lst ((x.map PyData.str).map T.d)) true) ∨
  (∃h,∃ls:List (LS),vs=[.ls h]/\vH h=some (ls.map EC)/\ls.length<64/\∀u:List (LS),u.Perm ls->Q (.lst ((u.map EC).map T.d)) true) ∨
  (∃h,∃w:LJ,vs=[.ls h]/\vH h=some (w.map PyData.int)/\w.length<64/\∀y:LJ,y.Perm w->y.Pairwise (·<=·)->Q (.lst ((y.map PyData.int).map T.d)) true)
 | .tuple=>∃h k,vs=[.ls h]/\vH h=some k/\Q (.d (.tuple k)) false|.int=>∃b:Bool,vs=[.sc (.bool b)]/\Q (.d (.int (if b then 1 else 0))) false
section
variable{Q:T->Bool->Prop}
theorem Ke(ts:LT):VX .len [.ls ts] Q=Q (.d (.int ts.length)) false:=by simp[VX]
theorem So(ts:LT):VX .any [.ls ts] Q=∃bs:List Bool,vH ts=some (bs.map PyData.bool)/\Q (.d (.bool (bs.any id))) false:=by simp[VX]
theorem Ze(ts:LT):VX .tuple [.ls ts] Q=∃ds,vH ts=some ds/\Q (.d (.tuple ds)) false:=by simp[VX]
theorem Ro(b:Bool):VX .int [.sc (.bool b)] Q=Q (.d (.int (if b then 1 else 0))) false:=by simp[VX]
end
section
variable{N:T->T->Prop}
def Cr(m:Mt)(x:Vw)(vs:List Vw)(Q:T->Bool->Prop):Prop:=match m with
 |_=>False
def Vw.isS:Vw->Bool
 | .sc (.str _)=>true|_=>false
def isMut:Mt->Bool
 | .append=>true|.pop=>true|.setd=>true|.extend=>true
def Va(m:Mt)(x:Vw):Bool:=x.isS&&!isMut m
def MK(m:Mt)(s:T)(us:LT)(N:T->T->Prop):Prop:=match m with
 | .append=>∃h t,s=.lst h/\us=[t]/\h.length<sizeLine/\N (.d .none) (.lst (h++[t]))|.pop=>∃h i k t,s=.lst h/\us=[.d (.int i)]/\kU h.length i=some k/\h[k]?=some t/\N t (.lst (h.eraseIdx k))|.extend=>∃h x,s=.lst h/\us=[.lst x]/\h.length+x.length<=sizeLine/\N (.d .none) (.lst (h++x))|_=>False
theorem v5(ts:LT)(t:T):MK .append (.lst ts) [t] N=(ts.length<sizeLine/\N (.d .none) (.lst (ts++[t]))):=by simp[MK]
theorem z5(ts vs:LT):MK .extend (.lst ts) [.lst vs] N=(ts.length+vs.length<=sizeLine/\N (.d .none) (.lst (ts++vs))):=by simp[MK]
theorem k5(ts:LT)(i:Int):MK .pop (.lst ts) [.d (.int i)] N=∃k t,kU ts.length i=some k/\ts[k]?=some t/\N t (.lst (ts.eraseIdx k)):=by simp[MK]
def bV:Mt->Bool
 | .append=>true|.pop=>true|.setd=>false|.extend=>true
def KI(m:Mt):T->Bool
 | .lst _=>bV m|_=>false
def Vw.seq:Vw->Option (LT)
 | .ls h=>some h|.tp h=>some h|_=>none
def LB(u:ItK)(vs:List Vw)(R:LT->Prop):Prop:=match u with
 | .val=>(∃h,vs=[.ls h]/\R h)∨(∃h,vs=[.tp h]/\R h)∨(∃y h,vs=[.dc true y h]/\R (y.map T.d))|.rng1=>∃j,vs=[.sc (.int j)]/\(-(2 ^ 62)<=j/\j<2 ^ 62)/\R ((Qr j.toNat).map λ(i:Nat)=>.d (.int (i:Int)))|.enum=>∃x h z,vs=[x]/\x.seq=some h/\vH h=some z/\R (z.zipIdx.map λp=>.d (.tuple [.int (p.2:Int),p.1]))|.itm=>(∃y h z,vs=[.dc true y h]/\vH h=some z/\R ((y.zip z).map λp=>.d (.tuple [p.1,p.2])))∨(vs=[.sc (.dict [])]/\R [])
end
section
variable{R:LT->Prop}
theorem CI(ts:LT):LB .val [.ls ts] R=R ts:=by simp[LB]
theorem M5(ts:LT):LB .val [.tp ts] R=R ts:=by simp[LB]
theorem L5(j:Int):LB .rng1 [.sc (.int j)] R=((-(2 ^ 62)<=j/\j<2 ^ 62)/\R ((Qr j.toNat).map λ(i:Nat)=>.d (.int (i:Int)))):=by simp[LB]
theorem ZS(x:Vw):LB .enum [x] R=∃ts ds,x.seq=some ts/\vH ts=some ds/\R (ds.zipIdx.map λp=>.d (.tuple [.int (p.2:Int),p.1])):=by apply propext;constructor;rintro⟨_,ts,ds,⟨⟩,h⟩;exact⟨ts,ds,h⟩;rintro⟨ts,ds,h⟩;exact⟨_,ts,ds,rfl,h⟩
theorem YS(ks:List D)(ts:LT):LB .itm [.dc true ks ts] R=∃ds,vH ts=some ds/\R ((ks.zip ds).map λp=>.d (.tuple [p.1,p.2])):=by apply propext;constructor;rintro(⟨_,_,ds,⟨⟩,h⟩| ⟨⟨⟩,_⟩);exact⟨ds,h⟩;rintro⟨ds,h⟩;exact .inl ⟨_,_,ds,rfl,h⟩
theorem JS(ks:List D)(ts:LT):LB .val [.dc true ks ts] R=R (ks.map T.d):=by simp[LB]
theorem G5:LB .itm [.sc (.dict [])] R=R []:=by apply propext;constructor;rintro(⟨_,_,x,⟨⟩,h⟩| ⟨_,h⟩);exact h;exact λh=>.inr ⟨rfl,h⟩
end
def aB:LN->LT->kA->Option kA
 |[],[],ρ=>some ρ|i::is,t::ts,ρ=>aB is ts (ρ.set i (some (.ky t)))|_,_,_=>none
def DK:Tg->T->kA->(kA->Prop)->Prop
 | .nm i,t,ρ,Q=>Q (ρ.set i (some (.ky t)))|.tp is,t,ρ,Q=>match t.vw with
  | .tp x=>∃h,aB is x ρ=some h/\Q h|_=>False
def Tg.ix:Tg->LN
 | .nm i=>[i]|.tp h=>h
def D2:PX->Option Nat
 | .xz i=>some i|_=>none
def uG:Option Sl->Option Sl
 |some (.own t)=>some (.ky t)|s=>s
def lockA(ρ:kA):kA:=ρ.map uG
def lock:LN->kA->kA
 |[],ρ=>ρ|i::is,ρ=>lock is (ρ.modify i uG)
def rV:Option Sl->Option Sl
 |some (.own t)=>bD t.er|s=>s
def frzAt:LN->kA->kA
 |[],ρ=>ρ|i::is,ρ=>frzAt is (ρ.modify i rV)
def UK:Option Sl->Option Sl
 |some (.ky t)=>if t.isD=true then some (.ky t) else none|s=>s
def kill:LN->kA->kA
 |[],ρ=>ρ|i::is,ρ=>kill is (ρ.modify i UK)
def clear:LN->kA->kA
 |[],ρ=>ρ|i::is,ρ=>clear is (ρ.set i none)
def DA:LN->kA->Option (LT)
 |[],_=>some []|i::is,ρ=>match ρ[i]? with
  |some (some (.own t))=>(DA is ρ).map (t::·)|_=>none
def xC:LN->LT->kA->Option kA
 |[],[],ρ=>some ρ|i::is,t::ts,ρ=>xC is ts (ρ.set i (some (.own t)))|_,_,_=>none
def oC:List Bool->kA->kA
 |b::m,v::ρ=>(if b then none else v)::oC m ρ|_,ρ=>ρ
def MN(k:Nat)(h:List Bool)(ρ:kA):kA:=QAK k none++oC h ρ
def sq{α:Type}(x:T)(ρ:kA)(b:kA->(α->kA->Prop)->Prop)(K:α->kA->Prop):Prop :=
 if x.isD=true then b ρ K else b (lockA ρ) λy _=>K y ρ
def cu(f:kA->TK->Prop):kA->(T×Bool->kA->Prop)->Prop:=λy K=>f y λx n h=>K (x,n) h
def DF:List (T×Bool)->LT
 |[]=>[]|p::r=>p.1::DF r
def HN:List (T×Bool)->LT
 |[]=>[]|p::r=>pA p.1 p.2::HN r
def dC:List (T×Bool)->List Vw
 |[]=>[]|p::r=>(pA p.1 p.2).vw::dC r
def ZE:List (T×Bool)->Bool
 |[]=>true|p::r=>lH p.1 p.2&&ZE r
def AQ:List (T×Bool)->Bool
 |[]=>true|p::r=>lH p.1 p.2&&AQ r
def oE(t:T):Option T:=match t.vw with
 | .ls h=>(vH h).map λx=>.lst (x.map T.d)|_=>if t.isD=true then some t else none
noncomputable def XA:List Md->List (T×Bool)->LT->Option (LT)
 |_,[],[]=>some []|_,[],_::_=>none|md,(x,n)::xs,os=>match md.headD .xx with
  | .xx=>match pA x n with
   | .d d=>(XA md.tail xs os).map (.d d::·)|_=>none
  | .xy=>match oE (pA x n) with
   |some t=>(XA md.tail xs os).map (t::·)|none=>none
  | .ky=>(XA md.tail xs os).map (pA x n::·)|.chg=>match os with
   |o::os=>(XA md.tail xs os).map (o::·)|[]=>none
def HB:List Md->LT->LT
 |_,[]=>[]|md,t::ts=>match md.headD .xx with
  | .chg=>t::HB md.tail ts|_=>HB md.tail ts
def xA:List Md->PX->LN
 | .chg::md,.ny (.xz j) as=>j::xA md as|_::md,.ny _ as=>xA md as|_,_=>[]
def Md.isMut:Md->Bool
 | .chg=>true|_=>false
structure D3 where
 e:kA->TK->Prop
 t:kA->(Bool->kA->Prop)->Prop
 a:List Md->kA->(List (T×Bool)->kA->Prop)->Prop
def zF:D3:=⟨λ_ _=>False,λ_ _=>False,λ_ _ _=>False⟩
def JD(body:T->(Option T->Prop)->Prop):LT->LT->(LT->Prop)->Prop
 |[],acc,Q=>acc.length<=sizeLine/\Q acc|x::xs,acc,Q=>body x fun
  |some y=>acc.length<sizeLine/\JD body xs (acc++[y]) Q|none=>JD body xs acc Q
def nG(v:Tg)(u:kA)(c:kA->(Bool->kA->Prop)->Prop)(e:kA->TK->Prop)(x:T)(R:Option T->Prop):Prop :=
 DK v x u λz=>c z λb h=>if b=true then e h λy n _=>lH y n=true/\R (some y) else R none
def Nn:PX->D->(Bool->Prop)->Prop
 | .bty _ n,d,Q=>∃b,isD n d=some b/\bX n=true/\Q b|_,_,_=>False
def yq:Option (Option Sl)->(T->Prop)->Prop
 |some (some (.own t)),Q=>Q t|some (some (.ky t)),Q=>Q t|some none,_=>False|none,_=>False
def zD:Option (Option Sl)->(T->Prop)->Prop
 |some (some (.own t)),Q=>Q t|some (some (.ky _)),_=>False|some none,_=>False|none,_=>False
def Cc:Option Nat->(Nat->Prop)->Prop
 |none,_=>False|some j,Q=>Q j
def O5:PX->Bool
 | .xz _=>true|_=>false
def pe(Ψ:PEv):PX->XE->D3
 | .xz i,_=>let e:kA->TK->Prop:=λv Q=>yq v[i]? λt=>Q t false v
  ⟨e,λv Q=>e v λt _ h=>vI t.er λb=>Q b h,zF.a⟩
 | .int i,_=>⟨λv Q=>Q (.d (.int i)) false v,λv Q=>Q (i != 0) v,zF.a⟩|.str x,_=>⟨λv Q=>Q (.d (.str x)) false v,zF.t,zF.a⟩|.bl b,_=>⟨λv Q=>Q (.d (.bool b)) false v,λv Q=>Q b v,zF.a⟩|.non,_=>⟨λv Q=>Q (.d .none) false v,λv Q=>Q false v,zF.a⟩|.glo x,_=>let e:kA->TK->Prop:=λv Q=>match Ψ.va x with
   |some d=>Q (.d d) false v|none=>False
  ⟨e,λv Q=>e v λt _ h=>vI t.er λb=>Q b h,zF.a⟩
 | .bty _ _,_=>zF|.bin op a b,E=>let e:kA->TK->Prop:=λv Q=>(pe Ψ a E).e v λx n h=>sq (pA x n) h (cu (pe Ψ b E).e) λy w=>binT op (pA x n).vw (pA y.1 y.2).vw λz k=>Q z k w
  ⟨e,λv Q=>e v λt _ h=>vI t.er λb=>Q b h,zF.a⟩
 | .cmp op a b,E=>let t:kA->(Bool->kA->Prop)->Prop:=λv Q=>(pe Ψ a E).e v λx n h=>sq (pA x n) h (cu (pe Ψ b E).e) λy w=>Fb op x.er (pA y.1 y.2) λk=>Q k w
  ⟨λv Q=>t v λk h=>Q (.d (.bool k)) false h,t,zF.a⟩
 | .and a b,E=>⟨λv Q=>(pe Ψ a E).e v λx _ h=>Vj x.er λc=>if c=true then(pe Ψ b E).e h Q else Q (.d (.bool false)) false h,
   λv Q=>(pe Ψ a E).t v λc h=>if c=true then(pe Ψ b E).t h Q else Q false h,zF.a⟩
 | .or a b,E=>⟨λv Q=>(pe Ψ a E).e v λx _ h=>Vj x.er λc=>if c=true then Q (.d (.bool true)) false h else(pe Ψ b E).e h Q,
   λv Q=>(pe Ψ a E).t v λc h=>if c=true then Q true h else(pe Ψ b E).t h Q,zF.a⟩
 | .not a,E=>⟨λv Q=>(pe Ψ a E).e v λx _ h=>vI x.er λc=>Q (.d (.bool (!c))) false h,λv Q=>(pe Ψ a E).t v λc h=>Q (!c) h,zF.a⟩|.call f as,E=>let e:kA->TK->Prop:=λv Q=>∃Z,DA (xA (Ψ.sp f).md as) v=some Z/\(xA (Ψ.sp f).md as).Nodup/\(pe Ψ as E).a (Ψ.sp f).md (clear (xA (Ψ.sp f).md as) v) λg h=>∃Y,XA (Ψ.sp f).md g Z=some Y/\(Ψ.sp f).run Y (λr s=>∃w,xC (xA (Ψ.sp f).md as) s h=some w/\Q r true w) E
  ⟨e,λv Q=>e v λt _ h=>vI t.er λb=>Q b h,zF.a⟩
 | .isi a c,E=>let t:kA->(Bool->kA->Prop)->Prop:=λv Q=>(pe Ψ a E).e v λx _ h=>Nn c x.er λb=>Q b h
  ⟨λv Q=>t v λk h=>Q (.d (.bool k)) false h,t,zF.a⟩
 | .bi f as,E=>let e:kA->TK->Prop:=λv Q=>(pe Ψ as E).a [] v λg h=>VX f (dC g) λz k=>Q z k h
  ⟨e,λv Q=>e v λt _ h=>vI t.er λb=>Q b h,zF.a⟩
 | .mt m o as,E=>let e:kA->TK->Prop:=λv Q=>if isMut m=true then Cc (D2 o) λj=>zD v[j]? λt=>KI m t=true/\(pe Ψ as E).a [] (v.set j (some (.ky t))) λg w=>ZE g=true/\w[j]?=some (some (.ky t))/\MK m t (DF g) λr K=>Q r true (w.set j (some (.own K))) else(pe Ψ o E).e v λx n h=>Va m (pA x n).vw=true/\sq (pA x n) h ((pe Ψ as E).a []) λg w=>Cr m (pA x n).vw (dC g) λz k=>Q z k w
  ⟨e,λv Q=>e v λt _ h=>vI t.er λb=>Q b h,zF.a⟩
 | .idx a b,E=>let e:kA->TK->Prop:=λv Q=>(pe Ψ a E).e v λx n h=>sq (pA x n) h (cu (pe Ψ b E).e) λy w=>(GN (pA x n).vw (pA y.1 y.2).vw λz=>Q z false w)∨(SS (pA x n).vw y.1.er λz=>Q z false w)
  ⟨e,λv Q=>e v λt _ h=>vI t.er λb=>Q b h,zF.a⟩
 | .slc a lo hi,E=>⟨λv Q=>(pe Ψ a E).e v λx n h =>
   sq (α:=Option Int) (pA x n) h (if isNop lo=true then λv (R:Option Int->kA->Prop)=>R none v else λv R=>(pe Ψ lo E).e v λl _ w=>IF l.er λo=>R o w) λl w =>
   sq (α:=Option Int) (pA x n) w (if isNop hi=true then λv (R:Option Int->kA->Prop)=>R none v else λv R=>(pe Ψ hi E).e v λu _ p=>IF u.er λo=>R o p) λu p=>LL (pA x n).vw l u λz k=>Q z k p,zF.t,zF.a⟩
 | .nop,_=>zF|.lst as,E=>⟨λv Q=>(pe Ψ as E).a [] v λg h=>ZE g=true/\g.length<=sizeLine/\Q (.lst (DF g)) true h,zF.t,zF.a⟩|.tup as,E=>⟨λv Q=>(pe Ψ as E).a [] v λg h=>ZE g=true/\g.length<=sizeLine/\Q (UF (DF g)) true h,zF.t,zF.a⟩|.comp mask tgs tg ik its cond elt,E=>⟨λv Q=>(pe Ψ its E).a [] v λg h=>LB ik (dC g) λq =>
   JD (nG tg (MN tgs.length mask (lockA h)) (if isNop cond=true then λv R=>R true v else(pe Ψ cond (λ_=>False)).t) (pe Ψ elt (λ_=>False)).e) q [] λW=>Q (.lst W) true h,zF.t,zF.a⟩
 | .dnew b,_=>⟨λv Q=>Q (.dct b [] []) true v,zF.t,zF.a⟩|.dsp a b,E=>⟨λv Q=>(pe Ψ a E).e v λy m h=>lH y m=true/\(pe Ψ b E).e h λx n w=>lH x n=true/\GD true y.er/\Q (.dct true [y.er] [x]) true w,zF.t,zF.a⟩|.nz,_=>⟨zF.e,zF.t,λ_ v Q=>Q [] v⟩|.ny a as,E=>⟨zF.e,zF.t,λX v Q=>if(X.headD .xx).isMut=true then O5 a=true/\(pe Ψ as E).a X.tail v λg h=>Q ((.d .none,true)::g) h
   else(pe Ψ a E).e v λx n h=>sq (α:=List (T×Bool)) (if n=true then .d .none else x) h ((pe Ψ as E).a X.tail) λg w=>Q ((x,n)::g) w⟩
structure PEnds where
 nx:kA->Prop
 rt:T->kA->Prop
 bk:kA->Prop:=λ_=>False
 ct:kA->Prop:=λ_=>False
def yH:PX->LN
 | .xz i=>[i]|.idx a _=>yH a|.and a b | .or a b=>yH a++yH b
 | .ny a h=>yH a++yH h|_=>[]
def oM:Option (Option Sl)->Bool
 |some (some (.own _))=>true|some (some (.ky _))=>false|some none=>false|none=>false
def fC(ρ:kA):LN->LN
 |[]=>[]|i::is=>if oM ρ[i]?=true then i::fC ρ is else fC ρ is
def XC:LN->kA->kA->kA
 |[],_,ρ=>ρ|i::L,ρ0,ρ=>XC L ρ0 (ρ.set i (ρ0[i]?.getD none))
def cU(J L:LN)(h:kA)(N:kA->Prop)(ρ:kA):Prop:=(∀i∈L,i∉J/\ρ[i]?=h[i]?.map uG)/\N (XC L h ρ)
def LH(body:PEnds->kA->Prop)(z:Tg)(Z:PEnds):LT->kA->Prop
 |[],ρ=>Z.nx ρ|x::xs,ρ=>DK z x ρ λy=>body { Z with nx:=λh=>LH body z Z xs h,ct:=λh=>LH body z Z xs h,bk:=Z.nx } y
def lr(ρ:kA)(i:Nat)(R:T->kA->Prop):Option (Option Sl)->Prop
 |some (some (.own t))=>R t (ρ.set i none)|some (some (.ky t))=>t.isD=true/\R t ρ|some none=>False|none=>False
def HK(Ψ:PEv)(E:XE)(y:T->kA->Prop):PX->kA->Prop
 | .xz i,ρ=>lr ρ i y ρ[i]?|e,ρ=>(pe Ψ e E).e ρ λx n h=>lH x n=true/\y x h
def Ml:T->D->D->(T->Prop)->Prop
 | .lst ts,.int i,x,Q=>∃n,kU ts.length i=some n/\Q (.lst (ts.set n (.d x)))|.dct b ks ts,k,x,Q=>GD b k/\ks.length<sizeLine/\Q (HJ b ks ts k (.d x))|_,_,_,_=>False
def jr:PX->Option (Nat×Option PX)
 | .xz j=>some (j,none)|.idx (.xz j) k=>some (j,some k)|_=>none
def Kg(k:D)(t:T)(Q:T->Prop):Prop:=∃h x,t=.dct true h x/\GD true k/\h.length<sizeLine/\((∃n,bA h k=some n/\Q t)∨(bA h k=none/\Q (.dct true (h++[k]) (x++[.dct true [] []]))))
def Ub:T->Bool
 | .dct true _ _=>true|_=>false
def Hl(z:D)(t:T)(Q:T->(T->T)->Prop):Prop:=∃b x h n s,t=.dct b x h/\GD b z/\bA x z=some n/\h[n]?=some s/\Q s λy=>.dct b x (h.set n y)
noncomputable def dB(Ψ:PEv)(E:XE):PT->PEnds->kA->Prop
 | .nil,Z,u=>Z.nx u|.seq s r,Z,u=>dB Ψ E s { Z with nx:=λw=>dB Ψ E r Z w } u|.set i e,Z,u=>(pe Ψ e E).e u λx n h=>lH x n=true/\Z.nx (h.set i (bD x.er))|.expr e,Z,u=>(pe Ψ e E).e u λ_ _ h=>Z.nx h|.ret e,Z,u=>HK Ψ E Z.rt e u|.ife c a b,Z,u=>(pe Ψ c E).t u λk h=>if k=true then dB Ψ E a Z h else dB Ψ E b Z h|.for_ tg ik its body,Z,u=>(pe Ψ its E).a [] u λX h=>LB ik (dC X) λf =>
   if AQ X=true then LH (dB Ψ E body) tg { Z with nx:=λv=>Z.nx (kill tg.ix v) } f h
   else LH (dB Ψ E body) tg { Z with nx:=λv=>cU tg.ix (fC h (yH its)) h Z.nx (kill tg.ix v) } f (lock (fC h (yH its)) h)
 | .own i e,Z,u=>(pe Ψ e E).e u λx n h=>lH x n=true/\Z.nx (h.set i (some (.own x)))|.tset is e,Z,u=>(pe Ψ e E).e u λx n h=>lH x n=true/\DK (.tp is) (.d x.er) h Z.nx|.six o i e,Z,u=>match jr o with
  |none=>False|some (j,none)=>zD u[j]? λt=>(pe Ψ e E).e (u.set j (some (.ky t))) λx n h=>lH x n=true/\(pe Ψ i E).e h λy m v=>lH y m=true/\v[j]?=some (some (.ky t))/\Ml t y.er x.er λq=>Z.nx (v.set j (some (.own q)))|some (j,some k)=>zD u[j]? λt=>(pe Ψ e E).e (u.set j (some (.ky t))) λx n h=>lH x n=true/\(pe Ψ k E).e h λz l v=>lH z l=true/\Hl z.er t λs put=>(pe Ψ i E).e v λy m g=>lH y m=true/\g[j]?=some (some (.ky t))/\Ml s y.er x.er λY=>Z.nx (g.set j (some (.own (put Y))))
 | .sdf j k,Z,u=>zD u[j]? λt=>Ub t=true/\(pe Ψ k E).e (u.set j (some (.ky t))) λy m h=>lH y m=true/\h[j]?=some (some (.ky t))/\Kg y.er t λq=>Z.nx (h.set j (some (.own q)))|.whl c body,Z,u=>∃W:Nat->kA->Prop,(∃m,W m u)/\∀m u,W m u->(pe Ψ c E).t u λb h=>if b=true then
   dB Ψ E body { Z with nx:=λw=>∃p,p < m/\W p w,ct:=λw=>∃p,p < m/\W p w,bk:=Z.nx } h else Z.nx h
 | .frz is s,Z,u=>dB Ψ E s Z (frzAt is u)
abbrev pF(Ψ:PEv):PT->PEnds->kA->Prop:=dB Ψ λ_=>False
theorem _root_.L2.Same.rd{H x:Hp}(e:Same H x){a:Addr}{u:HO}(h:Rd H a u):Rd x a u:=by
 rcases h with h|⟨o,h⟩
 exact .inl (e _ _ h);exact .inr ⟨o,e _ _ h⟩
theorem _root_.L2.Same.tupl{K:QA}{H x:Hp}{a:Addr}{xs:LV}(e:Same H x)(h:ED K H a xs):ED K x a xs:=by rcases h with h|h;exact .inl (e.rd h);exact .inr h
mutual
theorem yX{K:QA}{H x:Hp}(e:Same H x):∀{k:NK}{v:V},Oj K H k v->Oj K x k v
 | .s _,_,h=>h|.t _,_,⟨a,xs,h,q,p⟩=>⟨a,xs,h,e.tupl q,kys_mono e p⟩
theorem kys_mono{K:QA}{H y:Hp}(e:Same H y):∀{ks:List NK}{vs:LV},KyVs K H ks vs->KyVs K y ks vs
 |[],_,h=>h|_::_,_,⟨x,r,h,p,q⟩=>⟨x,r,h,yX e p,kys_mono e q⟩
end
section
variable{K:QA}{H x:Hp}{vs:LV}{ds:List D}
theorem _root_.L2.Same.key(e:Same H x){b:Addr}{k:NK}(h:yO K H b k):yO K x b k:=⟨yX e h.1,h.2⟩
theorem gK.mono(e:Same H x){b:Bool}{o:HO}{ks:List D}(h:gK K H b o ks vs):gK K x b o ks vs:=by
 cases b with|true=>obtain⟨f,y,a,k,w,v,u⟩:=h;exact⟨f,y,a,k,w,λp z=>e.key (v p z),u⟩|false=>exact h
theorem Rep.mono2(e:Same H x):(∀{v:V}{d:D},Rep K H v d->Rep K x v d)/\∀{vs:LV}{ds:List D},Reps K H vs ds->Reps K x vs ds :=
 Rep.both (P:=Rep K x) (R:=Reps K x) .non .bl .int .str (λh _ r=>.lst (e.seq h) r) (λh _ r=>.tup (e.tupl h) r) (λh q _ r=>.dct (e _ _ h) (q.mono e) r) .nil λ_ _ h r=>.cons h r
theorem Rep.mono(e:Same H x){v:V}{d:D}(h:Rep K H v d):Rep K x v d:=(Rep.mono2 e).1 h
theorem Reps.mono(e:Same H x)(h:Reps K H vs ds):Reps K x vs ds:=(Rep.mono2 e).2 h
theorem Reps.append{ws:LV}{es:List D}(h:Reps K H vs ds)(r:Reps K H ws es):Reps K H (vs++ws) (ds++es):=Reps.ind (R:=λvs ds=>Reps K H (vs++ws) (ds++es)) r (λh t=>.cons h t) h
theorem Reps.get{K:QA}{H:Hp}:∀{vs:LV}{ds:List D}{i:Nat}{d:D},Reps K H vs ds->ds[i]?=some d->∃v,vs[i]?=some v/\Rep K H v d
 |_,_,i,_,.nil,h=>by simp at h|_,_,0,_,.cons h _,e=>by simp at e;subst e;exact⟨_,rfl,h⟩|_,_,i+1,d,.cons _ t,e=>by obtain⟨v,z,y⟩:=Reps.get (i:=i) t (by simpa using e);exact⟨v,by simpa using z,y⟩
theorem Reps.drop{K:QA}{H:Hp}:∀{vs:LV}{ds:List D}(n:Nat),Reps K H vs ds->Reps K H (vs.drop n) (ds.drop n)
 |_,_,0,r=>r|_,_,_+1,.nil=>.nil|_,_,n+1,.cons _ t=>Reps.drop n t
theorem Reps.take{K:QA}{H:Hp}:∀{vs:LV}{ds:List D}(n:Nat),Reps K H vs ds->Reps K H (vs.take n) (ds.take n)
 |_,_,0,_=>.nil|_,_,_+1,.nil=>.nil|_,_,n+1,.cons h t=>.cons h (Reps.take n t)
theorem Reps.bools{K:QA}{H:Hp}:∀{vs:LV}{bs:List Bool},Reps K H vs (bs.map PyData.bool)->vs=bs.map V.bl
 |_,[],.nil=>rfl|_,b::bs,.cons h t=>by cases h;rw[QV,Reps.bools t]
theorem NB{p:Addr}{o:HO}(h:H p=none):Same H (CA H p o):=λb u q=>by rw[vA (aA q h)];exact q
end
mutual
inductive Tr(K:QA)(F H:Hp):Bool->V->T->(Addr->Prop)->Prop where
 |d {st:Bool}{v:V}{x:D}{S:cB}:Rep K F v x->(∀b,¬ S b)->Tr K F H st v (.d x) S
 |lst {st:Bool}{a:Addr}{vs:LV}{ts:LT}{S S':cB}:H a=some (.lst vs)->F a=none->Trs K F H st vs ts S'->¬ S' a->(∀b,S b↔b=a∨S' b)->Tr K F H st (.ref a) (.lst ts) S
 |tup {st:Bool}{a:Addr}{vs:LV}{ts:LT}{S S':cB}:H a=some (.tup vs)->F a=none->Trs K F H st vs ts S'->¬ S' a->(∀b,S b↔b=a∨S' b)->Tr K F H st (.ref a) (.tup ts) S
 |lstF {a:Addr}{vs:LV}{ds:List D}{S:cB}:AC K F a vs->Reps K F vs ds->(∀b,¬ S b)->Tr K F H false (.ref a) (.lst (ds.map T.d)) S
 |dct {st b:Bool}{a:Addr}{o:HO}{ks:List D}{vs:LV}{ts:LT}{S S':cB}:H a=some o->gK K F b o ks vs->F a=none->Trs K F H st vs ts S'->¬ S' a->(∀b,S b↔b=a∨S' b)->Tr K F H st (.ref a) (.dct b ks ts) S
inductive Trs(K:QA)(F H:Hp):Bool->LV->LT->(Addr->Prop)->Prop where
 |nil {st:Bool}{S:cB}:(∀b,¬ S b)->Trs K F H st [] [] S
 |cons {st:Bool}{v:V}{t:T}{vs:LV}{ts:LT}{S S1 S2:cB}:Tr K F H st v t S1->Trs K F H st vs ts S2->(∀b,S1 b->¬ S2 b)->(∀b,S b↔S1 b∨S2 b)->Trs K F H st (v::vs) (t::ts) S
end
section
variable{K:QA}{F H w c:Hp}
section
variable{R:Bool->LV->LT->(Addr->Prop)->Prop}{st b:Bool}{v:V}{t:T}{S:cB}{vs:LV}{ts:LT}{ds ks:List D}{i:Int}{kvs:List (D×D)}
theorem Tr.both{P:Bool->V->T->(Addr->Prop)->Prop}
    (d:∀{st:Bool}{v:V}{x:D}{S:cB},Rep K F v x->(∀b,¬ S b)->P st v (.d x) S)
    (lst:∀{st:Bool}{a:Addr}{vs:LV}{ts:LT}{S S':cB},H a=some (.lst vs)->F a=none->Trs K F H st vs ts S'->¬ S' a->(∀b,S b↔b=a∨S' b)->R st vs ts S'->P st (.ref a) (.lst ts) S)
    (tup:∀{st:Bool}{a:Addr}{vs:LV}{ts:LT}{S S':cB},H a=some (.tup vs)->F a=none->Trs K F H st vs ts S'->¬ S' a->(∀b,S b↔b=a∨S' b)->R st vs ts S'->P st (.ref a) (.tup ts) S)
    (y:∀{a:Addr}{vs:LV}{ds:List D}{S:cB},AC K F a vs->Reps K F vs ds->(∀b,¬ S b)->P false (.ref a) (.lst (ds.map T.d)) S)
    (dct:∀{st b:Bool}{a:Addr}{o:HO}{ks:List D}{vs:LV}{ts:LT}{S S':cB},H a=some o->gK K F b o ks vs->F a=none->Trs K F H st vs ts S'->¬ S' a->(∀b,S b↔b=a∨S' b)->R st vs ts S'->P st (.ref a) (.dct b ks ts) S)
    (u:∀{st:Bool}{S:cB},(∀b,¬ S b)->R st [] [] S)
    (z:∀{st:Bool}{v:V}{t:T}{vs:LV}{ts:LT}{S S1 k:cB},Tr K F H st v t S1->Trs K F H st vs ts k->(∀b,S1 b->¬ k b)->(∀b,S b↔S1 b∨k b)->P st v t S1->R st vs ts k->R st (v::vs) (t::ts) S) :
    (∀{st:Bool}{v:V}{t:T}{S:cB},Tr K F H st v t S->P st v t S)/\∀{st:Bool}{vs:LV}{ts:LT}{S:cB},Trs K F H st vs ts S->R st vs ts S :=
  ⟨λh=>Tr.rec (motive_1:=λst v t S _=>P st v t S) (motive_2:=λst vs ts S _=>R st vs ts S) @d @lst @tup @y @dct @u @z h,
   λh=>Trs.rec (motive_1:=λst v t S _=>P st v t S) (motive_2:=λst vs ts S _=>R st vs ts S) @d @lst @tup @y @dct @u @z h⟩
theorem Tr.mono2(e:Same F w):(∀{st:Bool}{v:V}{t:T}{S:cB},Tr K F H st v t S->(∀b,S b->c b=H b/\w b=none)->Tr K w c st v t S)/\∀{st:Bool}{vs:LV}{ts:LT}{S:cB},Trs K F H st vs ts S->(∀b,S b->c b=H b/\w b=none)->Trs K w c st vs ts S :=
 Tr.both (P:=λst v t S=>(∀b,S b->c b=H b/\w b=none)->Tr K w c st v t S) (R:=λst v t S=>(∀b,S b->c b=H b/\w b=none)->Trs K w c st v t S)
  (λr n _=>.d (r.mono e) n)
  (λ{_ a _ _ _ _} h _ _ n q x k=>.lst ((k a ((q a).mpr (.inl rfl))).1.trans h) (k a ((q a).mpr (.inl rfl))).2 (x λb hb=>k b ((q b).mpr (.inr hb))) n q)
  (λ{_ a _ _ _ _} h _ _ n q x k=>.tup ((k a ((q a).mpr (.inl rfl))).1.trans h) (k a ((q a).mpr (.inl rfl))).2 (x λb hb=>k b ((q b).mpr (.inr hb))) n q)
  (λh r n _=>.lstF (e.seq h) (r.mono e) n)
  (λ{_ _ a _ _ _ _ _ _} h dk _ _ n q x k=>.dct ((k a ((q a).mpr (.inl rfl))).1.trans h) (dk.mono e) (k a ((q a).mpr (.inl rfl))).2 (x λb hb=>k b ((q b).mpr (.inr hb))) n q)
  (λn _=>.nil n)
  (λ_ _ n q z y k=>.cons (z λb hb=>k b ((q b).mpr (.inl hb))) (y λb hb=>k b ((q b).mpr (.inr hb))) n q)
theorem Tr.mono(e:Same F w)(h:Tr K F H st v t S)(k:∀b,S b->c b=H b/\w b=none):Tr K w c st v t S:=(Tr.mono2 e).1 h k
theorem Trs.mono(e:Same F w)(h:Trs K F H st vs ts S)(k:∀b,S b->c b=H b/\w b=none):Trs K w c st vs ts S:=(Tr.mono2 e).2 h k
theorem Tr.weak2:(∀{st:Bool}{v:V}{t:T}{S:cB},Tr K F H st v t S->Tr K F H false v t S)/\∀{st:Bool}{vs:LV}{ts:LT}{S:cB},Trs K F H st vs ts S->Trs K F H false vs ts S :=
 Tr.both (P:=λ_ v t S=>Tr K F H false v t S) (R:=λ_ v t S=>Trs K F H false v t S) .d (λh f _ n q x=>.lst h f x n q) (λh f _ n q x=>.tup h f x n q) .lstF (λh dk f _ n q x=>.dct h dk f x n q) .nil λ_ _ n q z y=>.cons z y n q
theorem Tr.weak(h:Tr K F H st v t S):Tr K F H false v t S:=Tr.weak2.1 h
theorem Trs.weak(h:Trs K F H st vs ts S):Trs K F H false vs ts S:=Tr.weak2.2 h
theorem E6{C:cB}{a:Addr}{S':cB}(q:∀b,S b↔b=a∨S' b)(h:C a)(k:∀b,S' b->C b)(b:Addr)(hb:S b):C b:=((q b).mp hb).elim (λe=>e▸h) (k b)
theorem Tr.dom2:(∀{st:Bool}{v:V}{t:T}{S:cB},Tr K F H st v t S->∀b,S b->H b≠none/\F b=none)/\∀{st:Bool}{vs:LV}{ts:LT}{S:cB},Trs K F H st vs ts S->∀b,S b->H b≠none/\F b=none :=
 have y:∀{a:Addr}{o:HO},H a=some o->H a≠none:=λh z=>by rw[h]at z;cases z
 Tr.both (P:=λ_ _ _ S=>∀b,S b->H b≠none/\F b=none) (R:=λ_ _ _ S=>∀b,S b->H b≠none/\F b=none)
  (λ_ n b hb=>absurd hb (n b)) (λh f _ _ q x=>E6 q ⟨y h,f⟩ x) (λh f _ _ q x=>E6 q ⟨y h,f⟩ x) (λ_ _ n b hb=>absurd hb (n b)) (λh _ f _ _ q x=>E6 q ⟨y h,f⟩ x)
  (λn b hb=>absurd hb (n b)) λ_ _ _ q k u b hb=>((q b).mp hb).elim (k b) (u b)
theorem Tr.dom(h:Tr K F H st v t S):∀b,S b->H b≠none/\F b=none:=Tr.dom2.1 h
theorem Trs.dom(h:Trs K F H st vs ts S):∀b,S b->H b≠none/\F b=none:=Tr.dom2.2 h
theorem Tr.kept2(e:Same F w):(∀{st:Bool}{v:V}{t:T}{S:cB},Tr K F H st v t S->(∀b u,S b->H b=some u->w b=some u)->Rep K w v t.er)/\∀{st:Bool}{vs:LV}{ts:LT}{S:cB},Trs K F H st vs ts S->(∀b u,S b->H b=some u->w b=some u)->Reps K w vs (ersT ts) :=
 Tr.both (P:=λ_ v t S=>(∀b u,S b->H b=some u->w b=some u)->Rep K w v t.er) (R:=λ_ v t S=>(∀b u,S b->H b=some u->w b=some u)->Reps K w v (ersT t))
  (λr _ _=>r.mono e)
  (λ{_ a _ _ _ _} h _ _ _ q x k=>by unfold T.er;exact .lst (AC.of (k a _ ((q a).mpr (.inl rfl)) h)) (x λb u hb=>k b u ((q b).mpr (.inr hb))))
  (λ{_ a _ _ _ _} h _ _ _ q x k=>by unfold T.er;exact .tup (ED.of (k a _ ((q a).mpr (.inl rfl)) h)) (x λb u hb=>k b u ((q b).mpr (.inr hb))))
  (λh r _ _=>by unfold T.er;rw[pB];exact .lst (e.seq h) (r.mono e))
  (λ{_ _ a _ _ _ _ _ _} h dk _ _ _ q x k=>by unfold T.er;exact .dct (k a _ ((q a).mpr (.inl rfl)) h) (dk.mono e) (x λb u hb=>k b u ((q b).mpr (.inr hb))))
  (λ_ _=>.nil)
  (λ_ _ _ q z y k=>.cons (z λb u hb=>k b u ((q b).mpr (.inl hb))) (y λb u hb=>k b u ((q b).mpr (.inr hb))))
theorem Tr.kept(e:Same F w)(h:Tr K F H st v t S)(k:∀b u,S b->H b=some u->w b=some u):Rep K w v t.er:=(Tr.kept2 e).1 h k
theorem Tr.rep(f:Same F H)(h:Tr K F H st v t S):Rep K H v t.er:=h.kept f λ_ _ _ e=>e
theorem Trs.ind(z:∀{st:Bool}{S:cB},(∀b,¬ S b)->R st [] [] S)
  (x:∀{st:Bool}{v:V}{t:T}{vs:LV}{ts:LT}{S S1 y:cB},Tr K F H st v t S1->Trs K F H st vs ts y->(∀b,S1 b->¬ y b)->(∀b,S b↔S1 b∨y b)->R st vs ts y->R st (v::vs) (t::ts) S) (h:Trs K F H st vs ts S):R st vs ts S :=
 (Tr.both (P:=λ_ _ _ _=>True) (λ_ _=>trivial) (λ_ _ _ _ _ _=>trivial) (λ_ _ _ _ _ _=>trivial) (λ_ _ _=>trivial) (λ_ _ _ _ _ _ _=>trivial) z λh t n q _ r=>x h t n q r).2 h
theorem Trs.length(h:Trs K F H st vs ts S):vs.length=ts.length:=Trs.ind (R:=λ_ vs ts _=>vs.length=ts.length) (λ_=>rfl) (λ_ _ _ _ e=>congrArg Nat.succ e) h
theorem Trs.of_reps(h:Reps K F vs ds):Trs K F H st vs (ds.map T.d) (λ_=>False) :=
 Reps.ind (R:=λvs ds=>Trs K F H st vs (ds.map T.d) λ_=>False) (.nil λ_ z=>z) (λh t=>.cons (.d h λ_ z=>z) t (λ_ z=>z.elim) λb=>by simp) h
theorem Trs.un(h:Trs K F H st vs ts S)(e:vH ts=some ds):Reps K F vs ds/\∀b,¬ S b:=by
 have u:=BL e;clear e;revert ds;refine Trs.ind (R:=λ_ vs ts S=>∀{ds:List D},ts=ds.map T.d->Reps K F vs ds/\∀b,¬ S b) (λn ds e=>?_) (λh _ _ q x ds e=>?_) h;cases ds with|nil=>exact⟨.nil,n⟩|cons d r=>cases e
 cases ds with
 |nil=>cases e|cons d r =>
  injection e with e1 e2;obtain⟨z,y⟩:=x e2;subst e1;cases h with|d rep m=>exact⟨.cons rep z,λb hb=>((q b).mp hb).elim (m b) (y b)⟩
theorem Trs.get{i:Nat}(h:Trs K F H st vs ts S)(e:ts[i]?=some t):∃v S1,vs[i]?=some v/\Tr K F H st v t S1/\∀b,S1 b->S b:=by
 revert i;refine Trs.ind (R:=λst vs ts S=>∀{i:Nat},ts[i]?=some t->∃v S1,vs[i]?=some v/\Tr K F H st v t S1/\∀b,S1 b->S b) (λn i e=>by cases e) (λh _ n q x i e=>?_) h;cases i with|zero=>cases e;exact⟨_,_,rfl,h,λb hb=>(q b).mpr (.inl hb)⟩|succ i=>obtain⟨v,S1,u,z,y⟩:=x (i:=i) e;exact⟨v,S1,u,z,λb hb=>(q b).mpr (.inr (y b hb))⟩
theorem Trs.at(r:Trs K F H st vs ts S)(h:gE ts i=some t):∃v S1,gE vs i=some v/\Tr K F H st v t S1/\∀b,S1 b->S b:=by
 unfold gE at h ⊢;rw[r.length];cases e:kU ts.length i with|none=>rw[e]at h;cases h|some j=>rw[e]at h;exact r.get h
theorem Trs.append{ws:LV}{us:LT}{S1 x:cB}(h:Trs K F H st vs ts S1)(r:Trs K F H st ws us x)(k:∀b,S1 b->¬ x b):Trs K F H st (vs++ws) (ts++us) (λb=>S1 b∨x b) :=
 Trs.ind (R:=λst vs ts S1=>Trs K F H st ws us x->(∀b,S1 b->¬ x b)->Trs K F H st (vs++ws) (ts++us) λb=>S1 b∨x b)
  (λ{_ S} n r _=>by have e:(λb=>S b∨x b)=x:=funext λb=>propext ⟨λz=>z.resolve_left (n b),.inr⟩;rw[e];exact r)
  (λh _ n q y r k=>.cons h (y r λb hb=>k b ((q b).mpr (.inr hb))) (λb hb z=>z.elim (n b hb) (k b ((q b).mpr (.inl hb)))) λb=>by rw[q b,or_assoc]) h r k
theorem Trs.one(h:Tr K F H st v t S):Trs K F H st [v] [t] S:=.cons h (.nil (S:=λ_=>False) λ_ z=>z) (λ_ _ z=>z) λb=>by simp
theorem iH(e:(T.d (.dict kvs)).vw=.ls ts):False:=by
 have e:BB kvs=.ls ts:=e;unfold BB at e;cases h:jD kvs with|none=>rw[h]at e;cases e|some b=>rw[h]at e;cases e
theorem JL(e:(T.d (.dict kvs)).vw=.tp ts):False:=by
 have e:BB kvs=.tp ts:=e;unfold BB at e;cases h:jD kvs with|none=>rw[h]at e;cases e|some b=>rw[h]at e;cases e
theorem Tr.ls(f:Same F H)(h:Tr K F H st v t S)(e:t.vw=.ls ts):∃a vs S',v=.ref a/\AC K H a vs/\Trs K F H false vs ts S'/\∀b,S' b->S b:=by
 cases h with
 |d r n =>
  cases r with|lst q r=>injection e with e;subst e;exact⟨_,_,_,rfl,f.seq q,Trs.of_reps r,λb hb=>hb.elim⟩|dct _ _ _=>exact(iH e).elim|_=>cases e
 |lst h _ r n q=>injection e with e;subst e;exact⟨_,_,_,rfl,AC.of h,r.weak,λb hb=>(q b).mpr (.inr hb)⟩|tup=>cases e|dct=>cases e|lstF h r n=>injection e with e;subst e;exact⟨_,_,_,rfl,f.seq h,Trs.of_reps r,λb hb=>hb.elim⟩
theorem Tr.tp(f:Same F H)(h:Tr K F H st v t S)(e:t.vw=.tp ts):∃a vs S',v=.ref a/\ED K H a vs/\Trs K F H false vs ts S'/\∀b,S' b->S b:=by
 cases h with
 |d r n =>
  cases r with|tup q r=>injection e with e;subst e;exact⟨_,_,_,rfl,f.tupl q,Trs.of_reps r,λb hb=>hb.elim⟩|dct _ _ _=>exact(JL e).elim|_=>cases e
 |tup h _ r n q=>injection e with e;subst e;exact⟨_,_,_,rfl,ED.of h,r.weak,λb hb=>(q b).mpr (.inr hb)⟩|lst=>cases e|lstF=>cases e|dct=>cases e
theorem kX{u:Bool}{o:HO}(h:gK K H u o ks vs)(e:jD (ks.zip ds)=some b):u=b:=by
 cases ks with
 |nil=>cases e|cons k ks =>
  cases ds with
  |nil=>cases e|cons d ds =>
   cases u with
   |true =>
    obtain⟨m,kvs,_,y,_,g,_⟩:=h;cases kvs with
    |nil=>cases y|cons p r =>
     have a:=(g p QD).1;obtain⟨f,n,j⟩:=p;cases f with|s x=>cases a|t l=>rw[QV]at y;injection y with y _;subst y;injection e
   |false =>
    rcases h with⟨kvs,_,_,y,_⟩| ⟨_,_,y,_⟩
    rotate_left
    cases y;cases kvs with
    |nil=>cases y|cons p r =>
     rw[QV]at y;injection y with y _;subst y;obtain⟨k,v⟩:=p;cases k with|inl i=>cases e|inr z=>injection e
theorem Tr.dc(f:Same F H)(h:Tr K F H st v t S)(e:t.vw=.dc b ks ts):∃a o vs S',v=.ref a/\H a=some o/\gK K F b o ks vs/\Trs K F H false vs ts S'/\(∀b,S' b->S b)/\∀w c,Same F w->Same w c->(∀b,S b->c b=H b)->c a=some o:=by
 cases h with
 |d r n =>
  cases r with
  |@dct X a o y l ds h q r =>
   have hl:y.length=ds.length:=by rw[q.len,Reps.length r]
   have g:(y.zip ds).map (λx=>x.1)=y:=Wm (wx hl);have u:(y.zip ds).map (λx=>x.2)=ds:=WD (wx hl.symm);have e:BB (y.zip ds)=.dc b ks ts:=e;unfold BB at e;cases z:jD (y.zip ds) with
   |none=>rw[z]at e;cases e|some p =>
    rw[z]at e;injection e with z1 z2 z3;subst z1;rw[g]at z2;subst z2;have m:ts=ds.map T.d:=by have j:=congrArg (List.map T.d) u;rw[Qb]at j;rw[<- z3,<- j];rfl
    subst m;cases kX q z;exact⟨_,_,_,_,rfl,f _ _ h,q,Trs.of_reps r,λb hb=>hb.elim,λw c g u _=>u _ _ (g _ _ h)⟩
  |_=>cases e
 |dct h q _ r n s=>injection e with z1 z2 z3;subst z1 z2 z3;exact⟨_,_,_,_,rfl,h,q,r.weak,λb hb=>(s b).mpr (.inr hb),λw c _ _ k=>(k _ ((s _).mpr (.inl rfl))).trans h⟩|lst=>cases e|tup=>cases e|lstF=>cases e
theorem Tr.sc{x:D}(h:Tr K F H st v t S)(e:t.vw=.sc x):t=.d x/\Rep K F v x:=by
 cases h with
 |@d _ _ y _ r n =>
  cases y with
  |list ds=>cases e|tuple ds=>cases e|dict ds =>
   have e:BB ds=.sc x:=e;unfold BB at e;cases z:jD ds with|none=>rw[z]at e;injection e with e;subst e;exact⟨rfl,r⟩|some b=>rw[z]at e;cases e
  |_=>injection e with e;subst e;exact⟨rfl,r⟩
 |tup=>cases e|lst=>cases e|lstF=>cases e|dct=>cases e
theorem Tr.int(h:Tr K F H st v t S)(e:t.vw=.sc (.int i)):v=.int i:=by obtain⟨_,r⟩:=h.sc e;cases r;rfl
theorem Tr.str{i:Str}(h:Tr K F H st v t S)(e:t.vw=.sc (.str i)):v=.str i:=by obtain⟨_,r⟩:=h.sc e;cases r;rfl
theorem Tr.bool{i:Bool}(h:Tr K F H st v t S)(e:t.vw=.sc (.bool i)):v=.bl i:=by obtain⟨_,r⟩:=h.sc e;cases r;rfl
end
end
def Sl.t:Sl->T
 | .own t=>t|.ky t=>t
def Sl.st:Sl->Bool
 | .own _=>true|.ky _=>false
noncomputable abbrev Ft:=Nat->Addr->Prop
structure Rl(K:QA)(F H:Hp)(S:Ft)(ρ:kA)(σ:St):Prop where
 fh:Same F H
 len:ρ.length=σ.length
 sl:∀(i:Nat) s,ρ[i]?=some (some s)->∃v,σ[i]?=some (some v)/\Tr K F H s.st v s.t (S i)
 dj:∀(i j:Nat) t s,i≠j->ρ[i]?=some (some (.own t))->ρ[j]?=some (some s)->∀b,S i b->¬ S j b
def U(ρ:kA)(S:Ft)(b:Addr):Prop:=∃(i:Nat) (t:T),ρ[i]?=some (some (.own t))/\S i b
structure Stp(F H:Hp)(S:Ft)(ρ:kA)(F' H':Hp)(S':Ft)(ρ':kA):Prop where
 ff:Same F F'
 hh:∀b u,H b=some u->¬ U ρ S b->H' b=some u
 dm:∀b,H' b=none->H b=none
 fn:∀b,F b=none->F' b≠none->U ρ S b∨H b=none
 uu:∀b,U ρ' S' b->U ρ S b∨H b=none
 bo:∀(j:Nat) t,ρ'[j]?=some (some (.ky t))->t.isD=false->ρ[j]?=some (some (.ky t))/\S' j=S j
structure Ste(F H:Hp)(S:Ft)(ρ:kA)(F' H':Hp)(S':Ft)(ρ':kA):Prop extends Stp F H S ρ F' H' S' ρ' where
 ow:∀(j:Nat) t,ρ'[j]?=some (some (.own t))->∃t0,ρ[j]?=some (some (.own t0))
section
variable{K:QA}{F H X m B E:Hp}{S S1 C:Ft}{ρ l A:kA}{σ:St}
section
variable{v:V}{t:T}{Z W:cB}{i:Nat}{s:Sl}{b p:Addr}{vs:LN}{g:Hp}{c:Ft}{y:kA}{n:Bool}
theorem Stp.refl:Stp F H S ρ F H S ρ:=⟨.refl _,λ_ _ h _=>h,λ_ h=>h,λb h z=>absurd h z,λ_ h=>.inl h,λ_ _ h _=>⟨h,rfl⟩⟩
theorem Ste.refl:Ste F H S ρ F H S ρ:=⟨Stp.refl,λ_ t h=>⟨t,h⟩⟩
theorem Stp.trans(a:Stp F H S ρ X m S1 l)(b:Stp X m S1 l B E C A):Stp F H S ρ B E C A where
 ff:=a.ff.trans b.ff
 hh:=λx u h n=>b.hh x u (a.hh x u h n) λz=>by rcases a.uu x z with q|q;exact n q;rw[q]at h;cases h
 dm:=λx h=>a.dm x (b.dm x h)
 fn:=λx h z=>by
  by_cases q:X x=none;rcases b.fn x q z with w|w
  ·exact a.uu x w
  exact .inr (a.dm x w);exact a.fn x h q
 uu:=λx h=>by rcases b.uu x h with w|w;exact a.uu x w;exact .inr (a.dm x w)
 bo:=λj t h n=>by obtain⟨o,f⟩:=b.bo j t h n;obtain⟨e,k⟩:=a.bo j t o n;exact⟨e,f.trans k⟩
theorem Ste.trans(a:Ste F H S ρ X m S1 l)(b:Ste X m S1 l B E C A):Ste F H S ρ B E C A:=⟨a.toStp.trans b.toStp,λj t h=>by obtain⟨x,z⟩:=b.ow j t h;exact a.ow j x z⟩
theorem Stp.keep(s:Stp F H S ρ X m S1 l){st:Bool}(h:Tr K F H st v t Z)(n:∀b,Z b->¬ U ρ S b):Tr K X m st v t Z :=
 h.mono s.ff λb hb=>by
  obtain⟨x,w⟩:=h.dom b hb;refine⟨?_,?_⟩;cases e:H b with|none=>exact absurd e x|some u=>exact s.hh b u e (n b hb)
  by_cases q:X b=none
  ·exact q
  rcases s.fn b w q with z|z
  ·exact absurd z (n b hb)
  exact absurd z x
theorem Rl.dom(I:Rl K F H S ρ σ)(h:ρ[i]?=some (some s))(hb:S i b):H b≠none/\F b=none:=by obtain⟨v,_,r⟩:=I.sl i s h;exact r.dom b hb
theorem Rl.isD(I:Rl K F H S ρ σ)(h:ρ[i]?=some (some s))(x:s.t.isD=true):¬ S i b:=by
 obtain⟨v,_,r⟩:=I.sl i s h;generalize s.t=t at r x;generalize s.st=st at r;cases r with|d r n=>exact n b|_=>cases x
structure Held(F H:Hp)(S:Ft)(ρ:kA)(Z:cB):Prop where
 dom:∀b,Z b->H b≠none/\F b=none
 nw:∀(i:Nat) s,ρ[i]?=some (some s)->∀b,Z b->¬ S i b
theorem Held.nu(h:Held F H S ρ Z):∀b,Z b->¬ U ρ S b:=λb hb ⟨i,t,z,x⟩=>h.nw i _ z b hb x
theorem Held.step(h:Held F H S ρ Z)(s:Stp F H S ρ X m S1 l)(j:Rl K X m S1 l σ):Held X m S1 l Z where
 dom:=λb hb=>by
  obtain⟨u,k⟩:=h.dom b hb;refine⟨λz=>u (s.dm b z),?_⟩;by_cases q:X b=none;exact q;rcases s.fn b k q with z|z
  ·exact absurd z (h.nu b hb)
  exact absurd z u
 nw:=λi w e b hb z=>by
  cases w with
  |own t=>rcases s.uu b ⟨i,t,e,z⟩ with q|q;exact h.nu b hb q;exact(h.dom b hb).1 q
  |ky t =>
   cases x:t.isD with|true=>exact j.isD e x z|false=>obtain⟨f,a⟩:=s.bo i t e x;rw[a]at z;exact h.nw i _ f b hb z
theorem Held.none:Held F H S ρ λ_=>False:=⟨λ_ z=>z.elim,λ_ _ _ _ z=>z.elim⟩
theorem Held.or{Y:cB}(a:Held F H S ρ Z)(b:Held F H S ρ Y):Held F H S ρ λx=>Z x∨Y x:=⟨λx h=>h.elim (a.dom x) (b.dom x),λi s e x h=>h.elim (a.nw i s e x) (b.nw i s e x)⟩
def NI(F H:Hp)(W:cB):Hp:=open Classical in λb=>if W b then H b else F b
theorem MI(h:W b):NI F H W b=H b:=if_pos h
theorem gC(h:¬ W b):NI F H W b=F b:=if_neg h
theorem AG(h:∀b,W b->F b=none):Same F (NI F H W):=λb u e=>by rw[gC λz=>by rw[h b z]at e;cases e];exact e
theorem db(f:Same F H):Same (NI F H W) H:=λb u e=>by by_cases hb:W b;rw[MI hb]at e;exact e;rw[gC hb]at e;exact f b u e
theorem Rl.frz(I:Rl K F H S ρ σ){W:cB}(h:Held F H S ρ W):Rl K (NI F H W) H S ρ σ where
 fh:=db I.fh
 len:=I.len
 sl:=λi s e=>by obtain⟨v,u,x⟩:=I.sl i s e;refine⟨v,u,x.mono (AG λb hb=>(h.dom b hb).2) λb hb=>⟨rfl,?_⟩⟩;rw[gC λz=>h.nw i s e b z hb];exact(x.dom b hb).2
 dj:=I.dj
theorem Stp.frz(s:Stp F H S ρ X m S1 l){W:cB}(x:∀b,W b->X b=none)(fr:∀b,W b->H b=none∨U ρ S b):Stp F H S ρ (NI X m W) m S1 l :=
 ⟨s.ff.trans (AG x),s.hh,s.dm,λb h z=>by by_cases q:W b;exact(fr b q).symm;rw[gC q]at z;exact s.fn b h z,s.uu,s.bo⟩
theorem Ste.frz(s:Ste F H S ρ X m S1 l){W:cB}(h:∀b,W b->X b=none)(fr:∀b,W b->H b=none∨U ρ S b):Ste F H S ρ (NI X m W) m S1 l:=⟨s.toStp.frz h fr,s.ow⟩
theorem Stp.new(s:Stp F H S ρ X m S1 l){p:Addr}(h:m p=none)(o:HO):Stp F H S ρ X (CA m p o) S1 l :=
 ⟨s.ff,λb u e n=>NB h b u (s.hh b u e n),λb e=>by by_cases hb:b=p;rw[hb,YA]at e;cases e;rw[vA hb]at e;exact s.dm b e,s.fn,s.uu,s.bo⟩
theorem Ste.new(s:Ste F H S ρ X m S1 l){p:Addr}(h:m p=none)(o:HO):Ste F H S ρ X (CA m p o) S1 l:=⟨s.toStp.new h o,s.ow⟩
theorem Rl.same(I:Rl K F H S ρ σ)(h:Same H m):Rl K F m S ρ σ where
 fh:=I.fh.trans h
 len:=I.len
 sl:=λi s e=>by
  obtain⟨v,z,x⟩:=I.sl i s e;refine⟨v,z,x.mono (.refl _) λb hb=>⟨?_,(x.dom b hb).2⟩⟩;cases e:H b with|none=>exact absurd e (x.dom b hb).1|some u=>exact h b u e
 dj:=I.dj
theorem Rl.new(I:Rl K F H S ρ σ){p:Addr}(h:H p=none)(o:HO):Rl K F (CA H p o) S ρ σ:=I.same (NB h)
theorem Stp.newT(s:Stp F H S ρ X m S1 l)(h:m p=none)(u:X p=none)(o:HO):Stp F H S ρ (CA X p o) (CA m p o) S1 l :=
 let x:=s.new h o
 ⟨s.ff.trans (NB u),x.hh,x.dm,λb e z=>by by_cases hb:b=p;rw[hb];exact .inr (s.dm p h);rw[vA hb]at z;exact s.fn b e z,s.uu,s.bo⟩
theorem Ste.newT(s:Ste F H S ρ X m S1 l)(h:m p=none)(x:X p=none)(o:HO):Ste F H S ρ (CA X p o) (CA m p o) S1 l:=⟨s.toStp.newT h x o,s.ow⟩
theorem Rl.newT(I:Rl K F H S ρ σ)(h:H p=none)(o:HO):Rl K (CA F p o) (CA H p o) S ρ σ where
 fh:=λb u e=>by by_cases hb:b=p;rw[hb,YA]at e ⊢;exact e;rw[vA hb]at e ⊢;exact I.fh b u e
 len:=I.len
 sl:=λi s e=>by obtain⟨v,k,x⟩:=I.sl i s e;refine⟨v,k,x.mono (NB (I.fh.free h)) λb hb=>?_⟩;have w:b≠p:=λz=>(x.dom b hb).1 (by rw[z];exact h);rw[vA w,vA w];exact⟨rfl,(x.dom b hb).2⟩
 dj:=I.dj
theorem RY(ρ:kA)(i:Nat):(lockA ρ)[i]?=ρ[i]?.map uG:=by unfold lockA;rw[Qd]
theorem eB{ρ:kA}(h:(lockA ρ)[i]?=some (some s)):∃x,ρ[i]?=some (some x)/\s=.ky x.t:=by
 rw[RY]at h;cases e:ρ[i]? with
 |none=>rw[e]at h;cases h|some o =>
  rw[e]at h;cases o with
  |none=>cases h|some x =>
   cases x with|own t=>injection h with h;injection h with h;subst h;exact⟨_,rfl,rfl⟩|ky t=>injection h with h;injection h with h;subst h;exact⟨_,rfl,rfl⟩
theorem xD(b:Addr):¬ U (lockA ρ) S b:=λ⟨i,t,h,_⟩=>by obtain⟨x,_,e⟩:=eB h;cases e
theorem Rl.lockA(I:Rl K F H S ρ σ):Rl K F H S (lockA ρ) σ where
 fh:=I.fh
 len:=by unfold L3.lockA;rw[QG];exact I.len
 sl:=λi s e=>by obtain⟨x,h,rfl⟩:=eB e;obtain⟨v,u,z⟩:=I.sl i x h;exact⟨v,u,z.weak⟩
 dj:=λi j t s _ h=>by obtain⟨x,_,e⟩:=eB h;cases e
theorem Stp.unlockA(s:Stp F H S (L3.lockA ρ) X m S1 l):Stp F H S ρ X m S ρ :=
 ⟨s.ff,λb u e _=>s.hh b u e (xD b),s.dm,λb h z=>(s.fn b h z).elim (λq=>absurd q (xD b)) .inr,λ_ h=>.inl h,λ_ _ h _=>⟨h,rfl⟩⟩
theorem Rl.unlockA(I:Rl K F H S ρ σ)(s:Stp F H S (L3.lockA ρ) X m S1 l)(f:Same X m):Rl K X m S ρ σ where
 fh:=f
 len:=I.len
 sl:=λi sl e=>by obtain⟨v,x,h⟩:=I.sl i sl e;exact⟨v,x,s.keep h λb _=>xD b⟩
 dj:=I.dj
structure VR(K:QA)(vs:LN)(g:Hp)(c:Ft)(y:kA)(F H:Hp)(S:Ft)(ρ:kA)(v:V)(t:T)(n:Bool)(Z:cB):Prop where
 tr:Tr K F H n v t Z
 fr:n=true->∀b,Z b->g b=none∨U y c b
 tm:n=false->∀b,Z b->∃(i:Nat) (s:Sl),i∈vs/\ρ[i]?=some (some s)/\S i b
 nw:n=true->∀(i:Nat) s,ρ[i]?=some (some s)->∀b,Z b->¬ S i b
theorem VR.d{vs:LN}{g:Hp}{c:Ft}{y:kA}{v:V}{x:D}(n:Bool)(r:Rep K F v x):VR K vs g c y F H S ρ v (.d x) n (λ_=>False) :=
 ⟨.d r λ_ z=>z,λ_ _ z=>z.elim,λ_ _ z=>z.elim,λ_ _ _ _ _ z=>z.elim⟩
theorem VR.held(h:VR K vs g c y F H S ρ v t true Z):Held F H S ρ Z:=⟨λb hb=>h.tr.dom b hb,h.nw rfl⟩
theorem VR.vars{ws:LN}(h:VR K vs g c y F H S ρ v t n Z)(k:∀i∈vs,i∈ws):VR K ws g c y F H S ρ v t n Z :=
 ⟨h.tr,h.fr,λe b hb=>let⟨i,s,z,x⟩:=h.tm e b hb;⟨i,s,k i z,x⟩,h.nw⟩
theorem VR.from(s:Stp F H S ρ X m S1 l)(h:VR K vs m S1 l B E C A v t n Z):VR K vs H S ρ B E C A v t n Z :=
 ⟨h.tr,λe b hb=>by rcases h.fr e b hb with q|q;exact .inl (s.dm b q);exact(s.uu b q).symm,h.tm,h.nw⟩
theorem VR.frz{vs:LN}{v:V}{t:T}{n:Bool}{Z:cB}(s:Ste F H S ρ X m S1 l)(I:Rl K X m S1 l σ)(h:VR K vs H S ρ X m S1 l v t n Z) :
  ∃B o,Ste F H S ρ B m S1 l/\Rl K B m S1 l σ/\Tr K B m false v (pA t n) o/\(lH t n=true->Rep K B v t.er)/\(∀b,o b->∃(i:Nat) (s:Sl),i∈vs/\l[i]?=some (some s)/\S1 i b) /\
   ∀st a t' k,Tr K X m st a t' k->(∀b,k b->∃(i:Nat) (s:Sl),l[i]?=some (some s)/\S1 i b)->Tr K B m st a t' k:=by
 cases n with
 |true =>
  have w:=h.held;have j:=AG (H:=m) λb hb=>(w.dom b hb).2;have f:=h.tr.kept j λb u hb e=>by rw[MI hb];exact e
  refine⟨NI X m Z,λ_=>False,s.frz (λb hb=>(w.dom b hb).2) (h.fr rfl),I.frz w,.d f λ_ z=>z,λ_=>f,λb z=>z.elim,λst a t' k r G=>r.mono j λb hb=>⟨rfl,?_⟩⟩;obtain⟨i,Y,L,J⟩:=G b hb;rw[gC λz=>w.nw i Y L b z J];exact(r.dom b hb).2
 |false =>
  refine⟨X,Z,s,I,h.tr,?_,h.tm rfl,λ_ _ _ _ r _=>r⟩;intro e;have q:=h.tr;cases t with
  |d x=>cases q with|d r n=>exact r
  |_=>cases e
end
end
noncomputable abbrev xB(K:QA)(vs:LN)(F H:Hp)(S:Ft)(ρ:kA)(σ:St)(Q:TK)(R:VK):Prop :=
 ∀v z x y h t n Z,Ste F H S ρ z x y h->Rl K z x y h σ->VR K vs H S ρ z x y h v t n Z->Q t n h->R v x
noncomputable abbrev sH(K:QA)(F H:Hp)(S:Ft)(ρ:kA)(σ:St)(Q:Bool->kA->Prop)(R:Bool->Hp->Prop):Prop :=
 ∀b z x y h,Ste F H S ρ z x y h->Rl K z x y h σ->Q b h->R b x
section
variable{K:QA}{ws:LN}{F H B A:Hp}{S S1:Ft}{ρ Y:kA}{σ:St}{v w:V}{a b:T}{J G:cB}{Q:TK}{R:VK}{E C:Bool}
section
variable{X o:Hp}{m:Ft}{u:kA}{p:Addr}{vs:LV}{ds:List D}
theorem xB.from(k:xB K ws F H S ρ σ Q R)(s:Ste F H S ρ X o m u):xB K ws X o m u σ Q R:=λv f e y h t n Z x z r q=>k v f e y h t n Z (s.trans x) z (r.from s.toStp) q
theorem sH.from{Q:Bool->kA->Prop}{R:Bool->Hp->Prop}(k:sH K F H S ρ σ Q R)(s:Ste F H S ρ X o m u):sH K X o m u σ Q R:=λb f e y h x z q=>k b f e y h (s.trans x) z q
theorem xB.vars{us:LN}(k:xB K ws F H S ρ σ Q R)(h:∀i∈us,i∈ws):xB K us F H S ρ σ Q R:=λv e z y x t n Z s I r q=>k v e z y x t n Z s I (r.vars h) q
theorem xB.d(k:xB K ws F H S ρ σ Q R)(s:Ste F H S ρ B A S1 Y)(I:Rl K B A S1 Y σ){x:D}{n:Bool}(r:Rep K B v x)(q:Q (.d x) n Y):R v A:=k v B A S1 Y _ n _ s I (VR.d n r) q
theorem xB.list(k:xB K ws F H S ρ σ Q R)(s:Ste F H S ρ B A S1 Y)(I:Rl K B A S1 Y σ)(x:A p=none){ts:LT}{W:cB}(r:Trs K B A true vs ts W)
  (fr:∀b,W b->H b=none∨U ρ S b) (y:Held B A S1 Y W) (q:Q (.lst ts) true Y):R (.ref p) (CA A p (.lst vs)):=by
 have g:∀b,A b≠none->b≠p:=λb h z=>h (by rw[z];exact x);refine k _ B _ S1 Y _ true (λb=>b=p∨W b) (s.new x _) (I.new x _) ⟨.lst YA (I.fh.free x) (r.mono (.refl _) λb hb=>⟨?_,(y.dom b hb).2⟩) (λz=>(y.dom p z).1 x) (λb=>wo),λ_ b hb=>?_,λz=>(by cases z),λ_ i f e b hb z=>?_⟩ q;rw[vA (g b (y.dom b hb).1)];rcases hb with rfl|hb
 ·exact .inl (s.dm _ x)
 exact fr b hb;rcases hb with rfl|hb
 ·exact(I.dom e z).1 x
 exact y.nw i f e b hb z
theorem xB.listD(k:xB K ws F H S ρ σ Q R)(s:Ste F H S ρ B A S1 Y)(I:Rl K B A S1 Y σ)(h:A p=none)(r:Reps K B vs ds)(q:Q (.lst (ds.map T.d)) true Y):R (.ref p) (CA A p (.lst vs)) :=
 k.list s I h (Trs.of_reps r) (λb z=>z.elim) .none q
theorem xB.tupD(k:xB K ws F H S ρ σ Q R)(s:Ste F H S ρ B A S1 Y)(I:Rl K B A S1 Y σ)(h:A p=none){n:Bool}(r:Reps K B vs ds)(q:Q (.d (.tuple ds)) n Y):R (.ref p) (CA A p (.tup vs)) :=
 xB.d k (s.newT h (I.fh.free h) _) (I.newT h _) (.tup (ED.of YA) (r.mono (NB (I.fh.free h)))) q
theorem xB.tup(k:xB K ws F H S ρ σ Q R)(s:Ste F H S ρ B A S1 Y)(I:Rl K B A S1 Y σ){p:Addr}(x:A p=none){vs:LV}{ts:LT}{W:cB}(r:Trs K B A true vs ts W)
  (fr:∀b,W b->H b=none∨U ρ S b) (y:Held B A S1 Y W) (q:Q (UF ts) true Y):R (.ref p) (CA A p (.tup vs)):=by
 unfold UF at q;cases e:vH ts with
 |some ds=>rw[e]at q;exact k.tupD s I x (r.un e).1 q|none =>
  rw[e]at q;have g:∀b,A b≠none->b≠p:=λb h z=>h (by rw[z];exact x);refine k _ B _ S1 Y _ true (λb=>b=p∨W b) (s.new x _) (I.new x _) ⟨.tup YA (I.fh.free x) (r.mono (.refl _) λb hb=>⟨?_,(y.dom b hb).2⟩) (λz=>(y.dom p z).1 x) (λb=>wo),λ_ b hb=>?_,λz=>(by cases z),λ_ i f e b hb z=>?_⟩ q;rw[vA (g b (y.dom b hb).1)];rcases hb with rfl|hb
  ·exact .inl (s.dm _ x)
  exact fr b hb;rcases hb with rfl|hb
  ·exact(I.dom e z).1 x
  exact y.nw i f e b hb z
theorem nj{W:Operator}(s:Ste F H S ρ B A S1 Y)(I:Rl K B A S1 Y σ)(Z:Tr K B A E v a J)(r:Tr K B A C w b G)(h:binT W a.vw b.vw λz n=>Q z n Y)(k:xB K ws F H S ρ σ Q R):Ab K W v w A R:=by
 have g:∀{i j:Int},a.vw=.sc (.int i)->b.vw=.sc (.int j)->v=.int i/\w=.int j:=λf e=>⟨Z.int f,r.int e⟩
 cases W with
 |Add =>
  rcases h with⟨i,j,f,e,h⟩| ⟨x,y,f,e,h⟩| ⟨P,N,ds,es,f,e,e1,e2,hl,q⟩
  obtain⟨rfl,rfl⟩:=g f e;exact k.d s I (.int _) h;obtain rfl:=Z.str f;obtain rfl:=r.str e;exact⟨h.1,k.d s I (.str _) h.2⟩;obtain⟨p,xs,_,rfl,hp,rp,_⟩:=Z.ls I.fh f;obtain⟨p2,O,_,rfl,hq,rq,_⟩:=r.ls I.fh e;have M:=(rp.un e1).1;have L:=(rq.un e2).1;exact⟨xs,O,hp,hq,by rw[M.length,L.length];exact hl,λl hl=>k.listD s I hl (M.append L) q⟩
 |Sub=>obtain⟨i,j,f,e,h⟩:=h;obtain⟨rfl,rfl⟩:=g f e;exact k.d s I (.int _) h|Mult =>
  rcases h with⟨i,j,f,e,h⟩| ⟨x,y,f,e,h⟩
  obtain⟨rfl,rfl⟩:=g f e;exact⟨h.1,k.d s I (.int _) h.2⟩;obtain rfl:=Z.str f;obtain rfl:=r.int e;exact⟨h.1,k.d s I (.str _) h.2⟩
 |FloorDiv=>obtain⟨i,j,f,e,h⟩:=h;obtain⟨rfl,rfl⟩:=g f e;exact⟨h.1,k.d s I (.int _) h.2⟩|Mod=>obtain⟨i,j,f,e,h⟩:=h;obtain⟨rfl,rfl⟩:=g f e;exact⟨h.1,k.d s I (.int _) h.2⟩|_=>exact h.elim
theorem je{x y:D}{r:Bool->Prop}(neg:Bool)(e:Rep K A v x)(z:Rep K A w y)(h:dq x y λk=>r (if neg then !k else k))(k:∀c,r c->R (.bl c) A):rEq K neg v w A R:=by
 have n:kE x/\kE y/\r (if neg then !PyData.eqv x y else Ql x y)->(∃l f,Rep K A v l/\Rep K A w f/\kE l/\kE f/\R (.bl (if neg then !PyData.eqv l f else Ql l f)) A):=λ⟨Z,s,q⟩ =>
  ⟨x,y,e,z,Z,s,k _ q⟩
 unfold dq at h;split at h;cases e;cases z;exact k _ h;cases e;cases z;exact k _ h;cases e;cases z;exact k _ h;have g:=n h;rename_i n1 n2 n3;cases e with
 |int i =>
  cases z with|int j=>exact absurd rfl (n1 i j rfl)|_=>exact g
 |str i =>
  cases z with|str j=>exact absurd rfl (n2 i j rfl)|_=>exact g
 |bl i =>
  cases z with|bl j=>exact absurd rfl (n3 i j rfl)|_=>exact g
 |_=>exact g
theorem r6{F:Hp}{v w:V}{a b:D}(x:Rep K F v a)(h:Rep K F w b)(z:iB a=true)(y:iB b=true):Kb v w=Ql a b:=by cases x<;>cases h<;>first|exact absurd (show false=true from z) QF|exact absurd (show false=true from y) QF | (simp only[Ql];rfl) | (simp only[Ql])
theorem eV{F:Hp}{v:V}{a:D}(h:Rep K F v a)(x:iB a=true):gG v=true:=by cases h<;>first|rfl|exact absurd (show false=true from x) QF
theorem MS{F:Hp}(h:Reps K F vs ds)(f:ds.all iB=true):vs.all gG=true :=
 Reps.ind (R:=λvs ds=>ds.all iB=true->vs.all gG=true) (λ_=>rfl) (λh x f=>by rw[qZ,Qa]at f ⊢;exact⟨eV h f.1,x f.2⟩) h f
theorem LM{F:Hp}{v:V}{a:D}(x:Rep K F v a)(z:iB a=true):∀{vs:LV}{ds:List D},Reps K F vs ds->ds.all iB=true->inV v vs=ds.any λy=>Ql y a
 |_,_,.nil,_=>rfl|_,_,.cons h t,f=>by rw[qZ,Qa]at f;have e:=LM x z t f.2;unfold inV at e ⊢;rw[w4,w4,r6 h x f.1 z,e]
end
mutual
theorem eW{F:Hp}:∀{k:NK}{v:V},Rep K F v (tD k)->Oj K F k v
 | .s x,v,h=>by have h:Rep K F v (.str x):=h;cases h;rfl|.t ks,v,h=>by
  have h:Rep K F v (.tuple (tDs ks)):=h;cases h with|tup z y=>exact⟨_,_,rfl,z,reps_key y⟩
theorem reps_key{F:Hp}:∀{ks:List NK}{vs:LV},Reps K F vs (tDs ks)->KyVs K F ks vs
 |[],vs,h=>by have h:Reps K F vs []:=h;cases h;rfl|k::ks,vs,h=>by
  have h:Reps K F vs (tD k::tDs ks):=h;cases h with|cons h t=>exact⟨_,_,rfl,eW h,reps_key t⟩
end
section
variable{k x y:D}{o:HO}{ks ds:List D}{vs xs:LV}{u:Bool->Prop}{j:CmpOp}{X:Bool->Hp->Prop}{n:String}{Y:cB}{ts:LT}
theorem pQ{F:Hp}{v:V}(hk:GD true k)(r:Rep K F v k):∃q p,k=tD q/\v=.ref p/\yO K F p q:=by obtain⟨q,rfl,h⟩:=hk;have r:=eW r;obtain⟨p,_,rfl,_⟩:=id r;exact⟨_,p,rfl,rfl,r,h⟩
theorem CG(q:NK):∀(kvs:List KE),zH kvs q=(bA (kvs.map λp=>tD p.1) (tD q)).bind λn=>(kvs.map (·.2.2))[n]?
 |[]=>rfl|p::r=>by rw[QV,QV];unfold bA;by_cases e:p.1=q;rw[gR e,if_pos (by rw[e])];rfl;rw[lR e,if_neg λz=>e (nU z),CG q r];cases bA (r.map λp=>tD p.1) (tD q)<;>rfl
theorem eJ(q:Key):∀(kvs:List (Key×V)),KL kvs q=(bA (kvs.map λp=>kD p.1) (kD q)).bind λn=>(kvs.map (·.2))[n]?
 |[]=>rfl|p::r=>by rw[QV,QV];unfold bA;by_cases e:p.1=q;rw[YL e,if_pos (by rw[e])];rfl;rw[ZL e,if_neg λz=>e (D5 z),eJ q r];cases bA (r.map λp=>kD p.1) (kD q)<;>rfl
theorem gK.get{a:Addr}{b:Bool}(v:H1 a=some o)(q:gK K H1 b o ks vs)(f:Rep K H1 w k)(hk:GD b k):jR K H1 a w ((bA ks k).bind λn=>vs[n]?):=by
 cases b with
 |true=>obtain⟨e,h,rfl,rfl,rfl,i,_⟩:=q;obtain⟨q,p,rfl,rfl,g⟩:=pQ hk f;exact⟨e,h,q,v,i,g,(CG q h).symm⟩|false =>
  obtain⟨z,rfl⟩:=hk;cases f;rcases q with⟨h,_,rfl,rfl,rfl,_⟩| ⟨e,rfl,rfl,rfl⟩
  exact .inl ⟨h,v,(eJ (.inr z) h).symm⟩;exact .inr ⟨e,v,rfl⟩
theorem NS{b:Bool}(q:gK K H1 b o ks vs):((bA ks k).bind λn=>vs[n]?).isSome=(bA ks k).isSome:=by
 cases e:bA ks k with
 |none=>rfl|some n =>
  have z:=(Qg.mp (NC e)).1;have h:n<vs.length:=by rw[<- q.len];exact z
  simp[h]
theorem mV{b neg:Bool}{a:Addr}(w:H1 a=some o)(q:gK K H1 b o ks vs)(z:Rep K H1 v x)(hk:GD b x)(h:R (.bl (if neg then !(bA ks x).isSome else(bA ks x).isSome)) H1):FR K neg v (.ref a) H1 R :=
 .inr (.inr ⟨_,q.get w z hk,by rw[NS q];exact h⟩)
theorem Gd(neg:Bool)(z:Rep K H1 v x)(f:Rep K H1 w y)(h:uq x y λk=>u (if neg then !k else k))(k:∀c,u c->R (.bl c) H1):FR K neg v w H1 R:=by
 unfold uq at h;split at h;cases z;cases f;exact k _ h;rename_i ds;have e:=f;cases f with
 |lst p g =>
  rcases h.1 with⟨i,fs⟩| ⟨m,l⟩
  refine .inl ⟨_,_,rfl,.inl p,eV z i,MS g fs,?_⟩;rw[LM z i g fs];exact k _ h.2;exact .inr (.inl ⟨_,ds,z,.inl e,m,l,k _ h.2⟩)
 rename_i ds;have e:=f;cases f with
 |tup p g =>
  rcases h.1 with⟨i,fs⟩| ⟨m,l⟩
  refine .inl ⟨_,_,rfl,.inr p,eV z i,MS g fs,?_⟩;rw[LM z i g fs];exact k _ h.2;exact .inr (.inl ⟨_,ds,z,.inr e,m,l,k _ h.2⟩)
 obtain⟨b,s,hk,q⟩:=h;cases f with
 |@dct Z a o ks vs ds h dk r =>
  have hl:ks.length=ds.length:=by rw[dk.len,Reps.length r]
  rw[Wm (wx hl)]at q;cases kX dk s;exact mV h dk z hk (k _ q)
 exact h.elim
theorem FP{g:Int->Int->Bool}(a:Rep K H1 v x)(z:Rep K H1 w y)(h:aY g x y u)(k:∀c,u c->R (.bl c) H1):nY g v w H1 R:=by unfold aY at h;split at h;cases a;cases z;exact k _ h;exact h.elim
theorem Rep.non_iff(h:Rep K H1 v x):decide (v=.non)=P5 x:=by cases h<;>rfl
theorem XV(a:Rep K H1 v x)(z:Rep K H1 w y)(h:pZ j x y u)(k:∀c,u c->R (.bl c) H1):L6 K j v w H1 R:=by
 cases j with|Eq=>exact je false a z h k|NotEq=>exact je true a z h k|Lt=>exact FP a z h k|LtE=>exact FP a z h k|Gt=>exact FP a z h k|GtE=>exact FP a z h k|In=>exact Gd false a z h k|NotIn=>exact Gd true a z h k|Is=>have b:yZ x y u:=h;unfold yZ at b;split at b;cases z;have e:=a.non_iff;show R (.bl (decide (v=.non))) H1;rw[e];exact k _ b;cases z;cases a;exact⟨_,rfl,k _ b⟩;exact b.elim|IsNot=>have b:yZ x y λk=>u (!k):=h;unfold yZ at b;split at b;cases z;have e:=a.non_iff;show R (.bl (!decide (v=.non))) H1;rw[e];exact k _ b;cases z;cases a;exact⟨_,rfl,k _ b⟩;exact b.elim
theorem Db(f:Same F1 H1)(z:Rep K H1 v x)(a:Tr K F1 H1 sb w b Zb)(h:Fb j x b u)(k:∀c,u c->R (.bl c) H1):L6 K j v w H1 R:=by
 cases b with
 |d y=>exact XV z (a.rep f) h k|lst ts=>exact XV z (a.rep f) h k|tup ts=>exact XV z (a.rep f) h k|dct b ks ts =>
  obtain⟨hk,h⟩:=h;cases a with
  |dct e dk _ _ _ _ =>
   rcases h with⟨rfl,q⟩| ⟨rfl,q⟩
   exact mV (neg:=false) e (dk.mono f) z hk (k _ q);exact mV (neg:=true) e (dk.mono f) z hk (k _ q)
theorem DI(r:Reps K F xs ds):(!ds.isEmpty)=!xs.isEmpty:=by cases r<;>rfl
theorem dW(z:Rep K H1 v x)(h:vI x u)(k:∀c,u c->X c H1):FF K v H1 X:=by
 unfold vI at h;split at h;cases z;exact k _ h;cases z;exact k _ h;cases z;exact k _ h;cases z;exact⟨h.1,k _ h.2⟩;cases z with|lst a w=>rw[DI w]at h;exact⟨_,.inl ⟨_,a,rfl⟩,k _ h⟩
 cases z with|tup a w=>rw[DI w]at h;exact⟨_,.inr (.inl ⟨_,a,rfl⟩),k _ h⟩
 exact h.elim
theorem j7(z:Rep K H1 v x)(h:Vj x u)(k:∀c,u c->X c H1):z7 v H1 X:=by unfold Vj at h;split at h;cases z;exact k _ h;exact h.elim
theorem Vi(s:Ste F H S ρ F1 H1 S1 ρ1)(I:Rl K F1 H1 S1 ρ1 σ)(B:Tr K F1 H1 sa v a Za)(G:∀b,Za b->∃(i:Nat) (s:Sl),i∈ws/\ρ1[i]?=some (some s)/\S1 i b)(A:Tr K F1 H1 sb w b Zb)(h:GN a.vw b.vw λz=>Q z false ρ1)(k:xB K ws F H S ρ σ Q R):oY K v w H1 R:=by
 rcases h with⟨z,i,c,m,l,g,f,q⟩| ⟨ts,i,d,m,l,g,q⟩| ⟨ts,i,d,m,l,g,q⟩
 obtain rfl:=B.str m;obtain rfl:=A.int l;exact⟨g,c,f,k.d s I (.str _) q⟩;obtain⟨p,xs,J,rfl,E,W,C⟩:=B.ls I.fh m;obtain rfl:=A.int l;obtain⟨x,Z,f,r,e⟩:=W.at g;exact⟨xs,x,.inl E,f,k _ F1 H1 S1 ρ1 _ false Z s I ⟨r,λz=>(by cases z),λ_ b hb=>G b (C b (e b hb)),λz=>(by cases z)⟩ q⟩;obtain⟨p,xs,J,rfl,E,W,C⟩:=B.tp I.fh m;obtain rfl:=A.int l;obtain⟨x,Z,f,r,e⟩:=W.at g;exact⟨xs,x,.inr E,f,k _ F1 H1 S1 ρ1 _ false Z s I ⟨r,λz=>(by cases z),λ_ b hb=>G b (C b (e b hb)),λz=>(by cases z)⟩ q⟩
theorem Ti(s:Ste F H S ρ F1 H1 S1 ρ1)(I:Rl K F1 H1 S1 ρ1 σ)(W:Tr K F1 H1 sa v a Za)(f:∀b,Za b->∃(i:Nat) (s:Sl),i∈ws/\ρ1[i]?=some (some s)/\S1 i b)(m:Rep K H1 w y)(h:SS a.vw y λz=>Q z false ρ1)(k:xB K ws F H S ρ σ Q R):oY K v w H1 R:=by
 obtain⟨b,ks,ts,n,d,J,hk,E,B,q⟩:=h;obtain⟨p,o,vs,L,rfl,C,dk,l,A,_⟩:=W.dc I.fh J;obtain⟨x,Z,G,r,e⟩:=l.get B;have g:=(dk.mono I.fh).get C m hk;rw[E]at g;have g:jR K H1 p w (vs[n]?):=g;rw[G]at g;have fin:=k _ F1 H1 S1 ρ1 _ false Z s I ⟨r,λz=>(by cases z),λ_ b hb=>f b (A b (e b hb)),λz=>(by cases z)⟩ q;cases w with|str z=>exact⟨x,g,fin⟩|ref c=>exact⟨x,g,fin⟩|_=>exact g.elim
theorem Reps.cut(r:Reps K F xs ds)(h z:Option Int):Reps K F (jT xs h z) (gF ds h z):=by unfold jT gF;rw[r.length];exact(r.drop _).take _
theorem eg{i m:Option Int}(s:Ste F H S ρ F1 H1 S1 ρ1)(I:Rl K F1 H1 S1 ρ1 σ)(f:Tr K F1 H1 sa v a Za)(h:LL a.vw i m λz n=>Q z n ρ1)(k:xB K ws F H S ρ σ Q R):nr K v i m H1 R:=by
 rcases h with⟨z,w,h⟩| ⟨ts,ds,w,e,q⟩| ⟨ts,ds,w,e,n,q⟩
 obtain rfl:=f.str w;exact⟨h.1,k.d s I (.str _) h.2⟩;obtain⟨p,xs,_,rfl,g,b,_⟩:=f.ls I.fh w;exact .inl ⟨p,xs,rfl,g,λl hl=>k.listD s I hl ((b.un e).1.cut _ _) q⟩;obtain⟨p,xs,_,rfl,g,b,_⟩:=f.tp I.fh w;refine .inr ⟨p,xs,rfl,g,by rw[(b.un e).1.length];exact n,λl hl=>k.tupD s I hl ((b.un e).1.cut _ _) q⟩
theorem i9{P:Option Int->Prop}{z:Option Int->Hp->Prop}(w:Rep K H1 v x)(h:IF x P)(k:∀o,P o->z o H1):gM v H1 z:=by unfold IF at h;split at h;cases w;exact k _ h;exact h.elim
def Tp:D->Value
 | .none=>.type "NoneType"|.bool _=>.type "bool"|.int _=>.type "int"|.str _=>.type "str"|.list _=>.type "list"|.tuple _=>.type "tuple"|.dict _=>.type "dict"
theorem Rep.ty(a:Rep K H1 v x):TyOf K H1 v (Tp x)∨Su K H1 v (Tp x):=by
 cases a with
 |non=>exact .inl .non|bl b=>exact .inl (.bl _)|int b=>exact .inl (.int _)|str b=>exact .inl (.str _)|lst h w=>exact .inr (.inl ⟨_,_,rfl,h,rfl⟩)|tup h w=>exact .inr (.inr ⟨_,_,rfl,h,rfl⟩)|@dct b _ _ _ _ _ h q _ =>
  cases b with
  |true=>obtain⟨e,z,rfl,_⟩:=q;exact .inl (.dT h)|false =>
   rcases q with⟨z,_,rfl,_⟩| ⟨e,rfl,_⟩
   exact .inl (.dK h);exact .inl (.dT h)
theorem vi{k:Bool}(h:isD n x=some k)(z:bX n=true):QBC K (Tp x) (.type n)=some k:=by simp only[bX,wU,beq_iff_eq]at z;rcases z with((((rfl|rfl)|rfl)|rfl)|rfl)|rfl<;>cases x<;>simp[isD]at h<;>subst h<;>rfl
theorem Ki{k:Bool}(z:Rep K H1 v x)(h:isD n x=some k)(w:bX n=true)(q:R (.bl k) H1):Gg K [v,.ty n] H1 R :=
 ⟨Tp x,.type n,k,z.ty,rfl,vi h w,q⟩
inductive Tn(K:QA)(F H:Hp)(Y:cB):LV->LT->Prop where
 |nil:Tn K F H Y [] []
 |cons {v:V}{t:T}{vs:LV}{ts:LT}{Z:cB}:Tr K F H false v t Z->(∀b,Z b->Y b)->Tn K F H Y vs ts->Tn K F H Y (v::vs) (t::ts)
theorem iL(ts:LT):∀{xs:List (T×Bool)},HN xs=ts->dC xs=ts.map T.vw
 |[],h=>by subst h;rfl|p::r,h=>by subst h;simp only[dC,HN,QV,iL _ rfl]
theorem Tn.one{x:Vw}(h:Tn K F H Y vs ts)(e:ts.map T.vw=[x]):∃v t Z,vs=[v]/\ts=[t]/\t.vw=x/\Tr K F H false v t Z/\∀b,Z b->Y b:=by
 cases h with
 |nil=>cases e|cons r z t =>
  simp only[QV,W4]at e;cases t with|nil=>exact⟨_,_,_,rfl,rfl,e.1,r,z⟩|cons _ _ _=>simp at e
theorem FJ:∀{xs:LV}{z:LS},Reps K F xs (z.map PyData.str)->xs=z.map V.str
 |_,[],.nil=>rfl|_,y::z,.cons h t=>by cases h;rw[QV,FJ t]
theorem bO:∀(h:LS),Reps K F (h.map V.str) (h.map PyData.str)
 |[]=>.nil|y::h=>.cons (.str y) (bO h)
theorem VS:∀{xs:LV}{z:LJ},Reps K F xs (z.map PyData.int)->xs=z.map V.int
 |_,[],.nil=>rfl|_,y::z,.cons h t=>by cases h;rw[QV,VS t]
theorem FO:∀(h:LJ),Reps K F (h.map V.int) (h.map PyData.int)
 |[]=>.nil|y::h=>.cons (.int y) (FO h)
theorem lY{α:Type}{g:α->D}{w:LV}(A:xs.Perm w):∀{l:List α},Reps K F xs (l.map g)->∃z:List α,z.Perm l/\Reps K F w (z.map g):=by
 induction A with
 |nil=>intro l r;exact⟨l,QBF _,r⟩|cons x _ s =>
  intro l r;cases l with
  |nil=>cases r|cons a l=>cases r with|cons h t=>obtain⟨z,p,v⟩:=s t;exact⟨a::z,p.cons _,.cons h v⟩
 |swap x y E =>
  intro l r;cases l with
  |nil=>cases r|cons a l=>cases l with
   |nil=>cases r with|cons h t=>cases t
   |cons b l=>cases r with
    |cons h t=>cases t with|cons B t=>exact⟨b::a::l,QCK.swap _ _ _,.cons B (.cons h t)⟩
 |trans _ _ W Z=>intro l r;obtain⟨C,m,f⟩:=W r;obtain⟨q,i,e⟩:=Z f;exact⟨q,i.trans m,e⟩
theorem tU{ls:List (LS)}(h:Reps K F xs (ls.map EC)):∀x∈xs,∃a,∃v:LS,x=.ref a/\AC K F a (v.map V.str):=by
 induction ls generalizing xs with
 |nil=>cases h;exact λ_ z=>nomatch z
 |cons l ls w =>
  cases h with
  |cons r t =>
   intro x h;rcases QL.mp h with e|h;subst e;cases r with|lst q r=>exact⟨_,l,rfl,by rw[<- FJ r];exact q⟩
   exact w t x h
theorem Zj{L:Bi}(s:Ste F H S ρ F1 H1 S1 ρ1)(I:Rl K F1 H1 S1 ρ1 σ)(i:Tn K F1 H1 Y vs ts)(h:VX L (ts.map T.vw) λz n=>Q z n ρ1)(k:xB K ws F H S ρ σ Q R):To K L vs H1 R:=by
 cases L with
 |len =>
  rcases h with⟨z,e,h⟩| ⟨m,e,h⟩| ⟨m,e,h⟩
  obtain⟨v,t,Z,rfl,rfl,e,r,_⟩:=i.one e;obtain rfl:=r.str e;exact .inl ⟨_,rfl,h.1,k.d s I (.int _) h.2⟩;obtain⟨v,t,Z,rfl,rfl,e,r,_⟩:=i.one e;obtain⟨p,xs,_,rfl,w,f,_⟩:=r.ls I.fh e;exact .inr ⟨_,xs,rfl,.inl w,by rw[f.length];exact k.d s I (.int _) h⟩;obtain⟨v,t,Z,rfl,rfl,e,r,_⟩:=i.one e;obtain⟨p,xs,_,rfl,w,f,_⟩:=r.tp I.fh e;exact .inr ⟨_,xs,rfl,.inr w,by rw[f.length];exact k.d s I (.int _) h⟩
 |any=>obtain⟨m,bs,e,hb,q⟩:=h;obtain⟨v,t,Z,rfl,rfl,e,r,_⟩:=i.one e;obtain⟨p,xs,_,rfl,w,f,_⟩:=r.ls I.fh e;obtain rfl:=(f.un hb).1.bools;exact⟨bs,w,k.d s I (.bl _) q⟩|sorted =>
  rcases h with⟨m,C,e,hb,g,q⟩| ⟨m,ls,e,hb,g,q⟩| ⟨m,N,e,hb,g,q⟩
  obtain⟨v,t,Z,rfl,rfl,e,r,_⟩:=i.one e;obtain⟨p,xs,_,rfl,w,f,_⟩:=r.ls I.fh e;obtain rfl:=FJ (f.un hb).1;exact⟨_,rfl,.inl ⟨C,w,g,λl W hl A G=>k.listD s I hl (bO W) (q W A G)⟩⟩;obtain⟨v,t,Z,rfl,rfl,e,r,_⟩:=i.one e;obtain⟨p,xs,_,rfl,w,f,_⟩:=r.ls I.fh e;have E:=(f.un hb).1;refine⟨_,rfl,.inr (.inl ⟨xs,w,by rw[Reps.length E,QG];exact g,λx O=>?_,λl P hl w=>?_⟩)⟩;obtain⟨a,C,e,sq⟩:=tU E x O;exact⟨a,C,e,I.fh.seq sq⟩;obtain⟨J,A,M⟩:=lY w.symm E;exact k.listD s I hl M (q J A);obtain⟨v,t,Z,rfl,rfl,e,r,_⟩:=i.one e;obtain⟨p,xs,_,rfl,w,f,_⟩:=r.ls I.fh e;obtain rfl:=VS (f.un hb).1;exact⟨_,rfl,.inr (.inr ⟨N,w,g,λl B hl A G=>k.listD s I hl (FO B) (q B A G)⟩)⟩
 |tuple=>obtain⟨m,ds,e,hb,q⟩:=h;obtain⟨v,t,Z,rfl,rfl,e,r,_⟩:=i.one e;obtain⟨p,xs,_,rfl,w,f,_⟩:=r.ls I.fh e;exact⟨_,xs,rfl,w,λl hl=>k.tupD s I hl (f.un hb).1 q⟩|int=>obtain⟨b,e,q⟩:=h;obtain⟨v,t,Z,rfl,rfl,e,r,_⟩:=i.one e;obtain rfl:=r.bool e;exact⟨b,rfl,k.d s I (.int _) q⟩
theorem Oh{m:Mt}(s:Ste F H S ρ F1 H1 S1 ρ1)(I:Rl K F1 H1 S1 ρ1 σ)(w:Tr K F1 H1 sa v a Za)(b:Tn K F1 H1 Y vs ts)(h:Cr m a.vw (ts.map T.vw) λz n=>Q z n ρ1)(k:xB K ws F H S ρ σ Q R):Xa K m v vs H1 R:=by
 cases m with|_=>exact h.elim
theorem On{x:Vw}(h:x.isS=true):∃z,x=.sc (.str z):=by
 cases x with
 |sc d=>cases d with|str z=>exact⟨z,rfl⟩|_=>exact(QF h).elim
 |_=>exact(QF h).elim
theorem cn{m:Mt}(w:Tr K F1 H1 sa v a Za)(h:Va m a.vw=true):FZ K m.ty v H1:=by
 have h:=yA h;obtain⟨z,b⟩:=On h.1;obtain rfl:=w.str b;cases m with|_=>exact(QF h.2).elim
end
end
inductive AV(K:QA)(F H:Hp):List Md->LV->List (T×Bool)->(Addr->Prop)->(Addr->Prop)->Prop where
 |nil {md:List Md}{W Y:cB}:(∀b,¬ W b)->AV K F H md [] [] W Y
 |chg {md:List Md}{v:V}{vs:LV}{x:T}{xs:List (T×Bool)}{W Y:cB}:(md.headD .xx).isMut=true->AV K F H md.tail vs xs W Y->AV K F H md (v::vs) ((x,true)::xs) W Y
 |new {md:List Md}{v:V}{vs:LV}{x:T}{xs:List (T×Bool)}{Z W W' Y:cB}:(md.headD .xx).isMut=false->Tr K F H true v x Z->AV K F H md.tail vs xs W' Y->(∀b,Z b->¬ W' b)->(∀b,W b↔Z b∨W' b) ->
   AV K F H md (v::vs) ((x,true)::xs) W Y
 |tmp {md:List Md}{v:V}{vs:LV}{x:T}{xs:List (T×Bool)}{Z W Y:cB}:(md.headD .xx).isMut=false->Tr K F H false v x Z->(∀b,Z b->Y b)->AV K F H md.tail vs xs W Y ->
   AV K F H md (v::vs) ((x,false)::xs) W Y
section
variable{K:QA}{F H o l:Hp}{S S1:Ft}{ρ g:kA}{σ:St}
section
variable{Y W:cB}{md:List Md}{vs:LV}{xs:List (T×Bool)}{ws:LN}{c:Hp}{w:Ft}{y:kA}
theorem AV.sub{u:cB}(h:AV K F H md vs xs W Y)(k:∀b,Y b->u b):AV K F H md vs xs W u:=by
 induction h with|nil h=>exact .nil h|chg h t x=>exact .chg h (x k)|new h r t n q x=>exact .new h r (x k) n q|tmp h r z t x=>exact .tmp h r (λb hb=>k b (z b hb)) (x k)
theorem AV.dom(h:AV K F H md vs xs W Y):∀b,W b->H b≠none/\F b=none:=by
 induction h with|nil h=>exact λb hb=>absurd hb (h b)|chg h t x=>exact x|new h r t n q x=>exact λb hb=>((q b).mp hb).elim (r.dom b) (x b)|tmp h r z t x=>exact x
theorem AV.length(h:AV K F H md vs xs W Y):vs.length=xs.length:=by
 induction h with|nil h=>rfl|chg h t x=>simp[x]|new h r t n q x=>simp[x]|tmp h r z t x=>simp[x]
theorem AV.trs(h:AV K F H md vs xs W Y):(∀(i:Nat),(md.getD i .xx).isMut=false)->ZE xs=true->Trs K F H true vs (DF xs) W:=by
 induction h with
 |nil h=>exact λ_ _=>.nil h|@chg md _ _ _ _ _ _ h t u =>
  intro m;have:=m 0;cases md with|nil=>cases h|cons a r=>exact absurd h (by simpa using this)
 |@new md v vs x xs Z W k Y h r t n q u =>
  intro m e;simp only[ZE,Qa]at e;exact .cons r (u (λi=>by cases md with|nil=>exact m i|cons a md=>exact m (i+1)) e.2) n q
 |@tmp md v vs x xs Z W Y h r z t u =>
  intro m e;simp only[ZE,Qa]at e;refine .cons (S1:=λ_=>False) ?_ (u (λi=>by cases md with|nil=>exact m i|cons a md=>exact m (i+1)) e.2) (λ_ z=>z.elim) λb=>by simp
  cases x with
  |d x=>cases r with|d r n=>exact .d r λ_ z=>z
  |_=>exact absurd e.1 (by simp[lH,T.isD])
theorem Gh(i:Nat):((([]:List Md).getD i .xx).isMut)=false:=rfl
theorem AV.tn(h:AV K F H md vs xs W Y)(e:Same F o)(k:∀b,W b->o b=H b)(f:∀b,Y b->F b=none->o b=none)(i:md=[]):Tn K o H Y vs (HN xs):=by
 induction h with|nil h=>exact .nil|chg h t a=>subst i;cases h|@new md v vs x xs Z W m Y h r t n q a=>subst i;refine .cons (Z:=λ_=>False) ?_ (λb z=>z.elim) (a (λb hb=>k b ((q b).mpr (.inr hb))) f rfl);exact .d (r.kept e λb u hb j=>by rw[k b ((q b).mpr (.inl hb))];exact j) λ_ z=>z|@tmp md v vs x xs Z W Y h r z t a=>subst i;exact .cons (r.mono e λb hb=>⟨rfl,f b (z b hb) (r.dom b hb).2⟩) z (a k f rfl)
structure AR(K:QA)(ws:LN)(md:List Md)(c:Hp)(w:Ft)(y:kA)(F H:Hp)(S:Ft)(ρ:kA)(vs:LV)(xs:List (T×Bool))(W Y:cB):Prop where
 av:AV K F H md vs xs W Y
 fr:∀b,W b->c b=none∨U y w b
 tm:∀b,Y b->∃(i:Nat) (s:Sl),i∈ws/\ρ[i]?=some (some s)/\S i b
 nw:∀(i:Nat) s,ρ[i]?=some (some s)->∀b,W b->¬ S i b
theorem AR.held(h:AR K ws md c w y F H S ρ vs xs W Y):Held F H S ρ W:=⟨h.av.dom,h.nw⟩
theorem AR.from{v u:Hp}{z:Ft}{x:kA}(s:Stp F H S ρ o l S1 g)(h:AR K ws md l S1 g v u z x vs xs W Y):AR K ws md H S ρ v u z x vs xs W Y :=
 ⟨h.av,λb hb=>by rcases h.fr b hb with q|q;exact .inl (s.dm b q);exact(s.uu b q).symm,h.tm,h.nw⟩
theorem AR.vars{us:LN}(h:AR K ws md c w y F H S ρ vs xs W Y)(k:∀i∈ws,i∈us):AR K us md c w y F H S ρ vs xs W Y :=
 ⟨h.av,h.fr,λb hb=>let⟨i,s,z,x⟩:=h.tm b hb;⟨i,s,k i z,x⟩,h.nw⟩
theorem AR.frz{ws:LN}{vs:LV}{xs:List (T×Bool)}{W Y:cB}(s:Ste F H S ρ o l S1 g)(I:Rl K o l S1 g σ)(h:AR K ws [] H S ρ o l S1 g vs xs W Y) :
  ∃v,Ste F H S ρ v l S1 g/\Rl K v l S1 g σ/\Tn K v l Y vs (HN xs) /\
   ∀st k t' u,Tr K o l st k t' u->(∀b,u b->∃(i:Nat) (s:Sl),g[i]?=some (some s)/\S1 i b)->Tr K v l st k t' u:=by
 have x:=h.held;have f:=AG (H:=l) λb hb=>(x.dom b hb).2;refine⟨NI o l W,s.frz (λb hb=>(x.dom b hb).2) h.fr,I.frz x,h.av.tn f (λb hb=>MI hb) (λb m n=>?_) rfl,λst k t' u r j=>r.mono f λb hb=>⟨rfl,?_⟩⟩;obtain⟨i,a,_,e,p⟩:=h.tm b m;rw[gC λz=>h.nw i a e b z p];exact n;obtain⟨i,a,q,e⟩:=j b hb;rw[gC λz=>x.nw i a q b z e];exact(r.dom b hb).2
def oB:List Md->LV->LV
 |_,[]=>[]|md,v::vs=>match md.headD .xx with
  | .chg=>v::oB md.tail vs|_=>oB md.tail vs
noncomputable abbrev Xp(K:QA)(p:PX)(md:List Md)(F H:Hp)(S:Ft)(ρ:kA)(σ:St)(Q:List (T×Bool)->kA->Prop)(R:LV->Hp->Prop):Prop :=
 ∀vs u x z h xs W Y,Ste F H S ρ u x z h->Rl K u x z h σ->AR K (yH p) md H S ρ u x z h vs xs W Y->(oB md vs).map (λv=>some (some v))=(xA md p).map (λj=>σ[j]?)->Q xs h->R vs x
def jp(K:QA)(F H:Hp)(x:XD)(h:Option Addr):Prop:=∃a fs,h=some a/\H a=some (.xd fs)/\Paired (λ(p:Str×V) (q:Str×D)=>p.1=q.1/\Rep K F p.2 q.2) fs x.2
def ME(K:QA)(F H:Hp)(S:Ft)(ρ:kA)(E:XE)(a:XK):Prop:=∀x v u h k z,Stp F H S ρ u h k z->Same u h->jp K u h x v->E x->a x.1 v h
theorem ME.from{E:XE}{u:XK}(h:ME K F H S ρ E u)(s:Stp F H S ρ o l S1 g):ME K o l S1 g E u:=λx k e b a z v f r q=>h x k e b a z (s.trans v) f r q
theorem ME.never:ME K F H S ρ (λ_=>False) (λ_ _ _=>False):=λ_ _ _ _ _ _ _ _ _ z=>z
inductive ArgsR(K:QA)(F H:Hp)(Y:cB):List Md->LV->LT->Prop where
 |nil {md:List Md}:ArgsR K F H Y md [] []
 |chg {md:List Md}{v:V}{vs:LV}{t:T}{ts:LT}:md.headD .xx=.chg->ArgsR K F H Y md.tail vs ts->ArgsR K F H Y md (v::vs) (t::ts)
 |rd {md:List Md}{v:V}{vs:LV}{t:T}{ts:LT}{Z:cB}:md.headD .xx≠.chg->Tr K F H false v t Z->(∀b,Z b->Y b)->ArgsR K F H Y md.tail vs ts->ArgsR K F H Y md (v::vs) (t::ts)
structure Frm(M:cB)(F H F' H':Hp):Prop where
 ff:Same F F'
 fh:Same F' H'
 hh:∀b u,H b=some u->¬ M b->H' b=some u
 dm:∀b,H' b=none->H b=none
 fn:∀b,F b=none->F' b≠none->M b∨H b=none
noncomputable def lift(K:QA)(P:PSp):Sp:=λvs H Q E=>∃(F:Hp) (u:LT) (M Y:cB),Same F H/\ArgsR K F H Y P.md vs u/\Trs K F H true (oB P.md vs) (HB P.md u) M/\(∀b,Y b->¬ M b) /\
 P.run u (λr e=>∀v z h Z k,Frm M F H z h->Tr K z h true v r Z->Trs K z h true (oB P.md vs) e k->(∀b,Z b->¬ k b)->(∀b,Z b∨k b->M b∨H b=none)->Q v h)
  (λx=>∀a z h,Frm M F H z h->jp K z h x a->E x.1 a h)
structure GOk(K:QA)(Γ:Ev)(Ψ:PEv):Prop where
 sp:∀f vs H Q E,lift K (Ψ.sp f) vs H Q E->Γ.sp f vs H Q E
 va:∀x d,Ψ.va x=some d->∀F,Rep K F (Γ.va x) d
structure PSnd(K:QA)(Γ:Ev)(Ψ:PEv)(p:PX):Prop where
 e:∀{E:XE}{EK:XK}{F H:Hp}{S:Ft}{ρ:kA}{σ:St}{Q:TK}{R:VK},Rl K F H S ρ σ->ME K F H S ρ E EK->(pe Ψ p E).e ρ Q->xB K (yH p) F H S ρ σ Q R->(wp K Γ p EK).e σ H R
 t:∀{E:XE}{EK:XK}{F H:Hp}{S:Ft}{ρ:kA}{σ:St}{Q:Bool->kA->Prop}{R:Bool->Hp->Prop},Rl K F H S ρ σ->ME K F H S ρ E EK->(pe Ψ p E).t ρ Q->sH K F H S ρ σ Q R->(wp K Γ p EK).t σ H R
 a:∀{E:XE}{EK:XK}{F H:Hp}{S:Ft}{ρ:kA}{σ:St}{md:List Md}{Q:List (T×Bool)->kA->Prop}{R:LV->Hp->Prop},Rl K F H S ρ σ->ME K F H S ρ E EK->(∀j∈xA md p,∃v,σ[j]?=some (some v))->(pe Ψ p E).a md ρ Q->Xp K p md F H S ρ σ Q R->(wp K Γ p EK).a σ H R
end
end
section
variable{K:QA}{Γ:Ev}{Ψ:PEv}{E:XE}{c:XK}{F H A U:Hp}{S S1:Ft}{ρ o:kA}{σ:St}
section
variable{b a u:PX}{RR:LV->Hp->Prop}{P:List (T×Bool)->kA->Prop}{Y Z:cB}{t:T}{st:Bool}{ts:LT}{v:V}
theorem Ol(N:PSnd K Γ Ψ b)(I:Rl K F H S ρ σ)(X:ME K F H S ρ E c){x:T}{P:T×Bool->kA->Prop}{RR:VK}(h:sq x ρ (cu (pe Ψ b E).e) P)
  (M:∀w p g S' k y m Z,Ste F H S ρ p g S' k->Rl K p g S' k σ->(∀st v l,Tr K F H st v x l->Tr K p g st v x l)->(x.isD=false->k=ρ/\S'=S)->VR K (yH b) H S ρ p g S' k w y m Z->P (y,m) k->RR w g) :
  (wp K Γ b c).e σ H RR:=by
 unfold sq at h;cases W:x.isD with
 |true =>
  rw[W,if_pos rfl]at h;refine N.e I X h λw p g S' k y m Z s C r q=>M w p g S' k y m Z s C (λst v l B=>?_) (λz=>(by rw[W]at z;cases z)) r q;cases x with
  |d x=>cases B with|d r n=>exact .d (r.mono s.ff) n
  |_=>cases W
 |false =>
  rw[W,if_neg (by simp)]at h;have X':ME K F H S (lockA ρ) E c:=λx dx F2 H2 S2 O Q f r q=>X x dx F2 H2 S ρ Q.unlockA f r q;refine N.e I.lockA X' h λw p g S' k y m Z s C r q=>?_;have kp:∀st v t l,Tr K F H st v t l->Tr K p g st v t l:=λst v t l B=>s.keep B λb _=>xD b;refine M w p g S ρ y m Z ⟨s.unlockA,λj t h=>⟨t,h⟩⟩ (I.unlockA s.toStp C.fh) (λst v l B=>kp st v _ l B) (λ_=>⟨rfl,rfl⟩) ⟨r.tr,λe b hb=>?_,λe b hb=>?_,λe i L hi b hb z=>?_⟩ q;exact .inl ((r.fr e b hb).elim id λz=>absurd z (xD b));obtain⟨i,L,h1,J,G⟩:=r.tm e b hb;cases L with
  |own t=>obtain⟨t0,h0⟩:=s.ow i t J;obtain⟨_,_,e0⟩:=eB h0;cases e0|ky t =>
   cases W:t.isD with|true=>exact absurd G (C.isD J W)|false=>obtain⟨g1,g2⟩:=s.bo i t J W;obtain⟨R,g3,_⟩:=eB g1;rw[g2]at G;exact⟨i,R,h1,g3,G⟩
  rcases r.fr e b hb with q|q
  ·exact(I.dom hi z).1 q
  exact absurd q (xD b)
theorem Pl{md:List Md}(O:PSnd K Γ Ψ b)(I:Rl K F H S ρ σ)(X:ME K F H S ρ E c)(Q:∀j∈xA md b,∃v,σ[j]?=some (some v)){x:T}(h:sq x ρ ((pe Ψ b E).a md) P)
  (N:∀ws l e S' k L W Y,Ste F H S ρ l e S' k->Rl K l e S' k σ->(∀st v g,Tr K F H st v x g->Tr K l e st v x g)->(x.isD=false->k=ρ/\S'=S)->AR K (yH b) md H S ρ l e S' k ws L W Y->(oB md ws).map (λv=>some (some v))=(xA md b).map (λj=>σ[j]?)->P L k->RR ws e) :
  (wp K Γ b c).a σ H RR:=by
 unfold sq at h;cases m:x.isD with
 |true =>
  rw[m,if_pos rfl]at h;refine O.a I X Q h λw l e S' k y W Y s B r C q=>N w l e S' k y W Y s B (λst v g p=>?_) (λz=>(by rw[m]at z;cases z)) r C q;cases x with
  |d x=>cases p with|d r n=>exact .d (r.mono s.ff) n
  |_=>cases m
 |false =>
  rw[m,if_neg (by simp)]at h;have X':ME K F H S (lockA ρ) E c:=λx dx F2 H2 S2 R s2 f r q=>X x dx F2 H2 S ρ s2.unlockA f r q;refine O.a I.lockA X' Q h λw l e S' k y W Y s B r C q=>?_;have kp:∀st v t g,Tr K F H st v t g->Tr K l e st v t g:=λst v t g p=>s.keep p λb _=>xD b;refine N w l e S ρ y W Y ⟨s.unlockA,λj t h=>⟨t,h⟩⟩ (I.unlockA s.toStp B.fh) (λst v g p=>kp st v _ g p) (λ_=>⟨rfl,rfl⟩) ⟨r.av,λb hb=>?_,λb hb=>?_,λi M hi b hb z=>?_⟩ C q;exact .inl ((r.fr b hb).elim id λz=>absurd z (xD b));obtain⟨i,M,h1,J,G⟩:=r.tm b hb;cases M with
  |own t=>obtain⟨t0,h0⟩:=s.ow i t J;obtain⟨_,_,e0⟩:=eB h0;cases e0|ky t =>
   cases m:t.isD with|true=>exact absurd G (B.isD J m)|false=>obtain⟨g1,g2⟩:=s.bo i t J m;obtain⟨s0,g3,_⟩:=eB g1;rw[g2]at G;exact⟨i,s0,h1,g3,G⟩
  rcases r.fr b hb with q|q
  ·exact(I.dom hi z).1 q
  exact absurd q (xD b)
theorem XF(l:PSnd K Γ Ψ a)(I:Rl K F H S ρ σ)(X:ME K F H S ρ E c){P:TK}{RR:VK}(h:(pe Ψ a E).e ρ P)
  (j:∀v w z S' y x n Z,Ste F H S ρ w z S' y->Rl K w z S' y σ->ME K w z S' y E c->Tr K w z false v (pA x n) Z->(lH x n=true->Rep K w v x.er)->(∀b,Z b->∃(i:Nat) (s:Sl),i∈yH a/\y[i]?=some (some s)/\S' i b)->P x n y->RR v z) :
  (wp K Γ a c).e σ H RR:=by
 refine l.e I X h λv w z S' y x n Z s B r q=>?_;obtain⟨C,p,k,W,g,m,f,_⟩:=r.frz s B;exact j v C z S' y x n p k W (X.from k.toStp) g m f q
theorem O0(ia:PSnd K Γ Ψ a)(ib:PSnd K Γ Ψ b)(I:Rl K F H S ρ σ)(X:ME K F H S ρ E c){P:T->Bool->T->Bool->kA->Prop}{RR:V->V->Hp->Prop}
  (h:(pe Ψ a E).e ρ λx n o=>sq (pA x n) o (cu (pe Ψ b E).e) λy k=>P x n y.1 y.2 k)
  (kk:∀v w l f S' z x n y m j Zb,Ste F H S ρ l f S' z->Rl K l f S' z σ->ME K l f S' z E c->Tr K l f false v (pA x n) j->(∀b,j b->∃(i:Nat) (s:Sl),i∈yH a/\z[i]?=some (some s)/\S' i b)->Tr K l f false w (pA y m) Zb ->
   P x n y m z->RR v w f):(wp K Γ a c).e σ H λv U=>(wp K Γ b c).e σ U λw W=>RR v w W:=by
 refine XF ia I X h λv A U S1 o x n j M I1 X1 p _ G R=>?_;refine Ol ib I1 X1 R λw F2 W C k y m Z L I2 kp hs O Q=>?_;obtain⟨F3,Z3,J,I3,N,_,_,k3⟩:=O.frz L I2;have B:∀b,j b->∃(i:Nat) (s:Sl),i∈yH a/\k[i]?=some (some s)/\C i b:=by
  cases q:(pA x n).isD with
  |true =>
   intro b hb;exfalso;generalize pA x n=t at p q;cases p with|d r n=>exact n b hb|_=>cases q
  |false=>obtain⟨e1,e2⟩:=hs q;rw[e1,e2];exact G
 have g:=M.trans J;exact kk v w F3 W C k x n y m j Z3 g I3 (X.from g.toStp) (k3 _ _ _ _ (kp _ _ _ p) λb hb=>let⟨i,s,_,h2⟩:=B b hb;⟨i,s,h2⟩) B N Q
theorem SV(e:PSnd K Γ Ψ u)(I:Rl K F H S ρ σ)(X:ME K F H S ρ E c)(h:(pe Ψ u E).a [] ρ P)
  (k:∀vs z y S' x xs Y,Ste F H S ρ z y S' x->Rl K z y S' x σ->ME K z y S' x E c->Tn K z y Y vs (HN xs)->(∀b,Y b->∃(i:Nat) (s:Sl),i∈yH u/\x[i]?=some (some s)/\S' i b)->P xs x->RR vs y):(wp K Γ u c).a σ H RR:=by
 refine e.a (md:=[]) I X (λj f=>by cases u<;>cases f) h λvs z y S' x xs W Y s l r _ q=>?_;obtain⟨m,w,g,t,_⟩:=r.frz s l;exact k vs m y S' x xs Y w g (X.from w.toStp) t r.tm q
theorem ol(ia:PSnd K Γ Ψ a)(ib:PSnd K Γ Ψ u)(I:Rl K F H S ρ σ)(X:ME K F H S ρ E c){P1:T->Bool->Prop}{P:T->Bool->List (T×Bool)->kA->Prop}{R1:V->Hp->Prop}{RR:V->LV->Hp->Prop}
  (h:(pe Ψ a E).e ρ λx n o=>P1 x n/\sq (pA x n) o ((pe Ψ u E).a []) λxs z=>P x n xs z)
  (k1:∀v f w x n k,Tr K f w false v (pA x n) k->P1 x n->R1 v w)
  (kk:∀v vs f w S' y x n xs k Y,Ste F H S ρ f w S' y->Rl K f w S' y σ->ME K f w S' y E c->Tr K f w false v (pA x n) k->(∀b,k b->∃(i:Nat) (s:Sl),i∈yH a/\y[i]?=some (some s)/\S' i b)->Tn K f w Y vs (HN xs) ->
   P x n xs y->RR v vs w):(wp K Γ a c).e σ H λv U=>R1 v U/\(wp K Γ u c).a σ U λvs p=>RR v vs p:=by
 refine XF ia I X h λv A U S1 o x n k L I1 X1 l _ C ⟨Q,O⟩=>⟨k1 v A U x n k l Q,?_⟩
 refine Pl ib I1 X1 (λj hj=>by cases u<;>cases hj) O λvs F2 p B z xs W Y J I2 R hs M _ N=>?_;obtain⟨F3,G,I3,tn,k3⟩:=M.frz J I2;have q:∀b,k b->∃(i:Nat) (s:Sl),i∈yH a/\z[i]?=some (some s)/\B i b:=by
  cases m:(pA x n).isD with
  |true =>
   intro b hb;exfalso;generalize pA x n=t at l m;cases l with|d r n=>exact n b hb|_=>cases m
  |false=>obtain⟨e1,e2⟩:=hs m;rw[e1,e2];exact C
 have g:=L.trans G;exact kk v vs F3 p B z x n xs k Y g I3 (X.from g.toStp) (k3 _ _ _ _ (R _ _ _ l) λb hb=>let⟨i,s,_,h2⟩:=q b hb;⟨i,s,h2⟩) q tn N
def CZ(K:QA)(F H:Hp)(Y:cB):Item->T->Prop
 | .one v,t=>∃Z,Tr K F H false v t Z/\∀b,Z b->Y b|.tup vs,t=>∃h,t=.d (.tuple h)/\Reps K F vs h
theorem CZ.mono{it:Item}(h:CZ K F H Y it t)(e:Same F A)(k:∀b,Y b->U b=H b/\A b=none):CZ K A U Y it t:=by
 cases it with|one v=>obtain⟨Z,r,z⟩:=h;exact⟨Z,r.mono e λb hb=>k b (z b hb),z⟩|tup y=>obtain⟨ts,x,r⟩:=h;exact⟨ts,x,r.mono e⟩
theorem F5{xs:LV}(h:Trs K F H st xs ts Z)(z:∀b,Z b->Y b):Paired (CZ K F H Y) (xs.map .one) ts :=
 Trs.ind (R:=λ_ xs ts Z=>(∀b,Z b->Y b)->Paired (CZ K F H Y) (xs.map .one) ts) (λ_ _=>.nil) (λh _ _ q x z=>.cons ⟨_,h.weak,λb hb=>z b ((q b).mpr (.inl hb))⟩ (x λb hb=>z b ((q b).mpr (.inr hb)))) h z
theorem vX{Y:cB}{α:Type}(f:α->V)(g:α->D)(h:∀x,Rep K F (f x) (g x)):∀(l:List α),Paired (CZ K F H Y) (l.map λx=>.one (f x)) (l.map λx=>T.d (g x))
 |[]=>.nil|x::r=>.cons ⟨λ_=>False,.d (h x) λ_ z=>z,λ_ z=>z.elim⟩ (vX f g h r)
theorem Tr.lsS(f:Same F H)(h:Tr K F H st v t Z)(e:t.vw=.ls ts):∃a vs S',v=.ref a/\AC K H a vs/\Trs K F H false vs ts S'/\(∀b,S' b->Z b)/\∀y x,Same F y->Same y x->(∀b,Z b->x b=H b)->AC K x a vs:=by
 cases h with
 |d r n =>
  cases r with|lst q r=>injection e with e;subst e;exact⟨_,_,_,rfl,f.seq q,Trs.of_reps r,λb hb=>hb.elim,λy x w z _=>(w.trans z).seq q⟩|dct _ _ _=>exact(iH e).elim|_=>cases e
 |lst h _ r n q=>injection e with e;subst e;exact⟨_,_,_,rfl,AC.of h,r.weak,λb hb=>(q b).mpr (.inr hb),λy x _ _ k=>AC.of ((k _ ((q _).mpr (.inl rfl))).trans h)⟩|tup=>cases e|dct=>cases e|lstF h r n=>injection e with e;subst e;exact⟨_,_,_,rfl,f.seq h,Trs.of_reps r,λb hb=>hb.elim,λy x w z _=>(w.trans z).seq h⟩
theorem Tr.tpS(f:Same F H)(h:Tr K F H st v t Z)(e:t.vw=.tp ts):∃a vs S',v=.ref a/\ED K H a vs/\Trs K F H false vs ts S'/\(∀b,S' b->Z b)/\∀y x,Same F y->Same y x->(∀b,Z b->x b=H b)->ED K x a vs:=by
 cases h with
 |d r n =>
  cases r with|tup q r=>injection e with e;subst e;exact⟨_,_,_,rfl,f.tupl q,Trs.of_reps r,λb hb=>hb.elim,λy x w z _=>(w.trans z).tupl q⟩|dct _ _ _=>exact(JL e).elim|_=>cases e
 |tup h _ r n q=>injection e with e;subst e;exact⟨_,_,_,rfl,ED.of h,r.weak,λb hb=>(q b).mpr (.inr hb),λy x _ _ k=>ED.of ((k _ ((q _).mpr (.inl rfl))).trans h)⟩|lst=>cases e|lstF=>cases e|dct=>cases e
theorem Tr.seqS(f:Same F H)(h:Tr K F H st v t Z)(e:t.vw.seq=some ts):∃a vs sz,v=.ref (Src.adr sz)/\MZ K H sz vs/\(∃S',Trs K F H false vs ts S')/\a=Src.adr sz/\∀g k,Same F g->Same g k->(∀b,Z b->k b=H b)->MZ K k sz vs:=by
 generalize ev:t.vw=w at e;cases w with|ls i=>cases e;obtain⟨a,vs,S',rfl,z,x,_,y⟩:=h.lsS f ev;exact⟨a,vs,.l a,rfl,z,⟨S',x⟩,rfl,y⟩|tp i=>cases e;obtain⟨a,vs,S',rfl,z,x,_,y⟩:=h.tpS f ev;exact⟨a,vs,.t a,rfl,z,⟨S',x⟩,rfl,y⟩|_=>cases e
end
mutual
theorem xV{F:Hp}:∀{k:NK}{v:V},Oj K F k v->Rep K F v (tD k)
 | .s x,v,h=>by cases(show v=.str x from h);exact .str x|.t ks,v,⟨a,xs,e,q,p⟩=>by subst e;exact .tup q (ky_reps p)
theorem ky_reps{F:Hp}:∀{ks:List NK}{vs:LV},KyVs K F ks vs->Reps K F vs (tDs ks)
 |[],vs,h=>by cases(show vs=[] from h);exact .nil|k::ks,vs,⟨x,r,e,p,q⟩=>by subst e;exact .cons (xV p) (ky_reps q)
end
theorem uX{Y:cB}:∀{kvs:List KE}{ds:List D},XG K F kvs->Reps K F (kvs.map (·.2.2)) ds->Paired (CZ K F H Y) (kvs.map λp=>.tup [.ref p.2.1,p.2.2]) (((kvs.map λp=>tD p.1).zip ds).map λp=>T.d (.tuple [p.1,p.2]))
 |[],_,_,.nil=>.nil|p::r,_,hk,.cons h t=>by simp only[QV,QAE];exact .cons ⟨[_,_],rfl,.cons (xV (hk p QD).1) (.cons h .nil)⟩ (uX (λp x=>hk p (QE _ x)) t)
theorem xX{Y:cB}:∀{kvs:List KE},XG K F kvs->Paired (CZ K F H Y) (kvs.map λp=>.one (.ref p.2.1)) ((kvs.map λp=>tD p.1).map T.d)
 |[],_=>.nil|p::r,hk=>.cons ⟨λ_=>False,.d (xV (hk p QD).1) λ_ z=>z,λ_ z=>z.elim⟩ (xX λp h=>hk p (QE _ h))
theorem iS{Y:cB}:∀{xs:LV}{ds:List D}(_:Reps K F xs ds) (g:Nat->Int) (n:Nat),Paired (CZ K F H Y) ((xs.zipIdx n).map λp=>.tup [.int (g p.2),p.1]) ((ds.zipIdx n).map λp=>T.d (.tuple [.int (g p.2),p.1]))
 |_,_,.nil,g,n=>by simp only[List.zipIdx_nil,wv];exact .nil|_,_,.cons h t,g,n=>by simp only[List.zipIdx_cons,QV];exact .cons ⟨[_,_],rfl,.cons (.int _) (.cons h .nil)⟩ (iS t g (n+1))
theorem AJ{L:ItK}{Y:cB}{vs:LV}{ts:LT}{R:LT->Prop}{RR:List Item->(Hp->Prop)->Hp->Prop}(f:Same F H)(W:Tn K F H Y vs ts)(h:LB L (ts.map T.vw) R)
  (k:∀xs Q st,Paired (CZ K F H Y) xs Q->(∀l g,Same F l->Same l g->(∀b,Y b->g b=H b)->st g)->R Q->RR xs st H):aC K L vs H RR:=by
 cases L with
 |val =>
  rcases h with⟨G,e,h⟩| ⟨G,e,h⟩| ⟨B,G,e,h⟩
  obtain⟨v,t,Z,rfl,rfl,e,r,z⟩:=W.one e;obtain⟨p,xs,S',rfl,M,m,I,X⟩:=r.lsS f e;exact .inl ⟨xs,M,k _ _ _ (F5 m λb hb=>z b (I b hb)) (λl g y w q=>X l g y w λb hb=>q b (z b hb)) h⟩;obtain⟨v,t,Z,rfl,rfl,e,r,z⟩:=W.one e;obtain⟨p,xs,S',rfl,M,m,I,X⟩:=r.tpS f e;exact .inr (.inl ⟨xs,M,k _ _ _ (F5 m λb hb=>z b (I b hb)) (λl g y w q=>X l g y w λb hb=>q b (z b hb)) h⟩);obtain⟨v,t,Z,rfl,rfl,y,A,C⟩:=W.one e;obtain⟨a,o,xs,_,rfl,N,dk,m,_,X⟩:=A.dc f y;obtain⟨s,u,rfl,rfl,rfl,O,_⟩:=dk;exact .inr (.inr ⟨s,u,N,k _ _ _ (xX O) (λl g y w q=>X l g y w λb hb=>q b (C b hb)) h⟩)
 |rng1=>obtain⟨j,e,h⟩:=h;obtain⟨v,t,Z,rfl,rfl,e,r,_⟩:=W.one e;obtain rfl:=r.int e;exact⟨h.1,k _ _ _ (vX (λ(i:Nat)=>.int (i:Int)) (λ(i:Nat)=>.int (i:Int)) (λc=>.int _) _) (λ_ _ _ _ _=>trivial) h.2⟩|enum=>obtain⟨x,G,E,e,g1,P,q⟩:=h;obtain⟨v,t,Z,rfl,rfl,y,A,C⟩:=W.one e;obtain⟨a,xs,sz,rfl,S,⟨_,m⟩,_,X⟩:=A.seqS f (by rw[y];exact g1);exact⟨sz,xs,rfl,S,k _ _ _ (iS (m.un P).1 (λi=>(i:Int)) 0) (λl g y w q=>X l g y w λb hb=>q b (C b hb)) q⟩|itm =>
  rcases h with⟨B,G,E,e,P,q⟩| ⟨e,q⟩
  rotate_left
  obtain⟨v,t,Z,rfl,rfl,y,A,C⟩:=W.one e;obtain⟨_,m⟩:=A.sc y;generalize ed:PyData.dict []=d at m;cases m with
  |@dct b a o B vs E h J r =>
   have ez:B.zip E=[]:=by injection ed with ed;exact ed.symm
   have hl:B.length=E.length:=by rw[J.len,Reps.length r]
   have ek:B=[]:=by
    cases B with
    |nil=>rfl|cons k B =>
     cases E with|nil=>cases hl|cons d E=>cases ez
   subst ek;have eo:∃s,o=.dT s []:=by
    cases b with
    |true =>
     obtain⟨s,u,y,w,_⟩:=J;cases u with|nil=>exact⟨s,y⟩|cons p r=>cases w
    |false =>
     rcases J with⟨u,n,_,w,_⟩| ⟨s,y,_⟩
     cases u with|nil=>exact absurd rfl n|cons p r=>cases w
     exact⟨s,y⟩
   obtain⟨s,rfl⟩:=eo;exact⟨s,[],f _ _ h,k _ _ _ .nil (λl g y w _=>w _ _ (y _ _ h)) q⟩
  |_=>cases ed
  obtain⟨v,t,Z,rfl,rfl,y,A,C⟩:=W.one e;obtain⟨a,o,xs,_,rfl,N,dk,m,_,X⟩:=A.dc f y;obtain⟨s,u,rfl,rfl,rfl,O,_⟩:=dk;exact⟨s,u,N,k _ _ _ (uX O (m.un P).1) (λl g y w q=>X l g y w λb hb=>q b (C b hb)) q⟩
end
section
variable{i j:Nat}{Z:cB}
def JH(S:Ft)(i:Nat)(Z:cB):Ft:=λj=>if j=i then Z else S j
theorem SA{S:Ft}:JH S i Z i=Z:=if_pos rfl
theorem ZA{S:Ft}(h:j≠i):JH S i Z j=S j:=if_neg h
theorem dA{α:Type}{l:List α}{x y:α}(h:(l.set i x)[j]?=some y):(i=j/\y=x/\i<l.length)∨(i≠j/\l[j]?=some y):=by rw[wA]at h;by_cases e:i=j;subst e;rw[if_pos rfl]at h;by_cases hl:i<l.length;rw[if_pos hl]at h;cases h;exact .inl ⟨rfl,rfl,hl⟩;rw[if_neg hl]at h;cases h;rw[if_neg e]at h;exact .inr ⟨e,h⟩
theorem nW{α:Type}{l:List α}{x:α}(h:i<l.length):(l.set i x)[i]?=some x:=by rw[wA,if_pos rfl,if_pos h]
theorem yE{α:Type}{l:List α}{x:α}(h:i≠j):(l.set i x)[j]?=l[j]?:=by rw[wA,if_neg h]
end
section
variable{K:QA}{Γ:Ev}{Ψ:PEv}{E:XE}{L:XK}{F H D G:Hp}{S S1:Ft}{ρ C:kA}{σ:St}
section
variable{Z Y:cB}{A X:Hp}{S':Ft}{g:kA}{o:St}{st:Bool}{B:Tg}{k:Nat}{l:List Bool}
theorem Rl.setB(I:Rl K F H S ρ σ)(i:Nat){v:V}{t:T}(r:Tr K F H false v t Z)(m:∀(j:Nat) u,j≠i->ρ[j]?=some (some (.own u))->∀b,Z b->¬ S j b):Rl K F H (JH S i Z) (ρ.set i (some (.ky t))) (σ.set i (some v)) where
 fh:=I.fh
 len:=by simpa using I.len
 sl:=λj s h=>by
  rcases dA h with⟨rfl,e,hl⟩| ⟨w,h⟩
  cases e;exact⟨v,nW (by rw[<- I.len];exact hl),by rw[SA];exact r⟩;rw[yE w,ZA (Q9 w)];exact I.sl j s h
 dj:=λj k z s n x y b hb hk=>by
  rcases dA x with⟨_,e,_⟩| ⟨f,x⟩
  cases e;rw[ZA (Q9 f)]at hb;rcases dA y with⟨e,_,_⟩| ⟨a,y⟩
  subst e;rw[SA]at hk;exact m j z n x b hk hb;rw[ZA (Q9 a)]at hk;exact I.dj j k z s n x y b hb hk
structure Bd(J:LN)(F H:Hp)(S:Ft)(ρ:kA)(σ:St)(A X:Hp)(S':Ft)(g:kA)(o:St):Prop where
 ff:Same F A
 hh:Same H X
 fn:∀b,F b=none->A b≠none->H b=none
 out:∀j,j∉J->g[j]?=ρ[j]?/\S' j=S j/\o[j]?=σ[j]?
 inn:∀j t,j∈J->g[j]?≠some (some (.own t))
theorem Bd.U{J:LN}(h:Bd J F H S ρ σ A X S' g o){b:Addr}(u:U g S' b):L3.U ρ S b:=by obtain⟨i,t,x,z⟩:=u;by_cases y:i∈J;exact absurd x (h.inn i t y);obtain⟨w,v,_⟩:=h.out i y;rw[w]at x;rw[v]at z;exact⟨i,t,x,z⟩
theorem Bd.dm{J:LN}(h:Bd J F H S ρ σ A X S' g o)(b:Addr)(e:X b=none):H b=none:=h.hh.free e
theorem rW{Y:cB}(q:∀b,Y b->¬ U ρ S b):∀(is:LN) {vs:LV}{ts:LT}{S1:Ft}{C g:kA}{x:St}{J:LN},(∀i∈is,i∈J)->Rl K F H S1 C x->(∀b,U C S1 b->U ρ S b)->Tn K F H Y vs ts->aB is ts C=some g ->
  ∃o S',vB is vs x=some o/\Rl K F H S' g o/\(∀j,j∉J->g[j]?=C[j]?/\S' j=S1 j/\o[j]?=x[j]?)/\(∀j t,g[j]?=some (some (.own t))->j∉is/\C[j]?=some (some (.own t)))
 |[],_,_,S1,C,g,x,J,hJ,I,hu,.nil,h=>by simp only[aB,Qk]at h;subst h;exact⟨x,S1,rfl,I,λ_ _=>⟨rfl,rfl,rfl⟩,λj t h=>⟨(by simp),h⟩⟩|[],_,_,_,_,_,_,_,_,_,_,.cons _ _ _,h=>by simp[aB]at h|_::_,_,_,_,_,_,_,_,_,_,_,.nil,h=>by simp[aB]at h|i::is,_,_,S1,C,g,x,J,hJ,I,hu,.cons (v:=v) (t:=t) (Z:=Z) r z tl,h=>by
  simp only[aB]at h;have nu:∀b,Z b->¬ U C S1 b:=λb hb u=>q b (z b hb) (hu b u);have R:=I.setB i r λj u _ y b hb M=>nu b hb ⟨j,u,y,M⟩;have f:∀b,U (C.set i (some (.ky t))) (JH S1 i Z) b->U ρ S b:=λb ⟨j,u,p,s⟩=>by
   rcases dA p with⟨_,e,_⟩| ⟨n,p⟩
   cases e;rw[ZA (Q9 n)]at s;exact hu b ⟨j,u,p,s⟩
  obtain⟨o,S',Q,P,O,N⟩:=rW q is (λj y=>hJ j (QE _ y)) R f tl h;refine⟨o,S',Q,P,λj y=>?_,λj u y=>?_⟩;obtain⟨a,w,W⟩:=O j y;have n:i≠j:=λe=>y (e▸hJ i QD);rw[yE n]at a W;rw[ZA (Q9 n)]at w;exact⟨a,w,W⟩;obtain⟨a,w⟩:=N j u y;rcases dA w with⟨_,e,_⟩| ⟨n,w⟩
  cases e;exact⟨λm=>(QL.mp m).elim (λe=>n e.symm) a,w⟩
theorem Tn.of_trs{vs:LV}{ts:LT}(h:Trs K F H st vs ts Z)(z:∀b,Z b->Y b):Tn K F H Y vs ts :=
 Trs.ind (R:=λ_ vs ts Z=>(∀b,Z b->Y b)->Tn K F H Y vs ts) (λ_ _=>.nil) (λh _ _ q x z=>.cons h.weak (λb hb=>z b ((q b).mpr (.inl hb))) (x λb hb=>z b ((q b).mpr (.inr hb)))) h z
theorem jN{it:Item}{t:T}{QP:kA->Prop}{RP:St->Hp->Prop}(I:Rl K F H S ρ σ)(hy:∀b,Y b->¬ U ρ S b)(r:CZ K F H Y it t)(h:DK B t ρ QP)
  (k:∀m f w x O,Bd B.ix F H S ρ σ w x O m f->Rl K w x O m f->QP m->RP f x):bindI K B it σ H RP:=by
 have nm:∀(i:Nat) {v:V}{t:T}{Z:cB}{w x:Hp}{O:Ft},Same F w->Same H x->(∀b,F b=none->w b≠none->H b=none)->Rl K w x O ρ σ->O=S->Tr K w x false v t Z->(∀b,Z b->¬ U ρ S b)->QP (ρ.set i (some (.ky t)))->B=.nm i->RP (σ.set i (some v)) x:=by
  intro i v t Z w x O R e2 e3 I2 hS r hz q ht;subst hS ht;refine k _ _ w x (JH O i Z) ⟨R,e2,e3,λj N=>?_,λj u N hu=>?_⟩ (I2.setB i r λj u _ N b hb hs=>hz b hb ⟨j,u,N,hs⟩) q;have n:i≠j:=λe=>N (by subst e;exact QJ.mpr rfl);exact⟨yE n,ZA (Q9 n),yE n⟩;have e:j=i:=QJ.mp N;subst e;rcases dA hu with⟨_,e,_⟩| ⟨n,_⟩
  cases e;exact n rfl
 have tp:∀(y:LN) {W:LV}{P:LT}{x:Hp}{g:kA},Same H x->B=.tp y->Tn K F x Y W P->aB y P ρ=some g->QP g->∃o,vB y W σ=some o/\RP o x:=by intro y W P x g e2 ht r e q;subst ht;obtain⟨o,S',g1,g2,g3,g4⟩:=rW hy y (J:=y) (λi hi=>hi) (I.same e2) (λb u=>u) r e;exact⟨o,g1,k _ _ F x S' ⟨.refl _,e2,λb h z=>absurd h z,g3,λj u N hu=>(g4 j u hu).1 N⟩ g2 q⟩
 cases it with
 |one v =>
  obtain⟨Z,r,z⟩:=r;cases B with|nm i=>exact nm i (.refl _) (.refl _) (λb h z=>absurd h z) I rfl r (λb hb=>hy b (z b hb)) h rfl|tp y=>have Q:(match t.vw with | .tp P=>∃g,aB y P ρ=some g/\QP g|_=>False):=h;split at Q;rename_i P e;obtain⟨g,R,q⟩:=Q;obtain⟨a,W,S',rfl,M,rp,z2⟩:=r.tp I.fh e;obtain⟨o,g1,g2⟩:=tp y (.refl _) rfl (Tn.of_trs rp λb hb=>z b (z2 b hb)) R q;exact⟨W,o,M,g1,g2⟩;exact Q.elim
 |tup W =>
  obtain⟨ds,rfl,rd⟩:=r;cases B with|nm i=>intro p M;refine nm i (NB (I.fh.free M)) (NB M) (λb h1 Q=>?_) (I.newT M (.tup W)) rfl (.d (S:=λ_=>False) (.tup (ED.of YA) (rd.mono (NB (I.fh.free M)))) λ_ z=>z) (λb z=>z.elim) h rfl;by_cases hb:b=p;rw[hb];exact M;rw[vA hb]at Q;exact absurd h1 Q|tp y=>intro X s;obtain⟨g,R,q⟩:=h;exact tp y s rfl (Tn.of_trs (Trs.of_reps (st:=false) rd) λb hb=>hb.elim) R q
def Xb(k:Nat)(S:Ft):Ft:=λi=>if i<k then λ_=>False else S (i - k)
theorem BO:∀(m:List Bool) (ρ:kA) (i:Nat) s,(oC m ρ)[i]?=some (some s)->ρ[i]?=some (some s)/\m.getD i false=false
 |[],ρ,i,s,h=>by
  have e:oC [] ρ=ρ:=by cases ρ<;>rfl
  rw[e]at h;exact⟨h,rfl⟩
 |b::m,[],i,s,h=>by simp[oC]at h|b::m,v::ρ,0,s,h=>by
  cases b with|true=>simp[oC]at h|false=>simp[oC]at h;simp[h]
 |b::m,v::ρ,i+1,s,h=>by simp only[oC,wY]at h;obtain⟨y,x⟩:=BO m ρ i s h;exact⟨by simpa using y,by simpa using x⟩
theorem XO:∀(m:List Bool) (σ:St) (i:Nat) v,σ[i]?=some (some v)->m.getD i false=false->(GC m σ)[i]?=some (some v)
 |[],σ,i,v,h,_=>by
  have e:GC [] σ=σ:=by cases σ<;>rfl
  rw[e];exact h
 |b::m,[],i,v,h,_=>by simp at h|b::m,w::σ,0,v,h,hb=>by
  have:b=false:=by simpa using hb
  subst this;simpa[GC]using h
 |b::m,w::σ,i+1,v,h,hb=>by simp only[GC,wY];exact XO m σ i v (by simpa using h) (by simpa using hb)
theorem UO:∀(m:List Bool) (ρ:kA),(oC m ρ).length=ρ.length
 |[],ρ=>by cases ρ<;>rfl|_::_,[]=>rfl|b::m,v::ρ=>by simp[oC,UO m ρ]
theorem lG{ρ:kA}{i:Nat}{s:Sl}(h:(MN k l ρ)[i]?=some (some s)):k<=i/\ρ[i - k]?=some (some s)/\l.getD (i - k) false=false:=by unfold MN at h;rcases QAx i k with z|z;rw[qR (by simpa using z),wb]at h;split at h<;>cases h;rw[qG (by simpa using z)]at h;simp only[qm]at h;obtain⟨y,x⟩:=BO l ρ _ s h;exact⟨z,y,x⟩
theorem Rl.ent(I:Rl K F H S ρ σ)(k:Nat)(l:List Bool):Rl K F H (Xb k S) (MN k l ρ) (AI k l σ) where
 fh:=I.fh
 len:=by simp[MN,AI,UO,SJ,I.len]
 sl:=λi s h=>by obtain⟨u,z,y⟩:=lG h;obtain⟨v,a,w⟩:=I.sl _ s z;refine⟨v,?_,?_⟩;unfold AI;rw[qG (by simpa using u)];simp only[qm];exact XO l σ _ v a y;unfold Xb;rw[if_neg (by omega)];exact w
 dj:=λi j t s n z y b hb x=>by obtain⟨m,f,_⟩:=lG z;obtain⟨b0,e,_⟩:=lG y;unfold Xb at hb x;rw[if_neg (by omega)]at hb x;exact I.dj (i - k) (j - k) t s (by omega) f e b hb x
theorem sX(b:Addr):¬ U (MN k l (lockA ρ)) S' b:=λ⟨i,t,h,_⟩=>by obtain⟨_,x,_⟩:=lG h;obtain⟨_,_,e⟩:=eB x;cases e
theorem Paired.get_of{α v:Type}{R:α->v->Prop}{xs:List α}{u:List v}(h:Paired R xs u):∀{i:Nat}{x:α},xs[i]?=some x->∃y,u.drop i=y::u.drop (i+1)/\R x y:=by
 induction h with
 |nil=>intro i x e;simp at e|@cons x y xs u h t a =>
  intro i z e;cases i with|zero=>simp at e;subst e;exact⟨y,by simp,h⟩|succ i=>obtain⟨w,f,b⟩:=a (i:=i) (by simpa using e);exact⟨w,by simpa using f,b⟩
structure Pur(F H A X:Hp):Prop where
 ff:Same F A
 hh:Same H X
 fn:∀b,F b=none->A b≠none->H b=none
theorem Pur.trans{u y:Hp}(a:Pur F H D G)(b:Pur D G u y):Pur F H u y:=⟨a.ff.trans b.ff,a.hh.trans b.hh,λx h z=>by by_cases q:D x=none;exact a.hh.free (b.fn x q z);exact a.fn x h q⟩
theorem Pur.ste(p:Pur F H D G):Ste F H S ρ D G S ρ:=⟨⟨p.ff,λb u h _=>p.hh b u h,λb h=>p.hh.free h,λb h z=>.inr (p.fn b h z),λb h=>.inl h,λ_ _ h _=>⟨h,rfl⟩⟩,λ_ t h=>⟨t,h⟩⟩
theorem Pur.rl(p:Pur F H D G)(f:Same D G)(I:Rl K F H S ρ σ):Rl K D G S ρ σ:=⟨f,I.len,λi s e=>by
 obtain⟨v,y,h⟩:=I.sl i s e;exact⟨v,y,h.mono p.ff λb hb=>by
  obtain⟨x,z⟩:=h.dom b hb;refine⟨?_,?_⟩;cases e:H b with|none=>exact absurd e x|some u=>exact p.hh b u e
  by_cases q:D b=none
  ·exact q
  exact absurd (p.fn b z q) x⟩,I.dj⟩
theorem Stp.pur(s:Stp F H S ρ D G S' g)(n:∀b,¬ U ρ S b):Pur F H D G:=⟨s.ff,λb u h=>s.hh b u h (n b),λb h z=>(s.fn b h z).elim (λq=>absurd q (n b)) id⟩
theorem Pur.trs(p:Pur F H D G){v:LV}{t:LT}(h:Trs K F H st v t Z):Trs K D G st v t Z:=h.mono p.ff λb hb=>by
  obtain⟨x,y⟩:=h.dom b hb;refine⟨?_,?_⟩;cases e:H b with|none=>exact absurd e x|some u=>exact p.hh b u e
  by_cases q:D b=none
  ·exact q
  exact absurd (p.fn b y q) x
theorem C6{ws:LN}{N:Nat}{c:kA->(Bool->kA->Prop)->Prop}{e:kA->TK->Prop}{tc:TT}{te:TE}{us:LN}
  (ic:∀{F H:Hp}{S:Ft}{ρ:kA}{σ:St}{Q:Bool->kA->Prop}{R:Bool->Hp->Prop},Rl K F H S ρ σ->c ρ Q->sH K F H S ρ σ Q R->tc σ H R)
  (ie:∀{F H:Hp}{S:Ft}{ρ:kA}{σ:St}{Q:TK}{R:VK},Rl K F H S ρ σ->e ρ Q->xB K us F H S ρ σ Q R->te σ H R)
  {F0 H0:Hp}{S0:Ft}{P:kA}(s:Ste F0 H0 S0 P F H S ρ) (I:Rl K F H S ρ σ) {xs:List Item}{M:LT}{st:Hp->Prop}(pr:Paired (CZ K F H Y) xs M) (hyd:∀b,Y b->H b≠none/\F b=none) (hst:∀A X,Same F A->Same A X->(∀b,Y b->X b=H b)->st X) {Q:TK}{R:VK}
  (h:JD (nG B (MN N l (lockA ρ)) c e) M [] λM=>Q (.lst M) true ρ) (k:xB K ws F0 H0 S0 P σ Q R) :
  OX K xs st B tc te (AI N l σ) H R:=by
 refine D6 ?_;have len:=qH pr;have yk:∀{A X:Hp},Pur F H A X->∀b,Y b->X b=H b/\A b=none:=λ{A X} p b hb=>by
  obtain⟨d1,d2⟩:=hyd b hb;refine⟨?_,?_⟩;cases e:H b with|none=>exact absurd e d1|some u=>exact p.hh b u e
  by_cases q:A b=none
  ·exact q
  exact absurd (p.fn b d2 q) d1
 refine⟨λi m X=>∃A w W,Pur F H A X/\Same A X/\Trs K A X true m w W/\(∀b,W b->H b=none)/\JD (nG B (MN N l (lockA ρ)) c e) (M.drop i) w λM=>Q (.lst M) true ρ,
  ⟨F,[],λ_=>False,⟨.refl _,.refl _,λb h z=>absurd h z⟩,I.fh,.nil λ_ z=>z,λ_ z=>z.elim,by simpa using h⟩,?_,?_,?_⟩
 rintro i m X _ ⟨A,w,W,p,f,_,_,_⟩;exact hst A X p.ff f λb hb=>(yk p b hb).1;rintro i x m G hx ⟨D,w,W,p1,f1,J,hw,hc⟩;obtain⟨y,hd,ry⟩:=Paired.get_of pr hx;rw[hd]at hc;unfold JD at hc;unfold nG at hc;have I1:Rl K D G (Xb N S) (MN N l (lockA ρ)) (AI N l σ):=((p1.rl f1 I).lockA).ent N l;refine jN I1 (λb _=>sX b) (ry.mono p1.ff (yk p1)) hc λρ2 σ2 F2 H2 S2 O I2 hc=>?_;have p2:Pur D G F2 H2:=⟨O.ff,O.hh,O.fn⟩
 have nu2:∀b,¬ U ρ2 S2 b:=λb u=>sX b (O.U u);refine ic I2 hc λb F3 H3 S3 ρ3 s3 I3 q=>?_;have p3:Pur F2 H2 F3 H3:=s3.toStp.pur nu2;have nu3:∀b,¬ U ρ3 S3 b:=λb ⟨j,t,h1,_⟩=>by obtain⟨t0,h0⟩:=s3.ow j t h1;by_cases hj:j∈B.ix;exact O.inn j t0 hj h0;rw[(O.out j hj).1]at h0;obtain⟨_,h1,_⟩:=lG h0;obtain⟨_,_,e⟩:=eB h1;cases e
 have a:=p1.trans (p2.trans p3);cases b with
 |false=>exact⟨F3,w,W,a,I3.fh,p3.trs (p2.trs J),hw,q⟩|true =>
  refine ie I3 q λv F4 H4 S4 ρ4 z n Z s4 I4 r4 ⟨hk,hl,hc⟩=>?_;have p4:Pur F3 H3 F4 H4:=s4.toStp.pur nu3;have ra4:=p4.trs (p3.trs (p2.trs J));have rz:∃Z',Tr K F4 H4 true v z Z'/\∀b,Z' b->H3 b=none:=by
   cases n with
   |true=>exact⟨Z,r4.tr,λb hb=>(r4.fr rfl b hb).elim id λu=>absurd u (nu3 b)⟩|false =>
    cases z with
    |d x =>
     have tr:=r4.tr;cases tr with|d r n=>exact⟨λ_=>False,.d r λ_ z=>z,λ_ z=>z.elim⟩
    |_=>exact absurd hk (by simp[lH,T.isD])
  obtain⟨Z',rz,fz⟩:=rz;refine⟨by rw[J.length];exact hl,F4,_,λb=>W b∨Z' b,a.trans p4,I4.fh,ra4.append (Trs.one rz) λb hb hz=>?_,λb hb=>?_,hc⟩;have q1:=(J.dom b hb).1;exact q1 ((p2.trans p3).hh.free (fz b hz));rcases hb with hb|hb
  ·exact hw b hb
  exact a.hh.free (fz b hb)
 rintro m X ⟨A,w,W,p,f,J,hw,hc⟩;rw[len,List.drop_length]at hc;unfold JD at hc;have I':=p.rl f I;refine⟨by rw[J.length];exact hc.1,λq hq=>?_⟩;refine xB.list (k.from s) (p.ste) I' hq J (λb hb=>.inl (hw b hb)) ⟨J.dom,λi sl hi b hb z=>?_⟩ hc.2;exact(I.dom hi z).1 (hw b hb)
end
end
section
variable{K:QA}{Γ:Ev}{Ψ:PEv}{E:XE}{p:XK}{F H l c:Hp}{S S1:Ft}{ρ y:kA}{σ:St}
theorem Tr.xy{v:V}{u t:T}{Z:cB}(h:Tr K F H false v u Z)(e:oE u=some t):Tr K F H false v t Z:=by
 unfold oE at e;split at e;rename_i ts ev;cases x:vH ts with
 |none=>rw[x]at e;cases e|some f =>
  rw[x]at e;injection e with e;subst e;cases h with
  |d r n =>
   cases r with|lst q r=>injection ev with ev;subst ev;rw[VA]at x;injection x with x;subst x;exact .lstF q r n|dct _ _ _=>exact(iH ev).elim|_=>cases ev
  |lst k w z b a=>injection ev with ev;subst ev;show Tr K F H false _ (.lst (f.map T.d)) Z;rw[<- BL x];exact .lst k w z b a|tup=>cases ev|dct=>cases ev|lstF k w z=>injection ev with ev;subst ev;rw[VA]at x;injection x with x;subst x;exact .lstF k w z
 split at e
 ·injection e with e;subst e;exact h
 cases e
theorem AV.pass{Y:cB}{md:List Md}{vs:LV}{xs:List (T×Bool)}{W:cB}(h:AV K F H md vs xs W Y)(e:Same F l)(k:∀b,W b->l b=H b)(G:∀b,Y b->F b=none->l b=none) :
  ∀{g ts:LT},XA md xs g=some ts->ArgsR K l H Y md vs ts/\HB md ts=g:=by
 induction h with
 |nil h =>
  intro g ts w;cases g with|nil=>simp only[XA,Qk]at w;subst w;exact⟨.nil,rfl⟩|cons _ _=>simp[XA]at w
 |@chg md v vs x xs W Y h t C =>
  intro g ts w;have f:md.headD .xx=.chg:=by generalize md.headD .xx=m at h;cases m<;>first|rfl|cases h
  unfold XA at w;rw[f]at w;cases g with
  |nil=>cases w|cons o g =>
   cases a:XA md.tail xs g with|none=>simp only[a,wV]at w;cases w|some B=>simp only[a,Q2,Qk]at w;subst w;obtain⟨s,j⟩:=C k G a;refine⟨.chg f s,?_⟩;unfold HB;rw[f];simp only[j]
 |@new md v vs x xs Z W J Y h r t n q C =>
  intro g ts w;have X:Tr K l H false v (.d x.er) (λ_=>False):=.d (r.kept e λb u hb I=>by rw[k b ((q b).mpr (.inl hb))];exact I) λ_ z=>z;have i:=@C (λb hb=>k b ((q b).mpr (.inr hb))) G;unfold XA at w;cases f:md.headD .xx with
  |chg=>rw[f]at h;cases h|xx =>
   simp only[f,pA]at w;cases a:XA md.tail xs g with|none=>simp only[a,wV]at w;cases w|some B=>simp only[a,Q2,Qk]at w;subst w;obtain⟨s,j⟩:=i a;exact⟨.rd (by rw[f];simp) X (λ_ z=>z.elim) s,by unfold HB;rw[f];exact j⟩
  |xy =>
   simp only[f,pA]at w;cases A:oE (.d x.er) with
   |none=>simp only[A]at w;cases w|some u =>
    simp only[A]at w;cases a:XA md.tail xs g with|none=>simp only[a,wV]at w;cases w|some B=>simp only[a,Q2,Qk]at w;subst w;obtain⟨s,j⟩:=i a;exact⟨.rd (by rw[f];simp) (X.xy A) (λ_ z=>z.elim) s,by unfold HB;rw[f];exact j⟩
  |ky =>
   simp only[f,pA]at w;cases a:XA md.tail xs g with|none=>simp only[a,wV]at w;cases w|some B=>simp only[a,Q2,Qk]at w;subst w;obtain⟨s,j⟩:=i a;exact⟨.rd (by rw[f];simp) X (λ_ z=>z.elim) s,by unfold HB;rw[f];exact j⟩
 |@tmp md v vs x xs Z W Y h r z t C =>
  intro g ts w;have X:Tr K l H false v x Z:=r.mono e λb hb=>⟨rfl,G b (z b hb) (r.dom b hb).2⟩
  have i:=@C k G;unfold XA at w;cases f:md.headD .xx with
  |chg=>rw[f]at h;cases h|xx =>
   simp only[f,pA]at w;cases x with
   |d x =>
    cases a:XA md.tail xs g with|none=>simp only[a,wV]at w;cases w|some B=>simp only[a,Q2,Qk]at w;subst w;obtain⟨s,j⟩:=i a;exact⟨.rd (by rw[f];simp) X z s,by unfold HB;rw[f];exact j⟩
   |_=>cases w
  |xy =>
   simp only[f,pA]at w;cases A:oE x with
   |none=>simp only[A]at w;cases w|some u =>
    simp only[A]at w;cases a:XA md.tail xs g with|none=>simp only[a,wV]at w;cases w|some B=>simp only[a,Q2,Qk]at w;subst w;obtain⟨s,j⟩:=i a;exact⟨.rd (by rw[f];simp) (X.xy A) z s,by unfold HB;rw[f];exact j⟩
  |ky =>
   simp only[f,pA]at w;cases a:XA md.tail xs g with|none=>simp only[a,wV]at w;cases w|some B=>simp only[a,Q2,Qk]at w;subst w;obtain⟨s,j⟩:=i a;exact⟨.rd (by rw[f];simp) X z s,by unfold HB;rw[f];exact j⟩
theorem lD:∀(J:LN) (ρ:kA) (i:Nat) s,(clear J ρ)[i]?=some (some s)->i∉J/\ρ[i]?=some (some s)
 |[],ρ,i,s,h=>⟨(by simp),h⟩|j::J,ρ,i,s,h=>by
  unfold clear at h;obtain⟨u,z⟩:=lD J _ i s h;rcases dA z with⟨_,e,_⟩| ⟨n,x⟩
  cases e;exact⟨λm=>(QL.mp m).elim (λe=>n e.symm) u,x⟩
theorem MO:∀(J:LN) (ρ:kA),(clear J ρ).length=ρ.length
 |[],_=>rfl|j::J,ρ=>by unfold clear;rw[MO J];simp
theorem Rl.drop(I:Rl K F H S ρ σ)(hl:y.length=ρ.length)(h:∀(i:Nat) s,y[i]?=some (some s)->ρ[i]?=some (some s)):Rl K F H S y σ :=
 ⟨I.fh,hl.trans I.len,λi s e=>I.sl i s (h i s e),λi j t s n z x=>I.dj i j t s n (h i _ z) (h j _ x)⟩
theorem MD:∀{J:LN}{ρ:kA}{x:LT},DA J ρ=some x->x.length=J.length/\∀(i:Nat) j,J[i]?=some j->∃t,x[i]?=some t/\ρ[j]?=some (some (.own t))
 |[],ρ,x,h=>by simp only[DA,Qk]at h;subst h;exact⟨rfl,λi j e=>by simp at e⟩|j::J,ρ,x,h=>by
  unfold DA at h;split at h;rename_i t e;cases z:DA J ρ with
  |none=>rw[z]at h;cases h|some f =>
   rw[z]at h;injection h with h;subst h;obtain⟨w,v⟩:=MD z;refine⟨by simp[w],λi k hk=>?_⟩;cases i with|zero=>simp at hk;subst hk;exact⟨t,rfl,e⟩|succ i=>obtain⟨u,b,a⟩:=v i k (by simpa using hk);exact⟨u,by simpa using b,a⟩
  cases h
theorem Rl.trs(I:Rl K F H S ρ σ):∀{J:LN}{w:LT}{vs:LV},J.Nodup->DA J ρ=some w->vs.map (λv=>some (some v))=J.map (λj=>σ[j]?)->Trs K F H true vs w (λb=>∃j∈J,S j b)
 |[],w,vs,_,h,hv=>by
  simp only[DA,Qk]at h;subst h;cases vs with|nil=>exact .nil λb ⟨j,m,_⟩=>by simp at m|cons _ _=>simp at hv
 |j::J,w,vs,nd,h,hv=>by
  unfold DA at h;split at h;rename_i t e;cases a:DA J ρ with
  |none=>rw[a]at h;cases h|some r =>
   rw[a]at h;injection h with h;subst h;cases vs with
   |nil=>simp at hv|cons v vs =>
    simp only[QV,W4]at hv;obtain⟨f,q,o⟩:=I.sl j _ e;rw[q]at hv;have:v=f:=by simpa using hv.1
    subst this;have x:=Qi.mp nd;refine .cons o (Rl.trs I x.2 a hv.2) (λb hb ⟨k,hk,z⟩=>?_) λb=>?_;obtain⟨i,n⟩:=Wj.mp hk;obtain⟨u,_,g⟩:=(MD a).2 i k n;exact I.dj j k t _ (λz=>x.1 (z▸hk)) e g b hb z;constructor
    ·rintro⟨k,hk,z⟩
     rcases QL.mp hk with e|e;subst e;exact .inl z;exact .inr ⟨k,e,z⟩
    rintro(z|⟨k,hk,z⟩)
    ·exact⟨j,QD,z⟩
    exact⟨k,QE _ hk,z⟩
  cases h
theorem Rl.setO(I:Rl K F H S ρ σ)(i:Nat){v:V}{t:T}{Z:cB}(hv:σ[i]?=some (some v))(r:Tr K F H true v t Z)(w:∀(j:Nat) s,j≠i->ρ[j]?=some (some s)->∀b,Z b->¬ S j b):Rl K F H (JH S i Z) (ρ.set i (some (.own t))) σ where
 fh:=I.fh
 len:=by simpa using I.len
 sl:=λj s h=>by
  rcases dA h with⟨rfl,e,hl⟩| ⟨g,h⟩
  cases e;exact⟨v,hv,by rw[SA];exact r⟩;rw[ZA (Q9 g)];exact I.sl j s h
 dj:=λj k a s n u x b hb hk=>by
  rcases dA u with⟨e,_,_⟩| ⟨f,u⟩
  subst e;rw[SA]at hb;rcases dA x with⟨e,_,_⟩| ⟨z,x⟩
  exact n e;rw[ZA (Q9 z)]at hk;exact w k s (Q9 z) x b hb hk;rw[ZA (Q9 f)]at hb;rcases dA x with⟨e,_,_⟩| ⟨z,x⟩
  subst e;rw[SA]at hk;exact w j _ n u b hk hb;rw[ZA (Q9 z)]at hk;exact I.dj j k a s n u x b hb hk
theorem jM:∀{J:LN}{w:LT}{vs:LV}{M:cB}{S1:Ft}{y x:kA},J.Nodup->Rl K F H S1 y σ->Trs K F H true vs w M->vs.map (λv=>some (some v))=J.map (λj=>σ[j]?)->Held F H S1 y M->xC J w y=some x ->
  ∃f,Rl K F H f x σ/\(∀i,i∉J->x[i]?=y[i]?/\f i=S1 i)/\∀i∈J,∀s,x[i]?=some (some s)->(∃t,s=.own t)/\∀b,f i b->M b
 |[],w,vs,M,S1,y,x,nd,I,r,hv,hm,h=>by
  cases w with|nil=>simp only[xC,Qk]at h;subst h;exact⟨S1,I,λ_ _=>⟨rfl,rfl⟩,λi u=>by simp at u⟩|cons _ _=>simp[xC]at h
 |j::J,w,vs,M,S1,y,x,nd,I,r,hv,hm,h=>by
  cases r with
  |nil _=>simp[xC]at h|@cons _ v t vs ts _ Z Q G C n q =>
   simp only[xC]at h;simp only[QV,W4]at hv;have a:=Qi.mp nd;have R:=I.setO j hv.1.symm G λk s _ hk b hb=>hm.nw k s hk b ((q b).mpr (.inl hb));have W:Held F H (JH S1 j Z) (y.set j (some (.own t))) Q:=⟨λb hb=>hm.dom b ((q b).mpr (.inr hb)),λi s u b hb z=>by
    rcases dA u with⟨rfl,_,_⟩| ⟨X,u⟩
    rw[SA]at z;exact n b z hb;rw[ZA (Q9 X)]at z;exact hm.nw i s u b ((q b).mpr (.inr hb)) z⟩
   obtain⟨f,P,B,O⟩:=jM a.2 R C hv.2 W h;refine⟨f,P,λi u=>?_,λi u s Y=>?_⟩;have A:j≠i:=λe=>u (e▸QD);obtain⟨o,g⟩:=B i λm=>u (QE _ m);rw[yE A]at o;rw[ZA (Q9 A)]at g;exact⟨o,g⟩;rcases QL.mp u with e|e
   ·subst e
    obtain⟨o,g⟩:=B i a.1;rw[o]at Y;rcases dA Y with⟨_,e,_⟩| ⟨X,_⟩
    injection e with e;refine⟨⟨t,e⟩,λb hb=>?_⟩;rw[g,SA]at hb;exact(q b).mpr (.inl hb);exact absurd rfl X
   obtain⟨N,L⟩:=O i e s Y;exact⟨N,λb hb=>(q b).mpr (.inr (L b hb))⟩
theorem Ob{f:Str}{as:PX}(g:GOk K Γ Ψ)(ia:PSnd K Γ Ψ as)(I:Rl K F H S ρ σ)(X:ME K F H S ρ E p){Q:TK}{R:VK}{ws:LN}(h:(pe Ψ (.call f as) E).e ρ Q)(k:xB K ws F H S ρ σ Q R):(wp K Γ (.call f as) p).e σ H R:=by
 obtain⟨os,ho,nd,h⟩:=h;generalize hJ:xA (Ψ.sp f).md as=J at ho nd h;have C:∀j∈J,∃t,ρ[j]?=some (some (.own t)):=λj A=>by obtain⟨i,hi⟩:=Wj.mp A;obtain⟨t,_,e⟩:=(MD ho).2 i j hi;exact⟨t,e⟩
 have I0:Rl K F H S (clear J ρ) σ:=I.drop (MO J ρ) λi s e=>(lD J ρ i s e).2;have P:∀b,U (clear J ρ) S b->U ρ S b:=λb ⟨i,t,h1,O⟩=>⟨i,t,(lD J ρ i _ h1).2,O⟩
 have X0:ME K F H S (clear J ρ) E p:=λx dx F2 H2 S2 L m ff r q=>X x dx F2 H2 (λ_ _=>False) [] ⟨m.ff,λb u e n=>m.hh b u e λz=>n (P b z),m.dm,λb e z=>(m.fn b e z).imp (P b) id,λb ⟨i,t,e,_⟩=>by simp at e,λj t e=>by simp at e⟩ ff r q;have hm:∀j∈xA (Ψ.sp f).md as,∃v,σ[j]?=some (some v):=λj A=>by obtain⟨t,e⟩:=C j (hJ▸A);obtain⟨v,h1,_⟩:=I.sl j _ e;exact⟨v,h1⟩
 show(wp K Γ as p).a σ H λvs c=>Γ.sp f vs c R p;refine ia.a I0 X0 hm h λvs l c S1 y xs W Y s1 I1 r1 mv q1=>?_;rw[hJ]at mv;obtain⟨ts,hp,q1⟩:=q1;have hw:=r1.held;have m:=s1.frz (λb hb=>(hw.dom b hb).2) r1.fr;have I2:=I1.frz hw;have yk:∀b,Y b->l b=none->NI l c W b=none:=λb hy hf=>by obtain⟨i,sl,_,O,h3⟩:=r1.tm b hy;rw[gC λz=>r1.nw i sl O b z h3];exact hf
 obtain⟨ar,mt⟩:=r1.av.pass (AG λb hb=>(hw.dom b hb).2) (λb hb=>MI hb) yk hp;generalize NI l c W=F2 at m I2 yk ar;have M0:=I.trs nd ho mv;have hM:Held F H S (clear J ρ) (λb=>∃j∈J,S j b):=⟨λb ⟨j,A,hb⟩=>let⟨t,e⟩:=C j A;I.dom e hb,λi s e b ⟨j,A,hb⟩ z=>by obtain⟨G,B⟩:=lD J ρ i s e;obtain⟨t,et⟩:=C j A;exact I.dj j i t s (λq=>G (q▸A)) et B b hb z⟩
 have N:=hM.step m.toStp I2;have M2:Trs K F2 c true (oB (Ψ.sp f).md vs) (HB (Ψ.sp f).md ts) (λb=>∃j∈J,S j b):=by
  rw[mt];refine M0.mono m.ff λb hb=>?_;refine⟨?_,(N.dom b hb).2⟩;cases e:H b with|none=>exact absurd e (hM.dom b hb).1|some u=>exact m.hh b u e (hM.nu b hb)
 refine g.sp f vs c R p ⟨F2,ts,_,Y,I2.fh,ar,M2,λb hy hb=>?_,?_⟩;obtain⟨i,sl,_,O,h3⟩:=r1.tm b hy;exact N.nw i sl O b hb h3
 ·have up:∀b,(∃j∈J,S j b)->U ρ S b:=λb ⟨j,A,hb⟩=>let⟨t,e⟩:=C j A;⟨j,t,e,hb⟩
  have lk:∀b,(∃j∈J,S j b)∨c b=none->U ρ S b∨H b=none:=λb hb=>hb.imp (up b) (m.dm b);refine(Ψ.sp f).mono ?_ ?_ q1
  rotate_left
  rintro x qx dx F' H' o xr;refine X x dx F' H' (λ_ _=>False) [] ⟨m.ff.trans o.ff,λb u e n=>o.hh b u (m.hh b u e λz=>n (P b z)) λz=>n (up b z),λb e=>m.dm b (o.dm b e),λb e z=>?_,λb ⟨i,t,e,_⟩=>by simp at e,λj t e=>by simp at e⟩ o.fh xr qx;by_cases q:F2 b=none;exact lk b (o.fn b q z);exact(m.fn b e q).imp (P b) id;rintro r os' ⟨L,hput,q⟩ v F' H' Z M' o tr trs dz hf;have I3:Rl K F' H' S1 y σ:=⟨o.fh,I2.len,λi s e=>by
   obtain⟨w,g1,g2⟩:=I2.sl i s e;refine⟨w,g1,g2.mono o.ff λb hb=>?_⟩;obtain⟨d1,d2⟩:=g2.dom b hb;have nM:¬ ∃j∈J,S j b:=λz=>N.nw i s e b z hb;refine⟨?_,?_⟩;cases e:c b with|none=>exact absurd e d1|some u=>exact o.hh b u e nM
   by_cases z:F' b=none
   ·exact z
   exact((o.fn b d2 z).elim nM d1).elim,I2.dj⟩
  have nw3:∀b,(∃j∈J,S j b)∨c b=none->∀(i:Nat) s,y[i]?=some (some s)->¬ S1 i b:=λb hb i s e z=>by rcases hb with hb|hb;exact N.nw i s e b hb z;exact(I2.dom e z).1 hb
  have hM':Held F' H' S1 y M':=⟨trs.dom,λi s e b hb=>nw3 b (hf b (.inr hb)) i s e⟩
  obtain⟨S2,I4,g2,g3⟩:=jM nd I3 trs mv hM' hput;have M:∀i s,L[i]?=some (some s)->(i∈J/\(∃t,s=.own t)/\∀b,S2 i b->M' b)∨(i∉J/\y[i]?=some (some s)/\S2 i=S1 i):=λi s e=>by by_cases hi:i∈J;exact .inl ⟨hi,g3 i hi s e⟩;obtain⟨G,B⟩:=g2 i hi;exact .inr ⟨hi,G▸e,B⟩
  have st:Ste F H S ρ F' H' S2 L:=⟨⟨m.ff.trans o.ff,λb u e n=>o.hh b u (m.hh b u e λz=>n (P b z)) λz=>n (up b z),λb e=>m.dm b (o.dm b e),λb e z=>by
    by_cases q:F2 b=none;exact lk b (o.fn b q z);exact(m.fn b e q).imp (P b) id,
   λb ⟨i,t,h1,O⟩=>by
    rcases M i _ h1 with⟨_,_,e⟩| ⟨_,G,B⟩
    exact lk b (hf b (.inr (e b O)));rw[B]at O;exact(m.uu b ⟨i,t,G,O⟩).imp (P b) id,
   λj t e hd=>by
    rcases M j _ e with⟨_,⟨t',z⟩,_⟩| ⟨_,G,B⟩
    cases z;obtain⟨b1,b2⟩:=m.bo j t G hd;exact⟨(lD J ρ j _ b1).2,B.trans b2⟩⟩,
   λj t e=>by
    rcases M j _ e with⟨A,_,_⟩| ⟨_,G,B⟩
    exact C j A;obtain⟨t0,e0⟩:=m.ow j t G;exact⟨t0,(lD J ρ j _ e0).2⟩⟩
  refine k v F' H' S2 L r true Z st I4 ⟨tr,λ_ b hb=>?_,λz=>(by cases z),λ_ i s e b hb z=>?_⟩ q;exact(lk b (hf b (.inl hb))).symm;rcases M i s e with⟨_,_,B⟩| ⟨_,G,B⟩
  ·exact dz b hb (B b z)
  rw[B]at z;exact nw3 b (hf b (.inl hb)) i s G z
end
section
variable{K:QA}{Γ:Ev}{Ψ:PEv}{E:XE}{O:XK}{F H F1 H1:Hp}{S S1:Ft}{ρ Q:kA}{σ:St}
section
variable{j i:Nat}{t s:T}{b:Bool}{G C:Hp}{B:Ft}{Y:kA}{W P Z:cB}{vs L:LV}{ts us:LT}{a:Addr}{M o:HO}{v A J:V}{x y:D}{ks:List D}{R:Hp->Prop}{N:T->Prop}
theorem bC(z:ρ[j]?=some (some (.own t))){s:Sl}(h:(ρ.set j (some (.ky t)))[i]?=some (some s)):(i=j/\s=.ky t)∨(i≠j/\ρ[i]?=some (some s)):=by
 rcases dA h with⟨rfl,e,_⟩| ⟨n,h⟩
 injection e with e;exact .inl ⟨rfl,e⟩;exact .inr ⟨Q9 n,h⟩
theorem Rl.lock1(I:Rl K F H S ρ σ)(h:ρ[j]?=some (some (.own t))):Rl K F H S (ρ.set j (some (.ky t))) σ where
 fh:=I.fh
 len:=by simpa using I.len
 sl:=λi s e=>by
  rcases bC h e with⟨rfl,rfl⟩| ⟨_,e⟩
  obtain⟨v,g,f⟩:=I.sl i _ h;exact⟨v,g,f.weak⟩;exact I.sl i s e
 dj:=λi k u s n p m=>by
  rcases bC h p with⟨_,z⟩| ⟨r,w⟩
  cases z;rcases bC h m with⟨q,_⟩| ⟨_,l⟩
  ·exact I.dj i k u _ n w (q▸h)
  exact I.dj i k u s n w l
theorem Rl.lock1U(I:Rl K F H S ρ σ)(w:ρ[j]?=some (some (.own t)))(b:Addr)(hb:S j b):¬ U (ρ.set j (some (.ky t))) S b:=λ⟨i,u,h,k⟩=>by
 rcases bC w h with⟨_,z⟩| ⟨n,h⟩
 cases z;exact I.dj i j u _ n h w b k hb
theorem lock1U(k:ρ[j]?=some (some (.own t))){b:Addr}(h:U (ρ.set j (some (.ky t))) S b):U ρ S b:=by
 obtain⟨i,u,w,e⟩:=h;rcases bC k w with⟨_,z⟩| ⟨n,w⟩
 cases z;exact⟨i,u,w,e⟩
theorem ME.lock1(X:ME K F H S ρ E O)(w:ρ[j]?=some (some (.own t))):ME K F H S (ρ.set j (some (.ky t))) E O:=λx k G C B Y h f r q =>
 X x k G C (λ_ _=>False) [] ⟨h.ff,λb u e n=>h.hh b u e λz=>n (lock1U w z),h.dm,λb e z=>(h.fn b e z).imp (lock1U w) id,λb ⟨i,t,e,_⟩=>by simp at e,λj t e=>by simp at e⟩ f r q
theorem oS(I:Rl K F H S ρ σ)(h:ρ[j]?=some (some (.own t)))(s:Ste F H S (ρ.set j (some (.ky t))) G C B Y)(l:Rl K G C B Y σ){b:Addr}(hb:S j b) :
  ∀(i:Nat) w,i≠j->Y[i]?=some (some w)->¬ B i b:=λi w n e z=>by
 cases w with
 |own u=>rcases s.uu b ⟨i,u,e,z⟩ with q|q;exact I.lock1U h b hb q;exact(I.dom h hb).1 q
 |ky u =>
  cases f:u.isD with
  |true=>exact l.isD e f z|false =>
   obtain⟨k,g⟩:=s.bo i u e f;rw[g]at z;rcases bC h k with⟨q,_⟩| ⟨_,k⟩
   exact n q;exact I.dj j i t _ (Q9 n) h k b hb z
theorem oI{t':T}{v0:V}{m:Hp}{Z':cB}(I:Rl K F H S ρ σ)(w:ρ[j]?=some (some (.own t)))(hv:σ[j]?=some (some v0))(s:Ste F H S (ρ.set j (some (.ky t))) G C B Y)(l:Rl K G C B Y σ)
  (hH:∀b u,C b=some u->¬ S j b->m b=some u) (dm:∀b,m b=none->C b=none) (r:Tr K G m true v0 t' Z') (hz:∀b,Z' b->S j b∨W b∨C b=none) (hw:Held G C B Y W) (frW:∀b,W b->H b=none∨U (ρ.set j (some (.ky t))) S b) :
  Ste F H S ρ G m (JH B j Z') (Y.set j (some (.own t')))/\Rl K G m (JH B j Z') (Y.set j (some (.own t'))) σ/\∀b,S j b∨W b∨C b=none->∀(i:Nat) h,i≠j->Y[i]?=some (some h)->¬ B i b:=by
 have nw:∀b,S j b∨W b∨C b=none->∀(i:Nat) h,i≠j->Y[i]?=some (some h)->¬ B i b:=λb hb i h n e z=>by rcases hb with hb|hb|hb;exact oS I w s l hb i h n e z;exact hw.nw i h e b hb z;exact(l.dom e z).1 hb
 have uj:∀b,S j b->U ρ S b:=λb hb=>⟨j,t,w,hb⟩
 have lk:∀b,S j b∨W b∨C b=none->U ρ S b∨H b=none:=λb hb=>by rcases hb with hb|hb|hb;exact .inl (uj b hb);exact(frW b hb).symm.imp (lock1U w) id;exact .inr (s.dm b hb)
 have fS:∀b,S j b->G b=none:=λb hb=>by
  by_cases q:G b=none;exact q;rcases s.fn b (I.dom w hb).2 q with z|z
  ·exact absurd z (I.lock1U w b hb)
  exact absurd z (I.dom w hb).1
 have fh:Same G m:=λb u e=>hH b u (l.fh b u e) λz=>by rw[fS b z]at e;cases e
 have I3:Rl K G m B (Y.set j none) σ:=⟨fh,by simpa using l.len,λi h e=>by
   rcases dA e with⟨_,z,_⟩| ⟨n,e⟩
   cases z;obtain⟨v,p,f⟩:=l.sl i h e;refine⟨v,p,f.mono (.refl _) λb hb=>⟨?_,(f.dom b hb).2⟩⟩;cases eb:C b with|none=>exact absurd eb (f.dom b hb).1|some u=>exact hH b u eb λz=>oS I w s l z i h (Q9 n) e hb,
  λi k u h n g X=>by
   rcases dA g with⟨_,z,_⟩| ⟨_,g⟩
   cases z;rcases dA X with⟨_,z,_⟩| ⟨_,X⟩
   ·cases z
   exact l.dj i k u h n g X⟩
 have I4:=I3.setO j hv r λi h n e b hb=>by
  rcases dA e with⟨_,z,_⟩| ⟨_,e⟩
  cases z;exact nw b (hz b hb) i h n e
 have es:(Y.set j none).set j (some (.own t'))=Y.set j (some (.own t')):=by simp
 rw[es]at I4;refine⟨⟨⟨s.ff,λb u e n=>hH b u (s.hh b u e λz=>n (lock1U w z)) λz=>n (uj b z),λb e=>s.dm b (dm b e),λb e z=>(s.fn b e z).imp (lock1U w) id,λb ⟨i,u,p,f⟩=>?_,λi u e hd=>?_⟩,λi u e=>?_⟩,I4,nw⟩;rcases dA p with⟨rfl,_,_⟩| ⟨n,p⟩
 ·rw[SA]at f
  exact lk b (hz b f)
 rw[ZA (Q9 n)]at f;exact(s.uu b ⟨i,u,p,f⟩).imp (lock1U w) id;rcases dA e with⟨rfl,z,_⟩| ⟨n,e⟩
 ·cases z
 obtain⟨g,X⟩:=s.bo i u e hd;rcases bC w g with⟨z,_⟩| ⟨_,g⟩
 exact absurd z.symm n;exact⟨g,by rw[ZA (Q9 n)];exact X⟩;rcases dA e with⟨rfl,_,_⟩| ⟨n,e⟩
 ·exact⟨t,w⟩
 obtain⟨t0,e0⟩:=s.ow i u e;rcases bC w e0 with⟨_,z⟩| ⟨_,e0⟩
 cases z;exact⟨t0,e0⟩
theorem Trs.erase{st:Bool}{S:cB}{k:Nat}(h:Trs K F H st vs ts S)(e:ts[k]?=some t):∃v P1 u,vs[k]?=some v/\Tr K F H st v t P1/\Trs K F H st (vs.eraseIdx k) (ts.eraseIdx k) u/\(∀b,P1 b->¬ u b)/\∀b,P1 b∨u b->S b:=by
 revert k;refine Trs.ind (R:=λst vs ts S=>∀{k:Nat},ts[k]?=some t->∃v P1 u,vs[k]?=some v/\Tr K F H st v t P1/\Trs K F H st (vs.eraseIdx k) (ts.eraseIdx k) u/\(∀b,P1 b->¬ u b)/\∀b,P1 b∨u b->S b) (λn k e=>by cases e) (λ{_ _ _ _ _ _ r _} h t n q f k e=>?_) h;cases k with|zero=>cases e;exact⟨_,_,_,rfl,h,t,n,λb hb=>(q b).mpr hb⟩|succ k=>obtain⟨v,P1,u,p,m,l,g,w⟩:=f (k:=k) e;refine⟨v,P1,λb=>r b∨u b,p,m,.cons h l (λb hb z=>n b hb (w b (.inr z))) λb=>wo,λb hb z=>z.elim (λz=>n b z (w b (.inl hb))) (g b hb),λb hb=>(q b).mpr ?_⟩;rcases hb with hb|hb|hb;exact .inr (w b (.inl hb));exact .inl hb;exact .inr (w b (.inr hb))
theorem ZI{α:Type}:∀{l:List α}{k:α},l.Nodup->¬ k∈l->(l++[k]).Nodup
 |[],k,_,_=>by simp|a::r,k,h,hk=>by obtain⟨u,z⟩:=Qi.mp h;show(a::(r++[k])).Nodup;refine Qi.mpr ⟨λm=>?_,ZI z λm=>hk (QL.mpr (Or.inr m))⟩;rcases Qf.mp m with q|q;exact u q;exact hk (QL.mpr (Or.inl (QJ.mp q).symm))
theorem cL(h:F a=none)(r:Trs K F H true L us P)(n:¬ P a):Tr K F (CA H a (.lst L)) true (.ref a) (.lst us) λb=>b=a∨P b :=
 .lst (S':=P) YA h (r.mono (.refl _) λb hb=>⟨vA λz=>n (z▸hb),(r.dom b hb).2⟩) n λb=>wo
theorem cD(w:Z a)(b:Addr)(u:HO)(e:H b=some u)(hb:¬ Z b):CA H a M b=some u:=by have h:b≠a:=λz=>hb (by rw[z];exact w);rw[vA h];exact e
theorem CB(b:Addr)(e:CA H a M b=none):H b=none:=by by_cases hb:b=a;rw[hb,YA]at e;cases e;rw[vA hb]at e;exact e
theorem aa{m:Mt}{N:T->T->Prop}{R:VK}(f:Same F H)(r:Tr K F H true v s Z)(rv:Trs K F H true vs ts W)(dj:∀b,Z b->¬ W b)(h:MK m s ts N)
  (k:∀w r s' H' S1 Zr,(∀b u,H b=some u->¬ Z b->H' b=some u)->(∀b,H' b=none->H b=none)->Tr K F H' true v s' S1->Tr K F H' true w r Zr->(∀b,Zr b->¬ S1 b)->(∀b,S1 b∨Zr b->Z b∨W b∨H b=none)->N r s'->R w H'):Xa K m v vs H R:=by
 cases m with
 |append =>
  obtain⟨us0,t0,rfl,rfl,h⟩:=h;cases r with
  |@lst _ a xs _ _ S' h1 h2 l X e =>
   have g:Z a:=(e a).mpr (.inl rfl);cases rv with
   |@cons _ w t ws us _ W1 W2 p r2 n q =>
    cases r2 with
    |nil n2 =>
     have hW:∀b,W b↔W1 b:=λb=>by rw[q b];simp[n2 b]
     refine⟨a,xs,w,rfl,rfl,h1,by rw[l.length];exact h.1,k .non (.d .none) _ _ _ (λ_=>False) (cD g) CB (cL h2 (Trs.append l (Trs.one p) λb hb hw=>dj b ((e b).mpr (.inr hb)) ((hW b).mpr hw)) λz=>z.elim X λz=>dj a g ((hW a).mpr z)) (.d .non λ_ z=>z) (λ_ z=>z.elim) (λb hb=>?_) h.2⟩;rcases hb with(hb|hb|hb)|hb;exact .inl (hb▸g);exact .inl ((e b).mpr (.inr hb));exact .inr (.inl ((hW b).mpr hb));exact hb.elim
 |extend =>
  obtain⟨us0,vs0,rfl,rfl,h⟩:=h;cases r with
  |@lst _ a xs _ _ S' h1 h2 l X e =>
   have g:Z a:=(e a).mpr (.inl rfl);cases rv with
   |@cons _ w t ws us _ W1 W2 p r2 n q =>
    cases r2 with
    |nil n2 =>
     have hW:∀b,W b↔W1 b:=λb=>by rw[q b];simp[n2 b]
     cases p with|@lst _ c zs _ _ B g1 g2 g3 g4 I=>have dw:∀b,B b->W b:=λb hb=>(hW b).mpr ((I b).mpr (.inr hb));refine⟨a,c,xs,zs,rfl,rfl,h1,g1,by rw[l.length,g3.length];exact h.1,k .non (.d .none) _ _ _ (λ_=>False) (cD g) CB (cL h2 (Trs.append l g3 λb hb hw=>dj b ((e b).mpr (.inr hb)) (dw b hw)) λz=>z.elim X λz=>dj a g (dw a z)) (.d .non λ_ z=>z) (λ_ z=>z.elim) (λb hb=>?_) h.2⟩;rcases hb with(hb|hb|hb)|hb;exact .inl (hb▸g);exact .inl ((e b).mpr (.inr hb));exact .inr (.inl (dw b hb));exact hb.elim
 |pop =>
  obtain⟨us0,i,j,t0,rfl,rfl,hi,ht,q⟩:=h;cases r with
  |@lst _ a xs _ _ S' h1 h2 l X e =>
   have g:Z a:=(e a).mpr (.inl rfl);obtain⟨w,P1,P2,g1,g2,g3,g4,I⟩:=l.erase ht;have na:¬ P1 a:=λz=>X (I a (.inl z));have nb:¬ P2 a:=λz=>X (I a (.inr z));cases rv with
   |cons p r2 n q2 =>
    cases r2;cases p with
    |d p n1 =>
     cases p;refine⟨a,i,xs,j,w,rfl,rfl,h1,by rw[l.length];exact hi,g1,k w t0 _ _ _ P1 (cD g) CB (cL h2 g3 nb) (g2.mono (.refl _) λb hb=>⟨vA λz=>na (z▸hb),(g2.dom b hb).2⟩) (λb hb z=>?_) (λb hb=>?_) q⟩;rcases z with z|z
     ·exact na (z▸hb)
     exact g4 b hb z;rcases hb with(hb|hb)|hb
     ·exact .inl (hb▸g)
     exact .inl ((e b).mpr (.inr (I b (.inr hb))));exact .inl ((e b).mpr (.inr (I b (.inl hb))))
 |_=>exact h.elim
theorem Trs.setD(w:Rep K F A x){S:cB}(n:Nat)(h:Trs K F H true vs ts S):∃P,Trs K F H true (vs.set n A) (ts.set n (.d x)) P/\∀b,P b->S b:=by
 revert n;refine Trs.ind (R:=λst vs ts S=>∀n:Nat,∃P,Trs K F H st (vs.set n A) (ts.set n (.d x)) P/\∀b,P b->S b) (λ{_ S} z n=>⟨S,.nil z,λ_ h=>h⟩) (λ{_ _ _ _ _ _ S1 B} h t m q k n=>?_) h;cases n with|zero=>exact⟨B,.cons (S1:=λ_=>False) (.d w λ_ z=>z) t (λ_ z=>z.elim) λb=>by simp,λb hb=>(q b).mpr (.inr hb)⟩|succ n=>obtain⟨P,e,u⟩:=k n;exact⟨λb=>S1 b∨P b,.cons h e (λb hb z=>m b hb (u b z)) λb=>wo,λb hb=>(q b).mpr (hb.imp id (u b))⟩
theorem Trs.part{S:cB}(h:Trs K F H true vs ts S)(e:ts[i]?=some t):∃v S1,vs[i]?=some v/\Tr K F H true v t S1/\(∀b,S1 b->S b) /\
  ∀(w:Hp) t' u,(∀b,S b->¬ S1 b->w b=H b)->Tr K F w true v t' u->(∀b,u b->S1 b)->∃P,Trs K F w true vs (ts.set i t') P/\∀b,P b->S b:=by
 revert i;refine Trs.ind (R:=λst vs ts S=>∀{i:Nat},ts[i]?=some t->∃v S1,vs[i]?=some v/\Tr K F H st v t S1/\(∀b,S1 b->S b)/\∀(w:Hp) t' u,(∀b,S b->¬ S1 b->w b=H b)->Tr K F w st v t' u->(∀b,u b->S1 b)->∃P,Trs K F w st vs (ts.set i t') P/\∀b,P b->S b) (λn i e=>by cases e) (λ{_ _ _ _ _ _ m P2} h t n q p i e=>?_) h;cases i with|zero=>cases e;exact⟨_,m,rfl,h,λb hb=>(q b).mpr (.inl hb),λw t' u k r f=>⟨λb=>u b∨P2 b,.cons r (t.mono (.refl _) λb hb=>⟨k b ((q b).mpr (.inr hb)) λz=>n b z hb,(t.dom b hb).2⟩) (λb hb z=>n b (f b hb) z) λb=>wo,λb hb=>(q b).mpr (hb.imp (f b) id)⟩⟩|succ i=>obtain⟨v,S1,h1,h2,g,I⟩:=p (i:=i) e;refine⟨v,S1,h1,h2,λb hb=>(q b).mpr (.inr (g b hb)),λw t' u k r f=>?_⟩;obtain⟨P,g1,l⟩:=I w t' u (λb hb X=>k b ((q b).mpr (.inr hb)) X) r f;exact⟨λb=>m b∨P b,.cons (h.mono (.refl _) λb hb=>⟨k b ((q b).mpr (.inl hb)) λz=>n b hb (g b z),(h.dom b hb).2⟩) g1 (λb hb z=>n b hb (l b z)) λb=>wo,λb hb=>(q b).mpr (hb.imp id (l b))⟩
def vq(ks:List D)(k:D):List D:=match bA ks k with
 |some _=>ks|none=>ks++[k]
def Rp{α:Type}(ks:List D)(vs:List α)(k:D)(x:α):List α:=match bA ks k with
 |some n=>vs.set n x|none=>vs++[x]
theorem ZP{α h:Type}[DecidableEq α](k:α)(key:h->α)(f:h->h)(hf:∀p,key (f p)=key p):∀(l:List h) (n:Nat),(l.map key).Nodup->(l.map key)[n]?=some k->(∀(g:h->V) (x:V),(∀p,key p=k->g (f p)=x)->(l.map λp=>if key p=k then f p else p).map g=(l.map g).set n x)
 |[],n,_,e=>by simp at e|p::r,0,nd,e=>by
  intro g x w;have e:key p=k:=by simpa using e
  rw[QV]at nd;obtain⟨u,m⟩:=Qi.mp nd;have e2:(r.map λp=>if key p=k then f p else p)=r:=by rw[show r=r.map id from(QCL r).symm,Qb];refine wC λq I=>?_;have:key q≠k:=λz=>u (QT.mpr ⟨q,by simpa using I,z.trans e.symm⟩);simp[this]
  rw[QV,e2,QV,QV,if_pos e,w p e];rfl
 |p::r,n+1,nd,e=>by
  intro g x w;rw[QV]at nd;obtain⟨u,m⟩:=Qi.mp nd;have e:(r.map key)[n]?=some k:=by simpa using e
  have X:¬ key p=k:=λz=>u (by rw[z];exact qQ e);rw[QV,QV,QV,if_neg X,ZP k key f hf r n m e g x w];rfl
theorem put_keys{α h z:Type}[DecidableEq α](k:α)(key:h->α)(f:h->h)(g:h->z)(u:∀p,g (f p)=g p)(l:List h):(l.map λp=>if key p=k then f p else p).map g=l.map g:=by rw[Qb];refine wC λp _=>?_;show g (if key p=k then f p else p)=g p;split;exact u p;rfl
theorem gK.put{k:D}(f:Same F H)(ha:H a=some o)(dk:gK K F b o ks vs)(ry:Rep K F J k)(hk:GD b k)(hl:ks.length<sizeLine)
  (kk:∀o',gK K F b o' (vq ks k) (Rp ks vs k A)->R (CA H a o')):YR K (.ref a) J A H R:=by
 cases b with
 |true =>
  obtain⟨ep,u,rfl,rfl,rfl,h4,X⟩:=dk;cases pQ hk ry with
  |intro q h =>
   obtain⟨p,rfl,rfl,hq⟩:=h;refine⟨ep,u,q,ha,λp hp=>f.key (h4 p hp),f.key hq,by simpa using hl,λI=>kk _ ?_⟩;have w:=CG q u;unfold EL vq Rp;cases e:bA (u.map λp=>tD p.1) (tD q) with
   |none =>
    rw[e]at w;have w:zH u q=none:=w;rw[w];refine⟨I,u++[(q,p,A)],rfl,by simp,by simp,λx l=>?_,?_⟩;rcases Qf.mp l with l|l
    ·exact h4 x l
    rw[QJ.mp l];exact hq;rw[QR];refine ZI X λm=>jB.mp e ?_;obtain⟨x,l,ex⟩:=QT.mp m;exact QT.mpr ⟨x,l,by rw[ex]⟩
   |some n =>
    rw[e]at w;have g:=NC e;have r:(u.map (·.1))[n]?=some q:=by
     rw[Qd]at g ⊢;cases en:u[n]? with|none=>rw[en]at g;cases g|some x=>rw[en]at g;rw[Q2,Qk]at g ⊢;exact nU g
    have hs:(zH u q).isSome=true:=by
     rw[w];have:n<u.length:=by have:=(Qg.mp r).1;simpa using this
     simp[this]
    rw[if_pos hs];refine⟨I,_,rfl,(put_keys q (·.1) (λp=>(p.1,p.2.1,A)) (λp=>tD p.1) (λ_=>rfl) u).symm,(ZP q (·.1) (λp=>(p.1,p.2.1,A)) (λ_=>rfl) u n X r (·.2.2) A λ_ _=>rfl).symm,λx l=>?_,?_⟩;obtain⟨y,hy,ey⟩:=QT.mp l;have hy:=h4 y hy;by_cases z:y.1=q;rw[if_pos z]at ey;subst ey;exact hy;rw[if_neg z]at ey;subst ey;exact hy;have:=put_keys q (·.1) (λp:KE=>(p.1,p.2.1,A)) (·.1) (λ_=>rfl) u;rw[this];exact X
 |false =>
  obtain⟨z,rfl⟩:=hk;cases ry;rcases dk with⟨u,hne,rfl,rfl,rfl,X⟩| ⟨ep,rfl,rfl,rfl⟩
  rotate_left
  exact .inr ⟨ep,ha,kk _ (.inl ⟨[(.inr z,A)],by simp,rfl,rfl,rfl,by simp⟩)⟩;refine .inl ⟨u,ha,by simpa using hl,kk _ (.inl ?_)⟩;have w:=eJ (.inr z) u;have ez:kD (.inr z)=.str z:=rfl;rw[ez]at w;unfold aU vq Rp;rw[dR];cases e:bA (u.map λp=>kD p.1) (.str z) with
  |none=>rw[e]at w;have w:KL u (.inr z)=none:=w;rw[w];refine⟨u++[(.inr z,A)],by simp,rfl,by simp[ez],by simp,?_⟩;rw[QR];refine ZI X λm=>jB.mp e ?_;obtain⟨x,l,ex⟩:=QT.mp m;exact QT.mpr ⟨x,l,by rw[ex];rfl⟩|some n =>
   rw[e]at w;have g:=NC e;have r:(u.map (·.1))[n]?=some (.inr z):=by
    rw[Qd]at g ⊢;cases en:u[n]? with|none=>rw[en]at g;cases g|some x=>rw[en]at g;rw[Q2,Qk]at g ⊢;exact D5 g
   have hs:(KL u (.inr z)).isSome=true:=by
    rw[w];have:n<u.length:=by have:=(Qg.mp r).1;simpa using this
    simp[this]
   rw[if_pos hs];refine⟨_,by simpa using hne,rfl,(put_keys (.inr z) (·.1) (λp=>(p.1,A)) (λp=>kD p.1) (λ_=>rfl) u).symm,(ZP (.inr z) (·.1) (λp=>(p.1,A)) (λ_=>rfl) u n X r (·.2) A λ_ _=>rfl).symm,?_⟩;have:=put_keys (.inr z) (·.1) (λp:Key×V=>(p.1,A)) (·.1) (λ_=>rfl) u;rw[this];exact X
theorem LQ(h:F a=none)(dk:gK K F b o ks L)(r:Trs K F H true L us P)(n:¬ P a):Tr K F (CA H a o) true (.ref a) (.dct b ks us) λb=>b=a∨P b :=
 .dct (S':=P) YA dk h (r.mono (.refl _) λb hb=>⟨vA λz=>n (z▸hb),(r.dom b hb).2⟩) n λb=>wo
theorem B1(f:Same F H)(r:Tr K F H true v s Z)(ry:Rep K F J y)(rx:Rep K F A x)(h:Ml s y x N)
  (k:∀s' H' S1,(∀b u,H b=some u->¬ Z b->H' b=some u)->(∀b,H' b=none->H b=none)->Tr K F H' true v s' S1->(∀b,S1 b->Z b)->N s'->R H'):YR K v J A H R:=by
 cases s with
 |lst ts =>
  cases y with
  |int i =>
   obtain⟨n,hn,q⟩:=h;cases ry;cases r with|@lst _ a xs _ _ S' h1 h2 m I l=>have g:Z a:=(l a).mpr (.inl rfl);obtain⟨P,X,p⟩:=m.setD rx n;refine⟨xs,n,h1,by rw[m.length];exact hn,k _ _ _ (cD g) CB (cL h2 X λz=>I (p a z)) (λb hb=>?_) q⟩;rcases hb with hb|hb;exact hb▸g;exact(l b).mpr (.inr (p b hb))
  |_=>exact h.elim
 |dct b ks ts =>
  obtain⟨hk,hl,q⟩:=h;cases r with
  |@dct _ _ a o _ vs _ _ S' h1 dk h2 m I l =>
   have g:Z a:=(l a).mpr (.inl rfl);refine dk.put f h1 ry hk hl λo' w=>?_;unfold vq Rp at w;unfold HJ at q;cases e:bA ks y with
   |some n=>rw[e]at w q;obtain⟨P,X,p⟩:=m.setD rx n;refine k _ _ _ (cD g) CB (LQ h2 w X λz=>I (p a z)) (λb hb=>?_) q;rcases hb with hb|hb;exact hb▸g;exact(l b).mpr (.inr (p b hb))
   |none=>rw[e]at w q;have X:=Trs.append m (Trs.one (Tr.d (S:=λ_=>False) rx λ_ z=>z)) λ_ _ z=>z;refine k _ _ _ (cD g) CB (LQ h2 w X λz=>z.elim I id) (λb hb=>?_) q;rcases hb with hb|hb|hb;exact hb▸g;exact(l b).mpr (.inr hb);exact hb.elim
 |_=>exact h.elim
theorem gK.vs_inj{m:Hp}{f:List D}{u:LV}(h:gK K F b o ks vs)(h':gK K m b o f u):vs=u:=by
 cases b with|true=>obtain⟨l,k,e,_,rfl,_⟩:=h;obtain⟨g,w,z,_,rfl,_⟩:=h';rw[e]at z;cases z;rfl|false=>rcases h with⟨k,_,e,_,rfl,_⟩| ⟨l,e,_,rfl⟩<;>rcases h' with⟨w,_,z,_,rfl,_⟩| ⟨g,z,_,rfl⟩<;>rw[e]at z<;>cases z<;>rfl
theorem Y8{F0:Hp}{n:Nat}{w:V}(f:Same F H)(r:Tr K F H true (.ref a) (.dct b ks ts) Z)(l:H a=some o)(q:gK K F0 b o ks vs)(hw:vs[n]?=some w)(ht:ts[n]?=some s)
  (ry:Rep K F J y) (rx:Rep K F A x) (h:Ml s y x N)
  (k:∀s' g S1,(∀b u,H b=some u->¬ Z b->g b=some u)->(∀b,g b=none->H b=none)->Tr K F g true (.ref a) (.dct b ks (ts.set n s')) S1->(∀b,S1 b->Z b)->N s'->R g):YR K w J A H R:=by
 cases r with
 |@dct _ _ a o' _ vs' _ _ S' h1 dk h2 h3 h4 p =>
  rw[l]at h1;cases h1;cases q.vs_inj dk;have ha:Z a:=(p a).mpr (.inl rfl);obtain⟨w',S1,g1,g2,g3,g4⟩:=h3.part ht;rw[hw]at g1;cases g1;refine B1 f g2 ry rx h λs' g X hh dm rs sub q2=>?_;have keep:∀b,¬ S1 b->H b≠none->g b=H b:=λb hb m=>by
   cases e:H b with|none=>exact absurd e m|some u=>exact hh b u e hb
  have na:¬ S1 a:=λz=>h4 (g3 a z);obtain⟨P,p1,I⟩:=g4 g s' X (λb hb m=>keep b m (h3.dom b hb).1) rs sub;refine k _ g (λb=>b=a∨P b) (λb u e hb=>hh b u e λz=>hb ((p b).mpr (.inr (g3 b z)))) dm (.dct (S':=P) ((keep a na (by rw[l];simp)).trans l) dk h2 p1 (λz=>h4 (I a z)) λb=>wo) (λb hb=>?_) q2;rcases hb with hb|hb;exact hb▸ha;exact(p b).mpr (.inr (I b hb))
theorem Vg{p:Addr}(f:Same F H)(X:H p=none)(r:Tr K F H true v t Z)(ry:Rep K F J y)(h:Kg y t N)
  (k:∀s' l S1,(∀b u,H b=some u->¬ Z b->l b=some u)->(∀b,l b=none->H b=none)->Tr K F l true v s' S1->(∀b,S1 b->Z b∨b=p)->N s'->R l):yL K v [J,.ref p] (CA H p (.dT 0 [])) λ_ l=>R l:=by
 obtain⟨ks,ts,rfl,hk,hl,h⟩:=h;cases r with
 |@dct _ _ a o _ vs _ _ S' h1 dk h2 h3 h4 h5 =>
  have ha:Z a:=(h5 a).mpr (.inl rfl);obtain⟨ep,w,rfl,rfl,rfl,d4,d5⟩:=dk;have ap:a≠p:=aA h1 X;have fp:F p=none:=f.free X;have sm:Same H (CA H p (.dT 0 [])):=NB X;cases pQ hk ry with
  |intro q hh =>
   obtain⟨c,rfl,rfl,hq⟩:=hh;have vf:=CG q w;refine⟨a,c,.ref p,ep,w,q,rfl,rfl,(vA ap).trans h1,λx g=>(f.trans sm).key (d4 x g),(f.trans sm).key hq,by simpa using hl,λu eu=>?_,λen I=>?_⟩;rcases h with⟨n,e,q⟩| ⟨e,q⟩
   ·have r0:Tr K F H true (.ref a) (.dct true (w.map λp=>tD p.1) ts) Z:=.dct h1 ⟨ep,w,rfl,rfl,rfl,d4,d5⟩ h2 h3 h4 h5
    refine k _ _ Z (λb u e _=>sm b u e) (λb e=>CB b e) (r0.mono (.refl _) λb hb=>⟨vA λz=>(r0.dom b hb).1 (by rw[z];exact X),(r0.dom b hb).2⟩) (λb hb=>.inl hb) q
   rw[e]at vf;rw[vf]at eu;cases eu;rcases h with⟨n,e,q⟩| ⟨e,q2⟩
   ·have hn:=NC e
    rw[e]at vf;have:n<w.length:=by have:=(Qg.mp hn).1;simpa using this
    rw[vf]at en;have en:(w.map (·.2.2))[n]?=none:=en;rw[List.getElem?_eq_none_iff,QG]at en;omega
   have ep2:EL w q c (.ref p)=w++[(q,c,.ref p)]:=by unfold EL;rw[en];rfl
   rw[ep2];have np:¬ S' p:=λz=>(h3.dom p z).1 X;have g0:Tr K F (CA H p (.dT 0 [])) true (.ref p) (.dct true [] []) λb=>b=p :=
    .dct (S':=λ_=>False) (vs:=[]) YA ⟨0,[],rfl,rfl,rfl,λ_ z=>(nomatch z),Q0⟩ fp (.nil λ_ z=>z) (λz=>z) λb=>by simp
   have g3:Trs K F (CA H p (.dT 0 [])) true (w.map (·.2.2)) ts S':=h3.mono (.refl _) λb hb=>⟨vA λz=>np (z▸hb),(h3.dom b hb).2⟩
   have g1:=Trs.append g3 (Trs.one g0) λb hb z=>np (z▸hb);have dk':gK K F true (.dT I (w++[(q,c,.ref p)])) ((w.map λp=>tD p.1)++[tD q]) (w.map (·.2.2)++[.ref p]):=by
    refine⟨I,_,rfl,by simp,by simp,λx g=>?_,?_⟩;rcases Qf.mp g with g|g
    ·exact d4 x g
    rw[QJ.mp g];exact hq;rw[QR];refine ZI d5 λm=>jB.mp e ?_;obtain⟨x,g,ex⟩:=QT.mp m;exact QT.mpr ⟨x,g,by rw[ex]⟩
   refine k _ _ _ (λb u e hb=>?_) (λb e=>CB b (CB b e)) (LQ h2 dk' g1 λz=>z.elim h4 ap) (λb hb=>?_) q2;rw[vA λz=>hb (by rw[z];exact ha)];exact sm b u e;rcases hb with hb|hb|hb
   ·exact .inl (hb▸ha)
   exact .inl ((h5 b).mpr (.inr hb));exact .inr hb
end
end
section
variable{K:QA}{Γ:Ev}{Ψ:PEv}
section
variable{p:PX}{F H:Hp}{S:Ft}{ρ:kA}{Z:cB}
noncomputable abbrev BZ(K:QA)(Γ:Ev)(Ψ:PEv)(p:PX):Prop:=∀{E:XE}{x:XK}{F H:Hp}{S:Ft}{ρ:kA}{h:St}{Q:TK}{R:VK},Rl K F H S ρ h->ME K F H S ρ E x->(pe Ψ p E).e ρ Q->xB K (yH p) F H S ρ h Q R->(wp K Γ p x).e h H R
theorem lU(f:BZ K Γ Ψ p){E:XE}{w:XK}{σ:St}{Q:Bool->kA->Prop}{R:Bool->Hp->Prop}(I:Rl K F H S ρ σ)(X:ME K F H S ρ E w)(h:(pe Ψ p E).e ρ λt _ y=>vI t.er λb=>Q b y)(k:sH K F H S ρ σ Q R) :
  (wp K Γ p w).e σ H λx i=>FF K x i R :=
 f I X h λv l j g z t n Z s u r q=>dW (r.tr.rep u.fh) q λc a=>k c l j g z s u a
theorem PSnd.of_e(w:∀E ρ Q,(pe Ψ p E).t ρ Q=(pe Ψ p E).e ρ λt _ y=>vI t.er λb=>Q b y)(z:∀v σ H R,(wp K Γ p v).t σ H R=(wp K Γ p v).e σ H λx g=>FF K x g R)(f:∀E,(pe Ψ p E).a=zF.a)(u:BZ K Γ Ψ p):PSnd K Γ Ψ p where
 e:=u
 t:=λI X h k=>by rw[w]at h;rw[z];exact lU u I X h k
 a:=λI X _ h k=>by rw[f]at h;exact h.elim
theorem PSnd.of_0(x:∀E,(pe Ψ p E).t=zF.t)(z:∀E,(pe Ψ p E).a=zF.a)(y:BZ K Γ Ψ p):PSnd K Γ Ψ p where
 e:=y
 t:=λI X h k=>by rw[x]at h;exact h.elim
 a:=λI X _ h k=>by rw[z]at h;exact h.elim
theorem PSnd.of_t(l:∀E ρ Q,(pe Ψ p E).e ρ Q=(pe Ψ p E).t ρ λb u=>Q (.d (.bool b)) false u)(v:∀z σ H R,(wp K Γ p z).t σ H R=(wp K Γ p z).e σ H λx n=>z7 x n R)(m:∀E,(pe Ψ p E).a=zF.a)
  (f:∀{E:XE}{z:XK}{F H:Hp}{S:Ft}{ρ:kA}{σ:St}{Q:Bool->kA->Prop}{R:VK},Rl K F H S ρ σ->ME K F H S ρ E z->(pe Ψ p E).t ρ Q->sH K F H S ρ σ Q (λb=>R (.bl b))->(wp K Γ p z).e σ H R):PSnd K Γ Ψ p where
 e:=λI X h k=>by rw[l]at h;exact f I X h λb j i g y s w q=>xB.d k s w (.bl b) q
 t:=λI X h k=>by rw[v];exact f I X h λb j i g y s w q=>k b j i g y s w q
 a:=λI X _ h k=>by rw[m]at h;exact h.elim
theorem rc(i:Nat):BZ K Γ Ψ (.xz i):=by
 intro E a F H S ρ y Q R I X h k;have x:yq ρ[i]? λt=>Q t false ρ:=h;show(match y[i]? with|some (some v)=>R v H|_=>False);have key:∀s,ρ[i]?=some (some s)->Q s.t false ρ->(match y[i]? with|some (some v)=>R v H|_=>False):=λs e q=>by obtain⟨v,w,u⟩:=I.sl i _ e;rw[w];exact k v F H S ρ s.t false (S i) .refl I ⟨u.weak,λz=>(by cases z),λ_ b hb=>⟨i,s,QJ.mpr rfl,e,hb⟩,λz=>(by cases z)⟩ q
 unfold yq at x;split at x;rename_i e;exact key _ e x;rename_i e;exact key _ e x;exact x.elim;exact x.elim
theorem Nh{m:Mt}{v:V}{s:T}(h:isMut m=true)(x:KI m s=true)(r:Tr K F H true v s Z):FZ K m.ty v H:=by
 unfold KI at x;split at x;cases r with
 |lst y _ _ _ _ =>
  refine .inl ⟨?_,_,AC.of y⟩;cases m with|append=>rfl|pop=>rfl|extend=>rfl|_=>cases x
 cases x
theorem Br{m:Mt}{o g:PX}(io:PSnd K Γ Ψ o)(ia:PSnd K Γ Ψ g):BZ K Γ Ψ (.mt m o g):=by
 intro E EK F H S ρ L Q R I X h k;show(wp K Γ o EK).e L H λx J=>FZ K m.ty x J/\(wp K Γ g EK).a L J λA l=>Xa K m x A l R;cases hm:isMut m with
 |false =>
  have h:(pe Ψ o E).e ρ λx n M=>Va m (pA x n).vw=true/\sq (pA x n) M ((pe Ψ g E).a []) λf y=>Cr m (pA x n).vw (dC f) λz k=>Q z k y:=by have C:(if isMut m=true then _ else _):=h;rw[hm,if_neg (by simp)]at C;exact C
  refine ol (P1:=λx n=>Va m (pA x n).vw=true) (R1:=λv J=>FZ K m.ty v J) (RR:=λv A l=>Xa K m v A l R) io ia I X h (λv F' H' x n Za r p=>cn r p) λv A F' H' S' ρ' x n f Za Y s I' X' r _ tn q=>?_;rw[iL _ rfl]at q;exact Oh s I' r tn q k
 |true =>
  have h:Cc (D2 o) λj=>zD ρ[j]? λt=>KI m t=true/\(pe Ψ g E).a [] (ρ.set j (some (.ky t))) λf y=>ZE f=true/\y[j]?=some (some (.ky t))/\MK m t (DF f) λr s'=>Q r true (y.set j (some (.own s'))):=by have C:(if isMut m=true then _ else _):=h;rw[hm,if_pos rfl]at C;exact C
  cases o with
  |xz j =>
   have h:zD ρ[j]? _:=h;unfold zD at h;split at h;rename_i t u;obtain⟨ht,q1⟩:=h;obtain⟨v0,hv,B⟩:=I.sl j _ u;have IL:=I.lock1 u;have n0:=I.lock1U u;have B:Tr K F H true v0 t (S j):=B;have XL:=X.lock1 u;show(match L[j]? with|some (some v)=>_|_=>False);rw[hv];refine⟨Nh hm ht B,?_⟩;refine ia.a (md:=[]) IL XL (λj u=>by cases g<;>cases u) q1 λA F2 l S2 y f W Y N I2 G _ P=>?_;obtain⟨he,hj2,P⟩:=P;have r2:Tr K F2 l true v0 t (S j):=N.toStp.keep B n0;have hw:=G.held;have trs:=G.av.trs Gh he;have wS:∀b,S j b->¬ W b:=λb hb hb2=>by rcases G.fr b hb2 with q|q;exact(B.dom b hb).1 q;exact n0 b hb q
   refine aa I2.fh r2 trs wS P λw r s' H3 S3 Zr hh dm O rr dz hf q=>?_;obtain⟨st,I3,nw⟩:=oI I u hv N I2 hh dm O (λb hb=>hf b (.inl hb)) hw G.fr;have zr:∀b,Zr b->S j b∨W b∨l b=none:=λb hb=>hf b (.inr hb);refine k w F2 H3 _ _ r true Zr st I3 ⟨rr,λ_ b hb=>?_,λz=>(by cases z),λ_ i sl e b hb z=>?_⟩ q;rcases zr b hb with q|q|q
   ·exact .inr ⟨j,t,u,q⟩
   exact(G.fr b q).imp id (lock1U u);exact .inl (N.dm b q);rcases dA e with⟨rfl,_,_⟩| ⟨n,e⟩
   ·rw[SA]at z
    exact dz b hb z
   rw[ZA (Q9 n)]at z;exact nw b (zr b hb) i sl (Q9 n) e z
   all_goals exact h.elim
  |_=>exact h.elim
theorem xB.dct{ws:LN}{F H x y:Hp}{S S1:Ft}{ρ h:kA}{σ:St}{Q:TK}{R:VK}(k:xB K ws F H S ρ σ Q R)(s:Ste F H S ρ x y S1 h)(I:Rl K x y S1 h σ){p:Addr}(g:H p=none)(m:x p=none)(j:Held x y S1 h λb=>b=p){o:HO}{b:Bool}{ks:List D}{vs:LV}{ts:LT}{W:cB}(dk:gK K x b o ks vs)(r:Trs K x y true vs ts W)
  (fr:∀b,W b->H b=none∨U ρ S b) (f:Held x y S1 h W) (a:¬ W p) (q:Q (.dct b ks ts) true h):R (.ref p) (CA y p o):=by
 have Y:∀b u,H b=some u->b≠p:=λb u e=>aA e g;have X:Ste F H S ρ x (CA y p o) S1 h:=⟨⟨s.ff,λb u e n=>by rw[vA (Y b u e)];exact s.hh b u e n,λb e=>s.dm b (CB b e),s.fn,s.uu,s.bo⟩,s.ow⟩
 have B:Rl K x (CA y p o) S1 h σ:=⟨λb u e=>by rw[vA λz=>by rw[z,m]at e;cases e];exact I.fh b u e,I.len,λi w e=>by obtain⟨v,A,l⟩:=I.sl i w e;exact⟨v,A,l.mono (.refl _) λb hb=>⟨vA λz=>j.nw i w e b z hb,(l.dom b hb).2⟩⟩,I.dj⟩
 refine k _ x _ S1 h _ true (λb=>b=p∨W b) X B ⟨.dct YA dk m (r.mono (.refl _) λb hb=>⟨vA λz=>a (z▸hb),(f.dom b hb).2⟩) a (λb=>wo),λ_ b hb=>?_,λz=>(by cases z),λ_ i w e b hb z=>?_⟩ q;rcases hb with hb|hb
 ·exact .inl (hb▸g)
 exact fr b hb;rcases hb with hb|hb
 ·exact j.nw i w e b hb z
 exact f.nw i w e b hb z
theorem VR.strict{u y:Hp}{S1:Ft}{h:kA}{ws:LN}{v:V}{t:T}{n:Bool}(r:VR K ws H S ρ u y S1 h v t n Z)(e:lH t n=true):∃W,Tr K u y true v t W/\Held u y S1 h W/\∀b,W b->H b=none∨U ρ S b:=by
 cases n with
 |true=>exact⟨Z,r.tr,r.held,r.fr rfl⟩|false =>
  have w:=r.tr;cases t with
  |d x=>cases w with|d q _=>exact⟨λ_=>False,.d q λ_ z=>z,.none,λ_ z=>z.elim⟩
  |_=>cases e
theorem US{σ:St}(I:Rl K F H S ρ σ){p:Addr}(h:H p=none)(o:HO):Held F (CA H p o) S ρ λb=>b=p :=
 ⟨λb hb=>⟨by rw[hb,YA];simp,by rw[hb];exact I.fh.free h⟩,λi x e b hb z=>(I.dom e z).1 (by rw[hb];exact h)⟩
theorem AA(g:GOk K Γ Ψ):∀(p:PX),PSnd K Γ Ψ p
 | .xz i=>⟨rc i,λI X h k=>lU (Γ:=Γ) (Ψ:=Ψ) (rc i) I X h k,λI X _ h k=>h.elim⟩|.int i=>⟨λI X h k=>xB.d k .refl I (.int i) h,λI X h k=>k _ _ _ _ _ .refl I h,λI X _ h k=>h.elim⟩|.str x=>⟨λI X h k=>xB.d k .refl I (.str x) h,λI X h k=>h.elim,λI X _ h k=>h.elim⟩|.bl b=>⟨λI X h k=>xB.d k .refl I (.bl b) h,λI X h k=>k _ _ _ _ _ .refl I h,λI X _ h k=>h.elim⟩|.non=>⟨λI X h k=>xB.d k .refl I .non h,λI X h k=>k _ _ _ _ _ .refl I h,λI X _ h k=>h.elim⟩|.glo x=>.of_e (λ_ _ _=>rfl) (λ_ _ _ _=>rfl) (λ_=>rfl) λ{E L F H S ρ G Q R} I X h k=>by have h:(match Ψ.va x with|some d=>Q (.d d) false ρ|none=>False):=h;split at h;rename_i d e;exact xB.d k .refl I (g.va x d e F) h;exact h.elim
 | .bty _ _=>⟨λI X h k=>h.elim,λI X h k=>h.elim,λI X _ h k=>h.elim⟩|.bin op a b=>.of_e (λ_ _ _=>rfl) (λ_ _ _ _=>rfl) (λ_=>rfl) λ{E L F H S ρ G Q R} I X h k =>
  O0 (P:=λx n y m J=>binT op (pA x n).vw (pA y m).vw λz k=>Q z k J) (RR:=λx y H2=>Ab K op x y H2 R) (AA g a) (AA g b) I X h λv w F' O S' A x n y m Za Zb s C X' ra _ rb q=>nj s C ra rb q k
 | .cmp op a b=>.of_t (λ_ _ _=>rfl) (λ_ _ _ _=>rfl) (λ_=>rfl) λ{E L F H S ρ G Q R} I X h k =>
  O0 (P:=λx n y m J=>Fb op x.er (pA y m) λk=>Q k J) (RR:=λx y H2=>L6 K op x y H2 R) (AA g a) (AA g b) I X h λv w F' O S' A x n y m Za Zb s C X' ra _ rb q =>
   Db C.fh (by have:=ra.rep C.fh;rwa [mX]at this) rb q λc qc=>k c F' O S' A s C qc
 | .and a b=>⟨λ{E L F H S ρ G Q R} I X h k=>by
   refine(AA g a).e (Q:=λx _ B=>Vj x.er λc=>if c=true then(pe Ψ b E).e B Q else Q (.d (.bool false)) false B) (R:=λx M=>z7 x M λc H2=>if c=true then(wp K Γ b L).e G H2 R else R (.bl false) H2) I X h λv F' O S' A x n Z s C r q=>?_;refine j7 (r.tr.rep C.fh) q λc qc=>?_;cases c with|false=>exact xB.d k s C (.bl false) qc|true=>exact(AA g b).e C (X.from s.toStp) qc ((k.from s).vars λi hi=>QW _ hi),
  λ{E L F H S ρ G Q R} I X h k=>by
   refine(AA g a).t (Q:=λc B=>if c=true then(pe Ψ b E).t B Q else Q false B) (R:=λc M=>if c=true then(wp K Γ b L).t G M R else R false M) I X h λc F' O S' A s C qc=>?_;cases c with|false=>exact k _ F' O S' A s C qc|true=>exact(AA g b).t C (X.from s.toStp) qc (sH.from k s),λI X _ h k=>h.elim⟩
 | .or a b=>⟨λ{E L F H S ρ G Q R} I X h k=>by
   refine(AA g a).e (Q:=λx _ B=>Vj x.er λc=>if c=true then Q (.d (.bool true)) false B else(pe Ψ b E).e B Q) (R:=λx M=>z7 x M λc H2=>if c=true then R (.bl true) H2 else(wp K Γ b L).e G H2 R) I X h λv F' O S' A x n Z s C r q=>?_;refine j7 (r.tr.rep C.fh) q λc qc=>?_;cases c with|true=>exact xB.d k s C (.bl true) qc|false=>exact(AA g b).e C (X.from s.toStp) qc ((k.from s).vars λi hi=>QW _ hi),
  λ{E L F H S ρ G Q R} I X h k=>by
   refine(AA g a).t (Q:=λc B=>if c=true then Q true B else(pe Ψ b E).t B Q) (R:=λc M=>if c=true then R true M else(wp K Γ b L).t G M R) I X h λc F' O S' A s C qc=>?_;cases c with|true=>exact k _ F' O S' A s C qc|false=>exact(AA g b).t C (X.from s.toStp) qc (sH.from k s),λI X _ h k=>h.elim⟩
 | .not a=>⟨λ{E L F H S ρ G Q R} I X h k=>by
   refine(AA g a).e (Q:=λx _ B=>vI x.er λc=>Q (.d (.bool (!c))) false B) (R:=λx M=>FF K x M λc H2=>R (.bl (!c)) H2) I X h λv F' O S' A x n Z s C r q=>?_;exact dW (r.tr.rep C.fh) q λc qc=>xB.d k s C (.bl _) qc,
  λ{E L F H S ρ G Q R} I X h k=>(AA g a).t (Q:=λc B=>Q (!c) B) (R:=λc M=>R (!c) M) I X h λc F' O S' A s C qc=>k _ F' O S' A s C qc,λI X _ h k=>h.elim⟩
 | .call f as=>.of_e (λ_ _ _=>rfl) (λ_ _ _ _=>rfl) (λ_=>rfl) λ{E L F H S ρ G Q R} I X h k=>Ob g (AA g as) I X h k|.isi a c=>by
  have key:∀{E:XE}{L:XK}{F H:Hp}{S:Ft}{ρ:kA}{G:St}{Q:Bool->kA->Prop}{R:VK},Rl K F H S ρ G->ME K F H S ρ E L->(pe Ψ (.isi a c) E).t ρ Q->sH K F H S ρ G Q (λb=>R (.bl b))->(wp K Γ (.isi a c) L).e G H R:=by
   intro E L F H S ρ G Q R I X h k;refine(AA g a).e (Q:=λx _ B=>Nn c x.er λb=>Q b B) I X h λv F' O S' A x n Z s C r q=>?_;cases c with|bty z n=>obtain⟨b,h1,h2,q⟩:=q;exact Ki (r.tr.rep C.fh) h1 h2 (k b F' O S' A s C q)|_=>exact q.elim
  refine⟨λI X h k=>key I X h λb F' O S' A s C q=>xB.d k s C (.bl b) q,λ{E L F H S ρ G Q R} I X h k=>?_,λI X _ h k=>h.elim⟩;exact key (R:=λv M=>FF K v M R) I X h λb F' O S' A s C q=>k b F' O S' A s C q
 | .bi f as=>.of_e (λ_ _ _=>rfl) (λ_ _ _ _=>rfl) (λ_=>rfl) λ{E L F H S ρ G Q R} I X h k =>
  SV (P:=λxs B=>VX f (dC xs) λz k=>Q z k B) (RR:=λvs M=>To K f vs M R) (AA g as) I X h λvs F' O S' A xs Y s C X' tn _ q=>by rw[iL _ rfl]at q;exact Zj s C tn q k
 | .mt m o as=>.of_e (λ_ _ _=>rfl) (λ_ _ _ _=>rfl) (λ_=>rfl) (Br (AA g o) (AA g as))|.idx a b=>by
  have he:BZ K Γ Ψ (.idx a b):=λ{E L F H S ρ G Q R} I X h k =>
   O0 (P:=λx n y m J=>(GN (pA x n).vw (pA y m).vw λz=>Q z false J)∨(SS (pA x n).vw y.er λz=>Q z false J)) (RR:=λx y H2=>oY K x y H2 R) (AA g a) (AA g b) I X h λv w F' O S' A x n y m Za Zb s C X' ra za rb q=>by rcases q with q|q;exact Vi s C ra za rb q k;exact Ti s C ra za (by have:=rb.rep C.fh;rwa [mX]at this) q k
  exact⟨he,λI X h k=>lU he I X h k,λI X _ h k=>h.elim⟩
 | .slc a lo hi=>.of_0 (λ_=>rfl) (λ_=>rfl) λ{E L F H S ρ G Q R} I X h k=>by
  have part:∀(p:PX),PSnd K Γ Ψ p->∀{F H:Hp}{S:Ft}{ρ:kA}{x:T}{P:Option Int->kA->Prop}{RP:Option Int->Hp->Prop},Rl K F H S ρ G->ME K F H S ρ E L ->
    sq (α:=Option Int) x ρ (if isNop p=true then λρ (R:Option Int->kA->Prop)=>R none ρ else λρ R=>(pe Ψ p E).e ρ λl _ J=>IF l.er λo=>R o J) P ->
    (∀o F' O S' A,Ste F H S ρ F' O S' A->Rl K F' O S' A G->(∀st v Zx,Tr K F H st v x Zx->Tr K F' O st v x Zx)->P o A->RP o O) ->
    (if isNop p=true then λ(R:Option Int->Hp->Prop)=>R none H else λR=>(wp K Γ p L).e G H λl H2=>gM l H2 R) RP:=by
   intro p ip F H S ρ x P RP I X h k;cases hn:isNop p with
   |true=>simp only[hn,if_true]at h ⊢;refine k none F H S ρ .refl I (λ_ _ _ r=>r) ?_;unfold sq at h;split at h<;>exact h|false =>
    simp only[hn,Qn,if_false]at h ⊢;have h2:sq x ρ (cu (pe Ψ p E).e) λy A=>IF y.1.er λo=>P o A:=by unfold sq at h ⊢;exact h
    refine Ol ip I X h2 λw F' O S' A y m Z s C kp _ r q=>i9 (r.tr.rep C.fh) q λo qo=>k o F' O S' A s C kp qo
  refine XF (AA g a) I X h λv F1 M S1 B x n Za s1 I1 X1 r1 _ z1 h1=>?_;refine part lo (AA g lo) I1 X1 h1 λl F2 H2 S2 J s2 I2 k2 h2=>?_;refine part hi (AA g hi) I2 (X1.from s2.toStp) h2 λu F3 H3 S3 ρ3 s3 I3 k3 h3=>?_;exact eg (s1.trans (s2.trans s3)) I3 (k3 _ _ _ (k2 _ _ _ r1)) h3 k
 | .nop=>⟨λI X h k=>h.elim,λI X h k=>h.elim,λI X _ h k=>h.elim⟩|.lst as=>.of_0 (λ_=>rfl) (λ_=>rfl) λ{E L F H S ρ G Q R} I X h k=>by refine(AA g as).a (md:=[]) (R:=λxs M=>xs.length<=sizeLine/\∀p,M p=none->R (.ref p) (CA M p (.lst xs))) I X (λj hj=>by cases as<;>cases hj) h λvs F' O S' A xs W Y s C r _ q=>?_;exact⟨by rw[r.av.length];exact q.2.1,λp hp=>xB.list k s C hp (r.av.trs Gh q.1) r.fr r.held q.2.2⟩|.tup as=>.of_0 (λ_=>rfl) (λ_=>rfl) λ{E L F H S ρ G Q R} I X h k=>by refine(AA g as).a (md:=[]) (R:=λxs M=>xs.length<=sizeLine/\∀p,M p=none->R (.ref p) (CA M p (.tup xs))) I X (λj hj=>by cases as<;>cases hj) h λvs F' O S' A xs W Y s C r _ q=>?_;exact⟨by rw[r.av.length];exact q.2.1,λp hp=>xB.tup k s C hp (r.av.trs Gh q.1) r.fr r.held q.2.2⟩|.comp mask tgs tg ik its cond elt=>.of_0 (λ_=>rfl) (λ_=>rfl) λ{E L F H S ρ G Q R} I X h k=>by
  refine SV (RR:=λvs M=>aC K ik vs M λxs st H2=>OX K xs st tg (if isNop cond=true then λ_ H Q=>Q true H else(wp K Γ cond (λ_ _ _=>False)).t) (wp K Γ elt (λ_ _ _=>False)).e (AI tgs.length mask G) H2 R) (AA g its) I X h λvs F1 M S1 B xs Y s1 I1 X1 tn tm q1=>?_;rw[iL _ rfl]at q1;refine AJ I1.fh tn q1 λxs ys st pr hst hc=>?_;refine C6 (us:=yH elt) ?_ ?_ s1 I1 pr (λb hb=>?_) hst hc k;intro F H S ρ G Q R I h k;cases hn:isNop cond with|true=>simp only[hn,if_true]at h ⊢;exact k true F H S ρ .refl I h|false=>simp only[hn,Qn,if_false]at h ⊢;exact(AA g cond).t I ME.never h k
  intro F H S ρ G Q R I h k;exact(AA g elt).e I ME.never h k;obtain⟨i,sl,_,h2,h3⟩:=tm b hb;exact I1.dom h2 h3
 | .dnew b=>.of_0 (λ_=>rfl) (λ_=>rfl) λ{E L F H S ρ G Q R} I X h k=>by
  intro p hp;have hh:=US I hp (.dT 0 []);have e:=xB.dct (o:=.dT 0 []) (b:=b) (ks:=[]) (vs:=[]) (ts:=[]) (W:=λ_=>False) k (Ste.refl.new hp (.dT 0 [])) (I.new hp _) hp (I.fh.free hp) hh ?_ (.nil λ_ z=>z) (λ_ z=>z.elim) .none (λz=>z) h;rw[r8]at e;exact e;cases b with
  |true=>exact⟨0,[],rfl,rfl,rfl,λ_ z=>(nomatch z),Q0⟩
  |false=>exact .inr ⟨0,rfl,rfl,rfl⟩
 | .dsp a b=>.of_0 (λ_=>rfl) (λ_=>rfl) λ{E L F H S ρ G Q R} I X h k=>by
  intro p hp;have hh:=US I hp (.dT 0 []);have s0:Ste F H S ρ F (CA H p (.dT 0 [])) S ρ:=Ste.refl.new hp _;refine XF (AA g a) (I.new hp _) (X.from s0.toStp) h λy F1 M S1 B x n Z s1 I1 X1 _ er _ ⟨he,q1⟩=>?_;have hh1:=hh.step s1.toStp I1;have ry:=er he;refine(AA g b).e I1 X1 q1 λv F2 H2 S2 J t m Zb s2 I2 r2 q2=>?_;have hh2:=hh1.step s2.toStp I2;obtain⟨he2,hk,q2⟩:=q2;obtain⟨W,rw,hw,frw⟩:=(r2.from s1.toStp).strict he2;have hp2:H2 p=some (.dT 0 []):=s2.hh p _ (s1.hh p _ YA (hh.nu p rfl)) (hh1.nu p rfl);have np:¬ W p:=λz=>by rcases frw p z with q|q;rw[YA]at q;cases q;exact hh.nu p rfl q
  have ry2:=ry.mono s2.ff;refine⟨hp2,?_⟩;generalize x.er=d at hk ry2 q2;cases pQ hk ry2 with|intro ks hh=>obtain⟨c,rfl,rfl,hq⟩:=hh;refine⟨c,ks,rfl,I2.fh.key hq,λep=>?_⟩;exact xB.dct (o:=.dT ep [(ks,c,v)]) (b:=true) (vs:=[v]) (ts:=[t]) k (s0.trans (s1.trans s2)) I2 hp (hh2.dom p rfl).2 hh2 ⟨ep,_,rfl,rfl,rfl,λz hz=>by rw[QJ.mp hz];exact hq,by simp⟩ (Trs.one rw) (λb hb=>by rcases frw b hb with q|q;exact .inl (CB b q);exact .inr q) hw np q2
 | .nz=>⟨λI X h k=>h.elim,λI X h k=>h.elim,λ{E L F H S ρ G md Q R} I X _ h k=>k [] F H S ρ [] (λ_=>False) (λ_=>False) .refl I ⟨.nil λ_ z=>z,λ_ z=>z.elim,λ_ z=>z.elim,λ_ _ _ _ z=>z.elim⟩ (by cases md with|nil=>rfl|cons m r=>cases m<;>rfl) h⟩
 | .ny a as=>⟨λI X h k=>h.elim,λI X h k=>h.elim,λ{E L F H S ρ G md Q R} I X hm h k=>by
  show(wp K Γ a L).e G H λx M=>(wp K Γ as L).a G M λxs H2=>R (x::xs) H2;have vr2:∀i∈yH as,i∈yH (.ny a as):=λi hi=>QW _ hi;cases N:(md.headD .xx).isMut with
  |true =>
   have h2:O5 a=true/\(pe Ψ as E).a md.tail ρ λxs B=>Q ((.d .none,true)::xs) B:=by have h3:(if(md.headD .xx).isMut=true then _ else _):=h;rw[N,if_pos rfl]at h3;exact h3
   obtain⟨m,md',rfl⟩:∃m md',md=m::md':=by
    cases md with|nil=>cases N|cons m md'=>exact⟨m,md',rfl⟩
   have em:m=.chg:=by have N:m.isMut=true:=N;cases m<;>first|rfl|cases N
   subst em;cases a with
   |xz j=>obtain⟨v,hv⟩:=hm j (show j∈j::xA md' as from QD);show(match G[j]? with|some (some v)=>_|_=>False);rw[hv];refine(AA g as).a I X (λi hi=>hm i (QE _ hi)) h2.2 λvs F' O S' A xs W Y s C r mv q=>?_;refine k (v::vs) F' O S' A _ W Y s C ⟨.chg N r.av,r.fr,(r.vars vr2).tm,r.nw⟩ ?_ q;show(some (some v))::(oB md' vs).map _=G[j]?::(xA md' as).map _;have mv:(oB md' vs).map (λv=>some (some v))=(xA md' as).map (λj=>G[j]?):=mv;rw[hv,mv]
   |_=>exact absurd h2.1 (by simp[O5])
  |false =>
   have h2:(pe Ψ a E).e ρ λx n B=>sq (α:=List (T×Bool)) (if n=true then .d .none else x) B ((pe Ψ as E).a md.tail) λxs J=>Q ((x,n)::xs) J:=by have h3:(if(md.headD .xx).isMut=true then _ else _):=h;rw[N,if_neg (by simp)]at h3;exact h3
   have hroots:xA md (.ny a as)=xA md.tail as:=by
    cases md with|nil=>cases as<;>rfl|cons m md'=>have N:m.isMut=false:=N;cases m<;>first|rfl|cases N
   have hmv:∀v vs,oB md (v::vs)=oB md.tail vs:=λv vs=>by unfold oB;generalize md.headD .xx=m at N;cases m<;>first | (cases vs<;>rfl)|cases N
   refine(AA g a).e I X h2 λv F1 M S1 B x n Z s1 I1 r1 q1=>?_;refine Pl (AA g as) I1 (X.from s1.toStp) (λi hi=>hm i (by rw[hroots];exact hi)) q1 λvs F2 H2 S2 J xs W Y s2 I2 kp hs r2 mv q2=>?_;have s12:=s1.trans s2;have r2':=(r2.from s1.toStp).vars vr2;have mv':(oB md (v::vs)).map (λv=>some (some v))=(xA md (.ny a as)).map (λj=>G[j]?):=by rw[hroots,hmv];exact mv
   cases n with
   |true =>
    have hd:=r1.held;have hd2:=hd.step s2.toStp I2;refine k (v::vs) F2 H2 S2 J _ (λb=>Z b∨W b) Y s12 I2 ⟨.new N (s2.toStp.keep r1.tr hd.nu) r2.av (λb hb hw=>?_) λb=>wo,λb hb=>?_,r2'.tm,λi sl e b hb=>?_⟩ mv' q2;rcases r2.fr b hw with q|q
    ·exact(hd.dom b hb).1 q
    exact hd.nu b hb q;rcases hb with hb|hb
    ·exact r1.fr rfl b hb
    exact r2'.fr b hb;rcases hb with hb|hb
    ·exact hd2.nw i sl e b hb
    exact r2.nw i sl e b hb
   |false =>
    have za:∀b,Z b->∃(i:Nat) (s:Sl),i∈yH a/\J[i]?=some (some s)/\S2 i b:=by
     cases hd:x.isD with
     |true =>
      intro b hb;exfalso;have tr:=r1.tr;cases x with
      |d x=>cases tr with|d r n=>exact n b hb
      |_=>cases hd
     |false=>obtain⟨e1,e2⟩:=hs hd;rw[e1,e2];exact r1.tm rfl
    refine k (v::vs) F2 H2 S2 J _ W (λb=>Z b∨Y b) s12 I2 ⟨.tmp N (kp _ _ _ r1.tr) (λb hb=>.inl hb) (r2.av.sub λb hb=>.inr hb),r2'.fr,λb hb=>?_,r2.nw⟩ mv' q2;rcases hb with hb|hb;obtain⟨i,sl,h1,h2⟩:=za b hb;exact⟨i,sl,Qe _ h1,h2⟩;exact r2'.tm b hb⟩
end
end
structure Sts(C J:LN)(F H:Hp)(S:Ft)(ρ:kA)(σ:St)(F' H':Hp)(S':Ft)(ρ':kA)(σ':St):Prop where
 ff:Same F F'
 hh:∀b u,H b=some u->¬ U ρ S b->H' b=some u
 dm:∀b,H' b=none->H b=none
 fn:∀b,F b=none->F' b≠none->U ρ S b∨H b=none
 uu:∀b,U ρ' S' b->U ρ S b∨H b=none
 bo:∀(j:Nat) t,j∉J->ρ'[j]?=some (some (.ky t))->t.isD=false->ρ[j]?=some (some (.ky t))/\S' j=S j/\σ'[j]?=σ[j]?
 sg:∀j∈C,σ'[j]?=σ[j]?
structure Stc(C:LN)(F H:Hp)(S:Ft)(ρ:kA)(σ:St)(F' H':Hp)(S':Ft)(ρ':kA)(σ':St):Prop where
 ff:Same F F'
 hh:∀b u,H b=some u->¬ U ρ S b->H' b=some u
 dm:∀b,H' b=none->H b=none
 fn:∀b,F b=none->F' b≠none->U ρ S b∨H b=none
 uu:∀b,U ρ' S' b->U ρ S b∨H b=none
 sg:∀j∈C,σ'[j]?=σ[j]?
section
variable{K:QA}{Γ:Ev}{Ψ:PEv}{E:XE}{M:XK}{F H p X B L:Hp}{S S1 G:Ft}{ρ y Y:kA}{σ g A:St}{C J:LN}
section
variable{t:T}{Z:cB}{i:Nat}
theorem Stp.sts(s:Stp F H S ρ p X S1 y):Sts C J F H S ρ σ p X S1 y σ:=⟨s.ff,s.hh,s.dm,s.fn,s.uu,λj t _ e h=>let⟨z,x⟩:=s.bo j t e h;⟨z,x,rfl⟩,λ_ _=>rfl⟩
theorem Sts.refl:Sts C J F H S ρ σ F H S ρ σ:=Stp.refl.sts
theorem Sts.trans(a:Sts C J F H S ρ σ p X S1 y g)(b:Sts C [] p X S1 y g B L G Y A):Sts C J F H S ρ σ B L G Y A where
 ff:=a.ff.trans b.ff
 hh:=λx u h n=>b.hh x u (a.hh x u h n) λz=>by rcases a.uu x z with q|q;exact n q;rw[q]at h;cases h
 dm:=λx h=>a.dm x (b.dm x h)
 fn:=λx h z=>by
  by_cases q:p x=none;rcases b.fn x q z with w|w
  ·exact a.uu x w
  exact .inr (a.dm x w);exact a.fn x h q
 uu:=λx h=>by rcases b.uu x h with w|w;exact a.uu x w;exact .inr (a.dm x w)
 bo:=λj t v h n=>by obtain⟨o,m,l⟩:=b.bo j t (by simp) h n;obtain⟨f,e,k⟩:=a.bo j t v o n;exact⟨f,m.trans e,l.trans k⟩
 sg:=λj v=>(b.sg j v).trans (a.sg j v)
theorem Sts.c(s:Sts C J F H S ρ σ p X S1 y g):Stc C F H S ρ σ p X S1 y g:=⟨s.ff,s.hh,s.dm,s.fn,s.uu,s.sg⟩
theorem Stc.trans(a:Stc C F H S ρ σ p X S1 y g)(b:Stc C p X S1 y g B L G Y A):Stc C F H S ρ σ B L G Y A where
 ff:=a.ff.trans b.ff
 hh:=λx u h n=>b.hh x u (a.hh x u h n) λz=>by rcases a.uu x z with q|q;exact n q;rw[q]at h;cases h
 dm:=λx h=>a.dm x (b.dm x h)
 fn:=λx h z=>by
  by_cases q:p x=none;rcases b.fn x q z with w|w
  ·exact a.uu x w
  exact .inr (a.dm x w);exact a.fn x h q
 uu:=λx h=>by rcases b.uu x h with w|w;exact a.uu x w;exact .inr (a.dm x w)
 sg:=λj v=>(b.sg j v).trans (a.sg j v)
theorem ME.fromS(h:ME K F H S ρ E M)(s:Sts C J F H S ρ σ p X S1 y g):ME K p X S1 y E M:=λx k B L G Y v f r q =>
 h x k B L (λ_ _=>False) [] ⟨s.ff.trans v.ff,λb u e n=>v.hh b u (s.hh b u e n) (λz=>(s.uu b z).elim n λw=>(by rw[w]at e;cases e)),λb e=>s.dm b (v.dm b e),λb e z=>by
  by_cases q:p b=none;rcases v.fn b q z with w|w
  ·exact s.uu b w
  exact .inr (s.dm b w);exact s.fn b e q,λb ⟨i,t,e,_⟩=>by simp at e,λj t e=>by simp at e⟩ f r q
structure EndsOk(K:QA)(C:LN)(F H:Hp)(S:Ft)(ρ:kA)(σ:St)(Z:PEnds)(Dn:Ends):Prop where
 nx:∀F' H' S' ρ' σ',Sts C [] F H S ρ σ F' H' S' ρ' σ'->Rl K F' H' S' ρ' σ'->Z.nx ρ'->Dn.nx σ' H'
 rt:∀v t W F' H' S' ρ' σ',Stc C F H S ρ σ F' H' S' ρ' σ'->Rl K F' H' S' ρ' σ'->Tr K F' H' true v t W->Held F' H' S' ρ' W->(∀b,W b->H b=none∨U ρ S b)->Z.rt t ρ'->Dn.rt v H'
 bk:∀F' H' S' ρ' σ',Sts C [] F H S ρ σ F' H' S' ρ' σ'->Rl K F' H' S' ρ' σ'->Z.bk ρ'->Dn.bk σ' H'
 ct:∀F' H' S' ρ' σ',Sts C [] F H S ρ σ F' H' S' ρ' σ'->Rl K F' H' S' ρ' σ'->Z.ct ρ'->Dn.ct σ' H'
theorem As(s:Sts C J F H S ρ σ p X S1 y g){W:cB}(fr:∀b,W b->X b=none∨U y S1 b):∀b,W b->H b=none∨U ρ S b:=λb hb=>by rcases fr b hb with q|q;exact .inl (s.dm b q);exact(s.uu b q).symm
theorem EndsOk.from{Z:PEnds}{b:Ends}(ok:EndsOk K C F H S ρ σ Z b)(s:Sts C [] F H S ρ σ p X S1 y g):EndsOk K C p X S1 y g Z b :=
 ⟨λa k w z x u I q=>ok.nx a k w z x (s.trans u) I q,λv t W a k w z x u I r h fr q=>ok.rt v t W a k w z x (s.c.trans u) I r h (As s fr) q,
  λa k w z x u I q=>ok.bk a k w z x (s.trans u) I q,λa k w z x u I q=>ok.ct a k w z x (s.trans u) I q⟩
theorem Sts.setD(s:Sts C J F H S ρ σ p X S1 y g)(i:Nat)(a:i∉C)(v:V)(k:t.isD=true)(Z:cB):Sts C J F H S ρ σ p X (JH S1 i Z) (y.set i (some (.ky t))) (g.set i (some v)) :=
 ⟨s.ff,s.hh,s.dm,s.fn,λb ⟨j,u,z,w⟩=>by
  rcases dA z with⟨_,e,_⟩| ⟨n,z⟩
  cases e;rw[ZA (Q9 n)]at w;exact s.uu b ⟨j,u,z,w⟩,
 λj u h e x=>by
  rcases dA e with⟨_,e,_⟩| ⟨n,e⟩
  injection e with e;injection e with e;subst e;rw[k]at x;cases x;rw[ZA (Q9 n),yE n];exact s.bo j u h e x,
 λj h=>by have n:i≠j:=λe=>a (e▸h);rw[yE n];exact s.sg j h⟩
theorem Rl.setD(I:Rl K F H S ρ σ)(i:Nat){v:V}{x:D}(r:Rep K F v x):Rl K F H (JH S i λ_=>False) (ρ.set i (bD x)) (σ.set i (some v)) :=
 I.setB i (.d r λ_ z=>z) λ_ _ _ _ _ z=>z.elim
theorem Rl.setN(I:Rl K F H S ρ σ)(i:Nat){v:V}(r:Tr K F H true v t Z)(w:∀(j:Nat) s,j≠i->ρ[j]?=some (some s)->∀b,Z b->¬ S j b):Rl K F H (JH S i Z) (ρ.set i (some (.own t))) (σ.set i (some v)) where
 fh:=I.fh
 len:=by simpa using I.len
 sl:=λj s h=>by
  rcases dA h with⟨rfl,e,hl⟩| ⟨a,h⟩
  cases e;exact⟨v,nW (by rw[<- I.len];exact hl),by rw[SA];exact r⟩;rw[yE a,ZA (Q9 a)];exact I.sl j s h
 dj:=λj k f s n u x b hb hk=>by
  rcases dA u with⟨e,_,_⟩| ⟨l,u⟩
  subst e;rw[SA]at hb;rcases dA x with⟨e,_,_⟩| ⟨z,x⟩
  exact n e;rw[ZA (Q9 z)]at hk;exact w k s (Q9 z) x b hb hk;rw[ZA (Q9 l)]at hb;rcases dA x with⟨e,_,_⟩| ⟨z,x⟩
  subst e;rw[SA]at hk;exact w j _ n u b hk hb;rw[ZA (Q9 z)]at hk;exact I.dj j k f s n u x b hb hk
theorem Sts.setN(s:Sts C J F H S ρ σ p X S1 y g)(i:Nat)(w:i∉C)(v:V)(t:T)(fr:∀b,Z b->H b=none∨U ρ S b):Sts C J F H S ρ σ p X (JH S1 i Z) (y.set i (some (.own t))) (g.set i (some v)) :=
 ⟨s.ff,s.hh,s.dm,s.fn,λb ⟨j,u,z,x⟩=>by
  rcases dA z with⟨rfl,_,_⟩| ⟨n,z⟩
  rw[SA]at x;exact(fr b x).symm;rw[ZA (Q9 n)]at x;exact s.uu b ⟨j,u,z,x⟩,
 λj u h e k=>by
  rcases dA e with⟨_,e,_⟩| ⟨n,e⟩
  cases e;rw[ZA (Q9 n),yE n];exact s.bo j u h e k,
 λj h=>by have n:i≠j:=λe=>w (e▸h);rw[yE n];exact s.sg j h⟩
theorem nO:∀(is:LN) (ds:List D) {ρ x:kA},aB is (ds.map T.d) ρ=some x->∀(j:Nat) t,x[j]?=some (some (.ky t))->t.isD=false->j∉is/\ρ[j]?=some (some (.ky t))
 |[],[],ρ,x,h,j,t,e,hd=>by simp only[wv,aB,Qk]at h;subst h;exact⟨(by simp),e⟩|[],_::_,_,_,h,_,_,_,_=>by simp[aB]at h|_::_,[],_,_,h,_,_,_,_=>by simp[aB]at h|i::is,d::ds,ρ,x,h,j,t,e,hd=>by
  simp only[QV,aB]at h;obtain⟨v,u⟩:=nO is ds h j t e hd;rcases dA u with⟨_,q,_⟩| ⟨n,q⟩
  injection q with q;injection q with q;subst q;cases hd;exact⟨λm=>(QL.mp m).elim (λz=>n z.symm) v,q⟩
theorem Rl.frz1(I:Rl K F H S ρ σ)(h:ρ[i]?=some (some (.own t))):Rl K (NI F H (S i)) H (JH S i λ_=>False) (ρ.set i (bD t.er)) σ/\Sts C [] F H S ρ σ (NI F H (S i)) H (JH S i λ_=>False) (ρ.set i (bD t.er)) σ:=by
 obtain⟨v,hv,r⟩:=I.sl i _ h;have k:=AG (H:=H) λb (hb:S i b)=>(r.dom b hb).2;have O:Rl K F H S (ρ.set i none) σ:=I.drop (by simp) λj s e=>by
  rcases dA e with⟨_,z,_⟩| ⟨_,e⟩
  cases z;exact e
 have l:Held F H S (ρ.set i none) (S i):=⟨r.dom,λj s e b hb z=>by
  rcases dA e with⟨_,q,_⟩| ⟨n,e⟩
  cases q;exact I.dj i j t s n h e b hb z⟩
 have N:=O.frz l;have f:Rep K (NI F H (S i)) v t.er:=Tr.kept k r λb u hb e=>by rw[MI hb];exact e
 have a:=N.setD i f;have W:(ρ.set i none).set i (bD t.er)=ρ.set i (bD t.er):=by simp
 have o:σ.set i (some v)=σ:=by apply qz;intro j;rw[wA];split;rename_i e;subst e;split;exact hv.symm;rename_i n;rw[Q8 (by omega)];rfl
 rw[W,o]at a;refine⟨a,⟨k,λb u e _=>e,λb e=>e,λb e z=>.inl ?_,λb ⟨j,u,x,w⟩=>.inl ?_,λj u _ e m=>?_,λ_ _=>rfl⟩⟩;by_cases hb:S i b
 ·exact⟨i,t,h,hb⟩
 rw[gC hb]at z;exact absurd e z;rcases dA x with⟨_,q,_⟩| ⟨n,x⟩
 ·cases q
 rw[ZA (Q9 n)]at w;exact⟨j,u,x,w⟩;rcases dA e with⟨_,q,_⟩| ⟨n,e⟩
 ·injection q with q;injection q with q;subst q;cases m
 exact⟨e,ZA (Q9 n),rfl⟩
theorem MY{f:Option Sl->Option Sl}:ρ.modify i f=match ρ[i]? with|some o=>ρ.set i (f o)|none=>ρ:=by
 apply qz;intro j;rw[Wo];cases h:ρ[i]? with|none=>simp only;by_cases e:i=j;subst e;simp[h];simp[e]|some o=>simp only;rw[wA];by_cases e:i=j;subst e;obtain⟨hl,rfl⟩:=Qg.mp h;simp[hl];simp[e]
theorem iR{α:Type}{l:List α}{o:α}(h:l[i]?=some o):l.set i o=l:=by apply qz;intro j;rw[wA];split;rename_i e;subst e;rw[if_pos (Qg.mp h).1,h];rfl
theorem Rl.frzAt:∀(is:LN) {F:Hp}{S:Ft}{ρ:kA},Rl K F H S ρ σ->∃x S',Rl K x H S' (frzAt is ρ) σ/\Sts C [] F H S ρ σ x H S' (frzAt is ρ) σ
 |[],F,S,ρ,I=>⟨F,S,I,.refl⟩|i::is,F,S,ρ,I=>by
  have one:∃p S1,Rl K p H S1 (ρ.modify i rV) σ/\Sts C [] F H S ρ σ p H S1 (ρ.modify i rV) σ:=by
   rw[MY];cases h:ρ[i]? with
   |none=>exact⟨F,S,I,.refl⟩|some o =>
    cases o with
    |none=>have e:ρ.set i (rV none)=ρ:=iR h;simp only[e];exact⟨F,S,I,.refl⟩|some z =>
     cases z with|ky t=>have e:ρ.set i (rV (some (.ky t)))=ρ:=iR h;simp only[e];exact⟨F,S,I,.refl⟩|own t=>exact⟨_,_,I.frz1 h⟩
  obtain⟨p,S1,k,v⟩:=one;obtain⟨B,G,w,u⟩:=Rl.frzAt is k;exact⟨B,G,w,v.trans u⟩
end
end
noncomputable def OJ(C:LN):PT->Bool
 | .seq s r=>OJ C s&&OJ C r|.set i _=>!C.contains i|.own i _=>!C.contains i|.ife _ a b=>OJ C a&&OJ C b|.for_ x _ _ h=>x.ix.all (λi=>!C.contains i)&&OJ C h|.nil=>true|.expr _=>true|.ret _=>true|.tset y _=>y.all λi=>!C.contains i|.six _ _ _=>true|.sdf _ _=>true|.whl _ h=>OJ C h|.frz _ s=>OJ C s
section
variable{K:QA}{Γ:Ev}{Ψ:PEv}{E:XE}{O:XK}{F H D B F2 N:Hp}{S S1 P:Ft}{ρ A M:kA}{σ G R:St}{C J:LN}
theorem Sts.bind{L:LN}(s:Sts C J F H S ρ σ D B S1 A G)(b:Bd L D B S1 A G F2 N P M R)(v:∀j∈L,j∈J)(w:∀j∈L,j∉C):Sts C J F H S ρ σ F2 N P M R :=
 ⟨s.ff.trans b.ff,λx u e n=>b.hh x u (s.hh x u e n),λx e=>s.dm x (b.dm x e),λx e z=>by
  by_cases q:D x=none;exact .inr (s.dm x (b.fn x q z));exact s.fn x e q,λx u=>s.uu x (b.U u),λj t h e y=>by
  obtain⟨l,i,g⟩:=b.out j λz=>h (v j z);rw[l]at e;obtain⟨f,a,k⟩:=s.bo j t h e y;exact⟨f,i.trans a,g.trans k⟩,λj h=>(b.out j λz=>w j z h).2.2.trans (s.sg j h)⟩
theorem oX{g:Tg}{body:PEnds->kA->Prop}{tb:TS}{Z:PEnds}{o:Ends}{xs:List Item}{p:LT}{st:Hp->Prop}{Y:cB}
  (ib:∀{F H:Hp}{S:Ft}{ρ:kA}{σ:St}{Z:PEnds}{o:Ends},Rl K F H S ρ σ->ME K F H S ρ E O->body Z ρ->EndsOk K C F H S ρ σ Z o->tb o σ H)
  (I:Rl K F H S ρ σ) (X:ME K F H S ρ E O) (hC:∀j∈g.ix,j∉C) (pr:Paired (CZ K F H Y) xs p) (hy:∀b,Y b->¬ U ρ S b/\H b≠none/\F b=none) (hst:∀f k,Same F f->Same f k->(∀b,Y b->k b=H b)->st k) (h:LH body g Z p ρ)
  (onx:∀f k S' z w,Sts C g.ix F H S ρ σ f k S' z w->Rl K f k S' z w->Z.nx z->o.nx w k)
  (ort:∀v t W f k S' z w,Stc C F H S ρ σ f k S' z w->Rl K f k S' z w->Tr K f k true v t W->Held f k S' z W->(∀b,W b->H b=none∨U ρ S b)->Z.rt t z->o.rt v k):Pj K xs st g tb o σ H:=by
 intro J hJ;have len:=qH pr;have yk:∀{D B:Hp}{S1:Ft}{A:kA}{G:St},Sts C g.ix F H S ρ σ D B S1 A G->∀b,Y b->B b=H b/\D b=none:=λ{D B S1 A G} s b hb=>by
  obtain⟨n,d1,d2⟩:=hy b hb;refine⟨?_,?_⟩;cases e:H b with|none=>exact absurd e d1|some u=>exact s.hh b u e n
  by_cases q:D b=none
  ·exact q
  exact((s.fn b d2 q).elim n d1).elim
 refine⟨λi m w k=>i<=xs.length/\m=xs.length - i/\∃z f S',Sts C g.ix F H S ρ σ f k S' z w/\Rl K f k S' z w/\LH body g Z (p.drop i) z,⟨_,Qt _,rfl,ρ,F,S,.refl,I,by simpa using h⟩,?_⟩;rintro i m G B ⟨hi,rfl,A,D,S1,L,I1,h1⟩;have hs:=hst D B L.ff I1.fh λb hb=>(yk L b hb).1;rcases QAx i xs.length with l|hge;refine .inr ⟨hJ.go i B hs l,λw k=>i+1<=xs.length/\∃z f S',Sts C g.ix F H S ρ σ f k S' z w/\Rl K f k S' z w/\LH body g Z (p.drop (i+1)) z,λw k ⟨a,b⟩=>⟨_,by omega,a,rfl,b⟩,λx N hyl=>?_⟩;obtain⟨it,hx,hm⟩:=hJ.yld i B x N hs l hyl;obtain⟨y,hd,ry⟩:=Paired.get_of pr hx;rw[hd]at h1;unfold LH at h1;have key:L3.bindI K g it G B λR N=>tb { o with nx:=λw k=>i+1<=xs.length/\∃z f S',Sts C g.ix F H S ρ σ f k S' z w/\Rl K f k S' z w/\LH body g Z (p.drop (i+1)) z,ct:=λw k=>i+1<=xs.length/\∃z f S',Sts C g.ix F H S ρ σ f k S' z w/\Rl K f k S' z w/\LH body g Z (p.drop (i+1)) z,bk:=o.nx } R N:=by
  refine jN I1 (λb hb u=>?_) (ry.mono L.ff (yk L)) h1 λM R F2 H3 P bd I2 h2=>?_;rcases L.uu b u with q|q
  ·exact(hy b hb).1 q
  exact(hy b hb).2.1 q;have s2:=L.bind bd (λj hj=>hj) hC;exact ib I2 (X.fromS s2) h2 ⟨λf k S' z w Q I' q=>⟨l,z,f,S',s2.trans Q,I',q⟩,λv t W f k S' z w Q I' r hw fr q=>ort v t W f k S' z w (s2.c.trans Q) I' r hw (As s2 fr) q,
   λf k S' z w Q I' q=>onx f k S' z w (s2.trans Q) I' q,λf k S' z w Q I' q=>⟨l,z,f,S',s2.trans Q,I',q⟩⟩
 exact yN hm key;have e:p.drop i=[]:=WW (by omega);rw[e]at h1;exact .inl ⟨hJ.stop i B hs hge,onx D B S1 A G L I1 h1⟩
theorem cG:∀(J:LN) (ρ:kA) (i:Nat) s,(kill J ρ)[i]?=some (some s)->ρ[i]?=some (some s)/\(i∈J->∀t,s=.ky t->t.isD=true)
 |[],ρ,i,s,h=>⟨h,λz=>by simp at z⟩|j::J,ρ,i,s,h=>by
  unfold kill at h;obtain⟨x,w⟩:=cG J _ i s h;rw[Wo]at x;by_cases e:j=i;subst e;simp only[reduceIte]at x;cases q:ρ[j]? with
  |none=>rw[q]at x;cases x|some o =>
   rw[q]at x;have x:UK o=some s:=by simpa using x
   cases o with
   |none=>cases x|some v =>
    cases v with
    |own t=>cases x;exact⟨rfl,λ_ u z=>by cases z⟩|ky t =>
     have x:(if t.isD=true then some (Sl.ky t) else none)=some s:=x;cases y:t.isD with|true=>rw[y,if_pos rfl]at x;cases x;exact⟨rfl,λ_ u z=>by cases z;exact y⟩|false=>rw[y]at x;simp at x
  simp only[e,if_false]at x;refine⟨by simpa using x,λm=>w ((QL.mp m).elim (λz=>absurd z.symm e) id)⟩
theorem VM:∀(J:LN) (ρ:kA),(kill J ρ).length=ρ.length
 |[],_=>rfl|j::J,ρ=>by unfold kill;rw[VM J];simp
theorem Sts.kill(s:Sts C J F H S ρ σ D B S1 A G):Sts C [] F H S ρ σ D B S1 (L3.kill J A) G :=
 ⟨s.ff,s.hh,s.dm,s.fn,λb ⟨i,t,y,x⟩=>s.uu b ⟨i,t,(cG J A i _ y).1,x⟩,λj t _ e h=>by obtain⟨y,x⟩:=cG J A j _ e;by_cases z:j∈J;rw[x z t rfl]at h;cases h;exact s.bo j t z y h,s.sg⟩
theorem nS:∀(L:LN) (ρ:kA) (j:Nat),(lock L ρ)[j]?=if j∈L then ρ[j]?.map uG else ρ[j]?
 |[],ρ,j=>by simp[lock]|i::L,ρ,j=>by
  have x:∀o,uG (uG o)=uG o:=λo=>by
   match o with
   |none=>rfl|some (.own _)=>rfl|some (.ky _)=>rfl
  unfold lock;rw[nS L,Wo];by_cases e:i=j;subst e;cases h:ρ[i]? with|none=>simp|some o=>simp[x]
  have y:¬ j=i:=λz=>e z.symm;simp[e,y]
theorem mS:∀(L:LN) (ρ:kA),(lock L ρ).length=ρ.length
 |[],_=>rfl|i::L,ρ=>by unfold lock;rw[mS L];simp
theorem UL:∀(L:LN) (x ρ:kA) (j:Nat),(∀i∈L,i<ρ.length)->(XC L x ρ)[j]?=if j∈L then some (x[j]?.getD none) else ρ[j]?
 |[],x,ρ,j,_=>by simp[XC]|i::L,x,ρ,j,h=>by unfold XC;rw[UL L x _ j (λk hk=>by simpa using h k (QE _ hk)),wA];by_cases e:i=j;subst e;simp[h i QD];have y:¬ j=i:=λz=>e z.symm;simp[e,y]
theorem VL:∀(L:LN) (h ρ:kA),(XC L h ρ).length=ρ.length
 |[],_,_=>rfl|i::L,h,ρ=>by unfold XC;rw[VL L];simp
theorem UH{ρ:kA}:∀(is:LN),∀i∈fC ρ is,∃t,ρ[i]?=some (some (.own t))
 |[],i,h=>by simp[fC]at h|j::is,i,h=>by
  unfold fC at h;split at h
  ·rename_i ho
   rcases QL.mp h with e|e
   ·subst e
    unfold oM at ho;split at ho;rename_i t e;exact⟨t,e⟩
    all_goals cases ho
   exact UH is i e
  exact UH is i h
theorem mM{ρ:kA}{i:Nat}{t:T}(h:ρ[i]?=some (some (.own t))):∀(is:LN),i∈is->i∈fC ρ is
 |[],hi=>by simp at hi|j::is,hi=>by
  unfold fC;rcases QL.mp hi with e|e;subst e;have:oM ρ[i]?=true:=by rw[h];rfl
  rw[if_pos this];exact QD;have:=mM h is e;split;exact QE _ this;exact this
section
variable{L:LN}(y:∀i∈L,∃t,ρ[i]?=some (some (.own t)))
include y
theorem ZK{i:Nat}{s:Sl}(h:(lock L ρ)[i]?=some (some s)):(i∈L/\∃t,ρ[i]?=some (some (.own t))/\s=.ky t)∨(i∉L/\ρ[i]?=some (some s)):=by rw[nS]at h;by_cases x:i∈L;rw[if_pos x]at h;obtain⟨t,e⟩:=y i x;rw[e]at h;injection h with h;injection h with h;exact .inl ⟨x,t,e,h.symm⟩;rw[if_neg x]at h;exact .inr ⟨x,h⟩
theorem uF{b:Addr}(h:U (lock L ρ) S b):U ρ S b:=by
 obtain⟨i,t,x,z⟩:=h;rcases ZK y x with⟨_,u,_,e⟩| ⟨_,x⟩
 cases e;exact⟨i,t,x,z⟩
theorem Rl.lock(I:Rl K F H S ρ σ):Rl K F H S (L3.lock L ρ) σ where
 fh:=I.fh
 len:=by rw[mS];exact I.len
 sl:=λi s e=>by
  rcases ZK y e with⟨_,t,h,rfl⟩| ⟨_,h⟩
  obtain⟨v,u,x⟩:=I.sl i _ h;exact⟨v,u,x.weak⟩;exact I.sl i s h
 dj:=λi j t s n k w=>by
  rcases ZK y k with⟨_,_,_,z⟩| ⟨_,u⟩
  cases z;rcases ZK y w with⟨_,a,x,_⟩| ⟨_,x⟩
  ·exact I.dj i j t _ n u x
  exact I.dj i j t s n u x
theorem Rl.lockU(I:Rl K F H S ρ σ){i:Nat}(x:i∈L){b:Addr}(hb:S i b):¬ U (L3.lock L ρ) S b:=λ⟨j,t,h,v⟩=>by
 obtain⟨w,e⟩:=y i x;rcases ZK y h with⟨_,_,_,z⟩| ⟨u,h⟩
 cases z;exact I.dj j i t _ (λz=>u (z▸x)) h e b v hb
theorem TX(I:Rl K F H S ρ σ)(s:Sts C [] F H S (lock L ρ) σ D B S1 A G)(W:Rl K D B S1 A G)(hl:∀i∈L,A[i]?=ρ[i]?.map uG) :
  ∃P,Rl K D B P (XC L ρ A) G/\Sts C [] F H S ρ σ D B P (XC L ρ A) G:=by
 classical
 have l1:∀i∈L,∃t,ρ[i]?=some (some (.own t))/\A[i]?=some (some (.ky t)):=λi h=>by obtain⟨t,e⟩:=y i h;have:=hl i h;rw[e]at this;exact⟨t,e,this⟩
 have hlt:∀i∈L,i<A.length:=λi h=>by obtain⟨t,_,e⟩:=l1 i h;exact(Qg.mp e).1
 let P:Ft:=λi=>if i∈L then S i else S1 i
 have l:∀i∈L,P i=S i:=λi h=>if_pos h;have g:∀i,i∉L->P i=S1 i:=λi h=>if_neg h;have get:∀i a,(XC L ρ A)[i]?=some (some a)->(i∈L/\∃t,ρ[i]?=some (some (.own t))/\A[i]?=some (some (.ky t))/\a=.own t)∨(i∉L/\A[i]?=some (some a)):=λi a e=>by rw[UL L ρ A i hlt]at e;by_cases h:i∈L;rw[if_pos h]at e;obtain⟨t,f,Y⟩:=l1 i h;rw[f]at e;injection e with e;have e:some (Sl.own t)=some a:=e;injection e with e;exact .inl ⟨h,t,f,Y,e.symm⟩;rw[if_neg h]at e;exact .inr ⟨h,e⟩
 have Q:∀i∈L,∀k a,k∉L->A[k]?=some (some a)->∀b,S i b->¬ S1 k b:=λi h k a hk e b hb z=>by
  obtain⟨t,f,_⟩:=l1 i h;cases a with
  |own u=>rcases s.uu b ⟨k,u,e,z⟩ with q|q;exact I.lockU y h hb q;exact(I.dom f hb).1 q
  |ky u =>
   cases o:u.isD with
   |true=>exact W.isD e o z|false =>
    obtain⟨m,p,_⟩:=s.bo k u (by simp) e o;rw[p]at z;rcases ZK y m with⟨q,_⟩| ⟨_,m⟩
    exact hk q;exact I.dj i k t _ (λq=>hk (q▸h)) f m b hb z
 refine⟨P,⟨W.fh,by rw[VL];exact W.len,λi a e=>?_,λi k t a n f Y b hb hk=>?_⟩,⟨s.ff,λb u e n=>s.hh b u e λz=>n (uF y z),s.dm,λb e z=>(s.fn b e z).imp (uF y) id,λb ⟨i,t,h1,h2⟩=>?_,λj t _ e o=>?_,s.sg⟩⟩;rcases get i a e with⟨h,t,f,Y,rfl⟩| ⟨h,f⟩
 ·rw[l i h]
  obtain⟨v,m,p⟩:=I.sl i _ f;cases o:t.isD with
  |true =>
   obtain⟨v',g3,g4⟩:=W.sl i _ Y;refine⟨v',g3,?_⟩;have nb:∀b,¬ S i b:=λb=>I.isD f o;cases t with
   |d x =>
    have g4:Tr K D B false v' (.d x) (S1 i):=g4;cases g4 with|d r _=>exact .d r nb
   |_=>cases o
  |false =>
   obtain⟨_,_,g5⟩:=s.bo i t (by simp) Y o;refine⟨v,g5.trans m,?_⟩;have p:Tr K F H true v t (S i):=p;refine p.mono s.ff λb hb=>?_;obtain⟨d1,d2⟩:=p.dom b hb;have nu:=I.lockU y h hb;refine⟨?_,?_⟩;cases eb:H b with|none=>exact absurd eb d1|some u=>exact s.hh b u eb nu
   by_cases q:D b=none
   ·exact q
   exact((s.fn b d2 q).elim nu d1).elim
 rw[g i h];exact W.sl i a f;rcases get i _ f with⟨h,t',X,a2,_⟩| ⟨h,X⟩
 ·rw[l i h]at hb
  rcases get k a Y with⟨w,t2,Z,b2,_⟩| ⟨w,Z⟩
  rw[l k w]at hk;exact I.dj i k t' _ n X Z b hb hk;rw[g k w]at hk;exact Q i h k a w Z b hb hk
 rw[g i h]at hb;rcases get k a Y with⟨w,t2,Z,b2,_⟩| ⟨w,Z⟩
 rw[l k w]at hk;exact Q k w i _ h X b hk hb;rw[g k w]at hk;exact W.dj i k t a n X Z b hb hk;rcases get i _ h1 with⟨h,t',X,a2,_⟩| ⟨h,X⟩
 ·rw[l i h]at h2
  exact .inl ⟨i,t',X,h2⟩
 rw[g i h]at h2;exact(s.uu b ⟨i,t,X,h2⟩).imp (uF y) id;rcases get j _ e with⟨_,_,_,_,z⟩| ⟨hj,f⟩
 ·cases z
 obtain⟨m,p,g3⟩:=s.bo j t (by simp) f o;rcases ZK y m with⟨q,_⟩| ⟨_,m⟩
 exact absurd q hj;exact⟨m,(g j hj).trans p,g3⟩
end
theorem IP{i:Nat}(h:(!C.contains i)=true):i∉C:=λz=>by have:C.contains i=true:=Qu.mpr z;rw[this]at h;cases h
theorem SR{is:LN}(h:(is.all λi=>!C.contains i)=true):∀i∈is,i∉C:=λi x=>IP (Qq.mp h i x)
theorem UX:∀{xs:List (T×Bool)},AQ xs=true->∀t∈HN xs,t.isD=true
 |[],_,t,h=>by simp[HN]at h|p::r,h,t,y=>by
  simp only[AQ,Qa]at h;simp only[HN,QL]at y;rcases y with rfl|y;obtain⟨x,n⟩:=p;cases n with
  |true=>rfl|false =>
   have z:=h.1;cases x with|d x=>rfl|_=>cases z
  exact UX h.2 t y
theorem Tn.bare{Y:cB}{vs:LV}{ts:LT}(h:Tn K F H Y vs ts):(∀t∈ts,t.isD=true)->Tn K F H (λ_=>False) vs ts:=by
 induction h with
 |nil=>exact λ_=>.nil|@cons v t vs ts Z r z a w =>
  intro y;refine .cons (Z:=λ_=>False) ?_ (λ_ z=>z) (w λu k=>y u (QE _ k));have y:=y t QD;cases t with
  |d x=>cases r with|d q _=>exact .d q λ_ z=>z
  |_=>cases y
theorem N2{v:V}{t:T}{W:cB}{Z:PEnds}{h:Ends}(ok:EndsOk K C F H S ρ σ Z h)(s:Ste F H S ρ D B S1 A)(I:Rl K D B S1 A σ)(r:Tr K D B true v t W)(x:Held D B S1 A W)(fr:∀b,W b->H b=none∨U ρ S b)(q:Z.rt t A):h.rt v B :=
 ok.rt v t W D B S1 A σ (s.toStp.sts (J:=[])).c I r x fr q
theorem P8(g:GOk K Γ Ψ):∀(e:PX) {F H:Hp}{S:Ft}{ρ:kA}{σ:St}{Z:PEnds}{k:Ends},Rl K F H S ρ σ->ME K F H S ρ E O->HK Ψ E Z.rt e ρ->EndsOk K C F H S ρ σ Z k->(wp K Γ e O).e σ H k.rt:=by
  intro e F H S ρ σ Z k I X h ok;have f:∀e,(pe Ψ e E).e ρ (λx n A=>lH x n=true/\Z.rt x A)->(wp K Γ e O).e σ H k.rt:=λe h=>by refine(AA g e).e (Q:=λx n A=>lH x n=true/\Z.rt x A) I X h λv F' H' S' l x n Za s J r ⟨Y,q⟩=>?_;obtain⟨W,m,o,fr⟩:=r.strict Y;exact N2 ok s J m o fr q
  cases e with
  |xz i =>
   have y:lr ρ i Z.rt ρ[i]?:=h;show(match σ[i]? with|some (some v)=>k.rt v _|_=>False)
   match a:ρ[i]?,y with
   |some (some (.own t)),y =>
    obtain⟨v,w,r⟩:=I.sl i _ a;rw[w];have I0:Rl K F H S (ρ.set i none) σ:=I.drop (by simp) λj s e=>by
     rcases dA e with⟨_,z,_⟩| ⟨_,e⟩
     cases z;exact e
    refine ok.rt v t (S i) F H S (ρ.set i none) σ ⟨.refl _,λb u e _=>e,λb e=>e,λb e z=>absurd e z,λb ⟨j,u,w,L⟩=>.inl ?_,λ_ _=>rfl⟩ I0 r ⟨r.dom,λj s e b hb z=>?_⟩ (λb hb=>.inr ⟨i,t,a,hb⟩) y;rcases dA w with⟨_,z,_⟩| ⟨_,w⟩
    ·cases z
    exact⟨j,u,w,L⟩;rcases dA e with⟨_,q,_⟩| ⟨n,e⟩
    ·cases q
    exact I.dj i j t s n a e b hb z
   |some (some (.ky t)),y =>
    obtain⟨v,w,r⟩:=I.sl i _ a;rw[w];obtain⟨p,y⟩:=y;cases t with
    |d x =>
     have r:Tr K F H false v (.d x) (S i):=r;cases r with|d q n=>exact N2 (W:=λ_=>False) ok .refl I (.d q λ_ z=>z) .none (λ_ z=>z.elim) y
    |_=>cases p
   |some none,y=>exact y.elim|none,y=>exact y.elim
  |_=>exact f _ h
theorem sI(g:GOk K Γ Ψ):∀(p:PT) {F H:Hp}{S:Ft}{ρ:kA}{σ:St}{Z:PEnds}{Dn:Ends},OJ C p=true->Rl K F H S ρ σ->ME K F H S ρ E O->dB Ψ E p Z ρ->EndsOk K C F H S ρ σ Z Dn->uR K Γ O p Dn σ H
 | .nil,_,_,_,_,_,_,_,c,I,X,h,ok=>ok.nx _ _ _ _ _ .refl I h|.seq s r,_,_,_,_,_,_,_,c,I,X,h,ok=>by obtain⟨c1,c2⟩:=yA c;exact sI g s c1 I X h ⟨λF' H' S' L σ' s' J q=>sI g r c2 J (X.fromS s') q (ok.from s'),ok.rt,ok.bk,ok.ct⟩|.set i e,F,H,S,ρ,σ,Z,Dn,c,I,X,h,ok=>by have hi:=IP c;refine XF (RR:=λx B=>Dn.nx (σ.set i (some x)) B) (AA g e) I X h λv F' H' S' L x n Za s J X' r er _ ⟨he,q⟩=>?_;exact ok.nx _ _ _ _ _ (s.toStp.sts.setD i hi v rfl _) (J.setD i (er he)) q|.expr e,F,H,S,ρ,σ,Z,Dn,c,I,X,h,ok=>(AA g e).e I X h λv F' H' S' L x n Za s J r q=>ok.nx _ _ _ _ _ s.toStp.sts J q|.ret e,F,H,S,ρ,σ,Z,Dn,c,I,X,h,ok=>P8 g e I X h ok|.ife t a b,F,H,S,ρ,σ,Z,Dn,c,I,X,h,ok=>by
  obtain⟨c1,c2⟩:=yA c;refine(AA g t).t I X h λk F' H' S' L s J q=>?_;cases k with|true=>exact sI g a c1 J (X.from s.toStp) q (ok.from s.toStp.sts)|false=>exact sI g b c2 J (X.from s.toStp) q (ok.from s.toStp.sts)
 | .for_ tg ik its body,F,H,S,ρ,σ,Z,Dn,c,I,X,h,ok=>by
  obtain⟨c1,c2⟩:=yA c;have hC:=SR c1;refine SV (RR:=λvs B=>aC K ik vs B λxs st N=>Pj K xs st tg (uR K Γ O body) Dn σ N) (AA g its) I X h λvs D B S1 A xs Y s1 I1 X1 tn tm q=>?_;rw[iL _ rfl]at q;have ok1:=ok.from s1.toStp.sts;cases ha:AQ xs with
  |true=>have tn':=tn.bare (UX ha);refine AJ I1.fh tn' q λits ys st pr hst hc=>?_;rw[ha,if_pos rfl]at hc;refine oX (λI X h ok=>sI g body c2 I X h ok) I1 X1 hC pr (λb z=>z.elim) hst hc ?_ ?_;exact λF' H' S' L σ' s' I' q=>ok1.nx _ _ _ _ _ s'.kill (I'.drop (VM _ _) λi sl e=>(cG _ _ i sl e).1) q;exact λv t W F' H' S' L σ' s' I' r hw fr q=>ok1.rt v t W F' H' S' L σ' s' I' r hw fr q|false =>
   refine AJ I1.fh tn q λits' ys st pr hst hc=>?_;rw[ha,if_neg (by simp)]at hc;have hL:=UH (ρ:=A) (yH its);have IL:=I1.lock hL;have sL:Sts C [] D B S1 A σ D B (λ_ _=>False) [] σ:=⟨.refl _,λb u e _=>e,λb e=>e,λb e z=>absurd e z,λb ⟨i,t,e,_⟩=>by simp at e,λj t _ e=>by simp at e,λ_ _=>rfl⟩
   have XL:ME K D B S1 (lock (fC A (yH its)) A) E O:=λx dx F2 N P M s2 f r q =>
    X1 x dx F2 N (λ_ _=>False) [] ⟨s2.ff,λb u e n=>s2.hh b u e λz=>n (uF hL z),s2.dm,λb e z=>(s2.fn b e z).imp (uF hL) id,λb ⟨i,t,e,_⟩=>by simp at e,λj t e=>by simp at e⟩ f r q
   refine oX (λI X h ok=>sI g body c2 I X h ok) IL XL hC pr (λb hb=>?_) hst hc ?_ ?_;obtain⟨i,sl,h1,h2,h3⟩:=tm b hb;refine⟨λu=>?_,I1.dom h2 h3⟩;cases sl with
   |own t=>exact I1.lockU hL (mM h2 _ h1) h3 u|ky t =>
    obtain⟨j,t',e1,e2⟩:=u;rcases ZK hL e1 with⟨_,_,_,z⟩| ⟨_,e1⟩
    cases z;exact I1.dj j i t' _ (λz=>by subst z;rw[h2]at e1;cases e1) e1 h2 b e2 h3
   intro F' H' S' L σ' s' I' ⟨q1,q2⟩;have sk:=s'.kill;have Ik:=I'.drop (VM tg.ix L) λi sl e=>(cG _ _ i sl e).1;obtain⟨P,I2,s2⟩:=TX hL I1 sk Ik λi hi=>(q1 i hi).2;exact ok1.nx _ _ _ _ _ s2 I2 q2;intro v t W F' H' S' L σ' s' I' r hw fr q;exact ok1.rt v t W F' H' S' L σ' ⟨s'.ff,λb u e n=>s'.hh b u e λz=>n (uF hL z),s'.dm,λb e z=>(s'.fn b e z).imp (uF hL) id,λb u=>(s'.uu b u).imp (uF hL) id,s'.sg⟩ I' r hw (λb hb=>(fr b hb).imp id (uF hL)) q
 | .own i e,F,H,S,ρ,σ,Z,Dn,c,I,X,h,ok=>by refine(AA g e).e (Q:=λx n A=>lH x n=true/\Z.nx (A.set i (some (.own x)))) I X h λv F' H' S' L x n Za s J r ⟨he,q⟩=>?_;obtain⟨W,r2,hw,fr⟩:=r.strict he;exact ok.nx _ _ _ _ _ (s.toStp.sts.setN i (IP c) v x fr) (J.setN i r2 λj sl _ e b hb=>hw.nw j sl e b hb) q|.tset is e,F,H,S,ρ,σ,Z,Dn,c,I,X,h,ok=>by
  have hc:=SR c;refine XF (RR:=λx B=>VE K (.tp is) x σ B Dn.nx) (AA g e) I X h λv F' H' S' L x n Za s J X' r er _ ⟨he,q⟩=>?_;have q2:DK (.tp is) (.d x.er) L λM=>Z.nx M/\∀(j:Nat) t,M[j]?=some (some (.ky t))->t.isD=false->j∉is:=by
   generalize x.er=d at q;cases d with
   |tuple ds=>obtain⟨M,e,q⟩:=q;exact⟨M,e,q,λj t h1 h2=>(nO is ds e j t h1 h2).1⟩|dict kvs =>
    have q:(match BB kvs with | .tp ts=>∃M,aB is ts L=some M/\Z.nx M|_=>False):=q;unfold BB at q;cases ek:jD kvs with|none=>rw[ek]at q;exact q.elim|some b=>rw[ek]at q;exact q.elim
   |_=>exact q.elim
  refine jN (Y:=λ_=>False) (it:=.one v) J (λb z=>z.elim) ⟨λ_=>False,.d (er he) λ_ z=>z,λ_ z=>z⟩ q2 λM R F2 N P bd J2 qn=>?_;have st:=(s.toStp.sts (σ:=σ) (C:=C) (J:=is)).bind bd (λj hj=>hj) hc;exact ok.nx _ _ _ _ _ ⟨st.ff,st.hh,st.dm,st.fn,st.uu,λj t _ e hd=>st.bo j t (qn.2 j t e hd) e hd,st.sg⟩ J2 qn.1
 | .six o i e,F,H,S,ρ,σ,Z,Dn,c,I,X,h,ok=>by
  have later:∀{j:Nat}{t:T}{v0:V},ρ[j]?=some (some (.own t))->Tr K F H true v0 t (S j)->∀{F' H':Hp}{S':Ft}{L:kA},Ste F H S (ρ.set j (some (.ky t))) F' H' S' L->Tr K F' H' true v0 t (S j)/\∀b,S j b->H' b=H b:=λ{j t v0} hj r0 {F' H' S' L} s=>⟨s.toStp.keep r0 (I.lock1U hj),λb hb=>by
   cases e:H b with|none=>exact absurd e (r0.dom b hb).1|some u=>exact s.hh b u e (I.lock1U hj b hb)⟩
  cases o with
  |xz j =>
   have h:zD ρ[j]? _:=h;unfold zD at h;split at h;rename_i t hj;obtain⟨v0,hv,r0⟩:=I.sl j _ hj;have r0:Tr K F H true v0 t (S j):=r0;show(wp K Γ e O).e σ H λv B=>(wp K Γ (.xz j) O).e σ B λov N=>(wp K Γ i O).e σ N λiv H3=>YR K ov iv v H3 λH4=>Dn.nx σ H4;refine XF (AA g e) (I.lock1 hj) (X.lock1 hj) h λxv D B S1 A x n Zx s1 I1 X1 _ er1 _ ⟨he,q1⟩=>?_;have rx:=er1 he;show(match σ[j]? with|some (some v)=>_|_=>False);rw[hv];refine XF (AA g i) I1 X1 q1 λiv F2 N P M y m Zy s2 I2 X2 _ er2 _ ⟨he2,hj2,q2⟩=>?_;have s12:=s1.trans s2;refine B1 I2.fh (later hj r0 s12).1 (er2 he2) (rx.mono s2.ff) q2 λt' H3 S3 hh dm rt sub q=>?_;obtain⟨st,I3,_⟩:=oI (W:=λ_=>False) I hj hv s12 I2 hh dm rt (λb hb=>.inl (sub b hb)) .none (λ_ z=>z.elim);exact ok.nx _ _ _ _ _ st.toStp.sts I3 q
   all_goals exact h.elim
  |idx a k =>
   cases a with
   |xz j =>
    have h:zD ρ[j]? _:=h;unfold zD at h;split at h;rename_i t hj;obtain⟨v0,hv,r0⟩:=I.sl j _ hj;have r0:Tr K F H true v0 t (S j):=r0;show(wp K Γ e O).e σ H λv B=>(wp K Γ (.xz j) O).e σ B λov N=>(wp K Γ k O).e σ N λzv H3=>oY K ov zv H3 λow H4=>(wp K Γ i O).e σ H4 λiv H5=>YR K ow iv v H5 λH6=>Dn.nx σ H6;refine XF (AA g e) (I.lock1 hj) (X.lock1 hj) h λxv D B S1 A x n Zx s1 I1 X1 _ er1 _ ⟨he,q1⟩=>?_;have rx:=er1 he;show(match σ[j]? with|some (some v)=>_|_=>False);rw[hv];refine XF (AA g k) I1 X1 q1 λzv F2 N P M z l Zz s2 I2 X2 _ er2 _ ⟨hez,b,ks,ts,n,s,et,hk,hf,ht,q2⟩=>?_;have s12:=s1.trans s2;have rz:=er2 hez;subst et;obtain⟨r2,k2⟩:=later hj r0 s12;obtain⟨a,o,vs,ea,ho,dk,hw⟩:∃a o vs,v0=.ref a/\N a=some o/\gK K F2 b o ks vs/\∃w,vs[n]?=some w/\S j a:=by
     cases r2 with|dct h1 dk h2 h3 h4 h5=>obtain⟨w,_,g1,_⟩:=h3.get ht;exact⟨_,_,_,rfl,h1,dk,w,g1,(h5 _).mpr (.inl rfl)⟩
    obtain⟨w,hw,sa⟩:=hw;subst ea;have gd:=(dk.mono I2.fh).get ho (rz.mono I2.fh) hk;rw[hf]at gd;have gd:jR K N a zv (vs[n]?):=gd;rw[hw]at gd;have fin:(wp K Γ i O).e σ N λiv H5=>YR K w iv xv H5 λH6=>Dn.nx σ H6:=by
     refine XF (AA g i) I2 X2 q2 λiv F3 H3 S3 ρ3 y m Zy s3 I3 X3 _ er3 _ ⟨he3,hj3,q3⟩=>?_;have s13:=s12.trans s3;obtain⟨r3,k3⟩:=later hj r0 s13;have ho3:H3 a=some o:=by rw[k3 a sa,<- k2 a sa];exact ho
     refine Y8 I3.fh r3 ho3 dk hw ht (er3 he3) ((rx.mono s2.ff).mono s3.ff) q3 λt' H4 S4 hh dm rt sub q=>?_;obtain⟨st,I4,_⟩:=oI (W:=λ_=>False) I hj hv s13 I3 hh dm rt (λb hb=>.inl (sub b hb)) .none (λ_ z=>z.elim);exact ok.nx _ _ _ _ _ st.toStp.sts I4 q
    cases zv with|str z=>exact⟨w,gd,fin⟩|ref c=>exact⟨w,gd,fin⟩|_=>exact gd.elim
    all_goals exact h.elim
   |_=>exact h.elim
  |_=>exact h.elim
 | .sdf j k,F,H,S,ρ,σ,Z,Dn,c,I,X,h,ok=>by
  have h:zD ρ[j]? _:=h;unfold zD at h;split at h;rename_i t hj;obtain⟨v0,hv,r0⟩:=I.sl j _ hj;have r0:Tr K F H true v0 t (S j):=r0;obtain⟨hd,h⟩:=h;show(match σ[j]? with|some (some v)=>FZ K "dict" v H/\(wp K Γ k O).e σ H λx B=>∀p,B p=none->yL K v [x,.ref p] (CA B p (.dT 0 [])) λ_ N=>Dn.nx σ N|_=>False);rw[hv];constructor;cases r0 with
  |@dct _ b _ _ _ _ _ _ _ h1 dk _ _ _ _ =>
   cases b with|true=>obtain⟨ep,kvs,rfl,_⟩:=dk;exact .inr (.inr (.inl ⟨rfl,.inr ⟨ep,kvs,h1⟩⟩))|false=>cases hd
  |_=>cases hd
  refine XF (AA g k) (I.lock1 hj) (X.lock1 hj) h λiv D B S1 A y m Zy s1 I1 X1 _ er _ ⟨he,hj1,q1⟩=>?_;intro p hp;have r1:=s1.toStp.keep r0 (I.lock1U hj);refine Vg I1.fh hp r1 (er he) q1 λt' H3 S3 hh dm rt sub q=>?_;obtain⟨st,I3,_⟩:=oI (W:=λ_=>False) I hj hv s1 I1 hh dm rt (λb hb=>(sub b hb).imp id λ(z:b=p)=>.inr (by rw[z];exact hp)) .none (λ_ z=>z.elim);exact ok.nx _ _ _ _ _ st.toStp.sts I3 q
  all_goals exact h.elim
 | .whl t body,F,H,S,ρ,σ,Z,Dn,c,I,X,h,ok=>by
  obtain⟨W,⟨m0,w0⟩,turn⟩:=h;refine⟨λm σ' H'=>∃L F' S',Sts C [] F H S ρ σ F' H' S' L σ'/\Rl K F' H' S' L σ'/\W m L,⟨m0,ρ,F,S,.refl,I,w0⟩,?_⟩;rintro m G B ⟨A,D,S1,s1,I1,w1⟩;refine(AA g t).t I1 (X.fromS s1) (turn m A w1) λk F' H' S' L s' J q=>?_;have s2:=s1.trans s'.toStp.sts;cases k with
  |false=>exact ok.nx _ _ _ _ _ s2 J q|true =>
   refine⟨λσ' H'=>∃m',m' < m/\∃L F' S',Sts C [] F H S ρ σ F' H' S' L σ'/\Rl K F' H' S' L σ'/\W m' L,λ_ _ z=>z,?_⟩;refine sI g body c J (X.fromS s2) q ⟨?_,?_,?_,?_⟩;exact λF' H' S' L σ' s' I' ⟨m',hm,w⟩=>⟨m',hm,L,F',S',s2.trans s',I',w⟩
   exact λv t W F' H' S' L σ' s' I' r hw fr q=>ok.rt v t W F' H' S' L σ' (s2.c.trans s') I' r hw (As s2 fr) q;exact λF' H' S' L σ' s' I' q=>ok.nx _ _ _ _ _ (s2.trans s') I' q;exact λF' H' S' L σ' s' I' ⟨m',hm,w⟩=>⟨m',hm,L,F',S',s2.trans s',I',w⟩
 | .frz is s,F,H,S,ρ,σ,Z,Dn,c,I,X,h,ok=>by obtain⟨F',S',I',s'⟩:=I.frzAt (C:=C) is;exact sI g s c I' (X.fromS s') h (ok.from s')
end
section
variable{z:Ev}{n:Need}
noncomputable def Dq(x:Str)(n:String):Bool:=(x==("bool":Str)&&n == "bool")||(x==("int":Str)&&n == "int")||(x==("str":Str)&&n == "str")||(x==("list":Str)&&n == "list")||(x==("tuple":Str)&&n == "tuple")||(x==("ValueError":Str)&&n == "ValueError")
theorem vg{x:Str}{n:String}(h:Dq x n=true):bootBuiltins x=some (.type n):=by simp only[Dq,wU,Qa,beq_iff_eq]at h;rcases h with((((⟨rfl,rfl⟩| ⟨rfl,rfl⟩)|⟨rfl,rfl⟩)|⟨rfl,rfl⟩)|⟨rfl,rfl⟩)|⟨rfl,rfl⟩<;>kernel_rfl
structure Need where
 fn:LS
 va:LS
 no:LS
def Ir(n:Need):ItK->Bool
 | .val=>true|.rng1=>n.no.contains ("range":Str)|.enum=>n.no.contains ("enumerate":Str)|.itm=>true
noncomputable def fB(n:Need):PX->Bool
 | .glo x=>n.va.contains x|.bty x t=>n.no.contains x&&Dq x t|.bin _ a b | .cmp _ a b | .and a b | .or a b | .idx a b | .ny a b | .dsp a b=>fB n a&&fB n b
 | .not a | .lst a | .tup a=>fB n a
 | .slc a b c=>fB n a&&(fB n b&&fB n c)|.call f y=>n.fn.contains f&&fB n y|.bi f y=>n.no.contains f.nm&&fB n y|.isi a c=>n.no.contains ("isinstance":Str)&&(fB n a&&fB n c)|.mt _ o y=>fB n o&&fB n y|.comp _ _ _ w u h v=>Ir n w&&(fB n u&&(fB n h&&fB n v))|_=>true
noncomputable def vF(n:Need):PT->Bool
 | .seq s r=>vF n s&&vF n r|.set _ e=>fB n e|.own _ e=>fB n e|.expr e=>fB n e|.ret e=>fB n e|.ife c a b=>fB n c&&(vF n a&&vF n b)|.for_ _ y x h=>Ir n y&&(fB n x&&vF n h)|.tset _ e=>fB n e|.six o i e=>fB n o&&(fB n i&&fB n e)|.sdf i k=>fB n (ym i k)|.whl c b=>fB n c&&vF n b|.frz _ s=>vF n s|.nil=>true
def VQ(z:Ev)(n:Need):Glob:=⟨z,λf=>f∈n.fn,λx=>x∈n.va,λx=>x∈n.no⟩
theorem T5{x:ItK}(h:Ir n x=true):An (VQ z n) x:=by
 cases x with|val=>trivial|itm=>trivial|_=>exact Qu.mp h
theorem FC:∀(p:PX),fB n p=true->IA (VQ z n) p:=by
 intro p;induction p with
 |glo x=>intro h;exact Qu.mp h|bty x t=>intro h;obtain⟨v,u⟩:=yA h;exact⟨Qu.mp v,vg u⟩|bin _ a b y w|cmp _ a b y w|and a b y w|or a b y w|idx a b y w|ny a b y w|dsp a b y w=>intro h;obtain⟨v,u⟩:=yA h;exact⟨y v,w u⟩
 |not a y|lst a y|tup a y=>intro h;exact y h
 |slc a b c y w g=>intro h;obtain⟨v,k⟩:=yA h;obtain⟨u,e⟩:=yA k;exact⟨y v,w u,g e⟩|call f j y=>intro h;obtain⟨v,u⟩:=yA h;exact⟨Qu.mp v,y u⟩|bi f j y=>intro h;obtain⟨v,u⟩:=yA h;exact⟨Qu.mp v,y u⟩|isi a c y g=>intro h;obtain⟨v,k⟩:=yA h;obtain⟨u,e⟩:=yA k;exact⟨Qu.mp v,y u,g e⟩|mt _ o j m y=>intro h;obtain⟨v,u⟩:=yA h;exact⟨m v,y u⟩|comp _ _ _ Z l i Y s r q=>intro h;obtain⟨v,h⟩:=yA h;obtain⟨u,h⟩:=yA h;obtain⟨e,X⟩:=yA h;exact⟨T5 v,s u,r e,q X⟩|_=>intro _;trivial
theorem XY:∀(p:PT),vF n p=true->kF (VQ z n) p:=by
 intro p;induction p with
 |seq s r f l=>intro h;obtain⟨u,y⟩:=yA h;exact⟨f u,l y⟩|set _ e|own _ e|expr e|ret e|tset _ e=>intro h;exact FC _ h
 |six o i e=>intro h;obtain⟨u,x⟩:=yA h;obtain⟨y,w⟩:=yA x;exact⟨FC _ u,FC _ y,FC _ w⟩|sdf i k=>intro h;exact FC _ h|frz _ s f=>intro h;exact f h|whl c b v=>intro h;obtain⟨u,y⟩:=yA h;exact⟨FC _ u,v y⟩|ife c a b m v=>intro h;obtain⟨u,x⟩:=yA h;obtain⟨y,w⟩:=yA x;exact⟨FC _ u,m y,v w⟩|for_ _ q j g v=>intro h;obtain⟨u,x⟩:=yA h;obtain⟨y,w⟩:=yA x;exact⟨T5 u,FC _ y,v w⟩|_=>intro _;trivial
def FM(N h:LS)(sc:Scope):Bool:=sc.kind==.function&&!sc.isCoroutine&&!sc.isGenerator&&NJ N&&N.take h.length==h &&
 h.all (λx=>sc.names.lookup x==some .local||sc.names.lookup x==some .cell)&&sc.names.all λy=>y.2 != .free
theorem GS{N x:LS}{sc:Scope}(h:FM N x sc=true):FnScope N x sc:=by simp only[FM,Qa,Qq,wU,beq_iff_eq,Qy,bne_iff_ne,ne_eq]at h;obtain⟨⟨⟨⟨⟨⟨b,a⟩,k⟩,w⟩,v⟩,u⟩,y⟩:=h;exact⟨b,a,k,aE w,v,u,y⟩
def YB(n:Need)(b:PT)(N h:LS)(st:Stmt):Bool:=FM N h (NA st)&&HQ b ⟨N,NA st⟩ (mC st)&&vF n b
def xh:Md->T->Sl
 | .chg,t=>.own t|_,t=>.ky t
def zE:List Md->LT->kA
 |_,[]=>[]|md,t::ts=>some (xh (md.headD .xx) t)::zE md.tail ts
def mB(N:LS)(md:List Md)(ts:LT):kA:=zE md ts++QAK (N.length - ts.length) none
def VB:Nat->List Md->Nat->LN
 |_,_,0=>[]|k,md,n+1=>match md.headD .xx with
  | .chg=>k::VB (k+1) md.tail n|_=>VB (k+1) md.tail n
def JU:Option (LT)->(LT->Prop)->Prop
 |some os,Q=>Q os|none,_=>False
def iD(P:PSp)(n:Nat)(Q:T->LT->Prop):PEnds where
 nx:=λh=>JU (DA (VB 0 P.md n) h) (Q (.d .none))
 rt:=λt h=>JU (DA (VB 0 P.md n) h) (Q t)
abbrev nH(Ψ:PEv)(b:PT)(p:PSp)(N h:LS)(ds:LT)(Q:T->LT->Prop):Prop:=ds.length=h.length/\pF Ψ b (iD p h.length Q) (mB N p.md ds)
def bU(mg:Str->Option Value)(x:Str):V:=((mg x).bind cN).getD .non
def Jo(K:QA)(mg:Str->Option Value)(Ψ:PEv):Ev:=⟨λf=>lift K (Ψ.sp f),bU mg⟩
structure ValsOk(P:Program)(w:World)(K:QA)(mg:Str->Option Value)(Ψ:PEv)(va:LS):Prop where
 rep:∀x d,Ψ.va x=some d->∀F,Rep K F (bU mg x) d
 has:∀x∈va,∃u v,mg x=some u/\cN u=some v
theorem iW{u:Value}{v:V}(h:cN u=some v):iA v u:=by cases u<;>first | (obtain rfl:=Qo h;first|rfl|exact⟨_,rfl⟩)|exact nomatch (show(none:Option V)=some v from h)
end
section
variable{P:Program}{w:World}{K:QA}{mg:Str->Option Value}{base:Heap}{Ψ:PEv}
section
variable{k:Nat}{F H:Hp}{Y M:cB}{md:List Md}{vs:LV}{ts:LT}{N l:LS}{R:PSp}{x o:Str}{st:Stmt}{f:Addr}{p:FuncData}{n:Need}
def UG(P:Program)(w:World)(K:QA)(mg:Str->Option Value)(base:Heap)(Ψ:PEv)(k:Nat)(f:Str):Prop :=
 ∃(a:Addr) (p:FuncData) (l:LS),FnOk P w K mg base RZ k a p l (lift K (Ψ.sp f))/\mg f=some (.ref a)/\wI K (.ref a)=true/\rJ K p l []
theorem UG.mono{j:Nat}{f:Str}(h:UG P w K mg base Ψ j f)(hk:j<=k):UG P w K mg base Ψ k f:=by obtain⟨a,p,l,z,y⟩:=h;exact⟨a,p,l,z.mono hk,y⟩
theorem ArgsR.length(h:ArgsR K F H Y md vs ts):vs.length=ts.length:=by
 induction h with|nil=>rfl|chg _ _ e=>exact congrArg Nat.succ e|rd _ _ _ _ e=>exact congrArg Nat.succ e
theorem aI:∀(m:List Md) (ts:LT),(zE m ts).length=ts.length
 |_,[]=>rfl|m,d::ds=>by unfold zE;rw[QM,QM,aI]
theorem T3{m:Md}(h:m≠.chg)(t:T):xh m t=.ky t:=by cases m<;>first|rfl|exact absurd rfl h
theorem CH(md:List Md)(v:V)(vs:LV):oB md (v::vs)=match md.headD .xx with | .chg=>v::oB md.tail vs|_=>oB md.tail vs:=by first | (rw[oB];done) | (rw[oB];cases md.headD .xx<;>rfl)
theorem iM(md:List Md)(v:T)(vs:LT):HB md (v::vs)=match md.headD .xx with | .chg=>v::HB md.tail vs|_=>HB md.tail vs:=by first | (rw[HB];done) | (rw[HB];cases md.headD .xx<;>rfl)
theorem YO(md:List Md)(t:T)(ts:LT):zE md (t::ts)=some (xh (md.headD .xx) t)::zE md.tail ts:=by rw[zE]
theorem Eb(h:ArgsR K F H Y md vs ts)(r:Trs K F H true (oB md vs) (HB md ts) M) :
  ∃Z:Ft,(∀(i:Nat) s,(zE md ts)[i]?=some (some s)->∃v,vs[i]?=some v/\Tr K F H s.st v s.t (Z i))/\(∀(i:Nat) t,(zE md ts)[i]?=some (some (.own t))->∀b,Z i b->M b)/\(∀(i:Nat) t,(zE md ts)[i]?=some (some (.ky t))->∀b,Z i b->Y b) /\
   ∀(i j:Nat) t u,i≠j->(zE md ts)[i]?=some (some (.own t))->(zE md ts)[j]?=some (some (.own u))->∀b,Z i b->¬ Z j b:=by
 induction h generalizing M with
 |nil=>exact⟨λ_ _=>False,λi s e=>by simp[zE]at e,λi t e=>by simp[zE]at e,λi t e=>by simp[zE]at e,λi j t u _ e=>by simp[zE]at e⟩|@chg md v vs t ts a O A =>
  have J:oB md (v::vs)=v::oB md.tail vs:=by rw[CH,a]
  have I:HB md (t::ts)=t::HB md.tail ts:=by rw[iM,a]
  rw[J,I]at r;cases r with
  |@cons _ _ _ _ _ _ L Z2 W Q n q =>
   obtain⟨Z,E,g,C,B⟩:=A Q;have G:zE md (t::ts)=some (.own t)::zE md.tail ts:=by rw[YO,a];rfl
   rw[G];refine⟨λi=>match i with|0=>L|i+1=>Z i,λi s e=>?_,λi u e b hb=>?_,λi u e b hb=>?_,λi j u w X e m b hb y=>?_⟩;cases i with|zero=>simp at e;subst e;exact⟨v,rfl,W⟩|succ i=>exact E i s (by simpa using e)
   cases i with|zero=>exact(q b).mpr (.inl hb)|succ i=>exact(q b).mpr (.inr (g i u (by simpa using e) b hb))
   cases i with|zero=>simp at e|succ i=>exact C i u (by simpa using e) b hb
   cases i with
   |zero =>
    cases j with|zero=>exact X rfl|succ j=>exact n b hb (g j w (by simpa using m) b y)
   |succ i =>
    cases j with|zero=>exact n b y (g i u (by simpa using e) b hb)|succ j=>exact B i j u w (λz=>X (by rw[z])) (by simpa using e) (by simpa using m) b hb y
 |@rd md v vs t ts L a W S O A =>
  have J:oB md (v::vs)=oB md.tail vs:=by rw[CH];cases e:md.headD .xx<;>first|exact absurd e a|rfl
  have I:HB md (t::ts)=HB md.tail ts:=by rw[iM];cases e:md.headD .xx<;>first|exact absurd e a|rfl
  rw[J,I]at r;obtain⟨Z,E,g,C,B⟩:=A r;have G:zE md (t::ts)=some (.ky t)::zE md.tail ts:=by rw[YO,T3 a]
  rw[G];refine⟨λi=>match i with|0=>L|i+1=>Z i,λi s e=>?_,λi u e b hb=>?_,λi u e b hb=>?_,λi j u w X e m b hb y=>?_⟩;cases i with|zero=>simp at e;subst e;exact⟨v,rfl,W⟩|succ i=>exact E i s (by simpa using e)
  cases i with|zero=>simp at e|succ i=>exact g i u (by simpa using e) b hb
  cases i with|zero=>exact S b hb|succ i=>exact C i u (by simpa using e) b hb
  cases i with
  |zero=>simp at e|succ i =>
   cases j with|zero=>simp at m|succ j=>exact B i j u w (λz=>X (by rw[z])) (by simpa using e) (by simpa using m) b hb y
theorem U1(f:Same F H)(h:ArgsR K F H Y md vs ts)(r:Trs K F H true (oB md vs) (HB md ts) M)(dj:∀b,Y b->¬ M b) :
  ∃S,Rl K F H S (mB N md ts) (mD N vs)/\∀b,U (mB N md ts) S b->M b:=by
 obtain⟨Z,A,a,W,X⟩:=Eb h r;have hl:=h.length;have get:∀(i:Nat) s,(mB N md ts)[i]?=some (some s)->(zE md ts)[i]?=some (some s):=λi s e=>by
  unfold mB at e;rcases QAx i ts.length with z|z
  ·rwa [qR (by rw[aI];exact z)]at e
  rw[qG (by rw[aI];exact z),wb]at e;split at e<;>cases e
 refine⟨Z,⟨f,?_,λi s e=>?_,λi j t s n q m b hb y=>?_⟩,λb ⟨i,t,e,hb⟩=>a i t (get i _ e) b hb⟩;unfold mB mD;rw[QI,QI,aI,QG,qm,qm,hl];obtain⟨v,g,B⟩:=A i s (get i s e);refine⟨v,?_,B⟩;unfold mD;rw[qR (by rw[QG];exact(Qg.mp g).1),Qd,g];rfl;cases s with|own u=>exact X i j t u n (get i _ q) (get j _ m) b hb y|ky u=>exact dj b (W j u (get j _ m) b y) (a i t (get i _ q) b hb)
theorem OO:∀{md:List Md}{k n:Nat}{vs:LV}{σ:St},vs.length=n->(∀(i:Nat) v,vs[i]?=some v->σ[k+i]?=some (some v))->(oB md vs).map (λv=>some (some v))=(VB k md n).map λj=>σ[j]?
 |md,k,0,vs,σ,h,g=>by
  cases vs with|nil=>rfl|cons _ _=>cases h
 |md,k,n+1,vs,σ,h,g=>by
  cases vs with
  |nil=>cases h|cons v vs =>
   have y:=OO (md:=md.tail) (k:=k+1) (n:=n) (vs:=vs) (σ:=σ) (by simpa using h) λi w z=>by have:=g (i+1) w (by simpa using z);rw[show k+1+i=k+(i+1) by omega];exact this
   have g0:=g 0 v rfl;rw[CH];unfold VB;cases e:md.headD .xx with|chg=>simp only[QV,y];rw[show σ[k]?=some (some v) from g0]|_=>exact y
theorem SM:∀{md:List Md}{k n j:Nat},j∈VB k md n->k<=j
 |md,k,0,j,h=>by simp[VB]at h|md,k,n+1,j,h=>by
  unfold VB at h;cases e:md.headD .xx with
  |chg=>rw[e]at h;rcases QL.mp h with z|z;omega;have:=SM z;omega
  |_=>rw[e]at h;have:=SM h;omega
theorem kT:∀(md:List Md) (k n:Nat),(VB k md n).Nodup
 |md,k,0=>Q0|md,k,n+1=>by
  have h:=kT md.tail (k+1) n;unfold VB;cases e:md.headD .xx with|chg=>exact Qi.mpr ⟨λz=>by have:=SM z;omega,h⟩|_=>exact h
theorem c6{b:PT}(F:Fun K x o st f p)(yC:YB n b N l st=true)(hc:OJ (VB 0 R.md l.length) b=true)
  (fns:∀g∈n.fn,UG P w K mg base Ψ k g) (G:ValsOk P w K mg Ψ n.va) (nos:∀y∈n.no,mg y=none)
  (body:∀ts Q E,R.run ts Q E->ts.length=l.length/\pF Ψ b (iD R l.length Q) (mB N R.md ts)):FnOk P w K mg base RZ (k+1) f p l (lift K R):=by
 obtain⟨c12,c3⟩:=yA yC;obtain⟨c1,c2⟩:=yA c12;have S:=GS c1;refine F.ok S (λvs H Q E h=>?_) (λcdv A L s H vs Q E hr h=>?_);obtain⟨F',ts,M,Y,h1,h2,h3,h4,h5⟩:=h;rw[h2.length];exact(body ts _ _ h5).1;obtain⟨F',ts,M,Y,h1,h2,h3,h4,h5⟩:=h;have q:=(body ts _ _ h5).2;have hlen:=(body ts _ _ h5).1;have ok:OkS ((YV RZ P w K mg base N o (NA st) f cdv A L s H E).nox) ⟨N,NA st⟩ (VQ (Jo K mg Ψ) n) E0:={
  N:=rfl
  sc:=rfl
  calm:=rfl
  un:=by have:=hr.un;show(A.deeper _).units+66<cLine;omega
  fn:=λg hg=>by obtain⟨a,gd,gps,g1,g2,g3,g4⟩:=fns g hg;exact⟨RZ,k,a,gd,gps,g1,hr,g2,g3,g4,Um,λ_ _ _ _ _ z=>z⟩
  val:=λy hy=>by obtain⟨u,v,e1,e2⟩:=G.has y hy;refine⟨u,e1,?_⟩;show iA (bU mg y) u;unfold bU;rw[e1];show iA ((cN u).getD .non) u;rw[e2];exact iW e2
  no:=λy hy=>nos y hy
  po:=PassesOwn.never
  nd:=S.nd
  cel:=λ_=>rfl }
 refine⟨_,(Iq b ok c2 (XY b c3)).1,?_⟩;obtain⟨S0,I,hU⟩:=U1 (N:=N) h1 h2 h3 h4;have g:GOk K (Jo K mg Ψ) Ψ:=⟨λ_ _ _ _ _ h=>h,λy d e F=>G.rep y d e F⟩
 have hvl:vs.length=l.length:=h2.length.trans hlen;have fin:∀v t W C B J m X,Stc (VB 0 R.md l.length) F' H S0 (mB N R.md ts) (mD N vs) C B J m X->Rl K C B J m X->Tr K C B true v t W->Held C B J m W->(∀b,W b->H b=none∨U (mB N R.md ts) S0 b) ->
   JU (DA (VB 0 R.md l.length) m) (λos=>∀v F3 H3 Z M',Frm M F' H F3 H3->Tr K F3 H3 true v t Z->Trs K F3 H3 true (oB R.md vs) os M'->(∀b,Z b->¬ M' b)->(∀b,Z b∨M' b->M b∨H b=none)->Q v H3)->Q v B:=by
  intro v t W C B J m X s I2 r hw fr q;cases eo:DA (VB 0 R.md l.length) m with
  |none=>rw[eo]at q;exact q.elim|some os =>
   rw[eo]at q;have hv:(oB R.md vs).map (λv=>some (some v))=(VB 0 R.md l.length).map λj=>X[j]?:=by rw[OO (md:=R.md) (k:=0) (n:=l.length) (vs:=vs) (σ:=mD N vs) hvl λi w hw=>?_];exact wC λj O=>(s.sg j O).symm;unfold mD;rw[Wc,qR (by rw[QG];exact(Qg.mp hw).1),Qd,hw];rfl
   have trs:=I2.trs (kT _ _ _) eo hv;have own:∀j∈VB 0 R.md l.length,∃t,m[j]?=some (some (.own t)):=λj O=>by obtain⟨i,hi⟩:=Wj.mp O;obtain⟨t,_,e⟩:=(MD eo).2 i j hi;exact⟨t,e⟩
   have lk:∀b,U (mB N R.md ts) S0 b∨H b=none->M b∨H b=none:=λb hb=>hb.imp (hU b) id;refine q v C B W _ ⟨s.ff,I2.fh,λb u e n=>s.hh b u e λz=>n (hU b z),s.dm,λb e z=>lk b (s.fn b e z)⟩ r trs (λb hb ⟨j,O,z⟩=>?_) λb hb=>?_;obtain⟨t',e⟩:=own j O;exact hw.nw j _ e b hb z;rcases hb with hb|⟨j,O,z⟩
   ·exact lk b (fr b hb).symm
   obtain⟨t',e⟩:=own j O;exact lk b (s.uu b ⟨j,t',e,z⟩)
 refine sI g b hc I (λ_ _ _ _ _ _ _ _ _ z=>z.elim) q ⟨?_,?_,λ_ _ _ _ _ _ _ z=>z.elim,λ_ _ _ _ _ _ _ z=>z.elim⟩;intro C B J m X s I2 q;exact fin .non (.d .none) (λ_=>False) C B J m X s.c I2 (.d .non λ_ z=>z) .none (λ_ z=>z.elim) q;intro v t W C B J m X s I2 r hw fr q;exact fin v t W C B J m X s I2 r hw fr q
theorem z6{h:PEv}{b:PT}(F:Fun K x o st f p)(a:mg x=some (.ref f))(hb:rJ K p l [])(yC:YB n b N l st=true)(hc:OJ (VB 0 R.md l.length) b=true)
  (v:∀g∈n.fn,UG P w K mg base Ψ k g) (z:ValsOk P w K mg Ψ n.va) (u:∀y∈n.no,mg y=none)
  (body:∀ts Q E,R.run ts Q E->ts.length=l.length/\pF Ψ b (iD R l.length Q) (mB N R.md ts)) (e:h.sp x=R):UG P w K mg base h (k+1) x :=
 ⟨f,p,l,by rw[e];exact c6 F yC hc v z u body,a,F.kp,hb⟩
end
end
def DP:PSp where
 md:=[.xy]
 run:=λy Q _=>∃x:LJ,x.length<=63/\(∀n∈x,W5 n<=1048576)/\y=[.lst ((x.map PyData.int).map T.d)]/\Q (.d (.bool true)) []
 mono:=λh _ ⟨x,v,u,z,q⟩=>⟨x,v,u,z,h _ _ q⟩
def zk:PSp:=⟨[],λ_ _ _=>False,λ_ _ h=>h⟩
theorem pO{K:QA}{F:Hp}:∀(ns:LJ),Reps K F (ns.map V.int) (ns.map PyData.int)
 |[]=>.nil|n::r=>.cons (.int n) (pO r)
theorem SL{K:QA}{F:Hp}:∀(ns:LS),Reps K F (ns.map V.str) (ns.map PyData.str)
 |[]=>.nil|n::r=>.cons (.str n) (SL r)
theorem Ih(K:QA)(H:Hp)(a:Addr)(ns:LJ)(hl:ns.length<=63)(h:∀n∈ns,W5 n<=1048576)(x:AC K H a (ns.map V.int)):lift K DP [.ref a] H (λv _=>v=.bl true) λ_ _ _=>False:=by
 refine⟨H,[.lst ((ns.map PyData.int).map T.d)],λ_=>False,λ_=>False,.refl _,.rd (Z:=λ_=>False) (by simp[DP]) (.lstF x (pO ns) λ_ z=>z) (λ_ z=>z) .nil,.nil λ_ z=>z,λ_ z=>z.elim,ns,hl,h,rfl,λv w u Z y _ r _ _ _=>?_⟩;cases r with|d r _=>cases r;rfl
theorem xU{ns:LJ}:∀n∈ns,Wp (.int n)<=we (ns.map Wt.int):=by
 induction ns with|nil=>intro n h;cases h|cons m ns x=>intro n h;show _<=Wp (.int m)+1+we (ns.map Wt.int);rcases QL.mp h with rfl|h;omega;have:=x n h;omega
theorem Tb{ns:LJ}(h:Wt.layableAll [.list (ns.map .int)]=true):∀n∈ns,W5 n<=1048576:=by
 intro n z;have v:=(PySem.W.layableW_iff.mp (PySem.W.layableW_arg h _ QD)).2.2;have k:we (ns.map Wt.int)<=2 ^ 20:=v;have y:=xU n z;have u:Wp (.int n)=if n==0 then 0 else n.natAbs.log2+1:=rfl
 rw[PySem.intBits_le_iff];by_cases x:n=0;subst x;exact Nat.pow_pos (by decide);have:(n==0)=false:=by simpa using x
 rw[u,this]at y;have w:n.natAbs.log2+1<=1048576:=by have:n.natAbs.log2+1<=we (ns.map Wt.int):=y;omega
 exact(Nat.log2_lt (show n.natAbs≠0 by omega)).mp (by omega)
def NX(K:QA)(x:Str)(st:Stmt):Prop:=∃f h,qk K mainGlobals x=some (some (.ref f))/\Fun K x x st f h
def dN(K:QA)(x:Str)(d:D):Prop:=∃u v,qk K mainGlobals x=some (some u)/\cN u=some v/\∀F,Rep K F v d
theorem G0{K:QA}{x:Str}{f:Addr}{xs:LS}{v:Option Addr}{its:LW}{n:Nat}{z:Array (Option Value)}(a:qk K mainGlobals x=some (some (.ref f)))
  (l:K.lookup f=some ⟨.type "tuple",v,.seq its.toArray n,z⟩) (h:its.map cN=xs.map λy=>some (.str y)) (k:xs.length<=sizeLine):dN K x (.tuple (xs.map PyData.str)):=by
 refine⟨_,_,a,rfl,λF=>.tup (.inr ⟨_,its.toArray,n,l,rfl,rfl,?_,?_⟩) (SL xs)⟩;have:=congrArg qt h;simp at this;simp;omega;have key:∀(its:LW) (xs:LS),its.map cN=xs.map (λy=>some (.str y))->oA (xs.map V.str) its:=by
  intro its;induction its with
  |nil =>
   intro xs h;cases xs with|nil=>exact .nil|cons _ _=>simp at h
  |cons u its w =>
   intro xs h;cases xs with|nil=>simp at h|cons y xs=>simp only[QV,W4]at h;exact .cons (iW h.1) (w xs h.2)
 simpa using key its xs h
section
variable{P:Program}{w:World}{K:QA}{mg:Str->Option Value}{base h:Heap}{Ψ:PEv}
section
variable{x:Str}{st:Stmt}{z:LS}{k:Nat}
theorem dN.inMg(X:K.In h)(G:h.Ns mainGlobals mg){d:D}(v:dN K x d):(∀F,Rep K F (bU mg x) d)/\∃u v,mg x=some u/\cN u=some v:=by
 obtain⟨u,v,b,y,a⟩:=v;have e:=WR X G b;refine⟨λF=>?_,u,v,e,y⟩;have:bU mg x=v:=by unfold bU;rw[e];show(cN u).getD .non=v;rw[y];rfl
 rw[this];exact a F
theorem k6{R:PSp}{u:PEv}{N:LS}{b:PT}{n:Need}(X:K.In h)(G:h.Ns mainGlobals mg)(D:NX K x st)(yC:YB n b N z st=true)(hc:OJ (VB 0 R.md z.length) b=true)
  (hb:∀(kV j m:Value) (q:Option Addr) (l ct:Value) (us:LW),us.length=z.length->bindArgs (ql x x (uD st) (mC st) (NA st) .none kV j m q l ct) ⟨us,[]⟩=pure (z.zip us))
  (i:∀g∈n.fn,UG P w K mg base Ψ k g) (v:ValsOk P w K mg Ψ n.va) (e:∀y∈n.no,qk K mainGlobals y=some none)
  (body:∀ts Q E,R.run ts Q E->ts.length=z.length/\pF Ψ b (iD R z.length Q) (mB N R.md ts)) (p:u.sp x=R):UG P w K mg base u (k+1) x:=by
 obtain⟨f,r,a,F⟩:=D;exact z6 F (WR X G a) (F.binds hb) yC hc i v (λy o=>QAF X G (e y o)) body p
theorem ji{j:Addr}(X:K.In h)(G:h.Ns mainGlobals mg)(D:NX K "law" st)(q:z=[x])(g:mg "law"=some (.ref j))(p:Ψ.sp "law"=DP)
  (hb:∀(kV v i:Value) (l:Option Addr) (b ct:Value) (us:LW),us.length=z.length->bindArgs (ql "law" "law" (uD st) (mC st) (NA st) .none kV v i l b ct) ⟨us,[]⟩=pure (z.zip us))
  (H:∀base:Heap,K.In base->base.Ns mainGlobals mg->∀f y,Fun K "law" "law" st f y->mg "law"=some (.ref f)->FnOk P w K mg base RZ k f y z (lift K (Ψ.sp "law"))) :
  ∃y:FuncData,(∀(s:Shared) (u:Value),BindsTo s y ⟨[u],[]⟩ [(x,u)])/\∀base:Heap,K.In base->base.Ns mainGlobals mg->FnOk P w K mg base RZ k j y [x] (lift K DP):=by
 obtain⟨f,y,a,F⟩:=D;have e:=g.symm.trans (WR X G a);cases e;subst q;refine⟨y,λs u=>?_,λbase o n=>?_⟩;obtain⟨Z,Y,kV,v,i,l,b,ct,m,rfl,lk,r⟩:=F.ex;exact .of_eq (hb kV v i l b ct [u] rfl);rw[<- p];exact H base o n j y F g
end
end
theorem JB{α:Type}{body:T->(Option T->Prop)->Prop}(g f:α->T):∀(l:List α) (h:LT) (Q:LT->Prop),(∀x∈l,∀R:Option T->Prop,R (some (f x))->body (g x) R)->h.length+l.length<=sizeLine->Q (h++l.map f)->JD body (l.map g) h Q
 |[],h,Q,_,hl,q=>by simp only[wv,JD];exact⟨by simpa using hl,by simpa using q⟩|x::r,h,Q,hb,hl,q=>by simp only[QV,JD];refine hb x QD _ ?_;simp only[QM]at hl;refine⟨by omega,JB g f r _ Q (λy z=>hb y (QE _ z)) (by simp;omega) (by simpa using q)⟩
theorem fA{α:Type}{body:T->(Option T->Prop)->Prop}(g f:α->T)(p:α->Bool):∀(l:List α) (h:LT) (Q:LT->Prop),(∀x∈l,∀R:Option T->Prop,R (if p x=true then some (f x) else none)->body (g x) R)->h.length+l.length<=sizeLine->Q (h++(l.filter p).map f)->JD body (l.map g) h Q
 |[],h,Q,_,hl,q=>by simp only[wv,JD];exact⟨by simpa using hl,by simpa using q⟩|x::r,h,Q,hb,hl,q=>by
  simp only[QV,JD];refine hb x QD _ ?_;simp only[QM]at hl;cases u:p x with|true=>refine⟨by omega,fA g f p r _ Q (λy z=>hb y (QE _ z)) (by simp;omega) ?_⟩;rw[WF,if_pos u]at q;simpa using q|false=>refine fA g f p r _ Q (λy z=>hb y (QE _ z)) (by omega) ?_;rw[WF,if_neg (by rw[u];simp)]at q;exact q
theorem OQ{α:Type}{xs:List α}{i:Int}(y:0<=i)(x:i<xs.length):∃v,gE xs i=some v/\xs[i.toNat]?=some v:=by
 have h:i.toNat<xs.length:=by omega
 have e:((i.toNat:Nat):Int)=i:=by omega
 have q:=YF (Qx h);rw[e]at q;exact⟨xs[i.toNat],q,Qx h⟩
theorem IG{α h:Type}(f:α->h)(xs:List α)(i:Int):gE (xs.map f) i=(gE xs i).map f:=by
 unfold gE;rw[QG];cases kU xs.length i with|none=>rfl|some j=>exact Qd
theorem kB{Ψ:PEv}{E:XE}{α:Type}{body:PT}{u:Tg}{Z:PEnds}(g:α->T)(W:List α->kA->Prop)(k:∀ρ,W [] ρ->Z.nx ρ)
  (v:∀x xs ρ (N:kA->Prop),(∀y,W xs y->N y)->W (x::xs) ρ->DK u (g x) ρ λz=>dB Ψ E body { Z with nx:=N,ct:=N,bk:=Z.nx } z):∀(xs:List α) (ρ:kA),W xs ρ->LH (dB Ψ E body) u Z (xs.map g) ρ
 |[],ρ,w=>k ρ w|x::xs,ρ,w=>v x xs ρ (λh=>LH (dB Ψ E body) u Z (xs.map g) h) (λh a=>kB g W k v xs h a) w
def Kc(y:List (Str×PSp))(h:List (Str×D)):PEv:=⟨λf=>(y.lookup f).getD zk,λx=>h.lookup x⟩
theorem uW{P:Program}{w:World}{K:QA}{mg:Str->Option Value}{h:Heap}{v:List (Str×PSp)}{tbl:List (Str×D)}{z:LS}(X:K.In h)(G:h.Ns mainGlobals mg)(u:∀p∈tbl,dN K p.1 p.2)
  (y:(z.all λx=>(tbl.map qj).contains x)=true):ValsOk P w K mg (Kc v tbl) z:=by
 refine⟨λx d e F=>((u (x,d) (qL e)).inMg X G).1 F,λx k=>?_⟩;have:=Qq.mp y x k;obtain⟨p,a,e⟩:=QT.mp (Qu.mp this);rw[<- e];exact((u p a).inMg X G).2
theorem mP{α:Type}[BEq α][LawfulBEq α]{l m:List α}(h:(l.all λx=>m.contains x)=true):∀x∈l,x∈m:=λx y=>Qu.mp (Qq.mp h x y)
section
variable{a b c:PX}{i:Nat}{n:Int}{x:Str}{m:Mt}{f:Str}{g:Bi}{u:Operator}{w:CmpOp}{is:List Bool}{h:LS}{z:Tg}{v:ItK}{y:String}
theorem xW:yH (.xz i)=[i]:=rfl
theorem xO:yH (.ny a b)=yH a++yH b:=rfl
theorem cR:yH .nz=[]:=rfl
end
def GF{α:Type}(o:Option α)(K:α->Prop):Prop:=∃a,o=some a/\K a
theorem GF.mk{α:Type}{o:Option α}{a:α}{K:α->Prop}(e:o=some a)(k:K a):GF o K:=⟨a,e,k⟩
theorem AB{α:Type}{a:α}{K:α->Prop}:GF (some a) K=K a:=propext ⟨λ⟨_,e,k⟩=>by cases e;exact k,λk=>⟨a,rfl,k⟩⟩
theorem jG{α h:Type}{o:Option α}{f:α->h}{K:h->Prop}:GF (o.map f) K=GF o λa=>K (f a):=by
 cases o with|none=>exact propext ⟨λ⟨_,e,_⟩=>(by cases e),λ⟨_,e,_⟩=>(by cases e)⟩|some a=>rw[Q2,AB,AB]
def tB(Ψ:PEv)(e:PX)(E:XE)(ρ:kA)(K:TK):Prop:=(pe Ψ e E).e ρ K
def UN(Ψ:PEv)(e:PX)(E:XE)(ρ:kA)(K:Bool->kA->Prop):Prop:=(pe Ψ e E).t ρ K
def dM(Ψ:PEv)(e:PX)(E:XE)(md:List Md)(ρ:kA)(K:List (T×Bool)->kA->Prop):Prop:=(pe Ψ e E).a md ρ K
def UB(p:PSp)(ts:LT)(K:T->LT->Prop)(E:XE):Prop:=p.run ts K E
def S7(x:T)(n:Bool)(Ψ:PEv)(b:PX)(E:XE)(ρ:kA)(K:TK):Prop:=sq (pA x n) ρ (cu (pe Ψ b E).e) λy h=>K y.1 y.2 h
def T7(x:T)(n:Bool)(Ψ:PEv)(b:PX)(E:XE)(md:List Md)(ρ:kA)(K:List (T×Bool)->kA->Prop):Prop:=sq (if n=true then .d .none else x) ρ ((pe Ψ b E).a md) K
def GH(i:Nat)(σ ρ:kA)(K:TK):Prop:=yq σ[i]? λt=>K t false ρ
def R8(i:Nat)(σ:kA)(ρ:kA)(j:Nat)(R:T->kA->Prop):Prop:=lr ρ j R σ[i]?
def ML(Ψ:PEv)(E:XE)(r:PT)(Z:PEnds)(i:Nat)(x:T)(n:Bool)(ρ:kA):Prop:=lH x n=true/\dB Ψ E r Z (ρ.set i (bD x.er))
def Cm(Ψ:PEv)(E:XE)(r:PT)(Z:PEnds)(i:Nat)(x:T)(n:Bool)(ρ:kA):Prop:=lH x n=true/\dB Ψ E r Z (ρ.set i (some (.own x)))
def YC(x:T)(n:Bool)(P:Prop):Prop:=lH x n=true/\P
def NH(h:Operator)(x:T)(n:Bool)(y:T)(m:Bool)(Q:T->Bool->Prop):Prop:=binT h (pA x n).vw (pA y m).vw Q
def rB(h:CmpOp)(x y:T)(Q:Bool->Prop):Prop:=Fb h x.er y Q
def T0(x:T)(Q:Bool->Prop):Prop:=vI x.er Q
def Pu(x:T)(Q:Bool->Prop):Prop:=Vj x.er Q
def jO(f:Bi)(xs:List (T×Bool))(Q:T->Bool->Prop):Prop:=VX f (dC xs) Q
def BA(x:T)(n:Bool)(y:T)(m:Bool)(Q:T->Prop):Prop:=GN (pA x n).vw (pA y m).vw Q∨SS (pA x n).vw y.er Q
def Rk(Ψ:PEv)(E:XE)(c:PX)(q:PT)(Z:PEnds)(ρ:kA):Prop:=dB Ψ E (.whl c q) Z ρ
def Uc(t y x:T)(Q:T->Prop):Prop:=Ml t y.er x.er Q
def Fl(z t:T)(Q:T->(T->T)->Prop):Prop:=Hl z.er t Q
def jm(y t:T)(Q:T->Prop):Prop:=Kg y.er t Q
def fI(x:T)(n:Bool)(l u:Option Int)(Q:T->Bool->Prop):Prop:=LL (pA x n).vw l u Q
def ZM(xs:List (T×Bool))(C:LT->Prop):Prop:=ZE xs=true/\C (DF xs)
def xL(h:ItK)(xs:List (T×Bool))(R:LT->Prop):Prop:=LB h (dC xs) R
def ZB(md:List Md)(xs:List (T×Bool))(C:LT->Prop):Prop:=GF (XA md xs []) C
def mH(Ψ:PEv)(E:XE)(x:List Bool)(y:LS)(u:Tg)(h z:PX)(ρ:kA):T->(Option T->Prop)->Prop:=nG u (MN y.length x (lockA ρ)) (if isNop h=true then λρ R=>R true ρ else(pe Ψ h E).t) (pe Ψ z E).e
def YT(h:Tg)(x:T)(ρ:kA)(K:kA->Prop):Prop:=DK h x ρ K
section
variable{Ψ:PEv}{E:XE}{ρ:kA}{K:TK}{L:Bool->kA->Prop}{M:List (T×Bool)->kA->Prop}{a b c q its X Z:PX}{Y:T->kA->Prop}
section
variable{i j:Nat}{x:T}{w:CmpOp}{f t:Str}{p:PSp}{md:List Md}{v m:List Bool}{g:LS}{l:Tg}{o:ItK}{R:Option T->Prop}{s:Option Sl}{σ:kA}{n:Bool}{ts:LT}
theorem D7:tB Ψ (.xz i) E ρ K=GH i ρ ρ K:=rfl
theorem Re:UN Ψ (.xz i) E ρ L=GH i ρ ρ λt _ ρ=>T0 t λb=>L b ρ:=rfl
theorem Bf{i:Int}:tB Ψ (.int i) E ρ K=K (.d (.int i)) false ρ:=rfl
theorem F7{x:Str}:tB Ψ (.str x) E ρ K=K (.d (.str x)) false ρ:=rfl
theorem Mp{x:Bool}:tB Ψ (.bl x) E ρ K=K (.d (.bool x)) false ρ:=rfl
theorem Xf:tB Ψ .non E ρ K=K (.d .none) false ρ:=rfl
theorem tH{x:Str}{d:D}(h:Ψ.va x=some d):tB Ψ (.glo x) E ρ K=K (.d d) false ρ:=by show(match Ψ.va x with|some d=>K (.d d) false ρ|none=>False)=_;rw[h]
theorem Ff{w:Operator}:tB Ψ (.bin w a b) E ρ K=tB Ψ a E ρ λx n u=>S7 x n Ψ b E u λy m h=>NH w x n y m λz k=>K z k h:=rfl
theorem Se:UN Ψ (.cmp w a b) E ρ L=tB Ψ a E ρ λx n z=>S7 x n Ψ b E z λy m h=>rB w x (pA y m) λk=>L k h:=rfl
theorem Df:tB Ψ (.cmp w a b) E ρ K=UN Ψ (.cmp w a b) E ρ λk h=>K (.d (.bool k)) false h:=rfl
theorem Gf:tB Ψ (.and a b) E ρ K=tB Ψ a E ρ λx _ h=>Pu x λc=>if c=true then tB Ψ b E h K else K (.d (.bool false)) false h:=rfl
theorem fN:UN Ψ (.and a b) E ρ L=UN Ψ a E ρ λc h=>if c=true then UN Ψ b E h L else L false h:=rfl
theorem c7:UN Ψ (.or a b) E ρ L=UN Ψ a E ρ λc h=>if c=true then L true h else UN Ψ b E h L:=rfl
theorem Vf:tB Ψ (.not a) E ρ K=tB Ψ a E ρ λx _ h=>T0 x λc=>K (.d (.bool (!c))) false h:=rfl
theorem GX:UN Ψ (.not a) E ρ L=UN Ψ a E ρ λc h=>L (!c) h:=rfl
theorem cA(h:Ψ.sp f=p)(G:p.md=md)(F:(md.all λm=>!m.isMut)=true):tB Ψ (.call f q) E ρ K=dM Ψ q E md ρ λxs y=>ZB md xs λts=>UB p ts (λr u=>u=[]/\K r true y) E:=by
 have B:∀(md:List Md) (q:PX),(md.all λm=>!m.isMut)=true->xA md q=[]:=by
  intro md;induction md with
  |nil=>intro q _;cases q<;>rfl|cons m md C =>
   intro q h;rw[qZ,Qa]at h;cases m with
   |chg=>cases h.1|_=>cases q with|ny a q=>exact C q h.2|_=>rfl
 show(∃u,DA (xA (Ψ.sp f).md q) ρ=some u/\(xA (Ψ.sp f).md q).Nodup/\(pe Ψ q E).a (Ψ.sp f).md (clear (xA (Ψ.sp f).md q) ρ) λxs y=>∃ts,XA (Ψ.sp f).md xs u=some ts/\(Ψ.sp f).run ts (λr W=>∃z,xC (xA (Ψ.sp f).md q) W y=some z/\K r true z) E)=_;rw[h,G,B md q F];have A:∀(r:T) (u:LT) (y:kA),(∃z,xC [] u y=some z/\K r true z)=(u=[]/\K r true y):=by
  intro r u y;cases u with|nil=>exact propext ⟨λ⟨_,e,k⟩=>by cases e;exact⟨rfl,k⟩,λk=>⟨_,rfl,k.2⟩⟩|cons _ _=>exact propext ⟨λ⟨_,e,k⟩=>(by cases e),λk=>(by cases k.1)⟩
 have:=λ(y:kA)=>funext λr=>funext λu=>A r u y;simp only[this];exact propext ⟨λ⟨_,e,_,k⟩=>by cases e;exact k,λk=>⟨_,rfl,Q0,k⟩⟩
theorem f7:UN Ψ (.call f q) E ρ L=tB Ψ (.call f q) E ρ λt _ h=>T0 t λb=>L b h:=rfl
theorem Np{f:Bi}:tB Ψ (.bi f q) E ρ K=dM Ψ q E [] ρ λxs h=>jO f xs λz k=>K z k h:=rfl
theorem Kf:tB Ψ (.mt .pop (.xz j) q) E ρ K=zD ρ[j]? λt=>KI .pop t=true/\dM Ψ q E [] (ρ.set j (some (.ky t))) λxs h=>ZE xs=true/\h[j]?=some (some (.ky t))/\MK .pop t (DF xs) λr s'=>K r true (h.set j (some (.own s'))):=rfl
theorem L7{x:Bool}:tB Ψ (.dnew x) E ρ K=K (.dct x [] []) true ρ:=rfl
theorem Cf:tB Ψ (.dsp a b) E ρ K=tB Ψ a E ρ λy m z=>YC y m (tB Ψ b E z λx n h=>YC x n (GD true y.er/\K (.dct true [y.er] [x]) true h)):=rfl
theorem jH(h:Ψ.sp f=p)(P:p.md=.chg::md)(O:(md.all λm=>!m.isMut)=true):tB Ψ (.call f (.ny (.xz j) q)) E ρ K=zD ρ[j]? λt=>dM Ψ q E md (ρ.set j none) λxs y=>ZB md xs λts=>UB p (t::ts) (λr u=>∃t',u=[t']/\K r true (y.set j (some (.own t')))) E:=by
 have J:∀(md:List Md) (q:PX),(md.all λm=>!m.isMut)=true->xA md q=[]:=by
  intro md;induction md with
  |nil=>intro q _;cases q<;>rfl|cons m md N =>
   intro q h;rw[qZ,Qa]at h;cases m with
   |chg=>cases h.1|_=>cases q with|ny a q=>exact N q h.2|_=>rfl
 show(∃u,DA (xA (Ψ.sp f).md (.ny (.xz j) q)) ρ=some u/\(xA (Ψ.sp f).md (.ny (.xz j) q)).Nodup/\(pe Ψ (.ny (.xz j) q) E).a (Ψ.sp f).md (clear (xA (Ψ.sp f).md (.ny (.xz j) q)) ρ) λxs y=>∃ts,XA (Ψ.sp f).md xs u=some ts/\(Ψ.sp f).run ts (λr W=>∃A,xC (xA (Ψ.sp f).md (.ny (.xz j) q)) W y=some A/\K r true A) E)=_;rw[h,P];have Q:xA (.chg::md) (.ny (.xz j) q)=[j]:=by show j::xA md q=[j];rw[J md q O]
 rw[Q];have B:∀(r:T) (u:LT) (y:kA),(∃A,xC [j] u y=some A/\K r true A)=(∃t',u=[t']/\K r true (y.set j (some (.own t')))):=by
  intro r u y
  match u with
  |[]=>exact propext ⟨λ⟨_,e,k⟩=>(by cases e),λ⟨_,e,k⟩=>(by cases e)⟩|[t]=>exact propext ⟨λ⟨_,e,k⟩=>by cases e;exact⟨t,rfl,k⟩,λ⟨_,e,k⟩=>by cases e;exact⟨_,rfl,k⟩⟩|_::_::_=>exact propext ⟨λ⟨_,e,k⟩=>(by cases e),λ⟨_,e,k⟩=>(by cases e)⟩
 have C:=λ(y:kA)=>funext λr=>funext λu=>B r u y;simp only[C];have F:∀(t:T) (xs:List (T×Bool)) (G:LT->Prop),(∃ts,XA (.chg::md) ((.d .none,true)::xs) [t]=some ts/\G ts)=ZB md xs λts=>G (t::ts):=by
  intro t xs G;show(∃ts,(XA md xs []).map (t::·)=some ts/\G ts)=GF (XA md xs []) λts=>G (t::ts);cases XA md xs []with|none=>exact propext ⟨λ⟨_,e,_⟩=>(by cases e),λ⟨_,e,_⟩=>(by cases e)⟩|some ts=>exact propext ⟨λ⟨_,e,k⟩=>by cases e;exact⟨_,rfl,k⟩,λ⟨_,e,k⟩=>by cases e;exact⟨_,rfl,k⟩⟩
 have I:∀t,ρ[j]?=some (some (.own t))->DA [j] ρ=some [t]:=λt e=>by unfold DA;rw[e];rfl
 have S:∀(u:LT),((pe Ψ (.ny (.xz j) q) E).a (.chg::md) (clear [j] ρ) λxs y=>∃ts,XA (.chg::md) xs u=some ts/\p.run ts (λr W=>∃t',W=[t']/\K r true (y.set j (some (.own t')))) E)=(dM Ψ q E md (ρ.set j none) λxs y=>∃ts,XA (.chg::md) ((.d .none,true)::xs) u=some ts/\p.run ts (λr W=>∃t',W=[t']/\K r true (y.set j (some (.own t')))) E):=λu=>propext ⟨λh=>h.2,λh=>⟨rfl,h⟩⟩;simp only[S]
 match e:ρ[j]? with
 |some (some (.own t))=>show _=(dM Ψ q E md (ρ.set j none) λxs y=>ZB md xs λts=>UB p (t::ts) (λr u=>∃t',u=[t']/\K r true (y.set j (some (.own t')))) E);rw[I t e];have:=λxs (y:kA)=>F t xs λts=>p.run ts (λr W=>∃t',W=[t']/\K r true (y.set j (some (.own t')))) E;refine propext ⟨λ⟨_,e,_,k⟩=>?_,λk=>⟨_,rfl,by simp,?_⟩⟩;cases e;simp only[this]at k;exact k;simp only[this];exact k|some (some (.ky t))=>exact propext ⟨λ⟨_,z,_⟩=>(by unfold DA at z;rw[e]at z;cases z),λk=>k.elim⟩|some none=>exact propext ⟨λ⟨_,z,_⟩=>(by unfold DA at z;rw[e]at z;cases z),λk=>k.elim⟩|none=>exact propext ⟨λ⟨_,z,_⟩=>(by unfold DA at z;rw[e]at z;cases z),λk=>k.elim⟩
theorem OT:tB Ψ (.mt .extend (.xz j) q) E ρ K=zD ρ[j]? λt=>KI .extend t=true/\dM Ψ q E [] (ρ.set j (some (.ky t))) λxs h=>ZE xs=true/\h[j]?=some (some (.ky t))/\MK .extend t (DF xs) λr s'=>K r true (h.set j (some (.own s'))):=rfl
theorem RT:tB Ψ (.mt .append (.xz j) q) E ρ K=zD ρ[j]? λt=>KI .append t=true/\dM Ψ q E [] (ρ.set j (some (.ky t))) λxs h=>ZE xs=true/\h[j]?=some (some (.ky t))/\MK .append t (DF xs) λr s'=>K r true (h.set j (some (.own s'))):=rfl
theorem G7:tB Ψ (.idx a b) E ρ K=tB Ψ a E ρ λx n u=>S7 x n Ψ b E u λy m h=>BA x n y m λz=>K z false h:=rfl
theorem Uf:tB Ψ (.lst q) E ρ K=dM Ψ q E [] ρ λxs y=>xs.length<=sizeLine/\ZM xs λts=>K (.lst ts) true y:=by have:∀(xs:List (T×Bool)) y,(xs.length<=sizeLine/\ZM xs λts=>K (.lst ts) true y)=(ZE xs=true/\xs.length<=sizeLine/\K (.lst (DF xs)) true y):=λxs y=>propext ⟨λh=>⟨h.2.1,h.1,h.2.2⟩,λh=>⟨h.2.1,h.1,h.2.2⟩⟩;simp only[this];rfl
theorem Zf:tB Ψ (.tup q) E ρ K=dM Ψ q E [] ρ λxs y=>xs.length<=sizeLine/\ZM xs λts=>K (UF ts) true y:=by have:∀(xs:List (T×Bool)) y,(xs.length<=sizeLine/\ZM xs λts=>K (UF ts) true y)=(ZE xs=true/\xs.length<=sizeLine/\K (UF (DF xs)) true y):=λxs y=>propext ⟨λh=>⟨h.2.1,h.1,h.2.2⟩,λh=>⟨h.2.1,h.1,h.2.2⟩⟩;simp only[this];rfl
theorem M7:tB Ψ (.comp v g l o its Z X) E ρ K=dM Ψ its E [] ρ λxs y=>xL o xs λh =>
   JD (mH Ψ (λ_=>False) v g l Z X y) h [] λz=>K (.lst z) true y:=rfl
theorem Ue:mH Ψ E [] [t] (.nm 0) .nop X ρ x R=tB Ψ X E (some (.ky x)::lockA ρ) λy n _=>YC y n (R (some y)):=rfl
theorem v7{u:Str}{x y:D}:mH Ψ E [] [t,u] (.tp [0,1]) .nop X ρ (.d (.tuple [x,y])) R=tB Ψ X E (bD x::bD y::lockA ρ) λy n _=>YC y n (R (some y)):=AB
theorem Eo{b:Bool}:mH Ψ E (b::m) [t] (.nm 0) .nop X ρ x R=tB Ψ X E (some (.ky x)::oC (b::m) (lockA ρ)) λy n _=>YC y n (R (some y)):=rfl
theorem Be:mH Ψ E [] [t] (.nm 0) (.cmp w a b) X ρ x R=UN Ψ (.cmp w a b) E (some (.ky x)::lockA ρ) λk h=>if k=true then tB Ψ X E h λy n _=>YC y n (R (some y)) else R none:=rfl
theorem Lf:dM Ψ .nz E md ρ M=M [] ρ:=rfl
theorem P7:dM Ψ (.ny a q) E [] ρ M=tB Ψ a E ρ λx n y=>T7 x n Ψ q E [] y λxs h=>M ((x,n)::xs) h:=rfl
theorem ET:dM Ψ (.ny a q) E (.xy::md) ρ M=tB Ψ a E ρ λx n y=>T7 x n Ψ q E md y λxs h=>M ((x,n)::xs) h:=rfl
theorem IT:dM Ψ (.ny a q) E (.ky::md) ρ M=tB Ψ a E ρ λx n y=>T7 x n Ψ q E md y λxs h=>M ((x,n)::xs) h:=rfl
theorem bf:HK Ψ E Y (.xz i) ρ=R8 i ρ ρ i Y:=rfl
theorem zp{x:Bool}:HK Ψ E Y (.bl x) ρ=Y (.d (.bool x)) ρ:=propext ⟨λh=>h.2,λh=>⟨rfl,h⟩⟩
theorem Y7:HK Ψ E Y (.call f q) ρ=tB Ψ (.call f q) E ρ λx n h=>YC x n (Y x h):=rfl
theorem mf{w:Operator}:HK Ψ E Y (.bin w a b) ρ=tB Ψ (.bin w a b) E ρ λx n h=>YC x n (Y x h):=rfl
theorem rf:HK Ψ E Y (.and a b) ρ=tB Ψ (.and a b) E ρ λx n h=>YC x n (Y x h):=rfl
theorem vp{f:Bi}:HK Ψ E Y (.bi f q) ρ=tB Ψ (.bi f q) E ρ λx n h=>YC x n (Y x h):=rfl
theorem gf:HK Ψ E Y (.idx a b) ρ=tB Ψ (.idx a b) E ρ λx n h=>YC x n (Y x h):=rfl
theorem df:HK Ψ E Y (.tup q) ρ=tB Ψ (.tup q) E ρ λx n h=>YC x n (Y x h):=rfl
theorem J7:HK Ψ E Y (.comp v g l o its Z X) ρ=tB Ψ (.comp v g l o its Z X) E ρ λx n h=>YC x n (Y x h):=rfl
theorem Sv:GH (i+1) (s::σ) ρ K=GH i σ ρ K:=rfl
theorem jw{t:T}:GH 0 (some (.ky t)::σ) ρ K=K t false ρ:=rfl
theorem Tv{t:T}:GH 0 (some (.own t)::σ) ρ K=K t false ρ:=rfl
theorem Iv:GH i (lockA σ) ρ K=GH i σ ρ K:=by
 unfold GH lockA;rw[Qd];cases σ[i]? with
 |none=>rfl|some s=>cases s with|none=>rfl|some s=>cases s<;>rfl
theorem Av{b:Bool}:GH (i+1) (oC (b::m) (lockA (s::σ))) ρ K=GH i (oC m (lockA σ)) ρ K:=rfl
theorem Gp:GH 0 (oC (false::m) (lockA (s::σ))) ρ K=GH 0 (lockA (s::σ)) ρ K:=rfl
theorem Fp:GH i (oC [] (lockA σ)) ρ K=GH i (lockA σ) ρ K:=rfl
theorem Pv:R8 (i+1) (s::σ) ρ j Y=R8 i σ ρ j Y:=rfl
theorem Rv{t:T}:R8 0 (some (.own t)::σ) ρ j Y=Y t (ρ.set j none):=rfl
theorem Eu{x:D}:S7 (.d x) n Ψ b E ρ K=tB Ψ b E ρ K:=by cases n<;>rfl
theorem Tu:S7 x true Ψ b E ρ K=tB Ψ b E ρ K:=rfl
theorem Au:S7 (.lst ts) false Ψ b E ρ K=tB Ψ b E (lockA ρ) λy m _=>K y m ρ:=rfl
theorem Gv{x:D}:T7 (.d x) n Ψ b E md ρ M=dM Ψ b E md ρ M:=by cases n<;>rfl
theorem Dv:T7 x true Ψ b E md ρ M=dM Ψ b E md ρ M:=rfl
theorem Fv:T7 (.lst ts) false Ψ b E md ρ M=dM Ψ b E md (lockA ρ) λxs _=>M xs ρ:=rfl
end
end
section
variable{Ψ:PEv}{E:XE}{ρ σ:kA}{Z:PEnds}{s r q:PT}{i:Nat}{e c its:PX}{o:Option Sl}{n:Bool}{v:D}{P:Prop}{ds:List D}{x:T}
section
variable{j:Nat}{is:LN}{A B:Prop}
theorem zA:dB Ψ E .nil Z ρ=Z.nx ρ:=rfl
theorem Ie:dB Ψ E (.seq (.set i e) r) Z (o::σ)=tB Ψ e E (o::σ) λx n h=>ML Ψ E r Z i x n h:=rfl
theorem zf:dB Ψ E (.seq (.own i e) r) Z (o::σ)=tB Ψ e E (o::σ) λx n h=>Cm Ψ E r Z i x n h:=rfl
theorem i7:dB Ψ E (.seq (.expr e) r) Z (o::σ)=tB Ψ e E (o::σ) λ_ _ h=>dB Ψ E r Z h:=rfl
theorem yf:dB Ψ E (.seq (.ret e) r) Z (o::σ)=HK Ψ E Z.rt e (o::σ):=rfl
theorem t7:dB Ψ E (.seq (.ife c s .nil) r) Z (o::σ)=UN Ψ c E (o::σ) λk h=>if k=true then dB Ψ E s { Z with nx:=λy=>dB Ψ E r Z y } h else dB Ψ E r Z h:=rfl
theorem uf{u:Tg}{k:ItK}:dB Ψ E (.seq (.for_ u k its q) r) Z (o::σ)=dM Ψ its E [] (o::σ) λxs h=>xL k xs λy =>
   if AQ xs=true then LH (dB Ψ E q) u { Z with nx:=λz=>dB Ψ E r Z (kill u.ix z) } y h
   else LH (dB Ψ E q) u { Z with nx:=λz=>cU u.ix (fC h (yH its)) h (λw=>dB Ψ E r Z w) (kill u.ix z) } y (lock (fC h (yH its)) h):=rfl
theorem Ee{a:PX}:dB Ψ E (.seq (.six (.xz j) a e) r) Z (o::σ)=zD (o::σ)[j]? λt=>tB Ψ e E ((o::σ).set j (some (.ky t))) λx n z=>YC x n (tB Ψ a E z λy m h=>YC y m (h[j]?=some (some (.ky t))/\Uc t y x λt'=>dB Ψ E r Z (h.set j (some (.own t'))))):=rfl
theorem m7{a k:PX}:dB Ψ E (.seq (.six (.idx (.xz j) k) a e) r) Z (o::σ)=zD (o::σ)[j]? λt=>tB Ψ e E ((o::σ).set j (some (.ky t))) λx n w=>YC x n (tB Ψ k E w λz l u=>YC z l (Fl z t λs put=>tB Ψ a E u λy m h=>YC y m (h[j]?=some (some (.ky t))/\Uc s y x λs'=>dB Ψ E r Z (h.set j (some (.own (put s'))))))):=rfl
theorem jf{k:PX}:dB Ψ E (.seq (.sdf j k) r) Z (o::σ)=zD (o::σ)[j]? λt=>Ub t=true/\tB Ψ k E ((o::σ).set j (some (.ky t))) λy m h=>YC y m (h[j]?=some (some (.ky t))/\jm y t λt'=>dB Ψ E r Z (h.set j (some (.own t')))):=rfl
theorem l7:dB Ψ E (.seq (.tset is e) r) Z (o::σ)=tB Ψ e E (o::σ) λx n y=>YC x n (YT (.tp is) (.d x.er) y λh=>dB Ψ E r Z h):=rfl
theorem xf:dB Ψ E (.seq (.frz is s) r) Z (o::σ)=dB Ψ E (.seq s r) Z (frzAt is (o::σ)):=rfl
theorem Ae:dB Ψ E (.seq (.whl c q) r) Z (o::σ)=Rk Ψ E c q { Z with nx:=λh=>dB Ψ E r Z h } (o::σ):=rfl
theorem Cv:ML Ψ E r Z i (.d v) n ρ=dB Ψ E r Z (ρ.set i (bD v)):=propext ⟨λh=>h.2,λh=>⟨by cases n<;>rfl,h⟩⟩
theorem Bp:ML Ψ E r Z i (.lst (ds.map T.d)) true ρ=dB Ψ E r Z (ρ.set i (bD (.list ds))):=by unfold ML T.er;rw[pB];exact propext ⟨λh=>h.2,λh=>⟨rfl,h⟩⟩
theorem gv:Cm Ψ E r Z i x true ρ=dB Ψ E r Z (ρ.set i (some (.own x))):=propext ⟨λh=>h.2,λh=>⟨rfl,h⟩⟩
theorem zw:YC (.d v) n P=P:=propext ⟨λh=>h.2,λh=>⟨by cases n<;>rfl,h⟩⟩
theorem yw:YC x true P=P:=propext ⟨λh=>h.2,λh=>⟨rfl,h⟩⟩
theorem TW:(([]:LT)=[]/\P)=P:=propext ⟨λh=>h.2,λh=>⟨rfl,h⟩⟩
theorem En:(if(true:Bool)=true then A else B)=A:=rfl
theorem jo:(if(false:Bool)=true then A else B)=B:=rfl
theorem Uv{v h:Option Sl}:dB Ψ E r Z (w8 (h::σ) 0 v)=dB Ψ E r Z (v::σ):=rfl
theorem Xv{v h y:Option Sl}:dB Ψ E r Z (w8 (h::y::σ) 1 v)=dB Ψ E r Z (h::v::σ):=rfl
theorem Vv{v y h z:Option Sl}:dB Ψ E r Z (w8 (y::h::z::σ) 2 v)=dB Ψ E r Z (y::h::v::σ):=rfl
theorem Kv{v z y h u:Option Sl}:dB Ψ E r Z (w8 (z::y::h::u::σ) 3 v)=dB Ψ E r Z (z::y::h::v::σ):=rfl
theorem Zv{v u z y h w:Option Sl}:dB Ψ E r Z (w8 (u::z::y::h::w::σ) 4 v)=dB Ψ E r Z (u::z::y::h::v::σ):=rfl
theorem Yv{v w u z y h k:Option Sl}:dB Ψ E r Z (w8 (w::u::z::y::h::k::σ) 5 v)=dB Ψ E r Z (w::u::z::y::h::v::σ):=rfl
theorem Jv{v k w u z y h a:Option Sl}:dB Ψ E r Z (w8 (k::w::u::z::y::h::a::σ) 6 v)=dB Ψ E r Z (k::w::u::z::y::h::v::σ):=rfl
theorem sv{v a k w u z y h b:Option Sl}:dB Ψ E r Z (w8 (a::k::w::u::z::y::h::b::σ) 7 v)=dB Ψ E r Z (a::k::w::u::z::y::h::v::σ):=rfl
theorem pv{v b a k w u z y h f:Option Sl}:dB Ψ E r Z (w8 (b::a::k::w::u::z::y::h::f::σ) 8 v)=dB Ψ E r Z (b::a::k::w::u::z::y::h::v::σ):=rfl
theorem nv{v f b a k w u z y h g:Option Sl}:dB Ψ E r Z (w8 (f::b::a::k::w::u::z::y::h::g::σ) 9 v)=dB Ψ E r Z (f::b::a::k::w::u::z::y::h::v::σ):=rfl
theorem Vp{v l g f b a k w u z y h:Option Sl}:dB Ψ E r Z (w8 (l::g::f::b::a::k::w::u::z::y::h::σ) 10 v)=dB Ψ E r Z (l::g::f::b::a::k::w::u::z::y::v::σ):=rfl
theorem Kp{v m l g f b a k w u z h y:Option Sl}:dB Ψ E r Z (w8 (m::l::g::f::b::a::k::w::u::z::h::y::σ) 11 v)=dB Ψ E r Z (m::l::g::f::b::a::k::w::u::z::h::v::σ):=rfl
theorem Zp{v p m l g f b a k w u y h z:Option Sl}:dB Ψ E r Z (w8 (p::m::l::g::f::b::a::k::w::u::y::h::z::σ) 12 v)=dB Ψ E r Z (p::m::l::g::f::b::a::k::w::u::y::h::v::σ):=rfl
theorem Yp{v X p m l g f b a k w z y h u:Option Sl}:dB Ψ E r Z (w8 (X::p::m::l::g::f::b::a::k::w::z::y::h::u::σ) 13 v)=dB Ψ E r Z (X::p::m::l::g::f::b::a::k::w::z::y::h::v::σ):=rfl
end
end
section
variable{d:D}{n m:Bool}{i j:Int}{z y:Str}{b:Bool}{xs:List (T×Bool)}{ts:LT}{ds es:List D}{md:List Md}{t:T}{C:LT->Prop}{Q:T->Bool->Prop}{L:Bool->Prop}{R:T->Prop}{W:LT->Prop}
section
variable{ρ:kA}{P:kA->Prop}{e k:D}{v:CmpOp}{ks:List D}{kvs:List (D×D)}{l u:Option Int}
theorem Aq{i:Int}{x:D}{Q:T->Prop}(a:0<=i)(w:i<ds.length)(q:Q (.lst ((ds.set i.toNat x).map T.d))):Uc (.lst (ds.map T.d)) (.d (.int i)) (.d x) Q:=by
 have h:i.toNat<ds.length:=by omega
 refine⟨i.toNat,?_,by rw[<- QA1];exact q⟩;unfold kU;rw[QG];rw[if_pos a,if_pos w]
theorem Pe{J:LN}{x:kA}{N:kA->Prop}:cU J [] x N ρ=N ρ:=propext ⟨λh=>h.2,λh=>⟨λ_ z=>(nomatch z),h⟩⟩
theorem lA{α:Type}(f:α->D)(l:List α):l.map (λc=>T.d (f c))=(l.map f).map T.d:=by rw[Qb];rfl
theorem xG:(pA (.lst (ds.map T.d)) n).vw=.ls (ds.map T.d):=by cases n;rfl;show Vw.ls ((ersT (ds.map T.d)).map T.d)=_;rw[pB]
theorem sf:ZB md [] C=C []:=AB
theorem uv:ZB [] ((.d d,n)::xs) C=ZB [] xs λts=>C (.d d::ts):=by
 have e:XA [] ((.d d,n)::xs) []=(XA [] xs []).map (.d d::·):=by cases n<;>rfl
 unfold ZB;rw[e,jG]
theorem vv:ZB [] ((.lst (ds.map T.d),true)::xs) C=ZB [] xs λts=>C (.d (.list ds)::ts):=by have e:XA [] ((.lst (ds.map T.d),true)::xs) []=(XA [] xs []).map (.d (.list (ersT (ds.map T.d)))::·):=rfl;unfold ZB;rw[e,jG,pB]
theorem bv:ZB (.ky::md) ((t,false)::xs) C=ZB md xs λts=>C (t::ts):=by have e:XA (.ky::md) ((t,false)::xs) []=(XA md xs []).map (t::·):=rfl;unfold ZB;rw[e,jG]
theorem G1:oE (.lst (ds.map T.d))=some (.lst (ds.map T.d)):=by simp only[oE,T.vw,VA,Q2]
theorem Iu{u:T}(h:oE (pA t n)=some u):ZB (.xy::md) ((t,n)::xs) C=ZB md xs λts=>C (u::ts):=by
 have e:XA (.xy::md) ((t,n)::xs) []=(XA md xs []).map (u::·):=by show(match oE (pA t n) with|some t=>(XA md xs []).map (t::·)|none=>none)=_;rw[h]
 unfold ZB;rw[e,jG]
theorem xp:ZB (.xy::md) ((.lst (ds.map T.d),n)::xs) C=ZB md xs λts=>C (.lst (ds.map T.d)::ts):=Iu (by cases n;exact G1;show oE (.d (.list (ersT (ds.map T.d))))=_;rw[pB];simp only[oE,T.vw,VA,Q2])
theorem af:ZM [] C=C []:=propext ⟨λh=>h.2,λh=>⟨rfl,h⟩⟩
theorem lu:ZM ((.lst (ds.map T.d),true)::xs) C=ZM xs λts=>C (.lst (ds.map T.d)::ts):=by show((lH (.lst (ds.map T.d)) true&&ZE xs)=true/\C (.lst (ds.map T.d)::DF xs))=(ZE xs=true/\C (.lst (ds.map T.d)::DF xs));rw[show lH (.lst (ds.map T.d)) true=true from rfl,WJ]
theorem Bv:ZM ((.d d,n)::xs) C=ZM xs λts=>C (.d d::ts):=by show((lH (.d d) n&&ZE xs)=true/\C (.d d::DF xs))=(ZE xs=true/\C (.d d::DF xs));rw[show lH (.d d) n=true by cases n<;>rfl,WJ]
theorem Hf{i j:Nat}{x y:D}:YT (.tp [i,j]) (.d (.tuple [x,y])) ρ P=P ((ρ.set i (bD x)).set j (bD y)):=AB
theorem Pp{i:Nat}:YT (.nm i) t ρ P=P (ρ.set i (some (.ky t))):=rfl
theorem Oo{h:Tg}:DK h t ρ P=YT h t ρ P:=rfl
theorem Oe:NH .Add (.d (.int i)) n (.d (.int j)) m Q=Q (.d (.int (i+j))) false:=by unfold NH;rw[rA,rA];exact Yj i j
theorem Me:NH .Add (.d (.str z)) n (.d (.str y)) m Q=(z.length+y.length<=sizeLine/\Q (.d (.str (z++y))) false):=by unfold NH;rw[rA,rA];exact Jj z y
theorem De:NH .Sub (.d (.int i)) n (.d (.int j)) m Q=Q (.d (.int (i - j))) false:=by unfold NH;rw[rA,rA];exact ij i j
theorem Ge:NH .Mult (.d (.int i)) n (.d (.int j)) m Q=(IntMulOk i j/\Q (.d (.int (i * j))) false):=by unfold NH;rw[rA,rA];exact sj i j
theorem Fe:NH .Mult (.d (.str z)) n (.d (.int j)) m Q=((-(2 ^ 31)<=j/\j<2 ^ 31/\z.length * j.toNat<=sizeLine)/\Q (.d (.str (GJ z j))) false):=by unfold NH;rw[rA,rA];exact rj z j
theorem Le:NH .FloorDiv (.d (.int i)) n (.d (.int j)) m Q=((0<j/\j<2 ^ 200)/\Q (.d (.int (i / j))) false):=by unfold NH;rw[rA,rA];exact pj i j
theorem He:NH .Mod (.d (.int i)) n (.d (.int j)) m Q=(0<j/\Q (.d (.int (i % j))) false):=by unfold NH;rw[rA,rA];exact oj i j
theorem Zn:UF [.d d,.d e]=.d (.tuple [d,e]):=rfl
theorem Yn{f g:D}:UF [.d d,.d e,.d f,.d g]=.d (.tuple [d,e,f,g]):=rfl
theorem ae:rB .Eq (.d (.int i)) (.d (.int j)) L=L (decide (i=j)):=rfl
theorem se:rB .Eq (.d (.str z)) (.d (.str y)) L=L (decide (z=y)):=rfl
theorem ke:rB .NotEq (.d (.str z)) (.d (.str y)) L=L (!decide (z=y)):=rfl
theorem Do:rB .Lt (.d (.int i)) (.d (.int j)) L=L (decide (i<j)):=rfl
theorem G6:rB v (.d d) (.lst (ds.map T.d)) L=pZ v d (.list ds) L:=by show pZ v d (.list (ersT (ds.map T.d))) L=_;rw[pB]
theorem Go:rB .Gt (.d (.int i)) (.d (.int j)) L=L (decide (j<i)):=rfl
theorem Ou:rB v t (pA (.d d) m) L=rB v t (.d d) L:=by rw[rA]
theorem Lo{u:T}:rB v t (pA u false) L=rB v t u L:=rfl
theorem ge:rB .In (.d (.str z)) (.d (.list ds)) L=(((iB (.str z)=true/\ds.all iB=true)∨(kE (.str z)/\kE (.list ds)))/\L (ds.any λy=>Ql y (.str z))):=rfl
theorem R6:rB .NotIn (.d (.str z)) (.lst (ds.map T.d)) L=(((iB (.str z)=true/\ds.all iB=true)∨(kE (.str z)/\kE (.list ds)))/\L (!(ds.any λy=>Ql y (.str z)))):=by exact G6
theorem ve:rB .NotEq (.d (.list ds)) (.d (.list es)) L=(kE (.list ds)/\kE (.list es)/\L (!PyData.eqv (.list ds) (.list es))):=rfl
theorem T6:rB .In (.d d) (.dct b ks ts) L=(GD b d/\L (bA ks d).isSome):=by show(GD b d/\((CmpOp.In=.In/\L (bA ks d).isSome)∨(CmpOp.In=.NotIn/\L (!(bA ks d).isSome))))=_;simp
theorem IM:rB .NotIn (.d d) (.dct b ks ts) L=(GD b d/\L (!(bA ks d).isSome)):=by show(GD b d/\((CmpOp.NotIn=.In/\L (bA ks d).isSome)∨(CmpOp.NotIn=.NotIn/\L (!(bA ks d).isSome))))=_;simp
theorem de:rB .In (.d (.str z)) (.d (.tuple ds)) L=(((iB (.str z)=true/\ds.all iB=true)∨(kE (.str z)/\kE (.list ds)))/\L (ds.any λy=>Ql y (.str z))):=rfl
theorem fe:rB .In (.d (.str z)) (.lst (ds.map T.d)) L=(((iB (.str z)=true/\ds.all iB=true)∨(kE (.str z)/\kE (.list ds)))/\L (ds.any λy=>Ql y (.str z))):=by exact G6
theorem Bu:T0 (.d (.bool b)) L=L b:=rfl
theorem Ru:Pu (.d (.bool b)) L=L b:=rfl
theorem xn:jO .len [(.d (.list ds),n)] Q=Q (.d (.int ds.length)) false:=by unfold jO dC;rw[rA];refine(Ke _).trans ?_;rw[QG]
theorem vn:jO .len [(.lst (ds.map T.d),n)] Q=Q (.d (.int ds.length)) false:=by unfold jO dC;rw[xG];refine(Ke _).trans ?_;rw[QG]
theorem Zd:jO .any [(.lst (ds.map T.d),n)] Q=∃bs:List Bool,ds=bs.map PyData.bool/\Q (.d (.bool (bs.any id))) false:=by unfold jO dC;rw[xG];refine(So _).trans ?_;simp only[VA,Qk]
theorem X6:SS (.ls ts) k R=False:=propext ⟨λ⟨_,_,_,_,_,e,_⟩=>(by cases e),Qc⟩
theorem Ri:SS (.tp ts) k R=False:=propext ⟨λ⟨_,_,_,_,_,e,_⟩=>(by cases e),Qc⟩
theorem Si{x:D}:SS (.sc x) k R=False:=propext ⟨λ⟨_,_,_,_,_,e,_⟩=>(by cases e),Qc⟩
theorem Ku:BA (.lst (ds.map T.d)) n (.d (.int i)) m R=GF (gE ds i) λd=>R (.d d):=by unfold BA;rw[xG,rA,X6,or_false];refine(A5 _ _).trans ?_;show GF (gE (ds.map T.d) i) R=_;rw[IG,jG]
theorem Sf:BA (.d (.list ds)) n (.d (.int i)) m R=GF (gE ds i) λd=>R (.d d):=by unfold BA;rw[rA,rA,show(T.d (.list ds)).vw=.ls (ds.map T.d) from rfl,X6,or_false];refine(A5 _ _).trans ?_;show GF (gE (ds.map T.d) i) R=_;rw[IG,jG]
theorem o0:BA (.d (.tuple ds)) n (.d (.int i)) m R=GF (gE ds i) λd=>R (.d d):=by unfold BA;rw[rA,rA,show(T.d (.tuple ds)).vw=.tp (ds.map T.d) from rfl,Ri,or_false];refine(Xi _ _).trans ?_;show GF (gE (ds.map T.d) i) R=_;rw[IG,jG]
theorem Lk:BA (.lst [.d d,.d e]) n t m R=BA (.lst ([d,e].map T.d)) n t m R:=rfl
theorem Zu:BA (.d (.str z)) n (.d (.int i)) m R=(z.length<=sizeLine/\GF (gE z.cps.toList i) λc=>R (.d (.str ⟨#[c]⟩))):=by unfold BA;rw[rA,rA,show(T.d (.str z)).vw=.sc (.str z) from rfl,Si,or_false];exact Ui _ _
theorem Mk{q:Bool}{l:Nat}(f:jD kvs=some q)(a:GD q k)(w:bA (kvs.map (·.1)) k=some l)(h:(kvs.map (·.2))[l]?=some e)(x:R (.d e)):BA (.d (.dict kvs)) n (.d k) m R:=by
 unfold BA;rw[rA];refine .inr ?_;show SS (BB kvs) k R;unfold BB;rw[f];refine⟨q,_,_,l,.d e,rfl,a,w,?_,x⟩;rw[Qd]at h ⊢;cases z:kvs[l]? with|none=>rw[z]at h;cases h|some p=>rw[z]at h;cases h;rfl
theorem Fu:fI (.d (.str z)) n l u Q=(z.length<=sizeLine/\Q (.d (.str (wl z l u))) false):=by unfold fI;rw[rA];exact Jg z
theorem Gu:fI (.d (.list ds)) n l u Q=Q (.lst ((gF ds l u).map T.d)) true:=by unfold fI;rw[rA];refine(ig _).trans ?_;rw[VA];exact AB
theorem Xu:xL .val [(.d (.list ds),n)] W=W (ds.map T.d):=by unfold xL dC;rw[rA];exact CI _
theorem Vu:xL .val [(.d (.tuple ds),n)] W=W (ds.map T.d):=by unfold xL dC;rw[rA];exact M5 _
theorem yl:xL .val [(.lst (ds.map T.d),n)] W=W (ds.map T.d):=by unfold xL dC;rw[xG];exact CI _
theorem Tk:xL .rng1 [(.d (.int j),n)] W=((-(2 ^ 62)<=j/\j<2 ^ 62)/\W ((Qr j.toNat).map λ(i:Nat)=>.d (.int (i:Int)))):=by unfold xL dC;rw[rA];exact L5 j
theorem ul:xL .enum [(.d (.list ds),n)] W=W (ds.zipIdx.map λp=>.d (.tuple [.int (p.2:Int),p.1])):=by unfold xL dC;rw[rA];refine(ZS _).trans ?_;exact propext ⟨λ⟨_,_,x,h,k⟩=>by cases x;rw[VA]at h;cases h;exact k,λk=>⟨_,_,rfl,VA _,k⟩⟩
theorem gc:xL .enum [(.lst (ds.map T.d),n)] W=W (ds.zipIdx.map λp=>.d (.tuple [.int (p.2:Int),p.1])):=by unfold xL dC;rw[xG];refine(ZS _).trans ?_;exact propext ⟨λ⟨_,_,x,h,k⟩=>by cases x;rw[VA]at h;cases h;exact k,λk=>⟨_,_,rfl,VA _,k⟩⟩
theorem zl(h:kvs=[]∨jD kvs=some true):xL .itm [(.d (.dict kvs),n)] W=W (kvs.map λp=>.d (.tuple [p.1,p.2])):=by
 unfold xL dC;rw[rA];show LB .itm [BB kvs] W=_;rcases h with rfl|h;exact G5;unfold BB;rw[h];refine(YS _ _).trans ?_;have e:(kvs.map λp=>T.d p.2)=(kvs.map (·.2)).map T.d:=by rw[Qb];rfl
 have x:((kvs.map (·.1)).zip (kvs.map (·.2))).map (λp=>T.d (.tuple [p.1,p.2]))=kvs.map λp=>T.d (.tuple [p.1,p.2]):=by rw[List.zip_map',Qb];rfl
 refine propext ⟨λ⟨ds,w,k⟩=>?_,λk=>⟨kvs.map (·.2),by rw[e,VA],?_⟩⟩;rw[e,VA]at w;cases w;rw[x]at k;exact k;rw[x];exact k
def eZ(Q:T->LT->Prop):PEnds:={ nx:=λ_=>Q (.d .none) [],rt:=λt _=>Q t [] }
theorem ye{Q:T->LT->Prop}{t:T}:(eZ Q).rt t ρ=Q t []:=rfl
theorem gA{Ψ:PEv}{b:PT}{p:PSp}{N x:LS}{ds:LT}{Q:T->LT->Prop}(ρ:kA)(hl:ds.length=x.length)(hc:VB 0 p.md x.length=[])(w:mB N p.md ds=ρ)(h:pF Ψ b (eZ Q) ρ):ds.length=x.length/\pF Ψ b (iD p x.length Q) (mB N p.md ds):=by
 have e:iD p x.length Q=eZ Q:=by unfold iD;rw[hc];rfl
 rw[e,w];exact⟨hl,h⟩
end
end
end L2.L3
namespace L2.L3.K37
open PySem PySem.Spec PyProof.Rows L2 L2.L3
section
variable{p q:Pt}{r:Rm}{Q:T->Prop}{l:Inn}{v:Int}{a b n g:Str}{w:Wy}{e:Str×Str}
def top(i:Nat):Stmt:=Qp.main.body.getD i (.Pass ⟨0,0,0,0⟩)
def VG:LS:=["edges","starts","goal","rooms","came_from","firsts","chains"]
def VF:LS:=["edges","starts","goal"]
def eM:Need:=⟨["rooms_of","points_reached","lay_chain","chain_from","full_names"],["BEGIN"],["sorted"]⟩
def VC:PT :=
  %[.expr (.call "lay_chain" %[.xz 3,.xz 4,.tup %[.xz 2,.str "to"|1]|1]),.set 4 (.call "points_reached" %[.xz 3|1])|2]
noncomputable def JG:PT :=
  %[.own 3 (.call "rooms_of" %[.xz 0,.xz 1,.xz 2|1]),.set 4 (.call "points_reached" %[.xz 3|1]),.whl (.cmp .In (.tup %[.xz 2,.str "to"|1]) (.xz 4)) VC,.set 5 (.comp [] ["point"] (.nm 0) .val %[.idx (.xz 3) (.glo "BEGIN")|1] (.cmp .Gt (.idx (.idx (.xz 4) (.xz 0)) (.glo "BEGIN")) (.int 0)) (.idx (.xz 0) (.int 0))),.set 6 (.comp [] ["first"] (.nm 0) .val %[.xz 5|1] .nop (.call "chain_from" %[.xz 4,.xz 0,.xz 3|1])),.ret (.tup %[.bi .sorted %[.xz 6|1],.call "full_names" %[.xz 4|1]|1])|2]
theorem AK:YB eM JG VG VF (top 3)=true:=by kernel_rfl
def nN:LS:=["edges","starts","goal","rooms","name","first","second"]
def nK:LS:=["edges","starts","goal"]
def HU:Need:=⟨["add_name","add_way"],["BEGIN","WIDE"],[]⟩
def nF:PT :=
  %[.ife (.cmp .NotEq (.xz 4) (.xz 2)) %[.expr (.call "add_name" %[.xz 3,.xz 4|1]),.expr (.call "add_way" %[.xz 3,.glo "BEGIN",.tup %[.xz 4,.str "to"|1],.glo "WIDE"|1])|2] .nil|2]
noncomputable def mF:PT :=
  %[.ife (.and (.cmp .NotEq (.xz 5) (.xz 2)) (.cmp .NotEq (.xz 5) (.xz 6))) %[.expr (.call "add_name" %[.xz 3,.xz 5|1]),.expr (.call "add_name" %[.xz 3,.xz 6|1]),.expr (.call "add_way" %[.xz 3,.tup %[.xz 5,.str "from"|1],.tup %[.xz 6,.str "to"|1],.glo "WIDE"|1])|2] .nil|2]
def zN:PT :=
  %[.own 3 (.dsp (.glo "BEGIN") (.dnew true)),.for_ (.nm 4) .val %[.xz 1|1] nF,.for_ (.tp [5,6]) .val %[.xz 0|1] mF,.ret (.xz 3)|2]
theorem uT:YB HU zN nN nK (top 4)=true:=by kernel_rfl
def iN:LS:=["rooms","name"]
def eK:LS:=["rooms","name"]
def TU:Need:=⟨["add_way"],[],[]⟩
def EH:PT :=
  %[.expr (.call "add_way" %[.xz 0,.tup %[.xz 1,.str "to"|1],.tup %[.xz 1,.str "from"|1],.int 1|1])|2]
theorem pT:YB TU EH iN eK (top 5)=true:=by kernel_rfl
def dP:LS:=["rooms","here","there","room"]
def uM:LS:=["rooms","here","there","room"]
def FY:Need:=⟨[],[],[]⟩
def zP:PT :=
  %[.sdf 0 (.xz 1),.sdf 0 (.xz 2),.six (.idx (.xz 0) (.xz 1)) (.xz 2) (.xz 3),.six (.idx (.xz 0) (.xz 2)) (.xz 1) (.int 0)|2]
theorem GV:YB FY zP dP uM (top 6)=true:=by kernel_rfl
def HE:LS:=["rooms","came_from","waiting","here","there","room"]
def LD:LS:=["rooms"]
def RJ:Need:=⟨[],["BEGIN"],["len"]⟩
def yB:PT :=
  %[.ife (.and (.cmp .Gt (.xz 5) (.int 0)) (.cmp .NotIn (.xz 4) (.xz 1))) %[.six (.xz 1) (.xz 4) (.xz 3),.expr (.mt .append (.xz 2) %[.xz 4|1])|2] .nil|2]
def ZD:PT :=
  %[.set 3 (.mt .pop (.xz 2) %[.int 0|1]),.for_ (.tp [4,5]) .itm %[.idx (.xz 0) (.xz 3)|1] yB|2]
def BE:PT :=
  %[.own 1 (.dsp (.glo "BEGIN") .non),.own 2 (.lst %[.glo "BEGIN"|1]),.whl (.cmp .Gt (.bi .len %[.xz 2|1]) (.int 0)) ZD,.ret (.xz 1)|2]
theorem II:YB RJ BE HE LD (top 7)=true:=by kernel_rfl
def GK:LS:=["rooms","came_from","last","there","here"]
def tI:LS:=["rooms","came_from","last"]
def vS:Need:=⟨[],["BEGIN"],[]⟩
noncomputable def dE:PT :=
  %[.set 4 (.idx (.xz 1) (.xz 3)),.six (.idx (.xz 0) (.xz 4)) (.xz 3) (.bin .Sub (.idx (.idx (.xz 0) (.xz 4)) (.xz 3)) (.int 1)),.six (.idx (.xz 0) (.xz 3)) (.xz 4) (.bin .Add (.idx (.idx (.xz 0) (.xz 3)) (.xz 4)) (.int 1)),.set 3 (.xz 4)|2]
def pG:PT :=
  %[.set 3 (.xz 2),.whl (.cmp .NotEq (.xz 3) (.glo "BEGIN")) dE|2]
theorem MQ:YB vS pG GK tI (top 8)=true:=by kernel_rfl
def nJ:LS:=["rooms","first","goal","chain","name"]
def gH:LS:=["rooms","first","goal"]
def gQ:Need:=⟨["name_behind"],[],[]⟩
def BD:PT :=
  %[.expr (.mt .append (.xz 3) %[.xz 4|1]),.set 4 (.call "name_behind" %[.xz 0,.xz 4|1])|2]
def JF:PT :=
  %[.own 3 (.lst .nz),.set 4 (.xz 1),.whl (.cmp .NotEq (.xz 4) (.xz 2)) BD,.ret (.xz 3)|2]
theorem EN:YB gQ JF nJ gH (top 9)=true:=by kernel_rfl
def pH:LS:=["rooms","name","here"]
def AF:LS:=["rooms","name"]
def CN:Need:=⟨[],[],[]⟩
noncomputable def cE:PT :=
  %[.set 2 (.tup %[.xz 1,.str "from"|1]),.ret (.idx (.comp [] ["there"] (.nm 0) .val %[.idx (.xz 0) (.xz 2)|1] (.and (.cmp .NotEq (.idx (.xz 0) (.int 0)) (.xz 2)) (.cmp .Gt (.idx (.idx (.xz 1) (.xz 0)) (.xz 3)) (.int 0))) (.idx (.xz 0) (.int 0))) (.int 0))|2]
theorem AM:YB CN cE pH AF (top 10)=true:=by kernel_rfl
def mJ:LS:=["came_from"]
def fH:LS:=["came_from"]
def fQ:Need:=⟨[],[],["sorted"]⟩
noncomputable def iF:PT :=
  %[.ret (.bi .sorted %[.comp [] ["point"] (.nm 0) .val %[.xz 0|1] (.and (.cmp .Eq (.idx (.xz 0) (.int 1)) (.str "to")) (.cmp .NotIn (.tup %[.idx (.xz 0) (.int 0),.str "from"|1]) (.xz 1))) (.idx (.xz 0) (.int 0))|1])|2]
theorem AN:YB fQ iF mJ fH (top 11)=true:=by kernel_rfl
def KG:LS:=["edges","seers","needs","ground","found","grown","name","number","chains"]
def KF:LS:=["edges","seers","needs"]
def aM:Need:=⟨["told_through"],[],["len"]⟩
noncomputable def KC:PT :=
  %[.ife (.cmp .NotIn (.xz 6) (.xz 4)) %[.set 8 (.idx (.call "told_through" %[.xz 0,.xz 1,.xz 4,.xz 6|1]) (.int 0)),.ife (.cmp .GtE (.bi .len %[.xz 8|1]) (.xz 7)) %[.expr (.mt .append (.xz 3) %[.tup %[.xz 6,.slc (.xz 8) .nop (.xz 7)|1]|1]),.expr (.mt .append (.xz 4) %[.xz 6|1]),.set 5 (.bl true)|2] .nil|2] .nil|2]
def ZC:PT :=
  %[.set 5 (.bl false),.for_ (.tp [6,7]) .val %[.xz 2|1] KC|2]
noncomputable def iG:PT :=
  %[.own 3 (.comp [false,false,false,false,false,false,true,true] ["name","number"] (.tp [0,1]) .val %[.xz 2|1] (.cmp .In (.xz 0) (.xz 3)) (.tup %[.xz 0,.lst .nz|1])),.own 4 (.comp [false,false,false,false,false,false,true,false,true] ["name","chains"] (.tp [0,1]) .val %[.xz 3|1] .nop (.xz 0)),.set 5 (.bl true),.whl (.xz 5) ZC,.ret (.xz 3)|2]
theorem SK:YB aM iG KG KF (top 13)=true:=by kernel_rfl
def ZG:LS:=["edges","seers","people","goal"]
def ZF:LS:=["edges","seers","people","goal"]
def tM:Need:=⟨["apart_chains"],[],[]⟩
def YD:PT :=
  %[.ret (.call "apart_chains" %[.comp [] ["edge"] (.nm 0) .val %[.xz 0|1] (.cmp .In (.idx (.xz 0) (.int 0)) (.xz 3)) (.xz 0),.xz 1,.xz 3|1])|2]
theorem RK:YB tM YD ZG ZF (top 14)=true:=by kernel_rfl
def V7:LS:=["world","events","past","taken","wrong","held","known","steps","number","believed","live"]
def VW:LS:=["world"]
def Mh:Need:=⟨["going_order","is_taken","wrong_among","live_among","held_among"],[],[]⟩
noncomputable def uK:PT :=
  %[.own 4 (.call "wrong_among" %[.xz 0,.xz 2|1]),.set 10 (.call "live_among" %[.xz 1,.xz 3,.xz 4|1]),.set 5 (.call "held_among" %[.xz 0,.xz 2,.xz 10,.xz 6|1]),.expr (.mt .append (.xz 7) %[.tup %[.xz 8,.xz 9,.xz 10,.xz 5|1]|1])|2]
noncomputable def bN:PT :=
  (.seq (.set 9 (.call "is_taken" %[.xz 0,.idx (.xz 1) (.xz 8),.xz 4,.xz 5|1]))
  (.seq (.expr (.mt .append (.xz 2) %[.xz 8|1]))
  (.seq (.ife (.and (.xz 9) (.cmp .Eq (.idx (.idx (.xz 1) (.xz 8)) (.int 0)) (.str "tell"))) %[.expr (.mt .append (.xz 3) %[.xz 8|1])|2] .nil)
  uK)))
noncomputable def RV:PT :=
  %[.set 1 (.idx (.xz 0) (.int 3)),.own 2 (.lst .nz),.own 3 (.lst .nz),.own 4 (.dnew true),.set 5 (.lst .nz),.own 6 (.dnew true),.own 7 (.lst .nz),.for_ (.nm 8) .val %[.call "going_order" %[.xz 1|1]|1] bN,.ret (.xz 7)|2]
theorem Mb:YB Mh RV V7 VW (top 17)=true:=by kernel_rfl
def tN:LS:=["world","event","wrong","held","teller","hearer","matter"]
def sK:LS:=["world","event","wrong","held"]
def OU:Need:=⟨["has_against","rank_of","floor_of"],[],[]⟩
noncomputable def tF:PT :=
  %[.ife (.cmp .Eq (.idx (.xz 1) (.int 0)) (.str "see")) %[.ret (.bl true)|2] .nil,.set 4 (.idx (.xz 1) (.int 2)),.set 5 (.idx (.xz 1) (.int 3)),.set 6 (.idx (.xz 1) (.int 4)),.ife (.or (.cmp .NotIn (.tup %[.xz 4,.xz 6|1]) (.xz 3)) (.cmp .In (.tup %[.xz 4,.xz 5|1]) (.xz 2))) %[.ret (.bl false)|2] .nil,.ret (.and (.cmp .GtE (.call "rank_of" %[.xz 0,.xz 4|1]) (.call "floor_of" %[.xz 0,.xz 5|1])) (.not (.call "has_against" %[.xz 0,.xz 3,.xz 5,.xz 6|1])))|2]
theorem lT:YB OU tF tN sK (top 18)=true:=by kernel_rfl
def xP:LS:=["world","name"]
def zM:LS:=["world","name"]
def UY:Need:=⟨[],[],[]⟩
def zK:PT :=
  %[.ret (.idx (.comp [] ["person"] (.nm 0) .val %[.idx (.xz 0) (.int 0)|1] (.cmp .Eq (.idx (.xz 0) (.int 0)) (.xz 2)) (.idx (.xz 0) (.int 1))) (.int 0))|2]
theorem BV:YB UY zK xP zM (top 19)=true:=by kernel_rfl
def aN:LS:=["world","name"]
def tK:LS:=["world","name"]
def PU:Need:=⟨[],[],[]⟩
def TH:PT :=
  %[.ret (.idx (.comp [] ["person"] (.nm 0) .val %[.idx (.xz 0) (.int 0)|1] (.cmp .Eq (.idx (.xz 0) (.int 0)) (.xz 2)) (.idx (.xz 0) (.int 2))) (.int 0))|2]
theorem mT:YB PU TH aN tK (top 20)=true:=by kernel_rfl
def rH:LS:=["world","pairs","name","matter","rivals"]
def EF:LS:=["world","pairs","name","matter"]
def DN:Need:=⟨[],[],["any"]⟩
noncomputable def fE:PT :=
  %[.own 4 (.comp [] ["first","second"] (.tp [0,1]) .val %[.idx (.xz 0) (.int 2)|1] (.cmp .Eq (.xz 0) (.xz 5)) (.xz 1)),.expr (.mt .extend (.xz 4) %[.comp [] ["first","second"] (.tp [0,1]) .val %[.idx (.xz 0) (.int 2)|1] (.cmp .Eq (.xz 1) (.xz 5)) (.xz 0)|1]),.ret (.bi .any %[.comp [] ["rival"] (.nm 0) .val %[.xz 4|1] .nop (.cmp .In (.tup %[.xz 3,.xz 0|1]) (.xz 2))|1])|2]
theorem EM:YB DN fE rH EF (top 21)=true:=by kernel_rfl
def oH:LS:=["world","past","seen","wrong","number","event"]
def TF:LS:=["world","past"]
def BN:Need:=⟨["seen_among","has_against"],[],[]⟩
noncomputable def BF:PT :=
  %[.set 5 (.idx (.idx (.xz 0) (.int 3)) (.xz 4)),.ife (.and (.cmp .Eq (.idx (.xz 5) (.int 0)) (.str "tell")) (.cmp .NotIn (.tup %[.idx (.xz 5) (.int 3),.idx (.xz 5) (.int 4)|1]) (.xz 2))) %[.ife (.call "has_against" %[.xz 0,.xz 2,.idx (.xz 5) (.int 3),.idx (.xz 5) (.int 4)|1]) %[.six (.xz 3) (.tup %[.idx (.xz 5) (.int 2),.idx (.xz 5) (.int 3)|1]) (.bl true)|2] .nil|2] .nil|2]
def bE:PT :=
  %[.own 2 (.call "seen_among" %[.idx (.xz 0) (.int 3),.xz 1|1]),.own 3 (.dnew true),.for_ (.nm 4) .val %[.xz 1|1] BF,.ret (.xz 3)|2]
theorem TM:YB BN bE oH TF (top 22)=true:=by kernel_rfl
def dJ:LS:=["events","past","seen","number"]
def uH:LS:=["events","past"]
def uQ:Need:=⟨[],[],[]⟩
def oG:PT :=
  %[.ife (.cmp .Eq (.idx (.idx (.xz 0) (.xz 3)) (.int 0)) (.str "see")) %[.six (.xz 2) (.tup %[.idx (.idx (.xz 0) (.xz 3)) (.int 2),.idx (.idx (.xz 0) (.xz 3)) (.int 3)|1]) (.bl true)|2] .nil|2]
def lF:PT :=
  %[.own 2 (.dnew true),.for_ (.nm 3) .val %[.xz 1|1] oG,.ret (.xz 2)|2]
theorem PN:YB uQ lF dJ uH (top 23)=true:=by kernel_rfl
def fJ:LS:=["events","taken","wrong"]
def bH:LS:=["events","taken","wrong"]
def bQ:Need:=⟨[],[],["sorted"]⟩
def oF:PT :=
  %[.ret (.bi .sorted %[.comp [] ["number"] (.nm 0) .val %[.xz 1|1] (.cmp .NotIn (.tup %[.idx (.idx (.xz 1) (.xz 0)) (.int 2),.idx (.idx (.xz 1) (.xz 0)) (.int 3)|1]) (.xz 3)) (.xz 0)|1])|2]
theorem RN:YB bQ oF fJ bH (top 24)=true:=by kernel_rfl
def lJ:LS:=["world","past","live","known","seen","holders","matter","web","held","person"]
def dH:LS:=["world","past","live","known"]
def dQ:Need:=⟨["seen_among","edges_of","seers_of","holders_in"],[],[]⟩
def TC:PT :=
  %[.six (.xz 5) (.xz 6) (.idx (.xz 3) (.xz 7))|2]
noncomputable def UD:PT :=
  (.seq (.set 7 (.tup %[.call "seers_of" %[.xz 0,.xz 4,.xz 6|1],.call "edges_of" %[.idx (.xz 0) (.int 3),.xz 2,.xz 6|1]|1]))
  (.seq (.ife (.cmp .NotIn (.xz 7) (.xz 3)) %[.six (.xz 3) (.xz 7) (.call "holders_in" %[.xz 0,.xz 7|1])|2] .nil)
  TC))
noncomputable def VD:PT :=
  %[.expr (.mt .extend (.xz 8) %[.comp [false,false,false,false,false,false,true] ["matter"] (.nm 0) .val %[.idx (.xz 0) (.int 1)|1] (.cmp .In (.idx (.xz 10) (.int 0)) (.idx (.xz 6) (.xz 0))) (.tup %[.idx (.xz 10) (.int 0),.xz 0|1])|1])|2]
noncomputable def eF:PT :=
  %[.own 4 (.call "seen_among" %[.idx (.xz 0) (.int 3),.xz 1|1]),.own 5 (.dnew false),.for_ (.nm 6) .val %[.idx (.xz 0) (.int 1)|1] UD,.own 8 (.lst .nz),.for_ (.nm 9) .val %[.idx (.xz 0) (.int 0)|1] VD,.ret (.xz 8)|2]
theorem TN:YB dQ eF lJ dH (top 25)=true:=by kernel_rfl
def mN:LS:=["world","seen","matter"]
def mK:LS:=["world","seen","matter"]
def GU:Need:=⟨[],[],["tuple"]⟩
def OH:PT :=
  %[.ret (.bi .tuple %[.comp [] ["person"] (.nm 0) .val %[.idx (.xz 0) (.int 0)|1] (.cmp .In (.tup %[.idx (.xz 0) (.int 0),.xz 3|1]) (.xz 2)) (.idx (.xz 0) (.int 0))|1])|2]
theorem xT:YB GU OH mN mK (top 26)=true:=by kernel_rfl
def eN:LS:=["events","live","matter","tells"]
def aK:LS:=["events","live","matter"]
def RU:Need:=⟨[],[],["tuple"]⟩
noncomputable def AH:PT :=
  %[.set 3 (.comp [] ["number"] (.nm 0) .val %[.xz 1|1] (.cmp .Eq (.idx (.idx (.xz 1) (.xz 0)) (.int 4)) (.xz 3)) (.idx (.xz 1) (.xz 0))),.ret (.bi .tuple %[.comp [] ["event"] (.nm 0) .val %[.xz 3|1] .nop (.tup %[.idx (.xz 0) (.int 2),.idx (.xz 0) (.int 3)|1])|1])|2]
theorem oT:YB RU AH eN aK (top 27)=true:=by kernel_rfl
def gJ:LS:=["world","web"]
def cH:LS:=["world","web"]
def cQ:Need:=⟨["ground_alone","needs_of"],[],[]⟩
def aF:PT :=
  %[.ret (.comp [] ["name","chains"] (.tp [0,1]) .val %[.call "ground_alone" %[.idx (.xz 1) (.int 1),.idx (.xz 1) (.int 0),.call "needs_of" %[.xz 0|1]|1]|1] .nop (.xz 0))|2]
theorem SN:YB cQ aF gJ cH (top 28)=true:=by kernel_rfl
def pN:LS:=["world"]
def oK:LS:=["world"]
def LU:Need:=⟨[],[],[]⟩
def PH:PT :=
  %[.ret (.comp [] ["person"] (.nm 0) .val %[.idx (.xz 0) (.int 0)|1] .nop (.tup %[.idx (.xz 0) (.int 0),.idx (.xz 0) (.int 3)|1]))|2]
theorem bT:YB LU PH pN oK (top 29)=true:=by kernel_rfl
def MT:LS:=["_law_script","_law_k","_law_many","_law_cell","_law_number"]
def eO:LS:=["_law_script","_law_k","_law_many"]
def j5:Need:=⟨[],[],["len"]⟩
noncomputable def eG:PT :=
  %[.set 4 (.bin .Mod (.bin .Mult (.bin .Add (.bin .Add (.bin .Mod (.xz 3) (.int 2147483647)) (.bin .Mult (.int 7) (.xz 1))) (.int 3)) (.bin .Add (.int 48271) (.bin .Mult (.bin .Mult (.int 1103) (.xz 1)) (.xz 1)))) (.int 2147483629)),.ret (.bin .Mod (.bin .FloorDiv (.xz 4) (.int 64)) (.xz 2))|2]
def uN:PT :=
  (.seq (.set 3 (.int 0))
  (.seq (.ife (.cmp .Gt (.bi .len %[.xz 0|1]) (.int 0)) %[.set 3 (.idx (.xz 0) (.bin .Mod (.xz 1) (.bi .len %[.xz 0|1])))|2] .nil)
  eG))
theorem tZ:YB j5 uN MT eO (top 31)=true:=by kernel_rfl
def bP:LS:=["_law_script","_law_letters","_law_ahead","_law_behind","_law_first"]
def vM:LS:=["_law_script"]
def CY:Need:=⟨["_law_draw"],[],["range"]⟩
noncomputable def vK:PT :=
  %[.set 1 (.str "bcdfgjkmnpqvwxyz"),.set 2 (.bin .Mult (.str "zq") (.call "_law_draw" %[.xz 0,.int 901,.int 2|1])),.set 3 (.slc (.str "vzb") .nop (.call "_law_draw" %[.xz 0,.int 902,.int 4|1])),.set 4 (.call "_law_draw" %[.xz 0,.int 903,.int 16|1]),.ret (.comp [] ["_law_k"] (.nm 0) .rng1 %[.int 16|1] .nop (.bin .Add (.bin .Add (.xz 3) (.idx (.xz 2) (.bin .Mod (.bin .Add (.xz 5) (.xz 0)) (.int 16)))) (.xz 4)))|2]
theorem DV:YB CY vK bP vM (top 32)=true:=by kernel_rfl
def rN:LS:=["_law_script","_law_names_here","_law_people_here","_law_wide","_law_k","_law_name","_law_rank","_law_floor"]
def pK:LS:=["_law_script","_law_names_here"]
def MU:Need:=⟨["_law_draw"],[],["enumerate","int"]⟩
noncomputable def vJ:PT :=
  %[.set 6 (.call "_law_draw" %[.xz 0,.bin .Add (.int 910) (.xz 4),.xz 3|1]),.set 7 (.bin .Mult (.call "_law_draw" %[.xz 0,.bin .Add (.int 920) (.xz 4),.xz 3|1]) (.bi .int %[.cmp .Eq (.call "_law_draw" %[.xz 0,.bin .Add (.int 930) (.xz 4),.int 3|1]) (.int 0)|1])),.expr (.mt .append (.xz 2) %[.tup %[.xz 5,.xz 6,.xz 7,.idx (.lst %[.int 1,.int 1,.int 1,.int 2,.int 2,.int 3|1]) (.call "_law_draw" %[.xz 0,.bin .Add (.int 940) (.xz 4),.int 6|1])|1]|1])|2]
def RH:PT :=
  %[.own 2 (.lst .nz),.set 3 (.idx (.lst %[.int 4,.int 100|1]) (.call "_law_draw" %[.xz 0,.int 904,.int 2|1])),.for_ (.tp [4,5]) .enum %[.xz 1|1] vJ,.ret (.xz 2)|2]
theorem cT:YB MU RH rN pK (top 33)=true:=by kernel_rfl
def cP:LS:=["_law_script","_law_k","_law_people_here","_law_matters","_law_last","_law_at","_law_matter","_law_word","_law_times","_law_time","_law_teller","_law_others","_law_hearer","_law_by","_law_j"]
def xM:LS:=["_law_script","_law_k","_law_people_here","_law_matters","_law_last"]
def DY:Need:=⟨["_law_draw"],[],["len","range","tuple"]⟩
def FK:PT :=
  %[.expr (.mt .append (.xz 13) %[.idx (.idx (.xz 2) (.call "_law_draw" %[.xz 0,.bin .Add (.bin .Add (.bin .Mult (.int 11) (.xz 1)) (.int 8)) (.xz 14),.bi .len %[.xz 2|1]|1])) (.int 0)|1])|2]
noncomputable def sF:PT :=
  %[.set 11 (.comp [] ["_law_person"] (.nm 0) .val %[.xz 2|1] (.cmp .NotEq (.idx (.xz 0) (.int 0)) (.xz 11)) (.idx (.xz 0) (.int 0))),.set 12 (.idx (.xz 11) (.call "_law_draw" %[.xz 0,.bin .Add (.bin .Mult (.int 11) (.xz 1)) (.int 6),.bi .len %[.xz 11|1]|1])),.own 13 (.lst .nz),.for_ (.nm 14) .rng1 %[.call "_law_draw" %[.xz 0,.bin .Add (.bin .Mult (.int 11) (.xz 1)) (.int 7),.int 3|1]|1] FK,.ret (.tup %[.str "tell",.xz 9,.xz 10,.xz 12,.xz 6,.xz 7,.bi .tuple %[.xz 13|1]|1])|2]
noncomputable def xK:PT :=
  (.seq (.set 5 (.call "_law_draw" %[.xz 0,.bin .Mult (.int 11) (.xz 1),.bi .len %[.xz 2|1]|1]))
  (.seq (.set 6 (.idx (.xz 3) (.call "_law_draw" %[.xz 0,.bin .Add (.bin .Mult (.int 11) (.xz 1)) (.int 1),.bi .len %[.xz 3|1]|1])))
  (.seq (.set 7 (.slc (.str "abcdef") (.call "_law_draw" %[.xz 0,.bin .Add (.bin .Mult (.int 11) (.xz 1)) (.int 2),.int 6|1]) .nop))
  (.seq (.set 8 (.lst %[.xz 1,.bin .Mult (.int 2) (.bin .FloorDiv (.xz 1) (.int 2)),.call "_law_draw" %[.xz 0,.bin .Add (.bin .Mult (.int 11) (.xz 1)) (.int 3),.int 9|1],.bin .Sub (.int 100) (.xz 1)|1]))
  (.seq (.set 9 (.idx (.xz 8) (.call "_law_draw" %[.xz 0,.int 905,.int 4|1])))
  (.seq (.ife (.or (.cmp .Is (.xz 4) .non) (.cmp .Eq (.call "_law_draw" %[.xz 0,.bin .Add (.bin .Mult (.int 11) (.xz 1)) (.int 4),.int 4|1]) (.int 0))) %[.ret (.tup %[.str "see",.xz 9,.idx (.idx (.xz 2) (.xz 5)) (.int 0),.xz 6,.xz 7|1])|2] .nil)
  (.seq (.set 10 (.idx (.idx (.xz 2) (.xz 5)) (.int 0)))
  (.seq (.ife (.cmp .Gt (.call "_law_draw" %[.xz 0,.bin .Add (.bin .Mult (.int 11) (.xz 1)) (.int 5),.int 3|1]) (.int 0)) %[.set 10 (.idx (.xz 4) (.int 0)),.set 6 (.idx (.xz 4) (.int 1))|2] .nil)
  sF))))))))
theorem FV:YB DY xK cP xM (top 34)=true:=by kernel_rfl
def sN:LS:=["_law_script","_law_most","_law_cells","_law_k","_law_cell"]
def rK:LS:=["_law_script","_law_most"]
def NU:Need:=⟨[],[],["enumerate"]⟩
noncomputable def xJ:PT :=
  %[.ife (.cmp .Lt (.xz 3) (.xz 1)) %[.expr (.mt .append (.xz 2) %[.xz 4|1])|2] %[.six (.xz 2) (.bin .Mod (.xz 3) (.xz 1)) (.bin .Add (.bin .Mult (.idx (.xz 2) (.bin .Mod (.xz 3) (.xz 1))) (.int 31)) (.xz 4))|2]|2]
def SH:PT :=
  %[.own 2 (.lst .nz),.for_ (.tp [3,4]) .enum %[.xz 0|1] xJ,.ret (.xz 2)|2]
theorem gT:YB NU SH sN rK (top 35)=true:=by kernel_rfl
def uP:LS:=["_law_script","_law_most","_law_names_here","_law_people_here","_law_matters","_law_against","_law_k","_law_j","_law_both","_law_events","_law_last","_law_event_here"]
def kM:LS:=["_law_script","_law_most"]
def BY:Need:=⟨["_law_folded","_law_names","_law_people","_law_draw","_law_event"],[],["len","range"]⟩
noncomputable def tG:PT :=
  %[.set 8 (.lst %[.tup %[.idx (.xz 4) (.xz 6),.idx (.xz 4) (.xz 7)|1],.tup %[.idx (.xz 4) (.xz 7),.idx (.xz 4) (.xz 6)|1]|1]),.ife (.cmp .Gt (.call "_law_draw" %[.xz 0,.bin .Add (.bin .Add (.int 950) (.bin .Mult (.int 3) (.xz 6))) (.xz 7),.int 3|1]) (.int 0)) %[.expr (.mt .append (.xz 5) %[.idx (.xz 8) (.call "_law_draw" %[.xz 0,.bin .Add (.bin .Add (.int 960) (.bin .Mult (.int 3) (.xz 6))) (.xz 7),.int 2|1])|1])|2] .nil|2]
def sG:PT :=
  %[.for_ (.nm 7) .rng1 %[.xz 6|1] tG|2]
noncomputable def rG:PT :=
  %[.set 11 (.call "_law_event" %[.xz 0,.xz 6,.xz 3,.xz 4,.xz 10|1]),.expr (.mt .append (.xz 9) %[.xz 11|1]),.set 10 (.tup %[.idx (.xz 11) (.int 2),.idx (.xz 11) (.int 3)|1]),.ife (.cmp .Eq (.idx (.xz 11) (.int 0)) (.str "tell")) %[.set 10 (.tup %[.idx (.xz 11) (.int 3),.idx (.xz 11) (.int 4)|1])|2] .nil|2]
def rF:PT :=
  %[.own 5 (.lst .nz),.for_ (.nm 6) .rng1 %[.bi .len %[.xz 4|1]|1] sG,.own 9 (.lst .nz),.set 10 .non,.for_ (.nm 6) .rng1 %[.bi .len %[.xz 0|1]|1] rG,.frz [5,9] (.ret (.tup %[.xz 3,.xz 4,.xz 5,.xz 9|1]))|2]
noncomputable def kK:PT :=
  (.seq (.set 0 (.call "_law_folded" %[.xz 0,.int 24|1]))
  (.seq (.set 2 (.call "_law_names" %[.xz 0|1]))
  (.seq (.set 3 (.call "_law_people" %[.xz 0,.slc (.xz 2) .nop (.bin .Add (.int 2) (.call "_law_draw" %[.xz 0,.int 906,.bin .Sub (.xz 1) (.int 1)|1]))|1]))
  (.seq (.set 4 (.slc (.xz 2) (.int 6) (.bin .Add (.int 7) (.call "_law_draw" %[.xz 0,.int 907,.int 3|1]))))
  (.seq (.ife (.cmp .Eq (.call "_law_draw" %[.xz 0,.int 908,.int 3|1]) (.int 0)) %[.set 4 (.slc (.xz 2) .nop (.bi .len %[.xz 4|1]))|2] .nil)
  rF)))))
theorem CV:YB BY kK uP kM (top 36)=true:=by kernel_rfl
def GT:LS:=["_law_world_here","_law_before","_law_step","_law_seen","_law_number","_law_taken","_law_live","_law_held","_law_event_here","_law_lost","_law_new","_law_matter","_law_pair"]
def aO:LS:=["_law_world_here","_law_before","_law_step","_law_seen"]
def E4:Need:=⟨[],[],["any"]⟩
def vN:PT :=
  %[.ife (.and (.cmp .NotIn (.xz 12) (.idx (.xz 1) (.int 3))) (.cmp .NotEq (.idx (.xz 12) (.int 1)) (.xz 11))) %[.ret (.bl false)|2] .nil|2]
def TD:PT :=
  %[.for_ (.nm 12) .val %[.xz 7|1] vN|2]
def aG:PT :=
  %[.ret (.bl true)|2]
noncomputable def SD:PT :=
  (.seq (.ife (.cmp .Eq (.idx (.xz 8) (.int 0)) (.str "tell")) %[.ife (.or (.cmp .NotEq (.xz 10) (.lst .nz)) (.bi .any %[.comp [] ["_law_one"] (.nm 0) .val %[.xz 9|1] .nop (.cmp .NotEq (.slc (.idx (.idx (.xz 1) (.int 3)) (.xz 0)) (.int 2) (.int 4)) (.slc (.xz 9) (.int 2) (.int 4)))|1])) %[.ret (.bl false)|2] .nil,.ife (.and (.not (.xz 5)) (.or (.cmp .In (.xz 4) (.xz 6)) (.and (.cmp .Eq (.xz 9) (.lst .nz)) (.cmp .NotEq (.xz 7) (.idx (.xz 1) (.int 3)))))) %[.ret (.bl false)|2] .nil|2] .nil)
  aG)
noncomputable def xN:PT :=
  (.seq (.tset [4,5,6,7] (.xz 2))
  (.seq (.set 8 (.idx (.idx (.xz 0) (.int 3)) (.xz 4)))
  (.seq (.set 9 (.comp [] ["_law_one"] (.nm 0) .val %[.idx (.xz 1) (.int 2)|1] (.cmp .NotIn (.xz 0) (.xz 7)) (.xz 0)))
  (.seq (.set 10 (.comp [] ["_law_one"] (.nm 0) .val %[.xz 6|1] (.and (.cmp .NotIn (.xz 0) (.idx (.xz 2) (.int 2))) (.cmp .NotEq (.xz 0) (.xz 5))) (.xz 0)))
  (.seq (.ife (.bi .any %[.comp [false,false,false,false,false,false,false,false,false,false,false,false,true] ["_law_pair"] (.nm 0) .val %[.xz 3|1] .nop (.cmp .NotIn (.xz 0) (.xz 8))|1]) %[.ret (.bl false)|2] .nil)
  (.seq (.ife (.and (.cmp .Eq (.xz 9) (.lst .nz)) (.bi .any %[.comp [false,false,false,false,false,false,false,false,false,false,false,false,true] ["_law_pair"] (.nm 0) .val %[.idx (.xz 1) (.int 3)|1] .nop (.cmp .NotIn (.xz 0) (.xz 8))|1])) %[.ret (.bl false)|2] .nil)
  (.seq (.ife (.cmp .Eq (.xz 10) (.lst .nz)) (.seq (.set 11 (.idx (.xz 8) (.int 3)))
  (.seq (.ife (.cmp .Eq (.idx (.xz 8) (.int 0)) (.str "tell")) %[.set 11 (.idx (.xz 8) (.int 4))|2] .nil)
  TD)) .nil)
  SD)))))))
theorem sZ:YB E4 xN GT aO (top 37)=true:=by kernel_rfl
def tf:LS:=["_law_script","_law_world_here","_law_before","_law_seen","_law_step","_law_event_here"]
def u3:LS:=["_law_script"]
def bn:Need:=⟨["_law_world","gone","_law_fair"],[],[]⟩
def kN:PT :=
  %[.ife (.not (.call "_law_fair" %[.xz 1,.xz 2,.xz 4,.xz 3|1])) %[.ret (.bl false)|2] .nil,.set 2 (.xz 4)|2]
noncomputable def fL:PT :=
  (.seq (.set 5 (.idx (.idx (.xz 1) (.int 3)) (.idx (.xz 4) (.int 0))))
  (.seq (.ife (.cmp .Eq (.idx (.xz 5) (.int 0)) (.str "see")) %[.expr (.mt .append (.xz 3) %[.tup %[.idx (.xz 5) (.int 2),.idx (.xz 5) (.int 3)|1]|1])|2] .nil)
  kN))
def A6:PT :=
  %[.set 1 (.call "_law_world" %[.xz 0,.int 6|1]),.set 2 (.tup %[.int 0,.bl true,.lst .nz,.lst .nz|1]),.own 3 (.lst .nz),.for_ (.nm 4) .val %[.call "gone" %[.xz 1|1]|1] fL,.ret (.bl true)|2]
theorem jj:YB bn A6 tf u3 (top 38)=true:=by kernel_rfl
theorem CQ(a b:Str):Ql (.str a) (.str b)=decide (a=b):=by rw[Q3,decide_eq_true_iff];simp[Ql]
theorem gL(l:LS)(z:Str):((l.map PyData.str).any λy=>Ql y (.str z))=decide (z∈l):=by rw[QA2,Q3,WE,decide_eq_true_iff];constructor;rintro⟨x,u,e⟩;have e:Ql (.str x) (.str z)=true:=e;rw[CQ,decide_eq_true_iff]at e;exact e▸u;intro h;exact⟨z,h,by show Ql (.str z) (.str z)=true;rw[CQ];exact dT rfl⟩
theorem OI(l:LS):(l.map PyData.str).all iB=true:=by rw[List.all_map,Qq];exact λ_ _=>rfl
def zb(g:Str)(cut:LS)(s:Str):Bool:=!decide (s=g)&&!decide (s∈cut)
inductive Led(es:uC)(st:LS)(g:Str)(cut:LS):Str->Prop
 |st {s:Str}:s∈st->zb g cut s=true->Led es st g cut s
 |ed {a b:Str}:Led es st g cut a->(a,b)∈es->zb g cut b=true->Led es st g cut b
theorem vQ:∀{ks ns:LS},ks.Nodup->(∀s∈ks,s∈ns)->ks.length<=ns.length
 |[],_,_,_=>Qt _|s::r,ns,h,hs=>by obtain⟨k,u⟩:=Qi.mp h;have z:=hs s QD;have:=vQ (ks:=r) (ns:=ns.erase s) u λx y=>(QA9 (λ(e:x=s)=>k (e▸y))).mpr (hs x (QE _ y));rw[QAY z]at this;have f:=WX z;rw[QM];omega
def one(y:Str):Prop:=∃c,c<128/\y=⟨#[c]⟩
def pr(p:Str×Str):D:=.tuple [.str p.1,.str p.2]
theorem GQ{α h:Type}(f:α->h)(l:List α)(a b:Option Int):gF (l.map f) a b=(gF l a b).map f:=by unfold gF;rw[QG,List.map_take,List.map_drop]
noncomputable abbrev Pt:=Str×Str
theorem BP(h:pr p=pr q):p=q:=by obtain⟨a,b⟩:=p;obtain⟨c,d⟩:=q;injection h with h;injection h with h1 h;injection h with h2 _;injection h1 with h1;injection h2 with h2;exact QCC h1 h2
theorem t6{x k:D}{r:List D}(h:x≠k):bA (x::r) k=(bA r k).map (·+1):=by unfold bA;rw[if_neg h];cases r<;>rfl
theorem Pd{x k:D}{r:List D}(h:x=k):bA (x::r) k=some 0:=by unfold bA;rw[if_pos h]
def look{α:Type}:List (Pt×α)->Pt->Option α
 |[],_=>none|e::l,p=>if e.1=p then some e.2 else look l p
def put{α:Type}:List (Pt×α)->Pt->α->List (Pt×α)
 |[],p,v=>[(p,v)]|e::l,p,v=>if e.1=p then(e.1,v)::l else e::put l p v
def MC{α:Type}(l:List (Pt×α)):List D:=l.map λe=>pr e.1
theorem jK{α:Type}{p:Pt}:∀{l:List (Pt×α)},look l p=none->bA (MC l) (pr p)=none/\∀w,put l p w=l++[(p,w)]
 |[],_=>⟨rfl,λ_=>rfl⟩|e::l,h=>by unfold look at h;by_cases c:e.1=p;rw[if_pos c]at h;cases h;rw[if_neg c]at h;obtain⟨y,x⟩:=jK h;refine⟨?_,λw=>?_⟩;show bA (pr e.1::MC l) (pr p)=none;rw[t6 (λz=>c (BP z)),y];rfl;show(if e.1=p then(e.1,w)::l else e::put l p w)=_;rw[if_neg c,x];rfl
theorem JC{α:Type}{p:Pt}{v:α}(f:α->T):∀{l:List (Pt×α)},look l p=some v->∃n,bA (MC l) (pr p)=some n/\(l.map λe=>f e.2)[n]?=some (f v)/\∀w,MC (put l p w)=MC l/\(l.map λe=>f e.2).set n (f w)=(put l p w).map λe=>f e.2
 |[],h=>by cases h|e::l,h=>by unfold look at h;by_cases c:e.1=p;rw[if_pos c]at h;injection h with h;refine⟨0,?_,?_,λw=>?_⟩;exact Pd (congrArg pr c);show some (f e.2)=_;rw[h];have:put (e::l) p w=(e.1,w)::l:=if_pos c;rw[this];exact⟨rfl,rfl⟩;rw[if_neg c]at h;obtain⟨n,i,k,u⟩:=JC f h;refine⟨n+1,?_,k,λw=>?_⟩;show bA (pr e.1::MC l) (pr p)=some (n+1);rw[t6 (λz=>c (BP z)),i];rfl;have:put (e::l) p w=e::put l p w:=if_neg c;rw[this];obtain⟨y,x⟩:=u w;refine⟨?_,?_⟩;show pr e.1::MC (put l p w)=pr e.1::MC l;rw[y];show f e.2::(l.map λe=>f e.2).set n (f w)=f e.2::(put l p w).map λe=>f e.2;rw[x]
theorem aD{α:Type}{p q:Pt}{w:α}:∀{l:List (Pt×α)},look (put l p w) q=if p=q then some w else look l q
 |[]=>rfl|e::l=>by
  by_cases c:e.1=p;have h:put (e::l) p w=(e.1,w)::l:=if_pos c;rw[h];show(if e.1=q then some w else look l q)=if p=q then some w else(if e.1=q then some e.2 else look l q)
  rw[c];split<;>rfl;have h:put (e::l) p w=e::put l p w:=if_neg c;rw[h];show(if e.1=q then some e.2 else look (put l p w) q)=if p=q then some w else(if e.1=q then some e.2 else look l q)
  rw[aD];by_cases d:e.1=q;rw[if_pos d,if_pos d,if_neg (λz=>c (d.trans z.symm))];rw[if_neg d,if_neg d]
theorem ZW{α:Type}{p:Pt}{w:α}:∀{l:List (Pt×α)},(put l p w).length<=l.length+1
 |[]=>QZ _|e::l=>by by_cases c:e.1=p;rw[show put (e::l) p w=(e.1,w)::l from if_pos c,QM,QM];omega;have:=ZW (p:=p) (w:=w) (l:=l);rw[show put (e::l) p w=e::put l p w from if_neg c,QM,QM];omega
theorem EB(p:Pt):GD true (pr p):=⟨[.s p.1,.s p.2],rfl,by simp[N4,nkds]⟩
noncomputable abbrev Inn:=List (Pt×Int)
noncomputable abbrev Rm:=List (Pt×Inn)
def eD(l:Inn):T:=.dct true (MC l) (l.map λe=>T.d (.int e.2))
def UA(r:Rm):T:=.dct true (MC r) (r.map λe=>eD e.2)
def sdf(r:Rm)(p:Pt):Rm:=match look r p with
 |some _=>r|none=>r++[(p,[])]
theorem sW(hl:r.length<sizeLine)(q:Q (UA (sdf r p))):jm (.d (pr p)) (UA r) Q:=by
 refine⟨MC r,_,rfl,EB p,by unfold MC;rw[QG];exact hl,?_⟩;unfold sdf at q;cases h:look r p with
 |some v=>rw[h]at q;obtain⟨n,x,_⟩:=JC eD h;exact .inl ⟨n,x,q⟩|none =>
  rw[h]at q;refine .inr ⟨(jK h).1,?_⟩;have e:UA (r++[(p,[])])=.dct true (MC r++[pr p]) ((r.map λe=>eD e.2)++[.dct true [] []]):=by unfold UA MC;rw[QR,QR];rfl
  show Q (T.dct true (MC r++[pr p]) ((r.map λe=>eD e.2)++[.dct true [] []]));rw[<- e];exact q
theorem rP(hl:l.length<sizeLine)(q:Q (eD (put l p v))):Uc (eD l) (.d (pr p)) (.d (.int v)) Q:=by
 refine⟨EB p,by unfold MC;rw[QG];exact hl,?_⟩;have e:HJ true (MC l) (l.map λe=>T.d (.int e.2)) (pr p) (.d (.int v))=eD (put l p v):=by
  unfold HJ;cases h:look l p with|none=>obtain⟨x,y⟩:=jK h;rw[x,y];unfold eD MC;rw[QR,QR];rfl|some u=>obtain⟨n,x,y,f⟩:=JC (λi:Int=>T.d (.int i)) h;rw[x];obtain⟨k,z⟩:=f v;show T.dct true (MC l) ((l.map λe=>T.d (.int e.2)).set n (T.d (.int v)))=_;unfold eD;rw[k,z]
 show Q (HJ true (MC l) (l.map λe=>T.d (.int e.2)) (pr p) (.d (.int v)));rw[e];exact q
theorem uI{Q:T->(T->T)->Prop}(h:look r p=some l)(q:∀f:T->T,(∀x,f (eD x)=UA (put r p x))->Q (eD l) f):Fl (.d (pr p)) (UA r) Q:=by obtain⟨n,i,k,u⟩:=JC eD h;refine⟨true,MC r,_,n,eD l,rfl,EB p,i,k,q _ λx=>?_⟩;obtain⟨z,y⟩:=u x;show T.dct true (MC r) ((r.map λe=>eD e.2).set n (eD x))=_;unfold UA;rw[z,y]
def KA:Pt:=("","begin")
def tO(n:Str):Pt:=(n,"to")
def fR(n:Str):Pt:=(n,"from")
theorem ur:("begin":Str)≠"to":=by decide +kernel
theorem br:("begin":Str)≠"from":=by decide +kernel
theorem kr:("to":Str)≠"from":=by decide +kernel
theorem OB:KA≠tO a:=λh=>ur (congrArg QCN h)
theorem UE:KA≠fR a:=λh=>br (congrArg QCN h)
theorem LA:tO a≠fR b:=λh=>kr (congrArg QCN h)
theorem DB(h:tO a=tO b):a=b:=congrArg qj h
theorem HH(h:fR a=fR b):a=b:=congrArg qj h
def OZ(p q:Pt):Prop:=(p=KA/\∃n,q=tO n)∨(∃n,p=tO n/\q=fR n)∨(∃a b,a≠b/\p=fR a/\q=tO b)
theorem bF(h:OZ p q):¬ OZ q p:=by
 rintro k;rcases h with⟨rfl,n,rfl⟩| ⟨n,rfl,rfl⟩| ⟨a,b,u,rfl,rfl⟩<;>rcases k with⟨x,m,y⟩| ⟨m,x,y⟩| ⟨c,d,z,x,y⟩
 exact OB x.symm;exact UE y;exact LA x;exact UE x.symm;exact LA x.symm;exact z ((HH x).symm.trans (DB y));exact OB x.symm;exact u ((HH y).trans (DB x).symm);exact LA x
theorem bG(h:OZ p q):p≠q:=λe=>bF h (by rw[e]at h ⊢;exact h)
noncomputable abbrev Wy:=Pt×Pt×Int
def lk(r:Rm)(p:Pt):Inn:=(look r p).getD []
noncomputable def sB(r:Rm)(w:Wy):Rm:=put (put (sdf (sdf r w.1) w.2.1) w.1 (put (lk (sdf (sdf r w.1) w.2.1) w.1) w.2.1 w.2.2)) w.2.1 (put (lk (put (sdf (sdf r w.1) w.2.1) w.1 (put (lk (sdf (sdf r w.1) w.2.1) w.1) w.2.1 w.2.2)) w.2.1) w.1 0)
theorem gS{α:Type}{p q:Pt}{v:α}:∀{l:List (Pt×α)},look (l++[(p,v)]) q=(look l q).or (if p=q then some v else none)
 |[]=>rfl|e::l=>by show(if e.1=q then some e.2 else look (l++[(p,v)]) q)=(if e.1=q then some e.2 else look l q).or (if p=q then some v else none);by_cases c:e.1=q;rw[if_pos c,if_pos c];rfl;rw[if_neg c,if_neg c];exact gS
theorem dS:look (sdf r p) q=(look r q).or (if p=q then some [] else none):=by
 unfold sdf;cases h:look r p with
 |some v =>
  show look r q=_;cases y:look r q with
  |some x=>rfl|none =>
   show none=if p=q then some [] else none
   rw[if_neg];intro e;rw[e,y]at h;cases h
 |none=>show look (r++[(p,[])]) q=_;exact gS
theorem iP:(sdf r p).length<=r.length+1:=by unfold sdf;split;omega;rw[QI,qE];omega
theorem pI{α:Type}{p:Pt}{w:α}{e:Pt×α}:∀{l:List (Pt×α)},e∈put l p w->e=(p,w)∨e∈l
 |[],h=>.inl (QJ.mp h)|x::l,h=>by by_cases c:x.1=p;rw[show put (x::l) p w=(x.1,w)::l from if_pos c]at h;rcases QL.mp h with h|h;exact .inl (by rw[h,c]);exact .inr (QE _ h);rw[show put (x::l) p w=x::put l p w from if_neg c]at h;rcases QL.mp h with h|h;exact .inr (by rw[h];exact QD);exact(pI h).imp_right (QE _)
theorem KP{α:Type}{p:Pt}{w:α}{q:Pt}:∀{l:List (Pt×α)},(∃v,(q,v)∈put l p w)↔q=p∨∃v,(q,v)∈l
 |[]=>by
  constructor;rintro⟨v,h⟩;exact .inl (congrArg qj (QJ.mp h));rintro(rfl|⟨v,h⟩)
  ·exact⟨w,QJ.mpr rfl⟩
  exact(nomatch h)
 |x::l=>by
  by_cases c:x.1=p;rw[show put (x::l) p w=(x.1,w)::l from if_pos c];constructor;rintro⟨v,h⟩;rcases QL.mp h with h|h;exact .inl ((congrArg qj h).trans c);exact .inr ⟨v,QE _ h⟩;rintro(rfl|⟨v,h⟩)
  ·exact⟨w,by rw[c];exact QD⟩
  rcases QL.mp h with h|h
  ·exact⟨w,by rw[<- h];exact QD⟩
  exact⟨v,QE _ h⟩;rw[show put (x::l) p w=x::put l p w from if_neg c];have y:=KP (p:=p) (w:=w) (q:=q) (l:=l);constructor;rintro⟨v,h⟩;rcases QL.mp h with h|h;exact .inr ⟨v,by rw[h];exact QD⟩;exact(y.mp ⟨v,h⟩).imp_right λ⟨v,h⟩=>⟨v,QE _ h⟩
  rintro(h|⟨v,h⟩)
  ·obtain⟨v,h⟩:=y.mpr (.inl h)
   exact⟨v,QE _ h⟩
  rcases QL.mp h with h|h
  ·exact⟨v,by rw[h];exact QD⟩
  obtain⟨v,h⟩:=y.mpr (.inr ⟨v,h⟩);exact⟨v,QE _ h⟩
def PZ(r:Rm)(p q:Pt):Prop:=∃v,(q,v)∈lk r p
def Key(r:Rm)(p:Pt):Prop:=∃l,look r p=some l
def Pos(r:Rm):Prop:=∀p,∀e∈lk r p,(0<e.2↔OZ p e.1)
def N7(r:Rm):Prop:=∀p q,PZ r p q->Key r q
def Sz(r:Rm)(n:Nat):Prop:=r.length<=n/\∀p,(lk r p).length<=n
theorem xE:lk (put r p l) q=if p=q then l else lk r q:=by unfold lk;rw[aD];split<;>rfl
theorem vE:lk (sdf r p) q=lk r q:=by
 unfold lk;rw[dS];cases look r q with|some x=>rfl|none=>show(if p=q then some [] else none).getD []=[];split<;>rfl
theorem BI:Key (put r p l) q↔p=q∨Key r q:=by unfold Key;rw[aD];by_cases h:p=q;rw[if_pos h];exact⟨λ_=>.inl h,λ_=>⟨_,rfl⟩⟩;rw[if_neg h];exact⟨.inr,λz=>z.resolve_left h⟩
theorem OD:Key (sdf r p) q↔p=q∨Key r q:=by
 unfold Key;rw[dS];cases look r q with|some x=>exact⟨λ_=>.inr ⟨_,rfl⟩,λ_=>⟨_,rfl⟩⟩|none=>show(∃l,(if p=q then some [] else none)=some l)↔_;by_cases h:p=q;rw[if_pos h];exact⟨λ_=>.inl h,λ_=>⟨_,rfl⟩⟩;rw[if_neg h];exact⟨λ⟨_,e⟩=>(nomatch e),λz=>(z.resolve_left h)⟩
theorem UI(h:w.1≠w.2.1)(p:Pt):lk (sB r w) p=if w.2.1=p then put (lk r p) w.1 0 else if w.1=p then put (lk r p) w.2.1 w.2.2 else lk r p:=by unfold sB;rw[xE,xE,xE,vE,vE,vE,vE,if_neg h,vE,vE];by_cases y:w.2.1=p;rw[if_pos y,if_pos y,y];rw[if_neg y,if_neg y];by_cases x:w.1=p;rw[if_pos x,if_pos x,x];rw[if_neg x,if_neg x]
theorem dG:Key (sB r w) p↔p=w.1∨p=w.2.1∨Key r p:=by
 unfold sB;rw[BI,BI,OD,OD];constructor;rintro(h|h|h|h|h)
 ·exact .inr (.inl h.symm)
 exact .inl h.symm;exact .inr (.inl h.symm);exact .inl h.symm;exact .inr (.inr h);rintro(h|h|h)
 ·exact .inr (.inl h.symm)
 exact .inl h.symm;exact .inr (.inr (.inr (.inr h)))
theorem SI(h:w.1≠w.2.1):PZ (sB r w) p q↔PZ r p q∨(p=w.1/\q=w.2.1)∨(p=w.2.1/\q=w.1):=by
 unfold PZ;rw[UI h];by_cases x:w.2.1=p;rw[if_pos x,KP];constructor;rintro(e|e)
 ·exact .inr (.inr ⟨x.symm,e⟩)
 exact .inl e;rintro(e|⟨u,y⟩| ⟨u,y⟩)
 ·exact .inr e
 exact absurd (u.symm.trans x.symm) h;exact .inl y;rw[if_neg x];by_cases k:w.1=p;rw[if_pos k,KP];constructor;rintro(e|e)
 ·exact .inr (.inl ⟨k.symm,e⟩)
 exact .inl e;rintro(e|⟨u,y⟩| ⟨u,y⟩)
 ·exact .inr e
 exact .inl y;exact absurd u.symm x;rw[if_neg k];exact⟨.inl,λz=>z.elim id λz=>z.elim (λe=>absurd e.1.symm k) λe=>absurd e.1.symm x⟩
def BG(w:Wy):Prop:=OZ w.1 w.2.1/\0<w.2.2
theorem K3(g:BG w)(y:Pos r):Pos (sB r w):=by intro p e h;rw[UI (bG g.1)]at h;by_cases k:w.2.1=p;rw[if_pos k]at h;rcases pI h with z|z;rw[z,<- k];exact⟨λx=>absurd x (wf 0),λx=>absurd x (bF g.1)⟩;exact y p e z;rw[if_neg k]at h;by_cases u:w.1=p;rw[if_pos u]at h;rcases pI h with z|z;rw[z,<- u];exact⟨λ_=>g.1,λ_=>g.2⟩;exact y p e z;rw[if_neg u]at h;exact y p e h
theorem V6(g:BG w)(x:N7 r):N7 (sB r w):=by
 intro p q h;rw[dG];rcases(SI (bG g.1)).mp h with h|⟨_,h⟩| ⟨_,h⟩
 exact .inr (.inr (x p q h));exact .inr (.inl h);exact .inl h
theorem AL{α:Type}{w:α}{l:List (Pt×α)}{n:Nat}(h:l.length<=n):(put l p w).length<=n+1:=QX ZW (by omega)
theorem VP{α:Type}{p:Pt}{w:α}:∀{l:List (Pt×α)},(look l p).isSome=true->(put l p w).length=l.length
 |[],h=>by cases h|e::l,h=>by by_cases c:e.1=p;rw[show put (e::l) p w=(e.1,w)::l from if_pos c];rfl;rw[show put (e::l) p w=e::put l p w from if_neg c,QM,QM];rw[show look (e::l) p=look l p from if_neg c]at h;rw[VP h]
theorem aS(h:Key r p):(look r p).isSome=true:=by obtain⟨l,e⟩:=h;rw[e];rfl
theorem t5:(sB r w).length<=r.length+2:=by have x:Key (sdf (sdf r w.1) w.2.1) w.1:=OD.mpr (.inr (OD.mpr (.inl rfl)));have h:Key (sdf (sdf r w.1) w.2.1) w.2.1:=OD.mpr (.inl rfl);unfold sB;rw[VP (aS (BI.mpr (.inr h))),VP (aS x)];have:=iP (r:=r) (p:=w.1);have:=iP (r:=sdf r w.1) (p:=w.2.1);omega
theorem xI{n:Nat}(g:w.1≠w.2.1)(h:Sz r n):Sz (sB r w) (n+2):=by
 refine⟨QX t5 (by have:=h.1;omega),λp=>?_⟩;rw[UI g];have x:=h.2 p;split;exact QX (AL x) (by omega);split
 ·exact QX (AL x) (by omega)
 omega
theorem tX:∀{ws:List Wy}{r:Rm},(∀w∈ws,BG w)->∀{p q:Pt},PZ (ws.foldl sB r) p q↔PZ r p q∨(∃v,(p,q,v)∈ws)∨∃v,(q,p,v)∈ws
 |[],r,_,p,q=>⟨.inl,λz=>z.elim id λz=>z.elim (λ⟨_,z⟩=>(nomatch z)) λ⟨_,z⟩=>(nomatch z)⟩
 |w::ws,r,h,p,q=>by
  rw[W6,tX (λw x=>h w (QE _ x)),SI (bG (h w QD).1)];constructor;rintro((z|⟨rfl,rfl⟩| ⟨rfl,rfl⟩)|⟨v,z⟩| ⟨v,z⟩)
  ·exact .inl z
  exact .inr (.inl ⟨_,QD⟩);exact .inr (.inr ⟨_,QD⟩);exact .inr (.inl ⟨v,QE _ z⟩);exact .inr (.inr ⟨v,QE _ z⟩);rintro(z|⟨v,z⟩| ⟨v,z⟩)
  ·exact .inl (.inl z)
  rcases QL.mp z with z|z
  ·rw[<- z]
   exact .inl (.inr (.inl ⟨rfl,rfl⟩))
  exact .inr (.inl ⟨v,z⟩);rcases QL.mp z with z|z
  ·rw[<- z]
   exact .inl (.inr (.inr ⟨rfl,rfl⟩))
  exact .inr (.inr ⟨v,z⟩)
theorem CT:∀{ws:List Wy}{r:Rm}{n:Nat},(∀w∈ws,BG w)->Pos r->N7 r->Key r KA->Sz r n->Pos (ws.foldl sB r)/\N7 (ws.foldl sB r)/\Key (ws.foldl sB r) KA/\Sz (ws.foldl sB r) (n+2 * ws.length)
 |[],r,n,_,h1,h2,h3,h4=>⟨h1,h2,h3,h4⟩|w::ws,r,n,h,h1,h2,h3,h4=>by have g:=h w QD;have:=CT (ws:=ws) (r:=sB r w) (n:=n+2) (λw x=>h w (QE _ x)) (K3 g h1) (V6 g h2) (dG.mpr (.inr (.inr h3))) (xI (bG g.1) h4);rw[W6,QM,show n+2 * (ws.length+1)=n+2+2 * ws.length by omega];exact this
def zR(g:Str)(n:Str):List Wy:=if n=g then[] else[(tO n,fR n,1),(KA,tO n,2)]
def jU(g:Str)(e:Str×Str):List Wy:=if e.1=g∨e.1=e.2 then[] else[(tO e.1,fR e.1,1),(tO e.2,fR e.2,1),(fR e.1,tO e.2,2)]
def xH:Rm:=[(KA,[])]
def jA(es:uC)(st:LS)(g:Str):Rm:=(es.flatMap (jU g)).foldl sB ((st.flatMap (zR g)).foldl sB xH)
theorem lq:(0:Int)<1:=by decide
theorem Yu:(0:Int)<2:=by decide
theorem zW:(zR g n).length<=2:=by unfold zR;split;exact Qt _;exact QZ _
theorem kW:(jU g e).length<=3:=by unfold jU;split;exact Qt _;exact QZ _
theorem rL:∀w∈zR g n,BG w:=by
 intro w h;unfold zR at h;split at h;exact(nomatch h);rcases QL.mp h with rfl|h
 ·exact⟨.inr (.inl ⟨n,rfl,rfl⟩),lq⟩
 rw[QJ.mp h];exact⟨.inl ⟨rfl,n,rfl⟩,Yu⟩
theorem tL:∀w∈jU g e,BG w:=by
 intro w x;unfold jU at x;split at x;exact(nomatch x);rename_i h;rcases QL.mp x with rfl|x;exact⟨.inr (.inl ⟨e.1,rfl,rfl⟩),lq⟩;rcases QL.mp x with rfl|x
 ·exact⟨.inr (.inl ⟨e.2,rfl,rfl⟩),lq⟩
 rw[QJ.mp x];exact⟨.inr (.inr ⟨e.1,e.2,λz=>h (.inr z),rfl,rfl⟩),Yu⟩
theorem HM{α:Type}{f:α->List Wy}{k:Nat}(h:∀x,(f x).length<=k):∀(l:List α),(l.flatMap f).length<=k * l.length
 |[]=>QZ _|x::l=>by have:=HM h l;have:=h x;rw[w9,QI,QM,Nat.mul_succ];omega
theorem EG{α:Type}{f:α->List Wy}(h:∀x,∀w∈f x,BG w)(l:List α):∀w∈l.flatMap f,BG w:=λw z=>by obtain⟨x,_,y⟩:=wE.mp z;exact h x w y
structure RmOk(r:Rm)(n:Nat):Prop where
 pos:Pos r
 dom:N7 r
 bg:Key r KA
 sz:Sz r n
theorem tE:RmOk xH 1:=by
 have e:∀p,lk xH p=[]:=λp=>by show(if KA=p then some [] else none).getD []=[];split<;>rfl
 refine⟨λp y x=>?_,λp q ⟨v,h⟩=>?_,⟨[],if_pos rfl⟩,QZ _,λp=>?_⟩;rw[e]at x;exact(nomatch x);rw[e]at h;exact(nomatch h);rw[e];exact Qt _
theorem RmOk.add{r:Rm}{n:Nat}(h:RmOk r n){ws:List Wy}(g:∀w∈ws,BG w):RmOk (ws.foldl sB r) (n+2 * ws.length):=by obtain⟨u,z,y,x⟩:=CT g h.pos h.dom h.bg h.sz;exact⟨u,z,y,x⟩
theorem OR{es:uC}{st:LS}(z:es.length<=126)(y:st.length<=11):RmOk (jA es st g) 1000:=by have a:=(tE.add (EG (f:=zR g) (λ_=>rL) st)).add (EG (f:=jU g) (λ_=>tL) es);have x:=HM (f:=zR g) (k:=2) (λ_=>zW) st;have h:=HM (f:=jU g) (k:=3) (λ_=>kW) es;exact⟨a.pos,a.dom,a.bg,QX a.sz.1 (by omega),λp=>QX (a.sz.2 p) (by omega)⟩
def Ce(r:Rm)(p q:Pt):Prop:=∃v,(q,v)∈lk r p/\0<v
inductive Rch(r:Rm):Pt->Prop
 |bg:Rch r KA
 |go {p q:Pt}:Rch r p->Ce r p q->Rch r q
theorem Rn:(p,q,v)∈zR g n↔n≠g/\((p,q,v)=(tO n,fR n,1)∨(p,q,v)=(KA,tO n,2)):=by unfold zR;split;rename_i h;exact⟨λz=>(nomatch z),λz=>absurd h z.1⟩;rename_i h;rw[QL,QJ];exact⟨λz=>⟨h,z⟩,λz=>z.2⟩
theorem Sn:(p,q,v)∈jU g e↔(e.1≠g/\e.1≠e.2)/\((p,q,v)=(tO e.1,fR e.1,1)∨(p,q,v)=(tO e.2,fR e.2,1)∨(p,q,v)=(fR e.1,tO e.2,2)):=by unfold jU;split;rename_i h;exact⟨λz=>(nomatch z),λz=>h.elim (λh=>absurd h z.1.1) λh=>absurd h z.1.2⟩;rename_i h;rw[QL,QL,QJ];exact⟨λz=>⟨⟨λe=>h (.inl e),λe=>h (.inr e)⟩,z⟩,λz=>z.2⟩
theorem JE{cut:LS}{s:Str}:zb g cut s=true↔s≠g/\s∉cut:=by unfold zb;rw[Qa,Qy,Qy,decide_eq_false_iff_not,decide_eq_false_iff_not]
end
section
variable{es:uC}{st:LS}{g:Str}{x:LS}
theorem KM{s:Str}(h:Led es st g x s):s≠g/\s∉x:=by
 cases h with|st _ h=>exact JE.mp h|ed _ _ h=>exact JE.mp h
end
section
variable{r:Rm}{ks:List Pt}{vs:List D}
theorem K1:∀{ws:List Wy}{r:Rm}{n:Nat},(∀w∈ws,BG w)->Sz r n->Sz (ws.foldl sB r) (n+2 * ws.length)
 |[],r,n,_,h4=>h4|w::ws,r,n,h,h4=>by have:=K1 (ws:=ws) (r:=sB r w) (n:=n+2) (λw x=>h w (QE _ x)) (xI (bG (h w QD).1) h4);rw[W6,QM,show n+2 * (ws.length+1)=n+2+2 * ws.length by omega];exact this
inductive CF(r:Rm):List Pt->List D->Prop
 |bg:CF r [KA] [.none]
 |add {ks:List Pt}{vs:List D}{p q:Pt}:CF r ks vs->p∈ks->Ce r p q->q∉ks->CF r (ks++[q]) (vs++[pr p])
theorem CF.len(h:CF r ks vs):vs.length=ks.length:=by
 induction h with|bg=>rfl|add _ _ _ _ x=>rw[QI,QI,x];rfl
theorem CF.hb(h:CF r ks vs):KA∈ks:=by
 induction h with|bg=>exact QD|add _ _ _ _ x=>exact Qe _ x
theorem CF.rch(h:CF r ks vs):∀k∈ks,Rch r k:=by
 induction h with|bg=>intro k hk;rw[QJ.mp hk];exact .bg|add _ y w _ x=>intro k hk;rcases Qf.mp hk with z|z;exact x k z;rw[QJ.mp z];exact .go (x _ y) w
theorem CF.nd(h:CF r ks vs):ks.Nodup:=by
 induction h with
 |bg=>exact Qi.mpr ⟨λz=>(nomatch z),Q0⟩
 |add _ _ _ n x=>refine qV.mpr ⟨x,Qi.mpr ⟨λz=>(nomatch z),Q0⟩,λa y b hb z=>?_⟩;rw[QJ.mp hb]at z;exact n (z▸y)
theorem mI(x:N7 r)(hb:Key r KA){p:Pt}(h:Rch r p):Key r p:=by
 cases h with|bg=>exact hb|go _ w=>obtain⟨v,m,_⟩:=w;exact x _ _ ⟨v,m⟩
theorem rQ{p:Pt}{l:Inn}:∀{r:Rm},look r p=some l->p∈r.map (·.1)
 |[],h=>by cases h|e::r,h=>by by_cases c:e.1=p;rw[<- c];exact QD;rw[show look (e::r) p=look r p from if_neg c]at h;exact QE _ (rQ (r:=r) h)
theorem OG:∀{ks ns:List Pt},ks.Nodup->(∀s∈ks,s∈ns)->ks.length<=ns.length
 |[],_,_,_=>Qt _|s::r,ns,h,hs=>by obtain⟨v,u⟩:=Qi.mp h;have z:=hs s QD;have:=OG (ks:=r) (ns:=ns.erase s) u λx y=>(QA9 (λ(e:x=s)=>v (e▸y))).mpr (hs x (QE _ y));rw[QAY z]at this;have w:=WX z;rw[QM];omega
theorem CF.le(y:N7 r)(hb:Key r KA)(h:CF r ks vs):ks.length<=r.length:=by
 have:=OG (ns:=r.map (·.1)) h.nd λs x=>by obtain⟨l,e⟩:=mI y hb (h.rch s x);exact rQ e
 rw[QG]at this;exact this
structure Srch(r:Rm)(ks:List Pt)(vs:List D)(ws:List Pt):Prop where
 cf:CF r ks vs
 sub:∀w∈ws,w∈ks
 clo:∀k∈ks,k∉ws->∀q,Ce r k q->q∈ks
structure Srch1(r:Rm)(here:Pt)(ks:List Pt)(vs:List D)(ws:List Pt)(l:Inn):Prop where
 cf:CF r ks vs
 sub:∀w∈ws,w∈ks
 clo:∀k∈ks,k∉ws->k≠here->∀q,Ce r k q->q∈ks
 her:here∈ks
 don:∀e∈lk r here,0<e.2->e.1∈ks∨e∈l
 all:∀e∈l,e∈lk r here
end
section
variable{r:Rm}{ks ws:List Pt}{vs:List D}
theorem Nl:Srch r [KA] [.none] [KA]:=⟨.bg,λ_ h=>h,λk h n=>absurd h n⟩
theorem Srch.pop{w:Pt}(h:Srch r ks vs (w::ws)):Srch1 r w ks vs ws (lk r w):=by refine⟨h.cf,λx v=>h.sub x (QE _ v),λk hk n u=>h.clo k hk λz=>?_,h.sub w QD,λe y _=>.inr y,λe y=>y⟩;rcases QL.mp z with z|z;exact u z;exact n z
theorem Srch1.skip{y:Pt}{e:Pt×Int}{l:Inn}(h:Srch1 r y ks vs ws (e::l))(c:0<e.2->e.1∈ks):Srch1 r y ks vs ws l:=by
 refine⟨h.cf,h.sub,h.clo,h.her,λx u p=>?_,λx u=>h.all x (QE _ u)⟩;rcases h.don x u p with z|z;exact .inl z;rcases QL.mp z with z|z
 ·rw[z]at p ⊢;exact .inl (c p)
 exact .inr z
theorem Srch1.add{u:Pt}{e:Pt×Int}{l:Inn}(h:Srch1 r u ks vs ws (e::l))(c:0<e.2)(n:e.1∉ks):Srch1 r u (ks++[e.1]) (vs++[pr u]) (ws++[e.1]) l:=by
 have f:=h.all e QD;refine⟨h.cf.add h.her ⟨e.2,f,c⟩ n,λx v=>?_,λk hk a b q w=>?_,Qe _ h.her,λx v p=>?_,λx v=>h.all x (QE _ v)⟩;rcases Qf.mp v with z|z
 ·exact Qe _ (h.sub x z)
 exact QW _ z;rcases Qf.mp hk with z|z
 ·exact Qe _ (h.clo k z (λy=>a (Qe _ y)) b q w)
 exact absurd (QW _ z) a;rcases h.don x v p with z|z
 ·exact .inl (Qe _ z)
 rcases QL.mp z with z|z
 ·rw[z];exact .inl (QW _ QD)
 exact .inr z
theorem Srch1.fin{x:Pt}(h:Srch1 r x ks vs ws []):Srch r ks vs ws:=by refine⟨h.cf,h.sub,λk hk n q w=>?_⟩;by_cases e:k=x;subst e;obtain⟨v,m,p⟩:=w;rcases h.don (q,v) m p with z|z;exact z;exact(nomatch z);exact h.clo k hk n e q w
theorem Srch.done(h:Srch r ks vs [])(p:Pt):p∈ks↔Rch r p:=by
 refine⟨h.cf.rch p,λz=>?_⟩;induction z with|bg=>exact h.cf.hb|go _ w x=>exact h.clo _ x (λz=>(nomatch z)) _ w
end
def eC(Q:T->LT->Prop):PEnds:={ nx:=λh=>JU (DA [0] h) (Q (.d .none)),rt:=λt h=>JU (DA [0] h) (Q t) }
theorem yK{Ψ:PEv}{b:PT}{p:PSp}{N x:LS}{ds:LT}{Q:T->LT->Prop}(ρ:kA)(hl:ds.length=x.length)(hc:VB 0 p.md x.length=[0])(y:mB N p.md ds=ρ)(h:pF Ψ b (eC Q) ρ):ds.length=x.length/\pF Ψ b (iD p x.length Q) (mB N p.md ds):=by
 have e:iD p x.length Q=eC Q:=by unfold iD;rw[hc];rfl
 rw[e,y];exact⟨hl,h⟩
def VZ(r:Rm)(h t:Pt)(v:Int):kA:=[oW (UA r),bD (pr h),bD (pr t),bD (.int v)]
section
variable{Ψ:PEv}{Z:PEnds}{q:PT}{r:Rm}{h t:Pt}{v:Int}
theorem Dt(hl:r.length<sizeLine)(k:pF Ψ q Z (VZ (sdf r h) h t v)):pF Ψ (.seq (.sdf 0 (.xz 1)) q) Z (VZ r h t v):=by delta VZ at k ⊢;simp_arith[↓zA];refine⟨rfl,sW hl ?_⟩;exact k
theorem Ct(hl:r.length<sizeLine)(k:pF Ψ q Z (VZ (sdf r t) h t v)):pF Ψ (.seq (.sdf 0 (.xz 2)) q) Z (VZ r h t v):=by delta VZ at k ⊢;simp_arith[↓zA];refine⟨rfl,sW hl ?_⟩;exact k
theorem Bt{l:Inn}(e:look r h=some l)(hl:l.length<sizeLine)(k:pF Ψ q Z (VZ (put r h (put l t v)) h t v)):pF Ψ (.seq (.six (.idx (.xz 0) (.xz 1)) (.xz 2) (.xz 3)) q) Z (VZ r h t v):=by delta VZ at k ⊢;simp_arith[↓zA];refine uI e λf x=>rP hl ?_;rw[x];exact k
theorem Ut{l:Inn}(e:look r t=some l)(hl:l.length<sizeLine)(k:pF Ψ q Z (VZ (put r t (put l h 0)) h t v)):pF Ψ (.seq (.six (.idx (.xz 0) (.xz 2)) (.xz 1) (.int 0)) q) Z (VZ r h t v):=by delta VZ at k ⊢;simp_arith[↓zA];refine uI e λf x=>rP hl ?_;rw[x];exact k
end
section
variable{r:Rm}{K:T->LT->Prop}{Ψ:PEv}
theorem eE{p:Pt}(h:Key r p):look r p=some (lk r p):=by obtain⟨l,e⟩:=h;unfold lk;rw[e];rfl
noncomputable def HD:PSp where
 md:=[.chg]
 run:=λx Q _=>∃(r:Rm) (w:Wy),x=[UA r,.d (pr w.1),.d (pr w.2.1),.d (.int w.2.2)]/\(w.1≠w.2.1/\Sz r 5000)/\Q (.d .none) [UA (sB r w)]
 mono:=λh _ z=>by obtain⟨r,w,e,l,q⟩:=z;exact⟨r,w,e,l,h _ _ q⟩
theorem PL(w:Wy){E:XE}(h:w.1≠w.2.1)(s:Sz r 5000)(q:K (.d .none) [UA (sB r w)]):UB HD [UA r,.d (pr w.1),.d (pr w.2.1),.d (.int w.2.2)] K E:=⟨r,w,rfl,⟨h,s⟩,q⟩
theorem E9(ds Q E)(h:HD.run ds Q E):nH Ψ zP HD dP uM ds Q:=by obtain⟨r,w,rfl,⟨u,x⟩,q⟩:=h;refine yK (VZ r w.1 w.2.1 w.2.2) rfl rfl rfl ?_;have b:=x.1;have a:=iP (r:=r) (p:=w.1);have z:Key (sdf (sdf r w.1) w.2.1) w.1:=OD.mpr (.inr (OD.mpr (.inl rfl)));have y:Key (sdf (sdf r w.1) w.2.1) w.2.1:=OD.mpr (.inl rfl);have k:=x.2 w.1;have v:=x.2 w.2.1;refine Dt (by omega) (Ct (by omega) (Bt (eE z) (by rw[vE,vE];omega) (Ut (eE (BI.mpr (.inr y))) (by rw[xE,if_neg u,vE,vE];omega) ?_)));exact q
def IE:PSp where
 md:=[.chg]
 run:=λx Q _=>∃(r:Rm) (n:Str),x=[UA r,.d (.str n)]/\Sz r 5000/\Q (.d .none) [UA (sB r (tO n,fR n,1))]
 mono:=λh _ z=>by obtain⟨r,w,e,l,q⟩:=z;exact⟨r,w,e,l,h _ _ q⟩
theorem RL{n:Str}{E:XE}(s:Sz r 5000)(q:K (.d .none) [UA (sB r (tO n,fR n,1))]):UB IE [UA r,.d (.str n)] K E:=⟨r,n,rfl,s,q⟩
theorem ja(y:Ψ.sp "add_way"=HD)(ds Q E)(h:IE.run ds Q E):nH Ψ EH IE iN eK ds Q:=by obtain⟨r,n,rfl,x,q⟩:=h;refine yK [oW (UA r),bD (.str n)] rfl rfl rfl ?_;delta EH;simp_arith[↓jH (md:=[]) y rfl rfl];refine⟨by omega,by omega,?_⟩;exact PL (tO n,fR n,1) LA x ⟨_,rfl,q⟩
def GZ(es:uC)(st:LS)(g:Str)(r:Rm)(o4 o5 o6:Option Sl):kA:=[bD (.list (es.map pr)),bD (.tuple (st.map PyData.str)),bD (.str g),oW (UA r),o4,o5,o6]
end
section
variable{Ψ:PEv}{Z:PEnds}{es:uC}{st:LS}{g:Str}{r:Rm}
theorem gr(h:Ψ.va "BEGIN"=some (pr KA)){q:PT}{o3 o4 o5 o6:Option Sl}(k:pF Ψ q Z (GZ es st g xH o4 o5 o6)) :
  pF Ψ (.seq (.own 3 (.dsp (.glo "BEGIN") (.dnew true))) q) Z [bD (.list (es.map pr)),bD (.tuple (st.map PyData.str)),bD (.str g),o3,o4,o5,o6]:=by
 simp_arith[↓tH h];exact⟨EB KA,k⟩
theorem dr(b:Ψ.sp "add_name"=IE)(a:Ψ.sp "add_way"=HD)(v:Ψ.va "BEGIN"=some (pr KA))(u:Ψ.va "WIDE"=some (.int 2)){n:Str}{o5 o6:Option Sl}(h:Sz r 4900)(k:Z.nx (GZ es st g ((zR g n).foldl sB r) (bD (.str n)) o5 o6)) :
  pF Ψ nF Z (GZ es st g r (bD (.str n)) o5 o6):=by
 delta GZ at k ⊢;delta nF;simp_arith[↓tH v,↓tH u,↓jH (md:=[]) b rfl rfl,↓jH (md:=[]) a rfl rfl];by_cases e:n=g;rw[dT e];unfold zR at k;rw[if_pos e]at k;exact k;rw[dF e];unfold zR at k;rw[if_neg e]at k;have z:Sz r 5000:=⟨QX h.1 (by omega),λp=>QX (h.2 p) (by omega)⟩
 have x:=xI (w:=(tO n,fR n,1)) LA h;have y:Sz (sB r (tO n,fR n,1)) 5000:=⟨QX x.1 (by omega),λp=>QX (x.2 p) (by omega)⟩
 refine RL z ⟨_,rfl,?_⟩;refine⟨by omega,?_⟩;exact PL (KA,tO n,2) OB y ⟨_,rfl,k⟩
theorem cr(j:Ψ.sp "add_name"=IE)(i:Ψ.sp "add_way"=HD)(f:Ψ.va "WIDE"=some (.int 2)){a b:Str}{o4:Option Sl}(y:Sz r 4900)(k:Z.nx (GZ es st g ((jU g (a,b)).foldl sB r) o4 (bD (.str a)) (bD (.str b)))) :
  pF Ψ mF Z (GZ es st g r o4 (bD (.str a)) (bD (.str b))):=by
 delta GZ at k ⊢;delta mF;simp_arith[↓tH f,↓jH (md:=[]) j rfl rfl,↓jH (md:=[]) i rfl rfl];unfold jU at k;by_cases e:a=g;rw[dT e];rw[if_pos (.inl e)]at k;exact k;rw[dF e];by_cases h:a=b;rw[dT h];rw[if_pos (.inr h)]at k;exact k;rw[dF h];rw[if_neg (λz=>z.elim e h)]at k;have v:Sz r 5000:=⟨QX y.1 (by omega),λp=>QX (y.2 p) (by omega)⟩
 have x:=xI (w:=(tO a,fR a,1)) LA y;have u:=xI (w:=(tO b,fR b,1)) LA x;refine RL v ⟨_,rfl,?_⟩;refine RL ⟨QX x.1 (by omega),λp=>QX (x.2 p) (by omega)⟩ ⟨_,rfl,?_⟩;refine⟨by omega,by omega,?_⟩;exact PL (fR a,tO b,2) LA.symm ⟨QX u.1 (by omega),λp=>QX (u.2 p) (by omega)⟩ ⟨_,rfl,k⟩
end
section
variable{E:XE}{Ψ:PEv}{r:Rm}{p q:Pt}{l:Inn}{n m:Bool}{R:T->Prop}{W:LT->Prop}{ρ:kA}{b:PX}{M:List (T×Bool)->kA->Prop}{md:List Md}{ks:List Pt}{vs:List D}
noncomputable def lE:PSp where
 md:=[]
 run:=λy Q _=>∃(x:uC) (st:LS) (g:Str),y=[.d (.list (x.map pr)),.d (.tuple (st.map PyData.str)),.d (.str g)]/\(x.length<=126/\st.length<=11)/\Q (UA (jA x st g)) []
 mono:=λh _ z=>by obtain⟨x,st,g,e,l,q⟩:=z;exact⟨x,st,g,e,l,h _ _ q⟩
theorem uY{es:uC}{st:LS}{g:Str}{K:T->LT->Prop}(x:es.length<=126)(h:st.length<=11)(q:K (UA (jA es st g)) []):UB lE [.d (.list (es.map pr)),.d (.tuple (st.map PyData.str)),.d (.str g)] K E:=⟨es,st,g,rfl,⟨x,h⟩,q⟩
theorem YY(X:Ψ.sp "add_name"=IE)(o:Ψ.sp "add_way"=HD)(j:Ψ.va "BEGIN"=some (pr KA))(i:Ψ.va "WIDE"=some (.int 2))(ds Q E)(h:lE.run ds Q E):nH Ψ zN lE nN nK ds Q:=by obtain⟨x,st,g,rfl,⟨Z,Y⟩,q⟩:=h;refine gA [bD (.list (x.map pr)),bD (.tuple (st.map PyData.str)),bD (.str g),none,none,none,none] rfl rfl rfl ?_;refine gr j ?_;delta GZ;simp_arith[↓zA];rw[<- lA];refine kB (λ(s:Str)=>T.d (.str s)) (λl ρ=>∃r u,RmOk r (1+4 * (11 - l.length))/\l.length<=11/\(l.flatMap (zR g)).foldl sB r=(st.flatMap (zR g)).foldl sB xH/\ρ=GZ x st g r u none none) ?_ ?_ _ _ ⟨xH,_,?_,Y,rfl,rfl⟩;rintro ρ ⟨r,u,ok,_,e,rfl⟩;have e:r=(st.flatMap (zR g)).foldl sB xH:=e;delta GZ;simp_arith[↓zA];rw[<- lA];refine kB (λ(p:Str×Str)=>T.d (pr p)) (λl ρ=>∃r w v,Sz r (45+6 * (126 - l.length))/\l.length<=126/\(l.flatMap (jU g)).foldl sB r=jA x st g/\ρ=GZ x st g r (UK u) w v) ?_ ?_ _ _ ⟨r,_,_,?_,Z,by rw[e];rfl,rfl⟩;rintro ρ ⟨r,w,v,_,_,e,rfl⟩;have e:r=jA x st g:=e;subst e;delta GZ;simp_arith[↓zA];exact q;rintro⟨a,b⟩ l ρ N f ⟨r,w,v,s,k,e,rfl⟩;rw[QM]at s k;rw[w9,QAZ]at e;refine GF.mk rfl ?_;refine cr (a:=a) (b:=b) X o i ⟨QX s.1 (by omega),λp=>QX (s.2 p) (by omega)⟩ (f _ ⟨_,_,_,?_,by omega,e,rfl⟩);have z:Sz ((jU g (a,b)).foldl sB r) (45+6 * (126 - (l.length+1))+2 * (jU g (a,b)).length):=K1 tL s;have y:=kW (g:=g) (e:=(a,b));exact⟨QX z.1 (by omega),λp=>QX (z.2 p) (by omega)⟩;exact⟨QX ok.sz.1 (by rw[wN];omega),λp=>QX (ok.sz.2 p) (by rw[wN];omega)⟩;rintro s l ρ N f ⟨r,u,ok,k,e,rfl⟩;rw[QM]at ok k;rw[w9,QAZ]at e;refine dr (n:=s) X o j i ⟨QX ok.sz.1 (by omega),λp=>QX (ok.sz.2 p) (by omega)⟩ (f _ ⟨_,_,?_,by omega,e,rfl⟩);have z:=ok.add (ws:=zR g s) rL;have y:=zW (g:=g) (n:=s);exact⟨z.pos,z.dom,z.bg,QX z.sz.1 (by omega),λp=>QX (z.sz.2 p) (by omega)⟩;exact⟨tE.pos,tE.dom,tE.bg,QX tE.sz.1 (by omega),λp=>QX (tE.sz.2 p) (by omega)⟩
def lV(l:Inn):D:=.dict (l.map λe=>(pr e.1,.int e.2))
def yi(r:Rm):List (D×D):=r.map λe=>(pr e.1,lV e.2)
theorem AY(h:look r p=some l):jD (yi r)=some true:=by
 cases r with|nil=>cases h|cons e r=>rfl
theorem B5(l:Inn):(l.map λe=>(pr e.1,PyData.int e.2))=[]∨jD (l.map λe=>(pr e.1,PyData.int e.2))=some true:=by
 cases l with|nil=>exact .inl rfl|cons e r=>exact .inr rfl
theorem Rf(h:Key r p)(k:R (.d (lV (lk r p)))):BA (.d (.dict (yi r))) n (.d (pr p)) m R:=by
 have e:=eE h;obtain⟨i,u,y,_⟩:=JC (λl=>T.d (lV l)) e;have w:(yi r).map (·.1)=MC r:=by unfold yi MC;rw[Qb];rfl
 refine Mk (AY e) (EB p) (by rw[w];exact u) ?_ k;have v:(yi r).map (·.2)=r.map λe=>lV e.2:=by unfold yi;rw[Qb];rfl
 rw[v];rw[Qd]at y ⊢;cases z:r[i]? with|none=>rw[z]at y;cases y|some x=>rw[z]at y;injection y with y;injection y with y;show some (lV x.2)=_;rw[y]
theorem xl:xL .itm [(.d (lV l),n)] W=W (l.map λe=>.d (.tuple [pr e.1,.int e.2])):=by unfold lV;rw[zl (B5 l),Qb];rfl
theorem IH{K:TK}:S7 (UA r) false Ψ b E ρ K=tB Ψ b E (lockA ρ) λy m _=>K y m ρ:=rfl
theorem LX{K:TK}:S7 (eD l) false Ψ b E ρ K=tB Ψ b E (lockA ρ) λy m _=>K y m ρ:=rfl
theorem IQ:T7 (UA r) false Ψ b E md ρ M=dM Ψ b E md (lockA ρ) λxs _=>M xs ρ:=rfl
theorem U7:T7 (eD l) false Ψ b E md ρ M=dM Ψ b E md (lockA ρ) λxs _=>M xs ρ:=rfl
def vc(t:T)(r:Rm):Prop:=t=UA r∨t=.d (.dict (yi r))
theorem Nk{b:Bool}{ks:List D}{ts:LT}{n m:Bool}{k:D}{l:Nat}{t:T}(z:GD b k)(y:bA ks k=some l)(x:ts[l]?=some t)(h:R t):BA (.dct b ks ts) false (.d k) m R:=.inr ⟨b,ks,ts,l,t,rfl,z,y,x,h⟩
theorem OE(h:Key r p)(k:R (eD (lk r p))):BA (UA r) false (.d (pr p)) m R:=by obtain⟨i,y,x,_⟩:=JC eD (eE h);exact Nk (n:=false) (EB p) y x k
theorem gP{v:Int}(h:look l p=some v)(k:R (.d (.int v))):BA (eD l) false (.d (pr p)) m R:=by obtain⟨i,y,x,_⟩:=JC (λv:Int=>T.d (.int v)) h;exact Nk (n:=false) (EB p) y x k
theorem bW(l:Inn):vH (l.map λe=>T.d (.int e.2))=some (l.map λe=>.int e.2):=by rw[show(l.map λe=>T.d (.int e.2))=(l.map λe=>PyData.int e.2).map T.d by rw[Qb];rfl,VA]
theorem yg:xL .itm [(eD l,false)] W=W (l.map λe=>.d (.tuple [pr e.1,.int e.2])):=by
 refine(YS _ _).trans ?_;have e:((MC l).zip (l.map λe=>PyData.int e.2)).map (λp=>T.d (.tuple [p.1,p.2]))=l.map λe=>T.d (.tuple [pr e.1,.int e.2]):=by unfold MC;rw[List.zip_map',Qb];rfl
 refine propext ⟨λ⟨x,h,k⟩=>?_,λk=>⟨_,bW l,by rw[e];exact k⟩⟩;rw[bW]at h;cases h;rw[e]at k;exact k
theorem g8{a:PX}:yH (.idx a b)=yH a:=rfl
theorem Cj:AQ [(eD l,false)]=false:=rfl
def z8(ks:List Pt)(vs:List D):T:=.dct true (ks.map pr) (vs.map T.d)
theorem UP:pr q∈ks.map pr↔q∈ks:=by constructor;intro h;obtain⟨x,y,e⟩:=QT.mp h;rw[<- BP e];exact y;exact QBM
theorem RI(ks:List Pt)(q:Pt):(bA (ks.map pr) (pr q)).isSome=decide (q∈ks):=by rw[Q3,iV,UP,decide_eq_true_iff]
theorem dg{x:D}{Q:T->Prop}(n:q∉ks)(hl:ks.length<sizeLine)(k:Q (z8 (ks++[q]) (vs++[x]))):Uc (z8 ks vs) (.d (pr q)) (.d x) Q:=by refine⟨EB q,by rw[QG];exact hl,?_⟩;show Q (HJ true (ks.map pr) (vs.map T.d) (pr q) (.d x));unfold HJ;rw[jB.mpr (λz=>n (UP.mp z))];unfold z8 at k;rw[QR,QR]at k;exact k
theorem cj{L:Bool->Prop}:rB .NotIn (.d (pr q)) (z8 ks vs) L=L (!decide (q∈ks)):=by unfold z8;rw[IM,RI];exact propext ⟨λh=>h.2,λh=>⟨EB q,h⟩⟩
def iO(h:T)(ks:List Pt)(vs:List D)(ws:List Pt)(o3 o4 o5:Option Sl):kA:=[some (.ky h),some (.own (z8 ks vs)),some (.own (.lst ((ws.map pr).map T.d))),o3,o4,o5]
end
section
variable{Ψ:PEv}{Z:PEnds}{x:T}{r:Rm}{ks ws:List Pt}{vs:List D}
section
variable{w:Pt}{o3 o4 o5:Option Sl}
theorem Kr{p q:Pt}{v:Int}(hl:ks.length<sizeLine)(a:ws.length<sizeLine)(u:(0<v->q∈ks)->Z.nx (iO x ks vs ws (bD (pr p)) (bD (pr q)) (bD (.int v))))
  (k:0<v->q∉ks->Z.nx (iO x (ks++[q]) (vs++[pr p]) (ws++[q]) (bD (pr p)) (bD (pr q)) (bD (.int v)))) :
  pF Ψ yB Z (iO x ks vs ws (bD (pr p)) (bD (pr q)) (bD (.int v))):=by
 delta iO at u k ⊢;delta yB;simp_arith[↓cj];by_cases h:0<v;rw[dT h];by_cases y:q∈ks;rw[dT y];exact u λ_=>y;rw[dF y];simp only[wH,↓reduceIte];refine dg y hl ?_;refine⟨by rw[QG,QG];exact a,?_⟩;have:=k h y;rw[QR,QR]at this;exact this;rw[dF h];exact u λz=>absurd z h
theorem Pg{q:PT}(k:pF Ψ q Z (iO x ks vs ws (bD (pr w)) o4 o5)) :
  pF Ψ (.seq (.set 3 (.mt .pop (.xz 2) %[.int 0|1])) q) Z (iO x ks vs (w::ws) o3 o4 o5):=by
 delta iO at k ⊢;simp_arith[↓zA];refine⟨0,.d (pr w),?_,rfl,rfl,k⟩;unfold kU;rw[if_pos (by decide),if_pos (by rw[QG,QG,QM];omega)];rfl
theorem Rg(y:vc x r)(hk:Key r w)
  (k:LH (pF Ψ yB) (.tp [4,5]) { Z with nx:=λh=>Z.nx (kill [4,5] h) } ((lk r w).map λe=>T.d (.tuple [pr e.1,.int e.2])) (iO x ks vs ws (bD (pr w)) o4 o5)) :
  pF Ψ %[.for_ (.tp [4,5]) .itm %[.idx (.xz 0) (.xz 3)|1] yB|2] Z (iO x ks vs ws (bD (pr w)) o4 o5):=by
 rcases y with rfl|rfl;delta iO at k ⊢;simp_arith[↓IH];refine OE hk ?_;simp_arith[↓U7,↓yg,Cj,g8];exact k;delta iO at k ⊢;simp_arith[↓zA];refine Rf hk ?_;simp_arith[↓xl];exact k
theorem Yr(m:vc x r)(a:N7 r)(hb:Key r KA)(W:r.length<=1000)(h:Srch r ks vs (w::ws))(K:2 * (r.length - ks.length)+ws.length+1<=3000)
  (o:∀z u y o3 o4 o5,Srch r z u y->2 * (r.length - z.length)+y.length<=2 * (r.length - ks.length)+ws.length->Z.nx (iO x z u y o3 o4 o5)) :
  pF Ψ ZD Z (iO x ks vs (w::ws) o3 o4 o5):=by
 have A:sizeLine=16777216:=Q7;refine Pg ?_;have X:=h.pop;have hk:Key r w:=mI a hb (h.cf.rch w (h.sub w QD));refine Rg m hk ?_;refine kB (λ(e:Pt×Int)=>T.d (.tuple [pr e.1,.int e.2])) (λl k=>∃z u y o4 o5,Srch1 r w z u y l/\2 * (r.length - z.length)+y.length<=2 * (r.length - ks.length)+ws.length/\k=iO x z u y (bD (pr w)) o4 o5) ?_ ?_ _ _ ⟨ks,vs,ws,_,_,X,QZ _,rfl⟩;rintro k ⟨z,u,y,g,f,s,l,rfl⟩;exact o z u y _ (UK g) (UK f) s.fin l;rintro⟨q,v⟩ l k N i ⟨z,u,y,g,f,s,e,rfl⟩;refine GF.mk rfl ?_;have Y:=s.cf.le a hb;refine Kr (p:=w) (q:=q) (v:=v) (by omega) (by omega) (λc=>i _ ⟨z,u,y,_,_,s.skip c,e,rfl⟩) λc n=>?_;have b:=s.add c n;have j:=b.cf.le a hb;rw[QI,qE]at j;exact i _ ⟨_,_,_,_,_,b,by rw[QI,QI,qE];omega,rfl⟩
theorem Vr(h:Ψ.va "BEGIN"=some (pr KA)){q:PT}(k:pF Ψ q Z (iO x [KA] [.none] [KA] none none none)) :
  pF Ψ (.seq (.own 1 (.dsp (.glo "BEGIN") .non)) (.seq (.own 2 (.lst %[.glo "BEGIN"|1])) q)) Z [some (.ky x),none,none,none,none,none]:=by
 have y:sizeLine=16777216:=Q7;simp_arith[↓tH h];exact⟨EB KA,by omega,k⟩
end
end
theorem zI{Ψ:PEv}{E:XE}{c:PX}{q:PT}{Z:PEnds}{ρ:kA}(W:Nat->kA->Prop)(m:Nat)(u:W m ρ)(z:∀m ρ,W m ρ->UN Ψ c E ρ λb x=>if b=true then dB Ψ E q { Z with nx:=λh=>∃y,y < m/\W y h,ct:=λh=>∃y,y < m/\W y h,bk:=Z.nx } x else Z.nx x):Rk Ψ E c q Z ρ:=⟨W,⟨m,u⟩,z⟩
noncomputable def pD:PSp where
 md:=[.ky]
 run:=λv Q _=>∃(u:T) (r:Rm),v=[u]/\(vc u r/\N7 r/\Key r KA/\r.length<=1000)/\∀x y,CF r x y->(∀p,p∈x↔Rch r p)->Q (z8 x y) []
 mono:=λh _ z=>by obtain⟨u,r,e,l,q⟩:=z;exact⟨u,r,e,l,λx y a b=>h _ _ (q x y a b)⟩
theorem oO{h:T}{r:Rm}{K:T->LT->Prop}{E:XE}(u:vc h r)(z:N7 r)(y:Key r KA)(x:r.length<=1000)(q:∀ks vs,CF r ks vs->(∀p,p∈ks↔Rch r p)->K (z8 ks vs) []):UB pD [h] K E:=⟨h,r,rfl,⟨u,z,y,x⟩,q⟩
theorem J4{Ψ:PEv}(l:Ψ.va "BEGIN"=some (pr KA))(ds Q E)(h:pD.run ds Q E):nH Ψ BE pD HE LD ds Q:=by
 obtain⟨a,r,rfl,⟨n,j,hb,i⟩,q⟩:=h;refine gA [some (.ky a),none,none,none,none,none] rfl rfl rfl ?_;refine Vr l ?_;delta iO;simp_arith[↓zA];refine zI (λm k=>m<=3000/\∃x y ws o3 o4 o5,Srch r x y ws/\m=2 * (r.length - x.length)+ws.length/\k=iO a x y ws o3 o4 o5) (2 * (r.length - 1)+1) ⟨by omega,[KA],[.none],[KA],none,none,none,Nl,rfl,rfl⟩ ?_;rintro m k ⟨p,x,y,ws,o3,o4,o5,s,e,rfl⟩;cases ws with|nil=>delta iO;simp_arith[QG];rw[dF (by omega)];simp_arith[↓zA];exact q x y s.cf s.done|cons w ws=>rw[QM]at e;have b:=λ(Z:PEnds) g=>Yr (Ψ:=Ψ) (Z:=Z) (o3:=o3) (o4:=o4) (o5:=o5) n j hb i s (by omega) g;unfold iO at b;delta iO;simp_arith[QG];rw[dT (by omega)];refine b _ λv u z o3 o4 o5 f o=>⟨_,by omega,by omega,v,u,z,o3,o4,o5,f,rfl,rfl⟩
theorem Kj{α:Type}{x:α}{r:List α}:gE (x::r) 0=some x:=YF (j:=0) rfl
theorem Ht{α:Type}{x y:α}{r:List α}:gE (x::y::r) 1=some y:=YF (j:=1) rfl
def sm:List Pt->(Pt->Int)->Int
 |[],_=>0|x::l,f=>f x+sm l f
section
variable{f g:Pt->Int}
theorem EA:∀{l:List Pt},(∀x∈l,f x=g x)->sm l f=sm l g
 |[],_=>rfl|x::l,h=>by show f x+sm l f=g x+sm l g;rw[h x QD,EA λy z=>h y (QE _ z)]
theorem KH:∀(l:List Pt),sm l (λx=>f x+g x)=sm l f+sm l g
 |[]=>rfl|x::l=>by show f x+g x+sm l _=f x+sm l f+(g x+sm l g);rw[KH l];omega
theorem VJ:∀(l:List Pt),sm l (λx=>- f x)=- sm l f
 |[]=>rfl|x::l=>by show - f x+sm l _=- (f x+sm l f);rw[VJ l];omega
theorem GG:∀(l:List Pt),sm l (λ_=>0)=0
 |[]=>rfl|x::l=>by show 0+sm l _=0;rw[GG l];rfl
theorem gO:∀{l:List Pt},(∀x∈l,0<=f x)->0<=sm l f
 |[],_=>QBN _|x::l,h=>by have v:=h x QD;have u:=gO (l:=l) λy z=>h y (QE _ z);show 0<=f x+sm l f;omega
theorem ZH:∀{l:List Pt},(∀x∈l,0<=f x)->∀{y:Pt},y∈l->f y<=sm l f
 |x::l,h,y,z=>by have w:=h x QD;have u:∀y∈l,0<=f y:=λy z=>h y (QE _ z);show f y<=f x+sm l f;rcases QL.mp z with e|e;have v:=gO u;rw[e];omega;have v:=ZH u e;omega
theorem C1:∀{l:List Pt},(∀x∈l,0<=f x)->∀{y z:Pt},y∈l->z∈l->y≠z->f y+f z<=sm l f
 |x::l,h,y,z,v,hz,ne=>by
  have a:=h x QD;have w:∀y∈l,0<=f y:=λy v=>h y (QE _ v);show f y+f z<=f x+sm l f;rcases QL.mp v with e|e;rcases QL.mp hz with u|u
  ·exact absurd (e.trans u.symm) ne
  have k:=ZH w u;rw[e];omega;rcases QL.mp hz with u|u
  ·have k:=ZH w e
   rw[u];omega
  have k:=C1 w e u ne;omega
theorem D1:∀{l:List Pt},0<sm l f->∃x∈l,0<f x
 |[],h=>absurd h (wf 0)|x::l,h=>by by_cases c:0<f x;exact⟨x,QD,c⟩;have h:0<f x+sm l f:=h;obtain⟨y,z,p⟩:=D1 (l:=l) (by omega);exact⟨y,QE _ z,p⟩
theorem mW{k:Pt->Pt->Int}{m:List Pt}:∀(l:List Pt),sm l (λx=>sm m λy=>k x y)=sm m λy=>sm l λx=>k x y
 |[]=>(GG m).symm|x::l=>by show sm m (λy=>k x y)+sm l _=sm m λy=>k x y+sm l λx=>k x y;rw[mW l,KH]
theorem tP{u:Pt}{k:Int}:∀{l:List Pt},u∉l->sm l (λx=>if x=u then k else 0)=0
 |[],_=>rfl|x::l,h=>by show(if x=u then k else 0)+sm l _=0;rw[if_neg (λ(e:x=u)=>h (e▸QD)),tP λz=>h (QE _ z)];rfl
theorem XJ{u:Pt}{k:Int}:∀{l:List Pt},l.Nodup->u∈l->sm l (λx=>if x=u then k else 0)=k
 |x::l,nd,h=>by obtain⟨v,y⟩:=Qi.mp nd;show(if x=u then k else 0)+sm l _=k;by_cases e:x=u;rw[if_pos e,tP (by rw[<- e];exact v)];omega;rw[if_neg e,XJ y ((QL.mp h).resolve_left λz=>e z.symm)];omega
theorem eR(p:Pt->Bool):∀(l:List Pt),sm l f=sm (l.filter p) f+sm (l.filter λx=>!p x) f
 |[]=>rfl|x::l=>by
  show f x+sm l f=_;rw[WF,WF,eR p l];cases p x with|true=>show _=(f x+sm (l.filter p) f)+sm (l.filter λx=>!p x) f;omega|false=>show _=sm (l.filter p) f+(f x+sm (l.filter λx=>!p x) f);omega
theorem U8{a:Pt->Pt->Int}(l:List Pt)(h:∀x∈l,∀y∈l,a x y=- a y x):sm l (λx=>sm l λy=>a x y)=0:=by
 have w:sm l (λx=>sm l λy=>a x y)=sm l λy=>sm l λx=>a x y:=mW l;have v:(sm l λy=>sm l λx=>a x y)=- sm l (λy=>sm l λx=>a y x):=by rw[<- VJ];refine EA λy z=>?_;rw[<- VJ];exact EA λx u=>h x u y z
 omega
end
section
variable{p q u v:Pt}{r:Rm}{w:Wy}{es:uC}{st:LS}{g:Str}
def rm(r:Rm)(p q:Pt):Int:=(look (lk r p) q).getD 0
def jI(r:Rm)(p q:Pt):Prop:=∃v,look (lk r p) q=some v
def kc(r:Rm):Prop:=∀p,((lk r p).map (·.1)).Nodup
theorem RG{α:Type}{q:Pt}{v:α}:∀{l:List (Pt×α)},look l q=some v->(q,v)∈l
 |[],h=>by cases h|e::l,h=>by by_cases c:e.1=q;rw[show look (e::l) q=some e.2 from if_pos c]at h;injection h with h;rw[<- c,<- h];exact QD;rw[show look (e::l) q=look l q from if_neg c]at h;exact QE _ (RG h)
theorem JQ{α:Type}{q:Pt}{v:α}:∀{l:List (Pt×α)},(l.map (·.1)).Nodup->(q,v)∈l->look l q=some v
 |e::l,nd,h=>by obtain⟨k,y⟩:=Qi.mp nd;rcases QL.mp h with c|c;rw[<- c];exact if_pos rfl;have x:e.1≠q:=λz=>k (QT.mpr ⟨(q,v),c,z.symm⟩);rw[show look (e::l) q=look l q from if_neg x];exact JQ y c
theorem put_keys{α:Type}{p:Pt}{w:α}:∀{l:List (Pt×α)},(put l p w).map (·.1)=if p∈l.map (·.1) then l.map (·.1) else l.map (·.1)++[p]
 |[]=>rfl|e::l=>by by_cases c:e.1=p;rw[show put (e::l) p w=(e.1,w)::l from if_pos c,if_pos (by rw[<- c];exact QD)];rfl;rw[show put (e::l) p w=e::put l p w from if_neg c];rw[QV,QV,put_keys];by_cases h:p∈l.map (·.1);rw[if_pos h,if_pos (QE _ h)];rw[if_neg h,if_neg (λz=>(QL.mp z).elim (λz=>c z.symm) h)];rfl
theorem HG{α:Type}{w:α}{l:List (Pt×α)}(h:(l.map (·.1)).Nodup):((put l p w).map (·.1)).Nodup:=by rw[put_keys];split;exact h;rename_i n;refine qV.mpr ⟨h,Qi.mpr ⟨λz=>(nomatch z),Q0⟩,λa x b hb z=>?_⟩;rw[QJ.mp hb]at z;exact n (z▸x)
theorem uU(nd:kc r):Ce r p q↔0<rm r p q:=by
 unfold Ce rm;constructor;rintro⟨v,m,h⟩;rw[JQ (nd p) m];exact h;intro h;cases e:look (lk r p) q with|none=>rw[e]at h;exact absurd h (wf 0)|some v=>rw[e]at h;exact⟨v,RG e,h⟩
def pY(r:Rm)(u v:Pt):Rm:=put (put r u (put (lk r u) v (rm r u v - 1))) v (put (lk (put r u (put (lk r u) v (rm r u v - 1))) v) u (rm (put r u (put (lk r u) v (rm r u v - 1))) v u+1))
theorem zV(h:u≠v)(p:Pt):lk (pY r u v) p=if v=p then put (lk r v) u (rm r v u+1) else if u=p then put (lk r u) v (rm r u v - 1) else lk r p:=by
 have e:rm (put r u (put (lk r u) v (rm r u v - 1))) v u=rm r v u:=by unfold rm;rw[xE,if_neg h]
 unfold pY;rw[e,xE,xE,xE,if_neg h]
theorem sU(h:u≠v)(p q:Pt):rm (pY r u v) p q=rm r p q+(if p=v/\q=u then 1 else 0) - (if p=u/\q=v then 1 else 0):=by show(look (lk (pY r u v) p) q).getD 0=_;rw[zV h];by_cases y:v=p;rw[if_pos y,aD,if_neg (c:=p=u/\q=v) (λz=>h (z.1.symm.trans y.symm))];by_cases x:u=q;rw[if_pos x,if_pos ⟨y.symm,x.symm⟩,<- y,<- x];show rm r v u+1=rm r v u+1 - 0;omega;rw[if_neg x,if_neg (λz=>x z.2.symm),y];show rm r p q=rm r p q+0 - 0;omega;rw[if_neg y,if_neg (c:=p=v/\q=u) (λz=>y z.1.symm)];by_cases x:u=p;rw[if_pos x,aD];by_cases k:v=q;rw[if_pos k,if_pos ⟨x.symm,k.symm⟩,<- x,<- k];show rm r u v - 1=rm r u v+0 - 1;omega;rw[if_neg k,if_neg (λz=>k z.2.symm),x];show rm r p q=rm r p q+0 - 0;omega;rw[if_neg x,if_neg (λz=>x z.1.symm)];show rm r p q=rm r p q+0 - 0;omega
theorem lB:jI r p q↔PZ r p q:=by
 unfold jI PZ;constructor;rintro⟨v,h⟩;exact⟨v,RG h⟩;rintro⟨v,h⟩;generalize lk r p=l at h;induction l with
 |nil=>exact(nomatch h)
 |cons e l x =>
  by_cases c:e.1=q;exact⟨e.2,if_pos c⟩;rcases QL.mp h with z|z
  ·exact absurd (by rw[<- z]) c
  obtain⟨w,y⟩:=x z;exact⟨w,(show look (e::l) q=look l q from if_neg c).trans y⟩
theorem yc(h:u≠v)(a:jI r u v)(k:jI r v u):jI (pY r u v) p q↔jI r p q:=by unfold jI;rw[zV h];by_cases y:v=p;rw[if_pos y,aD];by_cases x:u=q;rw[if_pos x,<- y,<- x];exact⟨λ_=>k,λ_=>⟨_,rfl⟩⟩;rw[if_neg x,y];rw[if_neg y];by_cases x:u=p;rw[if_pos x,aD];by_cases z:v=q;rw[if_pos z,<- x,<- z];exact⟨λ_=>a,λ_=>⟨_,rfl⟩⟩;rw[if_neg z,x];rw[if_neg x]
theorem ga(h:u≠v)(nd:kc r):kc (pY r u v):=by
 intro p;rw[zV h];split;exact HG (nd v);split
 ·exact HG (nd u)
 exact nd p
theorem JP(h:¬ jI r p q):rm r p q=0:=by
 unfold rm;cases e:look (lk r p) q with|none=>rfl|some v=>exact absurd ⟨v,e⟩ h
def Op(p q:Pt)(v:Int):Prop:=(∃n,p=tO n/\q=fR n/\v=1)∨(∃n,p=KA/\q=tO n/\v=2)∨(∃a b,a≠b/\p=fR a/\q=tO b/\v=2)∨(¬ OZ p q/\v=0)
def Rj(P:Pt->Pt->Int->Prop)(r:Rm):Prop:=∀p,∀e∈lk r p,P p e.1 e.2
theorem nZ{P:Pt->Pt->Int->Prop}(a:w.1≠w.2.1)(f:P w.1 w.2.1 w.2.2)(b:P w.2.1 w.1 0)(h:Rj P r):Rj P (sB r w):=by intro p e x;rw[UI a]at x;by_cases k:w.2.1=p;rw[if_pos k]at x;rcases pI x with z|z;rw[z,<- k];exact b;exact h p e z;rw[if_neg k]at x;by_cases y:w.1=p;rw[if_pos y]at x;rcases pI x with z|z;rw[z,<- y];exact f;exact h p e z;rw[if_neg y]at x;exact h p e x
theorem KR(h:(r.map (·.1)).Nodup):((sdf r p).map (·.1)).Nodup:=by
 unfold sdf;cases e:look r p with|some v=>exact h|none=>show(List.map (λe:Pt×Inn=>e.1) (r++[(p,[])])).Nodup;rw[QR];refine qV.mpr ⟨h,Qi.mpr ⟨λz=>(nomatch z),Q0⟩,λa y b hb z=>?_⟩;have hb:b=p:=QJ.mp hb;rw[z,hb]at y;obtain⟨x,k,f⟩:=QT.mp y;have:=JQ h (show(p,x.2)∈r by rw[<- f];exact k);rw[e]at this;cases this
theorem R4(x:w.1≠w.2.1)(h:kc r):kc (sB r w):=by
 intro p;rw[UI x];split;exact HG (h p);split
 ·exact HG (h p)
 exact h p
theorem zB:Key r p↔p∈r.map (·.1):=by
 constructor;rintro⟨l,e⟩;exact rQ e;intro h;induction r with
 |nil=>exact(nomatch h)
 |cons e r x =>
  by_cases c:e.1=p;exact⟨e.2,if_pos c⟩;rcases QL.mp h with z|z
  ·exact absurd z.symm c
  obtain⟨l,hl⟩:=x z;exact⟨l,(show look (e::r) p=look r p from if_neg c).trans hl⟩
structure Tbl0(r:Rm):Prop where
 ndk:(r.map (·.1)).Nodup
 ndi:kc r
 cap:Rj Op r
 kind:∀p,Key r p->p=KA∨∃n,p=tO n∨p=fR n
 sym:∀p q,PZ r p q->PZ r q p/\Key r p
theorem tS(h:OZ p q):(p=KA∨∃n,p=tO n∨p=fR n)/\(q=KA∨∃n,q=tO n∨q=fR n):=by
 rcases h with⟨h,n,e⟩| ⟨n,h,e⟩| ⟨a,b,_,h,e⟩
 exact⟨.inl h,.inr ⟨n,.inl e⟩⟩;exact⟨.inr ⟨n,.inl h⟩,.inr ⟨n,.inr e⟩⟩;exact⟨.inr ⟨a,.inr h⟩,.inr ⟨b,.inl e⟩⟩
theorem e8(k:OZ w.1 w.2.1)(f:Op w.1 w.2.1 w.2.2)(t:Tbl0 r):Tbl0 (sB r w):=by
 have y:=bG k;refine⟨?_,R4 y t.ndi,nZ y f (.inr (.inr (.inr ⟨bF k,rfl⟩))) t.cap,λp h=>?_,λp q h=>?_⟩;unfold sB;exact HG (HG (KR (KR t.ndk)));rcases dG.mp h with z|z|z
 ·rw[z];exact(tS k).1
 rw[z];exact(tS k).2;exact t.kind p z;rw[SI y,dG];rcases(SI y).mp h with z|⟨x,a⟩| ⟨x,a⟩
 obtain⟨e,b⟩:=t.sym p q z;exact⟨.inl e,.inr (.inr b)⟩;exact⟨.inr (.inr ⟨a,x⟩),.inl x⟩;exact⟨.inr (.inl ⟨a,x⟩),.inr (.inl x)⟩
theorem gW:∀{ws:List Wy}{r:Rm},(∀w∈ws,OZ w.1 w.2.1/\Op w.1 w.2.1 w.2.2)->Tbl0 r->Tbl0 (ws.foldl sB r)
 |[],_,_,t=>t|w::ws,r,h,t=>gW (ws:=ws) (λw x=>h w (QE _ x)) (e8 (h w QD).1 (h w QD).2 t)
theorem vL{p:Pt}:∀{ws:List Wy}{r:Rm},Key (ws.foldl sB r) p↔Key r p∨∃w∈ws,p=w.1∨p=w.2.1
 |[],r=>⟨.inl,λz=>z.elim id λ⟨_,m,_⟩=>(nomatch m)⟩
 |w::ws,r=>by
  rw[W6,vL (ws:=ws),dG];constructor;rintro((z|z|z)|⟨x,m,z⟩)
  ·exact .inr ⟨w,QD,.inl z⟩
  exact .inr ⟨w,QD,.inr z⟩;exact .inl z;exact .inr ⟨x,QE _ m,z⟩;rintro(z|⟨x,m,z⟩)
  ·exact .inl (.inr (.inr z))
  rcases QL.mp m with rfl|m
  ·rcases z with z|z
   ·exact .inl (.inl z)
   exact .inl (.inr (.inl z))
  exact .inr ⟨x,m,z⟩
def DZ(es:uC)(st:LS)(g:Str):List Wy:=st.flatMap (zR g)++es.flatMap (jU g)
theorem rE:jA es st g=(DZ es st g).foldl sB xH:=by unfold jA DZ;rw[QAZ]
theorem uE{v:Int}:(p,q,v)∈DZ es st g↔(∃n∈st,n≠g/\((p,q,v)=(tO n,fR n,1)∨(p,q,v)=(KA,tO n,2)))∨(∃e∈es,(e.1≠g/\e.1≠e.2)/\((p,q,v)=(tO e.1,fR e.1,1)∨(p,q,v)=(tO e.2,fR e.2,1)∨(p,q,v)=(fR e.1,tO e.2,2))):=by
 unfold DZ;rw[Qf,wE,wE];constructor;rintro(⟨n,m,h⟩| ⟨e,m,h⟩)
 ·exact .inl ⟨n,m,Rn.mp h⟩
 exact .inr ⟨e,m,Sn.mp h⟩;rintro(⟨n,m,h⟩| ⟨e,m,h⟩)
 ·exact .inl ⟨n,m,Rn.mpr h⟩
 exact .inr ⟨e,m,Sn.mpr h⟩
theorem kC:∀w∈DZ es st g,OZ w.1 w.2.1/\Op w.1 w.2.1 w.2.2:=by
 rintro⟨p,q,v⟩ h;rcases uE.mp h with⟨n,_,_,e|e⟩| ⟨e,_,⟨_,x⟩,z|z|z⟩
 cases e;exact⟨.inr (.inl ⟨n,rfl,rfl⟩),.inl ⟨n,rfl,rfl,rfl⟩⟩;cases e;exact⟨.inl ⟨rfl,n,rfl⟩,.inr (.inl ⟨n,rfl,rfl,rfl⟩)⟩;cases z;exact⟨.inr (.inl ⟨_,rfl,rfl⟩),.inl ⟨_,rfl,rfl,rfl⟩⟩;cases z;exact⟨.inr (.inl ⟨_,rfl,rfl⟩),.inl ⟨_,rfl,rfl,rfl⟩⟩;cases z;exact⟨.inr (.inr ⟨_,_,x,rfl,rfl⟩),.inr (.inr (.inl ⟨_,_,x,rfl,rfl,rfl⟩))⟩
theorem XI(p:Pt):lk xH p=[]:=by show(if KA=p then some [] else none).getD []=[];split<;>rfl
theorem Jl:Tbl0 xH:=by refine⟨Qi.mpr ⟨λz=>(nomatch z),Q0⟩,λp=>?_,λp e x=>?_,λp h=>?_,λp q h=>?_⟩;rw[XI];exact Q0;rw[XI]at x;exact(nomatch x);exact .inl (QJ.mp (zB.mp h));obtain⟨v,h⟩:=h;rw[XI]at h;exact(nomatch h)
end
section
variable{es:uC}{st:LS}{g:Str}
section
variable{p q:Pt}{n:Str}
theorem dD:Tbl0 (jA es st g):=by rw[rE];exact gW kC Jl
theorem v6:∀w∈DZ es st g,BG w:=λw h=>by unfold DZ at h;rcases Qf.mp h with z|z;exact EG (f:=zR g) (λ_=>rL) st w z;exact EG (f:=jU g) (λ_=>tL) es w z
theorem cC:PZ (jA es st g) p q↔(∃v,(p,q,v)∈DZ es st g)∨∃v,(q,p,v)∈DZ es st g:=by
 rw[rE,tX v6];constructor;rintro(⟨v,h⟩| h)
 ·rw[XI]at h;exact(nomatch h)
 exact h;exact .inr
theorem KO(h:Key (jA es st g) (tO n)):PZ (jA es st g) (tO n) (fR n):=by
 rw[rE]at h;rcases vL.mp h with z|⟨⟨p,q,v⟩,m,z⟩
 exact absurd (QJ.mp (zB.mp z)).symm OB;refine cC.mpr (.inl ⟨1,uE.mpr ?_⟩);have z:tO n=p∨tO n=q:=z;rcases uE.mp m with⟨k,mk,x,e|e⟩| ⟨e,u,x,y|y|y⟩
 cases e;rcases z with z|z;rw[DB z];exact .inl ⟨k,mk,x,.inl rfl⟩;exact absurd z LA;cases e;rcases z with z|z;exact absurd z.symm OB;rw[DB z];exact .inl ⟨k,mk,x,.inl rfl⟩;cases y;rcases z with z|z;rw[DB z];exact .inr ⟨e,u,x,.inl rfl⟩;exact absurd z LA;cases y;rcases z with z|z;rw[DB z];exact .inr ⟨e,u,x,.inr (.inl rfl)⟩;exact absurd z LA;cases y;rcases z with z|z;exact absurd z LA;rw[DB z];exact .inr ⟨e,u,x,.inr (.inl rfl)⟩
theorem YZ:Op p q (rm (jA es st g) p q)∨(¬ jI (jA es st g) p q/\rm (jA es st g) p q=0):=by by_cases h:jI (jA es st g) p q;obtain⟨v,e⟩:=h;have:=dD (es:=es) (st:=st) (g:=g) |>.cap p (q,v) (RG e);unfold rm;rw[e];exact .inl this;exact .inr ⟨h,JP h⟩
theorem Jt:0<=rm (jA es st g) p q:=by rcases YZ (es:=es) (st:=st) (g:=g) (p:=p) (q:=q) with(⟨_,_,_,e⟩| ⟨_,_,_,e⟩| ⟨_,_,_,_,_,e⟩| ⟨_,e⟩)|⟨_,e⟩<;>rw[e]<;>decide
theorem kJ(h:¬ OZ p q):rm (jA es st g) p q=0:=by
 rcases YZ (es:=es) (st:=st) (g:=g) (p:=p) (q:=q) with(⟨n,y,x,_⟩| ⟨n,y,x,_⟩| ⟨a,b,z,y,x,_⟩| ⟨_,e⟩)|⟨_,e⟩
 exact absurd (.inr (.inl ⟨n,y,x⟩)) h;exact absurd (.inl ⟨y,n,x⟩) h;exact absurd (.inr (.inr ⟨a,b,z,y,x⟩)) h;exact e;exact e
theorem kj(h:q≠fR n):rm (jA es st g) (tO n) q=0:=kJ λl=>by
 rcases l with⟨e,_⟩| ⟨m,y,x⟩| ⟨a,b,_,e,_⟩
 exact OB e.symm;exact h (by rw[x,DB y]);exact LA e
theorem Bo:rm (jA es st g) (tO n) (fR n)<=1:=by
 rcases YZ (es:=es) (st:=st) (g:=g) (p:=tO n) (q:=fR n) with(⟨_,_,_,e⟩| ⟨m,h,_,_⟩| ⟨a,b,x,h,y,_⟩| ⟨_,e⟩)|⟨_,e⟩
 rw[e];decide;exact absurd h.symm OB;exact absurd h LA;rw[e];decide;rw[e];decide
theorem vj(h:Key (jA es st g) (tO n)):rm (jA es st g) (tO n) (fR n)=1:=by
 have a:=lB.mpr (KO h);rcases YZ (es:=es) (st:=st) (g:=g) (p:=tO n) (q:=fR n) with(⟨_,_,_,e⟩| ⟨m,x,_,_⟩| ⟨a,b,y,x,u,_⟩| ⟨l,e⟩)|⟨z,e⟩
 exact e;exact absurd x.symm OB;exact absurd x LA;exact absurd (.inr (.inl ⟨n,rfl,rfl⟩)) l;exact absurd a z
theorem Yt(h:p≠tO n):rm (jA es st g) p (fR n)=0:=kJ λl=>by
 rcases l with⟨_,m,e⟩| ⟨m,y,x⟩| ⟨a,b,_,_,e⟩
 exact LA e.symm;exact h (by rw[y,HH x]);exact LA e.symm
theorem Zt:rm (jA es st g) p KA=0:=kJ λl=>by
 rcases l with⟨_,m,e⟩| ⟨m,x,h⟩| ⟨a,b,_,_,e⟩
 exact OB e;exact UE h;exact OB e
theorem Uo(h:p≠fR n):rm (jA es st g) p (tO n)=0∨rm (jA es st g) p (tO n)=2:=by
 rcases YZ (es:=es) (st:=st) (g:=g) (p:=p) (q:=tO n) with(⟨_,_,e,_⟩| ⟨m,_,_,e⟩| ⟨a,b,_,_,_,e⟩| ⟨l,e⟩)|⟨_,e⟩
 exact absurd e LA;exact .inr e;exact .inr e;exact .inl e;exact .inl e
theorem zj{v:Int}(h:(p,tO n,v)∈DZ es st g):rm (jA es st g) p (tO n)=2:=by
 have a:jI (jA es st g) p (tO n):=lB.mpr (cC.mpr (.inl ⟨v,h⟩));have l:OZ p (tO n):=(kC _ h).1;rcases YZ (es:=es) (st:=st) (g:=g) (p:=p) (q:=tO n) with(⟨_,_,e,_⟩| ⟨m,_,_,e⟩| ⟨a,b,_,_,_,e⟩| ⟨x,e⟩)|⟨z,e⟩
 exact absurd e LA;exact e;exact e;exact absurd l x;exact absurd a z
end
end
section
variable{es:uC}{st:LS}{g:Str}
def vs0(es:uC)(st:LS)(g:Str):List Pt:=(jA es st g).map (·.1)
def fl(es:uC)(st:LS)(g:Str)(r:Rm)(p q:Pt):Int:=rm (jA es st g) p q - rm r p q
def out(es:uC)(st:LS)(g:Str)(r:Rm)(p:Pt):Int:=sm (vs0 es st g) (fl es st g r p)
structure Base(es:uC)(st:LS)(g:Str)(r:Rm):Prop where
 ndi:kc r
 adj:∀p q,jI r p q↔jI (jA es st g) p q
 keys:r.map (·.1)=vs0 es st g
 nn:∀p q,0<=rm r p q
 anti:∀p q,fl es st g r p q=- fl es st g r q p
structure Flow(es:uC)(st:LS)(g:Str)(r:Rm):Prop extends Base es st g r where
 cons:∀x,x≠KA->x≠tO g->out es st g r x=0
theorem MF:(vs0 es st g).Nodup:=dD.ndk
theorem Od:Flow es st g (jA es st g):=by
 have e:∀p q,fl es st g (jA es st g) p q=0:=λp q=>by unfold fl;omega
 refine⟨⟨dD.ndi,λp q=>wo,rfl,λp q=>Jt,λp q=>by rw[e,e];rfl⟩,λx _ _=>?_⟩;unfold out;rw[EA (g:=λ_=>0) λq _=>e x q];exact GG _
theorem XB{p q:Pt}(h:jI (jA es st g) p q):jI (jA es st g) q p:=lB.mpr (dD.sym p q (lB.mp h)).1
theorem gB{p q:Pt}(h:jI (jA es st g) p q):p∈vs0 es st g:=zB.mp (dD.sym p q (lB.mp h)).2
theorem EQ{p q:Pt}(h:jI (jA es st g) p q):p≠q:=by
 rcases cC.mp (lB.mp h) with⟨v,m⟩| ⟨v,m⟩
 exact bG (kC _ m).1;exact(bG (kC _ m).1).symm
section
variable{r:Rm}
theorem Base.dom(b:Base es st g r):N7 r:=λp q h=>by have a:=(b.adj p q).mp (lB.mpr h);rw[zB,b.keys];exact gB (XB a)
theorem Base.bg(b:Base es st g r):Key r KA:=by rw[zB,b.keys];refine zB.mp ?_;show Key (jA es st g) KA;rw[rE];exact vL.mpr (.inl ⟨[],if_pos rfl⟩)
theorem Base.len(b:Base es st g r):r.length=(jA es st g).length:=by have:=congrArg qt b.keys;unfold vs0 at this;rw[QG,QG]at this;exact this
theorem Base.adjw(b:Base es st g r){p q:Pt}(h:0<rm r p q):jI (jA es st g) p q:=(b.adj p q).mp (by
 unfold rm at h;cases e:look (lk r p) q with|none=>rw[e]at h;exact absurd h (wf 0)|some v=>exact⟨v,e⟩)
theorem lQ{u:Pt}{l:Inn}(h:u∈r.map (·.1)):(put r u l).map (·.1)=r.map (·.1):=by rw[put_keys,if_pos h]
theorem Base.pushed(b:Base es st g r){u v:Pt}(h:0<rm r u v):Base es st g (pY r u v):=by
 have a:=b.adjw h;have y:=EQ a;have e:=sU (r:=r) y;refine⟨ga y b.ndi,λp q=>?_,?_,λp q=>?_,λp q=>?_⟩;rw[yc y ((b.adj u v).mpr a) ((b.adj v u).mpr (XB a))];exact b.adj p q;have k:u∈r.map (·.1):=by rw[b.keys];exact gB a
 have f:v∈r.map (·.1):=by rw[b.keys];exact gB (XB a)
 unfold pY;rw[lQ (by rw[lQ k];exact f),lQ k];exact b.keys;rw[e];have:=b.nn p q;by_cases c:p=u/\q=v;rw[if_pos c,c.1,c.2];split<;>omega;rw[if_neg c];split<;>omega;unfold fl;rw[e,e];have:=b.anti p q;unfold fl at this;by_cases x:p=v/\q=u;rw[if_pos x,if_pos (c:=q=u/\p=v) ⟨x.2,x.1⟩,if_neg (c:=p=u/\q=v) (λz=>y (z.1.symm.trans x.1)),if_neg (c:=q=v/\p=u) (λz=>y (z.2.symm.trans x.1))];omega;rw[if_neg x,if_neg (c:=q=u/\p=v) (λz=>x ⟨z.2,z.1⟩)];by_cases w:p=u/\q=v;rw[if_pos w,if_pos (c:=q=v/\p=u) ⟨w.2,w.1⟩];omega;rw[if_neg w,if_neg (c:=q=v/\p=u) (λz=>w ⟨z.2,z.1⟩)];omega
theorem GW(b:Base es st g r){u v:Pt}(h:0<rm r u v)(x:Pt):out es st g (pY r u v) x=out es st g r x+(if x=u then 1 else 0) - (if x=v then 1 else 0):=by
 have a:=b.adjw h;have f:=EQ a;unfold out;have e:∀q,fl es st g (pY r u v) x q=fl es st g r x q+((if q=v then(if x=u then 1 else 0) else 0)+-(if q=u then(if x=v then 1 else 0) else 0)):=λq=>by unfold fl;rw[sU f];by_cases k:x=u;have w:x≠v:=λz=>f (k.symm.trans z);rw[if_neg (c:=x=v/\q=u) (λz=>w z.1),if_pos k,if_neg w];by_cases y:q=v;rw[if_pos (c:=x=u/\q=v) ⟨k,y⟩,if_pos y];split<;>omega;rw[if_neg (c:=x=u/\q=v) (λz=>y z.2),if_neg y];split<;>omega;rw[if_neg (c:=x=u/\q=v) (λz=>k z.1),if_neg k];by_cases w:x=v;rw[if_pos w];by_cases y:q=u;rw[if_pos (c:=x=v/\q=u) ⟨w,y⟩,if_pos y];split<;>omega;rw[if_neg (c:=x=v/\q=u) (λz=>y z.2),if_neg y];split<;>omega;rw[if_neg (c:=x=v/\q=u) (λz=>w z.1),if_neg w];split<;>split<;>omega
 rw[EA λq _=>e q,KH,KH,VJ,XJ MF (gB (XB a)),XJ MF (gB a)];omega
end
section
variable{r y:Rm}{ks:List Pt}
theorem CF.find{vs:List D}(h:CF r ks vs){q:Pt}(m:q∈ks)(b:q≠KA):∃z u p k v,CF r z u/\p∈z/\Ce r p q/\q∉z/\ks=z++q::k/\vs=u++pr p::v:=by
 induction h with|bg=>exact absurd (QJ.mp m) b|@add ks vs p x c i w n f=>by_cases e:q∈ks;obtain⟨z,u,a,k,v,Z,Y,X,s,o,l⟩:=f e;exact⟨z,u,a,k++[x],v++[pr p],Z,Y,X,s,by rw[o,Qv];rfl,by rw[l,Qv];rfl⟩;have j:q=x:=QJ.mp ((Qf.mp m).resolve_left e);subst j;exact⟨ks,vs,p,[],[],c,i,w,n,rfl,rfl⟩
structure LC(es:uC)(st:LS)(g:Str)(y r:Rm)(here:Pt)(ks:List Pt):Prop extends Base es st g r where
 cons:∀x,x≠KA->x≠tO g->out es st g r x=if x=here then 1 else 0
 val:out es st g r KA=out es st g y KA+if here=KA then 1 else 0
 fresh:∀p,∀q∈ks,rm y p q<=rm r p q
theorem i5(f:Flow es st g y)(ks:List Pt):LC es st g y y (tO g) ks:=by refine⟨f.toBase,λx u h=>?_,?_,λp q _=>QBN _⟩;rw[if_neg h];exact f.cons x u h;rw[if_neg (λz=>OB z.symm)];omega
theorem Ga{h p:Pt}{u:List Pt}(nd:kc y)(l:LC es st g y r h ks)(i:h∈ks)(hb:h≠KA)(w:Ce y p h)(f:h∉u)(e:∀q∈u,q∈ks):0<rm r p h/\LC es st g y (pY r p h) p u:=by have v:0<rm r p h:=Int.lt_of_lt_of_le ((uU nd).mp w) (l.fresh p h i);have b:=EQ (l.adjw v);refine⟨v,l.toBase.pushed v,λx a j=>?_,?_,λx q k=>?_⟩;rw[GW l.toBase v,l.cons x a j];split<;>split<;>omega;rw[GW l.toBase v,l.val,if_neg hb,if_neg (c:=KA=h) (λz=>hb z.symm)];by_cases c:p=KA;rw[if_pos c,if_pos c.symm];omega;rw[if_neg c,if_neg (λz=>c z.symm)];omega;have a:=l.fresh x q (e q k);rw[sU b,if_neg (c:=x=p/\q=h) (λz=>f (z.2▸k))];split<;>omega
theorem Eh(l:LC es st g y r KA ks):Flow es st g r/\out es st g r KA=out es st g y KA+1:=by refine⟨⟨l.toBase,λx h z=>?_⟩,?_⟩;rw[l.cons x h z,if_neg h];rw[l.val,if_pos rfl]
end
end
section
variable{es:uC}{st:LS}{g:Str}{r:Rm}
section
variable{p q y:Pt}{n a:Str}{ks:List Pt}
theorem bL(b:Base es st g r)(h:rm (jA es st g) q p=0):fl es st g r p q=rm r q p:=by have:=b.anti p q;unfold fl at this ⊢;omega
def zU(r:Rm)(n:Str):Int:=rm r (fR n) (tO n)
theorem mU(b:Base es st g r)(n:Str):fl es st g r (tO n) (fR n)=zU r n:=bL b (kJ λl=>bF (.inr (.inl ⟨n,rfl,rfl⟩)) l)
theorem CL(b:Base es st g r)(n:Str):zU r n<=1:=by rw[<- mU b];have x:=Bo (es:=es) (st:=st) (g:=g) (n:=n);have h:=b.nn (tO n) (fR n);unfold fl;omega
theorem G2(b:Base es st g r)(h:p∉vs0 es st g∨q∉vs0 es st g):rm r p q=0:=by refine JP λa=>?_;have a:=(b.adj p q).mp a;rcases h with h|h;exact h (gB a);exact h (gB (XB a))
theorem Bc(l:List Pt)(nd:l.Nodup)(u:Pt)(k:Int)(h:u∉l->k=0):sm l (λx=>if x=u then k else 0)=k:=by by_cases m:u∈l;exact XJ nd m;rw[tP m,h m]
def inn(r:Rm)(n:Str)(y:Pt):Int:=if y=fR n then 0 else rm r (tO n) y
theorem iQ(f:Flow es st g r)(h:n≠g):sm (vs0 es st g) (inn r n)=zU r n:=by
 have c:=f.cons (tO n) (λz=>OB z.symm) (λz=>h (DB z));unfold out at c;have e:∀y,fl es st g r (tO n) y=(if y=fR n then zU r n else 0)+- inn r n y:=λy=>by unfold inn;by_cases e:y=fR n;rw[if_pos e,if_pos e,e,mU f.toBase];omega;rw[if_neg e,if_neg e];unfold fl;rw[kj e];omega
 rw[EA λy _=>e y,KH,VJ,Bc _ MF (fR n) (zU r n) (λz=>G2 f.toBase (.inl z))]at c;omega
theorem eQ(b:Base es st g r)(n:Str)(y:Pt):0<=inn r n y:=by unfold inn;split;decide;exact b.nn _ _
def J9(r:Rm)(n:Str)(y:Pt):Int:=if y=tO n then 0 else rm r y (fR n)
theorem FW(f:Flow es st g r)(n:Str):sm (vs0 es st g) (J9 r n)=zU r n:=by
 have c:=f.cons (fR n) (λz=>UE z.symm) (λz=>LA z.symm);unfold out at c;have e:∀y,fl es st g r (fR n) y=- (if y=tO n then zU r n else 0)+J9 r n y:=λy=>by unfold J9;by_cases e:y=tO n;rw[if_pos e,if_pos e,e];have:=f.anti (fR n) (tO n);rw[mU f.toBase]at this;omega;rw[if_neg e,if_neg e,bL f.toBase (Yt e)];omega
 rw[EA λy _=>e y,KH,VJ,Bc _ MF (tO n) (zU r n) (λz=>G2 f.toBase (.inr z))]at c;omega
theorem uh(b:Base es st g r)(n:Str)(y:Pt):0<=J9 r n y:=by unfold J9;split;decide;exact b.nn _ _
def NT(r:Rm)(n:Str):Prop:=0<rm r (tO n) KA
def Z7(r:Rm)(a b:Str):Prop:=a≠b/\0<rm r (tO b) (fR a)
theorem EJ(b:Base es st g r)(h:NT r n):n∈st/\n≠g:=by
 rcases cC.mp (lB.mp (b.adjw h)) with⟨v,m⟩| ⟨v,m⟩
 exact absurd (kC _ m).1 λl=>by
  rcases l with⟨e,_⟩| ⟨_,_,e⟩| ⟨_,_,_,e,_⟩
  exact OB e.symm;exact UE e;exact LA e
 rcases uE.mp m with⟨k,mk,x,e|e⟩| ⟨e,_,_,y|y|y⟩
 ·exact absurd (congrArg qj e) OB
 have:=congrArg (λw:Wy=>w.2.1) e;rw[DB this];exact⟨mk,x⟩;exact absurd (congrArg qj y) OB;exact absurd (congrArg qj y) OB;exact absurd (congrArg qj y) UE
theorem Dh(b:Base es st g r){c:Str}(h:Z7 r a c):(a,c)∈es/\a≠g:=by
 rcases cC.mp (lB.mp (b.adjw h.2)) with⟨v,m⟩| ⟨v,m⟩
 exact absurd (kC _ m).1 λl=>by
  rcases l with⟨e,_⟩| ⟨k,z,x⟩| ⟨_,_,_,e,_⟩
  exact OB e.symm;exact h.1 ((HH x).trans (DB z).symm);exact LA e
 rcases uE.mp m with⟨k,mk,u,e|e⟩| ⟨e,f,u,y|y|y⟩
 ·exact absurd (congrArg qj e).symm LA
 exact absurd (congrArg qj e).symm UE;exact absurd (congrArg qj y).symm LA;exact absurd (congrArg qj y).symm LA;have z:a=e.1:=HH (congrArg qj y);have x:c=e.2:=DB (congrArg (λw:Wy=>w.2.1) y);rw[z,x];exact⟨f,u.1⟩
theorem nV:inn r n KA=rm r (tO n) KA:=by unfold inn;exact if_neg UE
theorem OP(h:a≠n):inn r n (fR a)=rm r (tO n) (fR a):=by unfold inn;exact if_neg λz=>h (HH z)
theorem ua(h:a≠n):J9 r a (tO n)=rm r (tO n) (fR a):=by unfold J9;exact if_neg λz=>h (DB z).symm
theorem iI(b:Base es st g r)(h:0<rm r p q):p∈vs0 es st g/\q∈vs0 es st g:=⟨gB (b.adjw h),gB (XB (b.adjw h))⟩
theorem lX(f:Flow es st g r)(n:Str)(h:n≠g):rm r (tO n) KA<=1:=by by_cases c:0<rm r (tO n) KA;have z:=ZH (λx _=>eQ f.toBase n x) (iI f.toBase c).2;rw[iQ f h,nV]at z;exact QAG z (CL f.toBase n);omega
theorem ub(f:Flow es st g r)(h:NT r n):zU r n=1:=by have ng:=(EJ f.toBase h).2;have z:=ZH (λx _=>eQ f.toBase n x) (iI f.toBase h).2;rw[iQ f ng,nV]at z;have:=CL f.toBase n;unfold NT at h;omega
theorem xa(f:Flow es st g r)(h:Z7 r a n)(ng:n≠g):zU r n=1:=by have z:=ZH (λx _=>eQ f.toBase n x) (iI f.toBase h.2).2;rw[iQ f ng,OP h.1]at z;have:=CL f.toBase n;have:=h.2;omega
theorem N0(f:Flow es st g r)(ng:n≠g){x:Pt}(u:0<inn r n x)(h:0<inn r n y):x=y:=by
 have w:x∈vs0 es st g:=by unfold inn at u;split at u;exact absurd u (wf 0);exact(iI f.toBase u).2
 have v:y∈vs0 es st g:=by unfold inn at h;split at h;exact absurd h (wf 0);exact(iI f.toBase h).2
 by_cases e:x=y;exact e;have k:=C1 (λz _=>eQ f.toBase n z) w v e;rw[iQ f ng]at k;have:=CL f.toBase n;omega
theorem NW(f:Flow es st g r){b:Str}(ng:n≠g)(x:Z7 r a n)(h:Z7 r b n):a=b :=
 HH (N0 f ng (by rw[OP x.1];exact x.2) (by rw[OP h.1];exact h.2))
theorem UQ(f:Flow es st g r)(x:NT r n)(h:Z7 r a n):False :=
 UE (N0 f (EJ f.toBase x).2 (by rw[nV];exact x) (by rw[OP h.1];exact h.2))
theorem U4(f:Flow es st g r)(h:zU r n=1):∃y,y≠tO n/\0<rm r y (fR n):=by obtain⟨y,_,x⟩:=D1 (f:=J9 r n) (l:=vs0 es st g) (by rw[FW f,h];decide);unfold J9 at x;split at x;exact absurd x (wf 0);rename_i ne;exact⟨y,ne,x⟩
theorem td(b:Base es st g r)(h:jI r y (fR n)):∃m,y=tO m:=by
 rcases cC.mp (lB.mp ((b.adj _ _).mp h)) with⟨v,m⟩| ⟨v,m⟩
 rcases(kC _ m).1 with⟨_,k,e⟩| ⟨k,e,_⟩| ⟨_,k,_,_,e⟩
 ·exact absurd e.symm LA
 exact⟨k,e⟩;exact absurd e.symm LA;rcases(kC _ m).1 with⟨e,_⟩| ⟨k,e,_⟩| ⟨_,k,_,_,e⟩
 ·exact absurd e.symm UE
 exact absurd e.symm LA;exact⟨k,e⟩
theorem A4(b:Base es st g r)(h:jI r y KA):∃m,y=tO m:=by
 rcases cC.mp (lB.mp ((b.adj _ _).mp h)) with⟨v,m⟩| ⟨v,m⟩
 rcases(kC _ m).1 with⟨_,k,e⟩| ⟨k,_,e⟩| ⟨_,k,_,_,e⟩
 ·exact absurd e OB
 exact absurd e UE;exact absurd e OB;rcases(kC _ m).1 with⟨_,k,e⟩| ⟨k,e,_⟩| ⟨_,k,_,e,_⟩
 ·exact⟨k,e⟩
 exact absurd e OB;exact absurd e UE
theorem Ch(f:Flow es st g r)(h:zU r n=1):∃m,Z7 r n m:=by obtain⟨y,z,x⟩:=U4 f h;obtain⟨m,rfl⟩:=td f.toBase ((f.adj _ _).mpr (f.toBase.adjw x));exact⟨m,λe=>z (by rw[e]),x⟩
theorem vO(f:Flow es st g r){v:Int}(m:(p,tO n,v)∈DZ es st g):0<rm r p (tO n):=by
 have c:=zj m;have l:=(kC _ m).1;have h:fl es st g r p (tO n)=rm r (tO n) p:=bL f.toBase (kJ (bF l));unfold fl at h;rw[c]at h;have key:rm r (tO n) p<=1:=by
  rcases uE.mp m with⟨k,mk,z,e|e⟩| ⟨e,o,z,y|y|y⟩
  exact absurd (congrArg (λw:Wy=>w.2.1) e) LA;have b:p=KA:=congrArg qj e;have u:n=k:=DB (congrArg (λw:Wy=>w.2.1) e);rw[b];exact lX f n (by rw[u];exact z);exact absurd (congrArg (λw:Wy=>w.2.1) y) LA;exact absurd (congrArg (λw:Wy=>w.2.1) y) LA;have b:p=fR e.1:=congrArg qj y;have u:n=e.2:=DB (congrArg (λw:Wy=>w.2.1) y);rw[b];by_cases c:0<rm r (tO n) (fR e.1);have j:e.1≠n:=by rw[u];exact z.2
  have i:=ZH (λx _=>uh f.toBase e.1 x) (iI f.toBase c).1;rw[FW f,ua j]at i;exact QAG i (CL f.toBase _);omega
 omega
theorem XR{l m:List Pt}(v:l.Nodup)(u:m.Nodup)(h:∀x,x∈l↔x∈m):l.length=m.length:=by have a:=OG v λx z=>(h x).mp z;have b:=OG u λx z=>(h x).mpr z;omega
def mG(ks:List Pt)(x:Pt):Bool:=decide (x.2="to")&&!decide (fR x.1∈ks)
theorem PD{x:Pt}:mG ks x=true↔∃n,x=tO n/\fR n∉ks:=by unfold mG;rw[Qa,Qy,decide_eq_true_iff,decide_eq_false_iff_not];constructor;rintro⟨u,z⟩;exact⟨x.1,QCC rfl u,z⟩;rintro⟨n,rfl,h⟩;exact⟨rfl,h⟩
theorem aP(p:Pt->Bool):∀(l:List Pt),sm l (λx=>if p x=true then 1 else 0)=(l.filter p).length
 |[]=>rfl|x::l=>by show(if p x=true then 1 else 0)+sm l _=_;rw[aP p l,WF];by_cases c:p x=true;rw[if_pos c,if_pos c,QM];omega;rw[if_neg c,if_neg c];omega
theorem ES(f:Flow es st g r)(nd:ks.Nodup)(hk:∀p,p∈ks↔Rch r p)(M:tO g∉ks):out es st g r KA=(ks.filter (mG ks)).length:=by
 have sub:∀p∈ks,p∈vs0 es st g:=λp L=>by have:=zB.mp (mI f.toBase.dom f.toBase.bg ((hk p).mp L));rw[f.keys]at this;exact this
 have o:∀x∈ks,∀y,y∉ks->rm r x y=0:=λx w y u=>by have:=f.nn x y;by_cases c:0<rm r x y;exact absurd ((hk y).mpr (.go ((hk x).mp w) ((uU f.ndi).mpr c))) u;omega
 have I:sm ((vs0 es st g).filter λx=>decide (x∈ks)) (λx=>out es st g r x)=out es st g r KA:=by
  have hb:KA∈ks:=(hk KA).mpr .bg;have e:∀x∈(vs0 es st g).filter (λx=>decide (x∈ks)),out es st g r x=if x=KA then out es st g r KA else 0:=λx w=>by by_cases c:x=KA;rw[if_pos c,c];rw[if_neg c];exact f.cons x c λz=>M (z▸of_decide_eq_true (QO.mp w).2)
  rw[EA e];exact XJ (MF.sublist qA) (QO.mpr ⟨sub _ hb,dT hb⟩)
 have G:∀x∈(vs0 es st g).filter (λx=>decide (x∈ks)),sm ((vs0 es st g).filter λy=>!decide (y∈ks)) (fl es st g r x)=if mG ks x=true then 1 else 0:=λx w=>by
  have W:x∈ks:=of_decide_eq_true (QO.mp w).2;have Z:=(QO.mp w).1;have k:∀y∈(vs0 es st g).filter (λy=>!decide (y∈ks)),y∉ks/\fl es st g r x y=rm (jA es st g) x y:=λy u=>by have:=(QO.mp u).2;rw[Qy,decide_eq_false_iff_not]at this;refine⟨this,?_⟩;unfold fl;rw[o x W y this];omega
  have B:∀y∈(vs0 es st g).filter (λy=>!decide (y∈ks)),∀n,y=tO n->fl es st g r x y=0:=λy u n e=>by
   obtain⟨C,O⟩:=k y u;rw[O,e];by_cases A:x=fR n;rw[A];exact kJ λl=>bF (.inr (.inl ⟨n,rfl,rfl⟩)) l;rcases Uo (es:=es) (st:=st) (g:=g) A with z|z
   ·exact z
   have a:jI (jA es st g) x (tO n):=by refine wM λJ=>?_;rw[JP J]at z;exact absurd z (by decide)
   rcases cC.mp (lB.mp a) with⟨v,m⟩| ⟨v,m⟩
   have:=vO f m;rw[o x W (tO n) (e▸C)]at this;exact absurd this (wf 0);rw[kJ (bF (kC _ m).1)]
  rcases dD.kind x (zB.mpr Z) with e|⟨n,e|e⟩
  have i:¬ mG ks x=true:=λz=>by obtain⟨n,j,_⟩:=PD.mp z;exact OB (e.symm.trans j)
  rw[if_neg i];rw[EA (g:=λ_=>0),GG];intro y u;by_cases t:∃n,y=tO n;obtain⟨n,t⟩:=t;exact B y u n t;rw[(k y u).2,e];exact kJ λl=>by
   rcases l with⟨_,z⟩| ⟨n,z,_⟩| ⟨_,b,_,_,z⟩
   exact t z;exact OB z;exact t ⟨b,z⟩
  by_cases X:fR n∈ks
  ·have i:¬ mG ks x=true:=λz=>by
    obtain⟨m,j,h⟩:=PD.mp z;rw[<- DB (e.symm.trans j)]at h;exact h X
   rw[if_neg i,EA (g:=λ_=>0),GG];intro y u;rw[(k y u).2,e];exact kj λz=>(k y u).1 (z▸X)
  rw[if_pos (PD.mpr ⟨n,e,X⟩)];have K:Key (jA es st g) (tO n):=by rw[<- e];exact zB.mpr Z
  have N:fR n∈vs0 es st g:=gB (XB (lB.mpr (KO K)));rw[EA (g:=λy=>if y=fR n then 1 else 0)];exact XJ (MF.sublist qA) (QO.mpr ⟨N,by rw[dF X];rfl⟩);intro y u;rw[(k y u).2,e];by_cases c:y=fR n;rw[if_pos c,c,vj K];rw[if_neg c,kj c];have i:¬ mG ks x=true:=λz=>by obtain⟨m,j,_⟩:=PD.mp z;exact LA (j.symm.trans e)
  rw[if_neg i,EA (g:=λ_=>0),GG];intro y u;by_cases t:∃n,y=tO n;obtain⟨n,t⟩:=t;exact B y u n t;rw[(k y u).2,e];exact kJ λl=>by
   rcases l with⟨z,_⟩| ⟨n,z,_⟩| ⟨_,b,_,_,z⟩
   exact UE z.symm;exact LA z.symm;exact t ⟨b,z⟩
 have F:∀x,out es st g r x=sm ((vs0 es st g).filter λy=>decide (y∈ks)) (fl es st g r x)+sm ((vs0 es st g).filter λy=>!decide (y∈ks)) (fl es st g r x):=λx=>eR _ _;have E:sm ((vs0 es st g).filter λx=>decide (x∈ks)) (λx=>out es st g r x)=sm ((vs0 es st g).filter λx=>decide (x∈ks)) (λx=>if mG ks x=true then 1 else 0):=by rw[EA λx _=>F x,KH,U8 _ λx _ y _=>f.anti x y,EA G];omega
 rw[<- I,E,aP];have:(((vs0 es st g).filter λx=>decide (x∈ks)).filter (mG ks)).length=(ks.filter (mG ks)).length:=by refine XR ((MF.sublist qA).sublist qA) (nd.sublist qA) λx=>?_;rw[QO,QO,QO,decide_eq_true_iff];exact⟨λ⟨⟨_,s⟩,Y⟩=>⟨s,Y⟩,λ⟨s,Y⟩=>⟨⟨sub x s,s⟩,Y⟩⟩
 rw[this]
theorem cb(f:Flow es st g r):out es st g r KA=(((lk r KA).map (·.1)).filter λy=>decide (0<rm r y KA)).length:=by
 have e:∀y∈vs0 es st g,fl es st g r KA y=if decide (0<rm r y KA)=true then 1 else 0:=λy x=>by rw[bL f.toBase Zt];have z:=f.nn y KA;by_cases c:0<rm r y KA;rw[dT c,if_pos rfl];obtain⟨n,e⟩:=A4 f.toBase ((f.adj _ _).mpr (f.toBase.adjw c));rw[e]at c ⊢;have:=lX f n (EJ f.toBase c).2;omega;rw[dF c,if_neg (by decide)];omega
 unfold out;rw[EA e,aP];have:((vs0 es st g).filter λy=>decide (0<rm r y KA)).length=(((lk r KA).map (·.1)).filter λy=>decide (0<rm r y KA)).length:=by refine XR (MF.sublist qA) ((f.ndi KA).sublist qA) λy=>?_;rw[QO,QO,decide_eq_true_iff];refine⟨λ⟨_,h⟩=>⟨?_,h⟩,λ⟨_,h⟩=>⟨(iI f.toBase h).1,h⟩⟩;obtain⟨v,hv⟩:=(f.adj KA y).mpr (XB (f.toBase.adjw h));exact QT.mpr ⟨(y,v),RG hv,rfl⟩
 rw[this]
theorem Cb(f:Flow es st g r)(hk:∀p,p∈ks↔Rch r p)(o:tO g∉ks){cut:LS}(hc:∀n,tO n∈ks->fR n∉ks->n∈cut):¬ ∃a,(a,g)∈es/\Led es st g cut a:=by
 have u:∀p∈ks,∀n v,(p,tO n,v)∈DZ es st g->tO n∈ks:=λp j n v m=>(hk _).mpr (.go ((hk _).mp j) ((uU f.ndi).mpr (vO f m)));have key:∀n,Led es st g cut n->fR n∈ks:=λn h=>by
  induction h with|@st s h k=>obtain⟨w,x⟩:=JE.mp k;have t:=u KA ((hk _).mpr .bg) s 2 (uE.mpr (.inl ⟨s,h,w,.inr rfl⟩));exact wM λz=>x (hc s t z)|@ed a b l m k i=>obtain⟨w,x⟩:=JE.mp k;by_cases e:a=b;rw[<- e];exact i;have t:=u (fR a) i b 2 (uE.mpr (.inr ⟨(a,b),m,⟨(KM l).1,e⟩,.inr (.inr rfl)⟩));exact wM λz=>x (hc b t z)
 rintro⟨a,m,l⟩;exact o (u (fR a) (key a l) g 2 (uE.mpr (.inr ⟨(a,g),m,⟨(KM l).1,(KM l).1⟩,.inr (.inr rfl)⟩)))
end
end
inductive Run(r:Rm)(g f:Str):LS->Str->Prop
 |nil:Run r g f [] f
 |go {c:LS}{n m:Str}:Run r g f c n->n≠g->Z7 r n m->Run r g f (c++[n]) m
inductive Chn(es:uC)(st:LS)(g:Str):LS->Str->Prop
 |st {f:Str}:f∈st->f≠g->Chn es st g [] f
 |go {c:LS}{n m:Str}:Chn es st g c n->n≠g->(n,m)∈es->Chn es st g (c++[n]) m
section
variable{es:uC}{st:LS}{g:Str}{r:Rm}
section
variable{s n:Str}{c:LS}
theorem Run.chn(f:Flow es st g r)(x:NT r s)(h:Run r g s c n):Chn es st g c n:=by
 induction h with|nil=>exact .st (EJ f.toBase x).1 (EJ f.toBase x).2|go _ ng y z=>exact .go z ng (Dh f.toBase y).1
theorem Run.thr1(f:Flow es st g r)(y:NT r s)(h:Run r g s c n)(ng:n≠g):zU r n=1:=by
 cases h with|nil=>exact ub f y|go _ _ x=>exact xa f x ng
theorem Run.pred(h:Run r g s c n):∀x,x∈c∨x=n->x=s∨∃y∈c,Z7 r y x:=by
 induction h with
 |nil=>intro x u;exact u.elim (λz=>(nomatch z)) .inl
 |@go c n m _ _ v w =>
  intro x u;rcases u with u|rfl;have:x∈c∨x=n:=(Qf.mp u).imp_right QJ.mp;rcases w x this with z|⟨y,k,z⟩
  exact .inl z;exact .inr ⟨y,Qe _ k,z⟩;exact .inr ⟨n,QW _ QD,v⟩
theorem Run.ng(h:Run r g s c n):∀x∈c,x≠g:=by
 induction h with
 |nil=>exact λx y=>(nomatch y)
 |go _ k _ u=>intro x y;rcases Qf.mp y with z|z;exact u x z;rw[QJ.mp z];exact k
theorem Run.nd(f:Flow es st g r)(w:NT r s)(h:Run r g s c n):c.Nodup/\n∉c:=by
 induction h with
 |nil=>exact⟨Q0,λz=>(nomatch z)⟩
 |@go c n m h k x u =>
  have nd:(c++[n]).Nodup:=qV.mpr ⟨u.1,Qi.mpr ⟨λz=>(nomatch z),Q0⟩,λa i b hb z=>by rw[QJ.mp hb]at z;exact u.2 (z▸i)⟩;refine⟨nd,λz=>?_⟩;rcases Qf.mp z with z|z;rcases h.pred m (.inl z) with e|⟨y,v,e⟩
  ·rw[e]at x;exact UQ f w x
  rw[NW f (h.ng m z) e x]at v;exact u.2 v;exact x.1 (QJ.mp z).symm
theorem Run.apart(f:Flow es st g r){s':Str}(q:NT r s)(b:NT r s'){l:LS}{p:Str}(h:Run r g s c n)(h':Run r g s' l p):∀x∈c,x∈l->s=s':=by
 induction h with
 |nil=>exact λx a=>(nomatch a)
 |@go c n m h k X i =>
  intro x a v;rcases Qf.mp a with z|z;exact i x z v;have z:=QJ.mp z;subst z;rcases h.pred x (.inr rfl) with e|⟨y,j,e⟩<;>rcases h'.pred x (.inl v) with u|⟨o,w,u⟩
  exact e.symm.trans u;rw[e]at u;exact(UQ f q u).elim;rw[u]at e;exact(UQ f b e).elim;rw[NW f k e u]at j;exact i o j w
end
end
section
variable{es:uC}{st:LS}{g:Str}
theorem Gb{cut:LS}{c:LS}{n:Str}(h:Chn es st g c n)(hc:∀x∈c,x∉cut)(ng:n≠g)(y:n∉cut):Led es st g cut n:=by
 induction h with|st h _=>exact .st h (JE.mpr ⟨ng,y⟩)|@go c n m _ k e z=>exact .ed (z (λx u=>hc x (Qe _ u)) k (hc n (QW _ QD))) e (JE.mpr ⟨ng,y⟩)
theorem M6{cut:LS}{c:LS}(h:Chn es st g c g)(hl:¬ ∃a,(a,g)∈es/\Led es st g cut a):∃x∈c,x∈cut:=by
 refine wM λz=>?_;have hc:∀x∈c,x∉cut:=λx y m=>z ⟨x,y,m⟩;cases h with|st _ e=>exact e rfl|@go c n _ h k e=>exact hl ⟨n,e,Gb h (λx y=>hc x (Qe _ y)) k (hc n (QW _ QD))⟩
def sJ:List (LS)->Prop
 |[]=>True|c::cs=>(∀d∈cs,∀x∈c,x∉d)/\sJ cs
theorem Nc{cut:LS}:∀{cs:List (LS)},sJ cs->(∀c∈cs,∃x∈c,x∈cut)->∃u:LS,u.length=cs.length/\u.Nodup/\(∀p∈u,p∈cut)/\∀p∈u,∃c∈cs,p∈c
 |[],_,_=>⟨[],rfl,Q0,λ_ z=>(nomatch z),λ_ z=>(nomatch z)⟩
 |c::cs,a,h=>by
  obtain⟨u,f,e,b,k⟩:=Nc (cs:=cs) a.2 λd v=>h d (QE _ v);obtain⟨x,w,hc⟩:=h c QD;refine⟨x::u,by rw[QM,QM,f],Qi.mpr ⟨λz=>?_,e⟩,λp y=>?_,λp y=>?_⟩;obtain⟨d,v,y⟩:=k x z;exact a.1 d v x w y;rcases QL.mp y with z|z
  ·rw[z];exact hc
  exact b p z;rcases QL.mp y with z|z
  ·exact⟨c,QD,by rw[z];exact w⟩
  obtain⟨d,v,y⟩:=k p z;exact⟨d,QE _ v,y⟩
theorem rZ{cut:LS}{cs:List (LS)}(a:sJ cs)(h:∀c∈cs,Chn es st g c g)(hl:¬ ∃a,(a,g)∈es/\Led es st g cut a):cs.length<=cut.length:=by obtain⟨u,z,y,x,_⟩:=Nc a λc hc=>M6 (h c hc) hl;rw[<- z];exact vQ y x
end
section
variable{ks:List Pt}{vs:List D}{p:Pt}
def nC(ks:List Pt)(vs:List D):List (D×D):=(ks.map pr).zip vs
theorem yj(ks:List Pt)(vs:List D):(z8 ks vs).er=.dict (nC ks vs):=by show PyData.dict ((ks.map pr).zip (ersT (vs.map T.d)))=_;rw[pB];rfl
theorem dL(h:vs.length=ks.length):(nC ks vs).map (·.1)=ks.map pr:=Wm (by rw[QG];omega)
theorem Nb(h:vs.length=ks.length):(nC ks vs).map (·.2)=vs:=WD (by rw[QG];omega)
theorem jJ(h:vs.length=ks.length)(m:p∈ks):jD (nC ks vs)=some true:=by
 cases ks with
 |nil=>exact(nomatch m)
 |cons x ks=>cases vs with|nil=>cases h|cons y vs=>rfl
theorem OS{q:Pt}{u:List Pt}:∀{y:List Pt},q∉y->bA ((y++q::u).map pr) (pr q)=some y.length
 |[],_=>Pd rfl|x::y,h=>by show bA (pr x::(y++q::u).map pr) (pr q)=_;rw[t6 (λz=>h (by rw[BP z];exact QD)),OS λz=>h (QE _ z)];rfl
theorem Pk{h z:List Pt}{y x:List D}{q:Pt}{n m:Bool}{R:T->Prop}(u:y.length=h.length)(w:x.length=z.length)(v:q∉h)(k:R (.d (pr p))):BA (.d (.dict (nC (h++q::z) (y++pr p::x)))) n (.d (pr q)) m R:=by
 have hl:(y++pr p::x).length=(h++q::z).length:=by rw[QI,QI,QM,QM,u,w]
 refine Mk (jJ hl (p:=q) (QW _ QD)) (EB q) (by rw[dL hl];exact OS v) ?_ k;rw[Nb hl,<- u,qG (QZ _),Nat.sub_self];rfl
theorem DQ(a b:Pt):Ql (pr a) (pr b)=decide (a=b):=by
 rw[Q3,decide_eq_true_iff];have e:Ql (pr a) (pr b)=(Ql (.str a.1) (.str b.1)&&(Ql (.str a.2) (.str b.2)&&true)):=by simp[pr,Ql,PyData.eqvAll]
 rw[e,CQ,CQ,QBT,Qa,decide_eq_true_iff,decide_eq_true_iff];exact⟨λh=>QCC h.1 h.2,λh=>by rw[h];exact⟨rfl,rfl⟩⟩
def YG(es:uC)(st:LS):Prop:=(∀s∈st,qq s=true)/\∀e∈es,qq e.1=true/\qq e.2=true
theorem IC{a b:Str}(x:qq a=true)(h:qq b=true):kE (pr (a,b)):=by refine⟨?_,?_⟩;simp only[pr,QAN,qh,x,h,Bool.and_self];simp only[pr,QAy,wT];decide
theorem aR:qq "to"=true:=by decide +kernel
theorem lW:qq "from"=true:=by decide +kernel
theorem fO:qq ""=true/\qq "begin"=true:=by decide +kernel
theorem C5{es:uC}{st:LS}{g:Str}(h:YG es st)(k:p∈vs0 es st g):kE (pr p):=by
 have k:Key (jA es st g) p:=zB.mpr k;rw[rE]at k;rcases vL.mp k with z|⟨⟨u,v,c⟩,m,z⟩
 rw[QJ.mp (zB.mp z)];exact IC fO.1 fO.2;have z:p=u∨p=v:=z;rcases uE.mp m with⟨n,w,_,e|e⟩| ⟨e,x,_,y|y|y⟩
 cases e;rcases z with z|z<;>subst z;exact IC (h.1 n w) aR;exact IC (h.1 n w) lW;cases e;rcases z with z|z<;>subst z;exact IC fO.1 fO.2;exact IC (h.1 n w) aR;cases y;rcases z with z|z<;>subst z;exact IC (h.2 e x).1 aR;exact IC (h.2 e x).1 lW;cases y;rcases z with z|z<;>subst z;exact IC (h.2 e x).2 aR;exact IC (h.2 e x).2 lW;cases y;rcases z with z|z<;>subst z;exact IC (h.2 e x).1 lW;exact IC (h.2 e x).2 aR
def kR(r:Rm)(x:List (D×D))(last:D)(h:Pt)(o4:Option Sl):kA:=[oW (UA r),bD (.dict x),bD last,bD (pr h),o4]
end
section
variable{Ψ:PEv}{Z:PEnds}{q:PT}{r:Rm}{h:List (D×D)}{last:D}{u v:Pt}
theorem Nr(hk:Key r u)(w:jI r u v)(hl:(lk r u).length<sizeLine)(k:pF Ψ q Z (kR (put r u (put (lk r u) v (rm r u v - 1))) h last v (bD (pr u)))) :
  pF Ψ (.seq (.six (.idx (.xz 0) (.xz 4)) (.xz 3) (.bin .Sub (.idx (.idx (.xz 0) (.xz 4)) (.xz 3)) (.int 1))) q) Z (kR r h last v (bD (pr u))):=by
 obtain⟨x,y⟩:=w;have e:rm r u v=x:=by unfold rm;rw[y];rfl
 rw[e]at k;delta kR at k ⊢;simp_arith[↓IH];refine OE hk ?_;simp_arith[↓LX];refine gP y ?_;simp_arith[↓zA];refine uI (eE hk) λf z=>rP hl ?_;rw[z];exact k
theorem Mr(hk:Key r v)(w:jI r v u)(hl:(lk r v).length<sizeLine)(k:pF Ψ q Z (kR (put r v (put (lk r v) u (rm r v u+1))) h last v (bD (pr u)))) :
  pF Ψ (.seq (.six (.idx (.xz 0) (.xz 3)) (.xz 4) (.bin .Add (.idx (.idx (.xz 0) (.xz 3)) (.xz 4)) (.int 1))) q) Z (kR r h last v (bD (pr u))):=by
 obtain⟨x,y⟩:=w;have e:rm r v u=x:=by unfold rm;rw[y];rfl
 rw[e]at k;delta kR at k ⊢;simp_arith[↓IH];refine OE hk ?_;simp_arith[↓LX];refine gP y ?_;simp_arith[↓zA];refine uI (eE hk) λf z=>rP hl ?_;rw[z];exact k
end
theorem Base.inn{es:uC}{st:LS}{g:Str}{r:Rm}(b:Base es st g r)(p:Pt):(lk r p).length<=(jA es st g).length:=by
 have:=OG (ns:=vs0 es st g) (b.ndi p) λq h=>by obtain⟨e,x,z⟩:=QT.mp h;have a:jI r p q:=lB.mpr ⟨e.2,by rw[<- z];exact x⟩;exact gB (XB ((b.adj p q).mp a))
 unfold vs0 at this;rw[QG,QG]at this;exact this
section
variable{Ψ:PEv}{Z:PEnds}{es:uC}{st:LS}{g:Str}
theorem Ca{m r:Rm}{ks:List Pt}{vs:List D}{x:Pt}{last:D}{o4:Option Sl}{z v:List Pt}{b u:List D}(hsz:(jA es st g).length<=1000)(R:kc m)(I:CF m z b)(S:ks=z++v)(ev:vs=b++u)(h9:u.length=v.length)(F:x∈z)(hb:x≠KA)(i:LC es st g m r x z)
  (k:∀h y n l p A,CF m h y->ks=h++n->vs=y++l->l.length=n.length->h.length<z.length->p∈h->LC es st g m A p h->Z.nx (kR A (nC ks vs) last p (bD (pr p)))) :
  pF Ψ dE Z (kR r (nC ks vs) last x o4):=by
 obtain⟨h,y,p,j,e,J,Q,w,B,X,G⟩:=I.find F hb;have M:=I.len;have L:=J.len;have H:e.length=j.length:=by rw[X,G,QI,QI,QM,QM]at M;omega
 have s:ks=h++x::(j++v):=by rw[S,X,Qv];rfl
 have o:vs=y++pr p::(e++u):=by rw[ev,G,Qv];rfl
 obtain⟨W,K⟩:=Ga R i F hb w B λq P=>by rw[X];exact Qe _ P
 have a:=i.adjw W;have C:=EQ a;have O:Key r p:=by rw[zB,i.keys];exact gB a
 have N:Key r x:=by rw[zB,i.keys];exact gB (XB a)
 have E:=i.toBase.inn;have Y:pF Ψ %[.set 3 (.xz 4)|2] Z (kR (pY r p x) (nC ks vs) last x (bD (pr p))):=by have:=k h y (x::(j++v)) (pr p::(e++u)) p (pY r p x) J s o (by rw[QM,QM,QI,QI];omega) (by rw[X,QI,QM];omega) Q K;unfold kR at this;delta kR;simp_arith[↓zA];exact this
 have f:pF Ψ %[.six (.idx (.xz 0) (.xz 4)) (.xz 3) (.bin .Sub (.idx (.idx (.xz 0) (.xz 4)) (.xz 3)) (.int 1)),.six (.idx (.xz 0) (.xz 3)) (.xz 4) (.bin .Add (.idx (.idx (.xz 0) (.xz 3)) (.xz 4)) (.int 1)),.set 3 (.xz 4)|2] Z (kR r (nC ks vs) last x (bD (pr p))):=by have i1:=E p;have i2:=E x;refine Nr O ((i.adj _ _).mpr a) (by omega) (Mr ?_ ?_ ?_ Y);exact BI.mpr (.inr N);show jI _ x p;have:=(i.adj x p).mpr (XB a);unfold jI at this ⊢;rw[xE,if_neg C];exact this;rw[xE,if_neg C];omega
 unfold kR at f;delta kR;delta dE;simp_arith[↓zA];rw[s,o]at f ⊢;refine Pk L (by rw[QI,QI];omega) B ?_;simp_arith[↓zA];exact f
end
section
variable{es:uC}{st c:LS}{g a f:Str}{ks:List Pt}{vs:List D}{K:T->LT->Prop}{E:XE}{Ψ:PEv}{W:LT->Prop}{n m:Bool}{ρ:kA}{R:T->Prop}{r:Rm}{Z:PEnds}{L:Bool->Prop}{Q:T->Bool->Prop}{i:Nat}{cs:List (LS)}
noncomputable def YJ:PSp where
 md:=[.chg]
 run:=λu Q _=>∃(es:uC) (st:LS) (g:Str) (x:Rm) (ks:List Pt) (vs:List D),u=[UA x,.d (.dict (nC ks vs)),.d (pr (tO g))]/\((jA es st g).length<=1000/\YG es st/\Flow es st g x/\CF x ks vs/\tO g∈ks)/\∀y,Flow es st g y->out es st g y KA=out es st g x KA+1->Q (.d .none) [UA y]
 mono:=λh _ z=>by obtain⟨es,st,g,x,ks,vs,e,l,q⟩:=z;exact⟨es,st,g,x,ks,vs,e,l,λy a b=>h _ _ (q y a b)⟩
theorem M8{h:Rm}(w:(jA es st g).length<=1000)(v:YG es st)(u:Flow es st g h)(z:CF h ks vs)(y:tO g∈ks)(q:∀x,Flow es st g x->out es st g x KA=out es st g h KA+1->K (.d .none) [UA x]):UB YJ [UA h,.d (.dict (nC ks vs)),.d (pr (tO g))] K E:=⟨es,st,g,h,ks,vs,rfl,⟨w,v,u,z,y⟩,q⟩
theorem Kh(F:Ψ.va "BEGIN"=some (pr KA))(ds Q E)(h:YJ.run ds Q E):nH Ψ pG YJ GK tI ds Q:=by
 obtain⟨es,st,g,b,ks,vs,rfl,⟨P,O,fl,cf,M⟩,q⟩:=h;refine yK [oW (UA b),bD (.dict (nC ks vs)),bD (pr (tO g)),none,none] rfl rfl rfl ?_;delta pG;simp_arith[↓zA];refine zI (λm ρ=>∃r x y w v z o4,m=x.length/\CF b x y/\ks=x++w/\vs=y++v/\v.length=w.length/\z∈x/\LC es st g b r z x/\ρ=kR r (nC ks vs) (pr (tO g)) z o4) ks.length ⟨b,ks,vs,[],[],tO g,_,rfl,cf,by rw[qB],by rw[qB],rfl,M,i5 fl ks,rfl⟩ ?_;rintro m ρ ⟨r,x,y,w,v,z,o4,em,G,ek,ev,N,B,A,rfl⟩;have s:kE (pr z):=C5 O (by have:=mI fl.toBase.dom fl.toBase.bg (G.rch z B);rw[zB,fl.keys]at this;exact this);have X:kE (pr KA):=IC fO.1 fO.2;have u:∀L:Bool->Prop,L (!decide (z=KA))->rB .NotEq (.d (pr z)) (.d (pr KA)) L:=λL l=>by show kE (pr z)/\kE (pr KA)/\L (!PyData.eqv (pr z) (pr KA));rw[DQ];exact⟨s,X,l⟩
 by_cases e:z=KA;subst e;delta kR;simp_arith[↓tH F];refine u _ ?_;rw[dT rfl];obtain⟨H,S⟩:=Eh A;exact q r H S;have C:=λ(Z:PEnds) J=>Ca (Ψ:=Ψ) (Z:=Z) (last:=pr (tO g)) (o4:=o4) P fl.ndi G ek ev N B e A J;unfold kR at C;delta kR;simp_arith[↓tH F];refine u _ ?_;rw[dF e];refine C _ λk o Y j p I a1 a2 a3 a4 a5 a6 a7=>⟨k.length,by omega,I,k,o,Y,j,p,_,rfl,a1,a2,a3,a4,a6,a7,rfl⟩
theorem B0{l:Inn}:xL .val [(eD l,false)] W=W ((l.map λe=>pr e.1).map T.d):=JS _ _
theorem jg{kvs:List (D×D)}(h:jD kvs=some true):xL .val [(.d (.dict kvs),n)] W=W ((kvs.map (·.1)).map T.d):=by unfold xL dC;rw[rA];show LB .val [BB kvs] W=_;unfold BB;rw[h];exact JS _ _
theorem u7{a b h:PX}{t:Str}{x:T}{R:Option T->Prop}:mH Ψ E [] [t] (.nm 0) (.and a b) h ρ x R=UN Ψ (.and a b) E (some (.ky x)::lockA ρ) λk z=>if k=true then tB Ψ h E z λy n _=>YC y n (R (some y)) else R none:=rfl
theorem xR{p:Pt}:BA (.d (pr p)) n (.d (.int 0)) m R=R (.d (.str p.1)):=by delta pr;rw[o0,Kj,AB]
theorem Y0{p:Pt}:BA (.d (pr p)) n (.d (.int 1)) m R=R (.d (.str p.2)):=by delta pr;rw[o0,Ht,AB]
theorem Mc:(T.d (.tuple [.str a,.str "from"]))=.d (pr (fR a)):=rfl
theorem Y3:(T.d (.tuple [.str a,.str "to"]))=.d (pr (tO a)):=rfl
noncomputable def gD:PSp where
 md:=[.ky]
 run:=λx Q _=>∃(es:uC) (st:LS) (g:Str) (r:Rm) (n:Str),x=[UA r,.d (.str n)]/\((jA es st g).length<=1000/\Flow es st g r/\zU r n=1)/\∀m,Z7 r n m->Q (.d (.str m)) []
 mono:=λh _ z=>by obtain⟨es,st,g,r,n,e,l,q⟩:=z;exact⟨es,st,g,r,n,e,l,λm a=>h _ _ (q m a)⟩
theorem rU{n:Str}(y:(jA es st g).length<=1000)(x:Flow es st g r)(h:zU r n=1)(q:∀m,Z7 r n m->K (.d (.str m)) []):UB gD [UA r,.d (.str n)] K E:=⟨es,st,g,r,n,rfl,⟨y,x,h⟩,q⟩
theorem KY(ds Q E)(h:gD.run ds Q E):nH Ψ cE gD pH AF ds Q:=by
 obtain⟨es,st,g,r,n,rfl,⟨O,fl,C⟩,q⟩:=h;have N:=fl.toBase.inn (fR n);obtain⟨j,b⟩:=Ch fl C;have s:jI r (fR n) (tO j):=(fl.adj _ _).mpr (XB (fl.toBase.adjw b.2));have Y:Key r (fR n):=by rw[zB,fl.keys];exact gB ((fl.adj _ _).mp s)
 refine gA [some (.ky (UA r)),bD (.str n),none] rfl rfl rfl ?_;delta cE;simp_arith[Mc,↓IH];refine⟨by omega,OE Y ?_⟩;simp_arith[↓U7,↓B0];have I:((lk r (fR n)).map λe=>pr e.1).map T.d=((lk r (fR n)).map (·.1)).map λp=>T.d (pr p):=by rw[Qb,Qb];rfl
 rw[I];refine fA (λp=>T.d (pr p)) (λ(p:Pt)=>T.d (.str p.1)) (λp=>!decide (p.1=n)&&decide (0<rm r p (fR n))) ((lk r (fR n)).map (·.1)) [] _ (λx B R w=>?_) (by show 0+((lk r (fR n)).map (·.1)).length<=_;rw[QG];omega) ?_;obtain⟨e,F,G⟩:=QT.mp B;have J:jI r (fR n) x:=lB.mpr ⟨e.2,by rw[<- G];exact F⟩;have k:jI r x (fR n):=(fl.adj _ _).mpr (XB ((fl.adj _ _).mp J));have X:Key r x:=by rw[zB,fl.keys];exact gB ((fl.adj _ _).mp k)
 obtain⟨v,hv⟩:=k;have ev:rm r x (fR n)=v:=by unfold rm;rw[hv];rfl
 rw[ev]at w;simp_arith[↓u7,↓xR,↓IH];by_cases c:x.1=n;rw[dT c]at w ⊢;exact w;rw[dF c]at w ⊢;simp only[wH,↓reduceIte];refine OE X ?_;simp_arith[↓LX];refine gP hv ?_;simp_arith[↓xR];by_cases d:0<v;rw[dT d]at w ⊢;exact w;rw[dF d]at w ⊢;exact w;have l:tO j∈((lk r (fR n)).map (·.1)).filter λp=>!decide (p.1=n)&&decide (0<rm r p (fR n)):=by obtain⟨v,hv⟩:=s;refine QO.mpr ⟨QT.mpr ⟨_,RG hv,rfl⟩,?_⟩;rw[dF (show ¬ (tO j).1=n from λz=>b.1 z.symm),dT b.2];rfl
 cases o:((lk r (fR n)).map (·.1)).filter λp=>!decide (p.1=n)&&decide (0<rm r p (fR n)) with
 |nil=>rw[o]at l;exact(nomatch l)
 |cons y M =>
  have A:y∈((lk r (fR n)).map (·.1)).filter λp=>!decide (p.1=n)&&decide (0<rm r p (fR n)):=by rw[o];exact QD
  have u:=(QO.mp A).2;rw[Qa,Qy,decide_eq_false_iff_not,decide_eq_true_iff]at u;obtain⟨m,rfl⟩:=td fl.toBase ((fl.adj _ _).mpr (fl.toBase.adjw u.2));rw[Qh,lA (λp:Pt=>PyData.str p.1)];simp_arith[↓zA];rw[QV,Kj];simp_arith[↓zA];exact q m ⟨λz=>u.1 z.symm,u.2⟩
noncomputable def nE:PSp where
 md:=[.ky]
 run:=λx Q _=>∃(es:uC) (st:LS) (g:Str) (r:Rm) (f:Str),x=[UA r,.d (.str f),.d (.str g)]/\((jA es st g).length<=1000/\Flow es st g r/\NT r f)/\∀c,Run r g f c g->Q (.lst ((c.map PyData.str).map T.d)) []
 mono:=λh _ z=>by obtain⟨es,st,g,r,n,e,l,q⟩:=z;exact⟨es,st,g,r,n,e,l,λm a=>h _ _ (q m a)⟩
theorem dY(y:(jA es st g).length<=1000)(x:Flow es st g r)(h:NT r f)(q:∀c,Run r g f c g->K (.lst ((c.map PyData.str).map T.d)) []):UB nE [UA r,.d (.str f),.d (.str g)] K E:=⟨es,st,g,r,f,rfl,⟨y,x,h⟩,q⟩
theorem Cg(fl:Flow es st g r)(w:NT r f){n:Str}(h:Run r g f c n):(∀x∈c,tO x∈vs0 es st g)/\tO n∈vs0 es st g:=by
 induction h with
 |nil=>exact⟨λx y=>(nomatch y),(iI fl.toBase w).1⟩
 |go _ _ v u=>refine⟨λx y=>?_,(iI fl.toBase v.2).1⟩;rcases Qf.mp y with z|z;exact u.1 x z;rw[QJ.mp z];exact u.2
theorem tW(fl:Flow es st g r)(y:NT r f){n:Str}(h:Run r g f c n):c.length<=(jA es st g).length:=by
 have nd:=(h.nd fl y).1;have:=OG (ks:=c.map tO) (ns:=vs0 es st g) (WZ tO (λa b u z=>u (DB z)) nd) λp w=>by obtain⟨x,v,e⟩:=QT.mp w;rw[<- e];exact(Cg fl y h).1 x v
 unfold vs0 at this;rw[QG,QG]at this;exact this
def Ii(r:Rm)(f g:Str)(c:LS)(n:Str):kA:=[some (.ky (UA r)),bD (.str f),bD (.str g),oW (.lst ((c.map PyData.str).map T.d)),bD (.str n)]
theorem Hb(y:Ψ.sp "name_behind"=gD){n:Str}(x:(jA es st g).length<=1000)(fl:Flow es st g r)(h:zU r n=1)(hl:c.length<=1000)(k:∀m,Z7 r n m->Z.nx (Ii r f g (c++[n]) m)) :
  pF Ψ BD Z (Ii r f g c n):=by
 delta Ii at k ⊢;delta BD;simp_arith[↓IQ,↓cA (md:=[.ky]) y rfl rfl];refine⟨by rw[QG,QG];omega,rU x fl h λm nx=>?_⟩;have:=k m nx;rw[QR,QR]at this;simp_arith[↓zA];exact this
theorem K4(l:Ψ.sp "name_behind"=gD)(ds Q E)(h:nE.run ds Q E):nH Ψ JF nE nJ gH ds Q:=by
 obtain⟨es,st,g,r,f,rfl,⟨j,fl,u⟩,q⟩:=h;have v:sizeLine=16777216:=Q7;refine gA [some (.ky (UA r)),bD (.str f),bD (.str g),none,none] rfl rfl rfl ?_;delta JF
 simp_arith[↓zA];refine⟨Qt _,zI (λm ρ=>∃c n,m+c.length=1001/\Run r g f c n/\ρ=Ii r f g c n) 1001 ⟨[],f,rfl,.nil,rfl⟩ ?_⟩;rintro m ρ ⟨c,n,o,y,rfl⟩;have hl:=tW fl u y;by_cases e:n=g;subst e;delta Ii;simp_arith[↓zA];exact q c y;have w:=λ(Z:PEnds) v=>Hb (Ψ:=Ψ) (Z:=Z) (f:=f) (g:=g) (c:=c) l j fl (y.thr1 fl u e) (by omega) v;unfold Ii at w;delta Ii;simp_arith[↓zA];rw[dF e];refine w _ λb k=>?_;have x:=y.go e k;have z:=tW fl u x;rw[QI,qE]at z;exact⟨m - 1,by omega,c++[n],b,by rw[QI,qE];omega,x,rfl⟩
theorem bj{q:Pt}(hv:vs.length=ks.length)(hb:KA∈ks):rB .NotIn (.d (pr q)) (.d (.dict (nC ks vs))) L=L (!decide (q∈ks)):=by show(∃b,jD (nC ks vs)=some b/\GD b (pr q)/\L (!(bA ((nC ks vs).map (·.1)) (pr q)).isSome))=_;rw[jJ hv hb,dL hv,RI];exact propext ⟨λ⟨_,_,_,h⟩=>h,λh=>⟨true,rfl,EB q,h⟩⟩
theorem re{q:Pt}(hv:vs.length=ks.length)(hb:KA∈ks):rB .In (.d (pr q)) (.d (.dict (nC ks vs))) L=L (decide (q∈ks)):=by show(∃b,jD (nC ks vs)=some b/\GD b (pr q)/\L (bA ((nC ks vs).map (·.1)) (pr q)).isSome)=_;rw[jJ hv hb,dL hv,RI];exact propext ⟨λ⟨_,_,_,h⟩=>h,λh=>⟨true,rfl,EB q,h⟩⟩
theorem jn{x:LS}(y:x.length<64)(q:∀h:LS,h.Perm x->sortedS h=true->Q (.lst ((h.map PyData.str).map T.d)) true):jO .sorted [(.lst ((x.map PyData.str).map T.d),n)] Q:=by unfold jO dC;rw[xG];exact .inl ⟨_,x,rfl,VA _,y,q⟩
theorem yn{ls:List (LS)}(x:ls.length<64)(q:∀h:List (LS),h.Perm ls->Q (.lst ((h.map EC).map T.d)) true):jO .sorted [(.d (.list (ls.map EC)),n)] Q:=by unfold jO dC;rw[rA];exact .inr (.inl ⟨_,ls,rfl,VA _,x,q⟩)
def PK(ks:List Pt):LS:=(ks.filter (mG ks)).map λp=>p.1
noncomputable def dI:PSp where
 md:=[]
 run:=λx Q _=>∃(ks:List Pt) (vs:List D),x=[.d (.dict (nC ks vs))]/\(vs.length=ks.length/\KA∈ks/\ks.length<=1000/\(ks.filter (mG ks)).length<64)/\∀cut:LS,cut.Perm (PK ks)->sortedS cut=true->Q (.lst ((cut.map PyData.str).map T.d)) []
 mono:=λh _ z=>by obtain⟨ks,vs,e,l,q⟩:=z;exact⟨ks,vs,e,l,λm a b=>h _ _ (q m a b)⟩
theorem U2(z:vs.length=ks.length)(y:KA∈ks)(x:ks.length<=1000)(h:(ks.filter (mG ks)).length<64)(q:∀cut:LS,cut.Perm (PK ks)->sortedS cut=true->K (.lst ((cut.map PyData.str).map T.d)) []):UB dI [.d (.dict (nC ks vs))] K E:=⟨ks,vs,rfl,⟨z,y,x,h⟩,q⟩
theorem S9(ds Q E)(h:dI.run ds Q E):nH Ψ iF dI mJ fH ds Q:=by obtain⟨ks,vs,rfl,⟨hv,hb,b,w⟩,q⟩:=h;refine gA [bD (.dict (nC ks vs))] rfl rfl rfl ?_;delta iF;simp_arith[↓jg (jJ hv hb),dL hv];rw[<- lA];refine fA (λp=>T.d (pr p)) (λ(p:Pt)=>T.d (.str p.1)) (mG ks) ks [] _ (λx k R y=>?_) (by show 0+ks.length<=_;omega) ?_;have y:R (if(decide (x.2="to")&&!decide (fR x.1∈ks))=true then some (T.d (.str x.1)) else none):=y;simp_arith[↓u7,↓xR,↓Y0,Mc,↓bj hv hb];by_cases c:x.2="to";rw[dT c]at y ⊢;refine⟨by omega,?_⟩;by_cases d:fR x.1∈ks;rw[dT d]at y ⊢;exact y;rw[dF d]at y ⊢;exact y;rw[dF c]at y ⊢;exact y;rw[Qh,lA (λp:Pt=>PyData.str p.1),show((ks.filter (mG ks)).map λp=>PyData.str p.1)=(PK ks).map PyData.str by unfold PK;rw[Qb];rfl];refine jn (by unfold PK;rw[QG];exact w) λz v u=>?_;simp_arith[↓zA];exact q z v u
theorem fZ(f:Flow es st g r):(((lk r KA).map (·.1)).filter λy=>decide (0<rm r y KA)).length<=st.length:=by
 have u:∀y∈((lk r KA).map (·.1)).filter (λy=>decide (0<rm r y KA)),y=tO y.1/\NT r y.1:=λy x=>by have h:=of_decide_eq_true (QO.mp x).2;obtain⟨n,rfl⟩:=A4 f.toBase ((f.adj _ _).mpr (f.toBase.adjw h));exact⟨rfl,h⟩
 have nd:(((lk r KA).map (·.1)).filter λy=>decide (0<rm r y KA)).Nodup:=(f.ndi KA).sublist qA;have:=vQ (ks:=(((lk r KA).map (·.1)).filter λy=>decide (0<rm r y KA)).map (·.1)) (ns:=st) (by
  refine WZ _ (λa b h=>h) (wW (λ{a b} k hb v z=>?_) nd);exact v (by rw[(u a k).1,(u b hb).1,z])) λs w=>by
  obtain⟨y,x,e⟩:=QT.mp w;rw[<- e];exact(EJ f.toBase (u y x).2).1
 rw[QG]at this;exact this
theorem LO{α v:Type}{body:T->(Option T->Prop)->Prop}(P:α->v->Prop)(g:α->T)(f:v->T):∀(l:List α) (h:LT) (Q:LT->Prop),(∀x∈l,∀R:Option T->Prop,(∀y,P x y->R (some (f y)))->body (g x) R)->h.length+l.length<=sizeLine->(∀u,Paired P l u->Q (h++u.map f))->JD body (l.map g) h Q
 |[],h,Q,_,hl,q=>by have:=q [] .nil;rw[wv,qB]at this;exact⟨by rw[wN]at hl;omega,this⟩|x::r,h,Q,hb,hl,q=>by
  rw[QM]at hl;refine hb x QD _ λy k=>⟨by omega,?_⟩
  refine LO P g f r _ Q (λz w=>hb z (QE _ w)) (by rw[QI,qE];omega) λu b=>?_;have:=q (y::u) (.cons k b);rw[QV]at this;rw[Qv];exact this
theorem Jf{r:PT}:ML Ψ E r Z i (z8 ks vs) true ρ=dB Ψ E r Z (ρ.set i (bD (.dict (nC ks vs)))):=by unfold ML;rw[yj];exact propext ⟨λh=>h.2,λh=>⟨rfl,h⟩⟩
def Xo(c:LS):T:=.lst ((c.map PyData.str).map T.d)
theorem Ei(cs:List (LS)):ersT (cs.map Xo)=cs.map EC:=by rw[BQ,Qb];congr 1;funext c;show PyData.list (ersT ((c.map PyData.str).map T.d))=_;rw[pB];rfl
theorem ou{r:PT}:ML Ψ E r Z i (.lst (cs.map Xo)) true ρ=dB Ψ E r Z (ρ.set i (bD (.list (cs.map EC)))):=by
 have e:(T.lst (cs.map Xo)).er=.list (cs.map EC):=by show PyData.list (ersT (cs.map Xo))=_;rw[Ei]
 unfold ML;rw[e];exact propext ⟨λh=>h.2,λh=>⟨rfl,h⟩⟩
theorem on{a b:LT}:UF [.lst a,.lst b]=.tup [.lst a,.lst b]:=rfl
theorem bK:∀{cs:List (LS)},sJ cs↔cs.Pairwise λc d=>∀x∈c,x∉d
 |[]=>⟨λ_=>.nil,λ_=>trivial⟩|c::cs=>by rw[List.pairwise_cons,<- bK];exact wo
theorem TV{ds:List (LS)}(h:ds.Perm cs)(a:sJ cs):sJ ds:=bK.mpr ((h.pairwise_iff (λ{a b} z x u y=>z x y u)).mpr (bK.mp a))
structure Good(es:uC)(st:LS)(g:Str)(cs:List (LS))(cut:LS):Prop where
 chn:∀c∈cs,Chn es st g c g/\c.Nodup/\∀x∈c,x≠g
 apart:sJ cs
 len:cs.length=cut.length
 few:cut.length<=11
 nd:cut.Nodup
 srt:sortedS cut=true
 ng:g∉cut
 led:¬ ∃a,(a,g)∈es/\Led es st g cut a
 okn:∀s∈cut,qq s=true
end
section
variable{es:uC}{st:LS}{g:Str}{r:Rm}
theorem OL(f:Flow es st g r):∀{fs:LS}{cs:List (LS)},fs.Nodup->(∀s∈fs,NT r s)->Paired (λs c=>Run r g s c g) fs cs->sJ cs/\(∀c∈cs,∃s∈fs,Run r g s c g)
 |_,_,_,_,.nil=>⟨trivial,λ_ h=>(nomatch h)⟩
 |s::fs,c::cs,nd,hf,.cons h t=>by
  obtain⟨b,a⟩:=Qi.mp nd;obtain⟨l,k⟩:=OL f a (λs j=>hf s (QE _ j)) t;refine⟨⟨λd w x i e=>?_,l⟩,λd w=>?_⟩;obtain⟨u,y,v⟩:=k d w;have:=Run.apart f (hf s QD) (hf u (QE _ y)) h v x i e;exact b (this▸y);rcases QL.mp w with z|z
  ·rw[z];exact⟨s,QD,h⟩
  obtain⟨u,y,v⟩:=k d z;exact⟨u,QE _ y,v⟩
def bq(r:Rm):List Pt:=((lk r KA).map λe=>e.1).filter λy=>decide (0<rm r y KA)
def pV(r:Rm):LS:=(bq r).map λp=>p.1
theorem x6(f:Flow es st g r):∀y∈bq r,y=tO y.1/\NT r y.1:=λy x=>by have h:=of_decide_eq_true (QO.mp x).2;obtain⟨n,rfl⟩:=A4 f.toBase ((f.adj _ _).mpr (f.toBase.adjw h));exact⟨rfl,h⟩
theorem xo(f:Flow es st g r):(pV r).Nodup:=by have nd:(bq r).Nodup:=(f.ndi KA).sublist qA;refine WZ _ (λa b h=>h) (wW (λ{a b} y hb x z=>?_) nd);exact x (by rw[(x6 f a y).1,(x6 f b hb).1,z])
theorem oV(f:Flow es st g r):∀s∈pV r,NT r s:=λs x=>by obtain⟨y,h,e⟩:=QT.mp x;rw[<- e];exact(x6 f y h).2
theorem IJ(f:Flow es st g r):out es st g r KA=(pV r).length/\(pV r).length<=st.length:=by have x:=cb f;have h:=fZ f;unfold pV;rw[QG];exact⟨x,h⟩
theorem lM{α x:Type}{P:α->x->Prop}{l:List α}{m:List x}(h:Paired P l m):l.length=m.length:=qH h
theorem jb(f:Flow es st g r)(C:YG es st)(F:st.length<=11){ks:List Pt}{vs:List D}(W:CF r ks vs)(hk:∀p,p∈ks↔Rch r p)(q:tO g∉ks){cs ds:List (LS)}(Y:Paired (λs c=>Run r g s c g) (pV r) cs)(j:ds.Perm cs){cut:LS}(w:cut.Perm (PK ks))(sc:sortedS cut=true):Good es st g ds cut:=by
 obtain⟨J,I⟩:=OL f (xo f) (oV f) Y;obtain⟨P,O⟩:=IJ f;have N:=ES f W.nd hk q;have M:(PK ks).length=(ks.filter (mG ks)).length:=by unfold PK;rw[QG]
 have L:=lM Y;have u:∀s,s∈PK ks↔tO s∈ks/\fR s∉ks:=λs=>by unfold PK;rw[QT];constructor;rintro⟨y,B,e⟩;obtain⟨v,x⟩:=QO.mp B;obtain⟨n,X,k⟩:=PD.mp x;subst X;have e:n=s:=e;subst e;exact⟨v,k⟩;rintro⟨v,x⟩;exact⟨tO s,QO.mpr ⟨v,PD.mpr ⟨s,rfl,x⟩⟩,rfl⟩
 have l:(PK ks).Nodup:=by unfold PK;refine WZ _ (λa b h=>h) (wW (λ{a b} E hb A z=>?_) (W.nd.sublist (qA (p:=mG ks))));obtain⟨n,G,_⟩:=PD.mp (QO.mp E).2;obtain⟨m,X,_⟩:=PD.mp (QO.mp hb).2;subst G X;have z:n=m:=z;exact A (by rw[z])
 have K:=w.length_eq;refine⟨λc hc=>?_,TV j J,by rw[j.length_eq,K];omega,by omega,w.nodup_iff.mpr l,sc,λz=>q ((u g).mp (w.mem_iff.mp z)).1,?_,λs o=>?_⟩;obtain⟨s,o,i⟩:=I c (j.mem_iff.mp hc);have Z:=oV f s o;exact⟨i.chn f Z,(i.nd f Z).1,i.ng⟩;exact Cb f hk q λn v x=>w.mem_iff.mpr ((u n).mpr ⟨v,x⟩);have v:=((u s).mp (w.mem_iff.mp o)).1;have x:=zB.mp (mI f.toBase.dom f.toBase.bg ((hk _).mp v));rw[f.keys]at x;have k:=(C5 C x).1;simp only[pr,tO,QAN,qh,Qa]at k;exact k.1
end
def SQ(es:uC)(st:LS)(g:Str)(r:Rm)(h:List (D×D))(o5 o6:Option Sl):kA:=[bD (.list (es.map pr)),bD (.tuple (st.map PyData.str)),bD (.str g),oW (UA r),bD (.dict h),o5,o6]
section
variable{Ψ:PEv}{Z:PEnds}{es:uC}{st:LS}{g:Str}{r:Rm}
section
variable{q:PT}{h:List (D×D)}{o6:Option Sl}
theorem At(u:Ψ.sp "rooms_of"=lE)(z:Ψ.sp "points_reached"=pD)(y:es.length<=126)(x:st.length<=11)(k:∀ks vs,CF (jA es st g) ks vs->(∀p,p∈ks↔Rch (jA es st g) p)->pF Ψ q Z (SQ es st g (jA es st g) (nC ks vs) none none)) :
  pF Ψ (.seq (.own 3 (.call "rooms_of" %[.xz 0,.xz 1,.xz 2|1])) (.seq (.set 4 (.call "points_reached" %[.xz 3|1])) q)) Z [bD (.list (es.map pr)),bD (.tuple (st.map PyData.str)),bD (.str g),none,none,none,none]:=by
 have ok:=OR (g:=g) y x;delta SQ at k;simp_arith[↓cA (md:=[]) u rfl rfl,↓cA (md:=[.ky]) z rfl rfl];refine uY y x ?_;simp_arith[↓IQ,↓cA (md:=[.ky]) z rfl rfl];refine oO (.inl rfl) ok.dom ok.bg ok.sz.1 λks vs hc hk=>?_;simp_arith[↓Jf];exact k ks vs hc hk
theorem Tt(w:Ψ.sp "points_reached"=pD)(i:Ψ.sp "lay_chain"=YJ){ks:List Pt}{vs:List D}(v:(jA es st g).length<=1000)(a:YG es st)(f:Flow es st g r)(j:CF r ks vs)(b:tO g∈ks)
  (k:∀z x y,Flow es st g z->out es st g z KA=out es st g r KA+1->CF z x y->(∀p,p∈x↔Rch z p)->Z.nx (SQ es st g z (nC x y) none none)) :
  pF Ψ VC Z (SQ es st g r (nC ks vs) none none):=by
 delta SQ at k ⊢;delta VC;simp_arith[Y3,↓jH (md:=[]) i rfl rfl,↓cA (md:=[.ky]) w rfl rfl];refine⟨by omega,M8 v a f j b λz u e=>⟨_,rfl,?_⟩⟩;simp_arith[↓IQ,↓cA (md:=[.ky]) w rfl rfl];refine oO (.inl rfl) u.toBase.dom u.toBase.bg (by rw[u.toBase.len];exact v) λx y hc hk=>?_;simp_arith[↓Jf];exact k z x y u e hc hk
theorem Ot(w:Ψ.va "BEGIN"=some (pr KA)){o5:Option Sl}(o:(jA es st g).length<=1000)(f:Flow es st g r)(k:pF Ψ q Z (SQ es st g r h (bD (.list ((pV r).map PyData.str))) o6)) :
  pF Ψ (.seq (.set 5 (.comp [] ["point"] (.nm 0) .val %[.idx (.xz 3) (.glo "BEGIN")|1] (.cmp .Gt (.idx (.idx (.xz 4) (.xz 0)) (.glo "BEGIN")) (.int 0)) (.idx (.xz 0) (.int 0)))) q) Z (SQ es st g r h o5 o6):=by
 have s:=f.toBase.inn KA;delta SQ at k ⊢;simp_arith[↓IH,↓tH w];refine OE f.toBase.bg ?_;simp_arith[↓U7,↓B0];have m:((lk r KA).map λe=>pr e.1).map T.d=((lk r KA).map λe=>e.1).map λp=>T.d (pr p):=by rw[Qb,Qb];rfl
 rw[m];refine fA (λp=>T.d (pr p)) (λ(p:Pt)=>T.d (.str p.1)) (λy=>decide (0<rm r y KA)) ((lk r KA).map λe=>e.1) [] _ (λx b R z=>?_) (by show 0+((lk r KA).map λe=>e.1).length<=_;rw[QG];omega) ?_;obtain⟨e,i,j⟩:=QT.mp b;have n:jI r KA x:=lB.mpr ⟨e.2,by rw[<- j];exact i⟩;have u:jI r x KA:=(f.adj _ _).mpr (XB ((f.adj _ _).mp n));have a:Key r x:=by rw[zB,f.keys];exact gB ((f.adj _ _).mp u)
 obtain⟨v,hv⟩:=u;have ev:rm r x KA=v:=by unfold rm;rw[hv];rfl
 rw[ev]at z;simp_arith[↓IH,↓tH w];refine OE a ?_;simp_arith[↓LX,↓tH w];refine gP hv ?_;simp_arith[↓xR];by_cases d:0<v;rw[dT d]at z ⊢;exact z;rw[dF d]at z ⊢;exact z;rw[Qh,lA (λp:Pt=>PyData.str p.1)];have l:((((lk r KA).map λe=>e.1).filter λy=>decide (0<rm r y KA)).map λp=>PyData.str p.1)=(pV r).map PyData.str:=by unfold pV bq;rw[Qb];rfl
 rw[l];simp_arith[↓zA];exact k
theorem Nt(a:Ψ.sp "chain_from"=nE)(u:(jA es st g).length<=1000)(b:st.length<=11)(f:Flow es st g r)(k:∀cs,Paired (λs c=>Run r g s c g) (pV r) cs->pF Ψ q Z (SQ es st g r h (bD (.list ((pV r).map PyData.str))) (bD (.list (cs.map EC))))) :
  pF Ψ (.seq (.set 6 (.comp [] ["first"] (.nm 0) .val %[.xz 5|1] .nop (.call "chain_from" %[.xz 4,.xz 0,.xz 3|1]))) q) Z (SQ es st g r h (bD (.list ((pV r).map PyData.str))) o6):=by
 have hl:=(IJ f).2;delta SQ at k ⊢;simp_arith[↓zA];rw[<- lA PyData.str (pV r)];refine LO (λs c=>Run r g s c g) (λs=>T.d (.str s)) Xo (pV r) [] _ (λx z R w=>?_) (by show 0+(pV r).length<=_;omega) λcs v=>?_;simp_arith[↓IQ,↓cA (md:=[.ky]) a rfl rfl];refine dY u f (oV f x z) λc y=>?_;simp_arith[↓zA];exact w c y;rw[Qh];simp_arith[↓ou];exact k cs v
end
end
section
variable{es v:uC}{g x:Str}{F sr u:LS}{n:Int}
noncomputable def RF:PSp where
 md:=[]
 run:=λw Q _=>∃(es:uC) (st:LS) (g:Str),w=[.d (.list (es.map pr)),.d (.tuple (st.map PyData.str)),.d (.str g)]/\(es.length<=126/\st.length<=11/\YG es st)/\∀y cut,Good es st g y cut->Q (.tup [.lst ((y.map EC).map T.d),.lst ((cut.map PyData.str).map T.d)]) []
 mono:=λh _ z=>by obtain⟨es,st,g,e,l,q⟩:=z;exact⟨es,st,g,e,l,λy cut a=>h _ _ (q y cut a)⟩
theorem fY{st:LS}{K:T->LT->Prop}{E:XE}(z:es.length<=126)(y:st.length<=11)(h:YG es st)(q:∀cs cut,Good es st g cs cut->K (.tup [.lst ((cs.map EC).map T.d),.lst ((cut.map PyData.str).map T.d)]) []):UB RF [.d (.list (es.map pr)),.d (.tuple (st.map PyData.str)),.d (.str g)] K E:=⟨es,st,g,rfl,⟨z,y,h⟩,q⟩
theorem V4{Ψ:PEv}(S:Ψ.sp "rooms_of"=lE)(G:Ψ.sp "points_reached"=pD)(R:Ψ.sp "lay_chain"=YJ)(P:Ψ.sp "chain_from"=nE)(C:Ψ.sp "full_names"=dI)(O:Ψ.va "BEGIN"=some (pr KA))(ds Q E)(h:RF.run ds Q E):nH Ψ JG RF VG VF ds Q:=by
 obtain⟨es,st,g,rfl,⟨W,i,B⟩,q⟩:=h;have K:sizeLine=16777216:=Q7;have j:(jA es st g).length<=1000:=(OR (g:=g) W i).sz.1;refine gA [bD (.list (es.map pr)),bD (.tuple (st.map PyData.str)),bD (.str g),none,none,none,none] rfl rfl rfl ?_;refine At S G W i λo w H M=>?_;have b0:=IJ (Od (es:=es) (st:=st) (g:=g));delta SQ;simp_arith[↓zA];refine zI (λm Y=>∃r z b,(m:Int)+out es st g r KA=12/\Flow es st g r/\CF r z b/\(∀p,p∈z↔Rch r p)/\Y=SQ es st g r (nC z b) none none) (12 - out es st g (jA es st g) KA).toNat ⟨jA es st g,o,w,by omega,Od,H,M,rfl⟩ ?_;rintro m Y ⟨r,z,b,em,f,y,hk,rfl⟩;have bd:=IJ f;by_cases a:tO g∈z;have k:=λ(Z:PEnds) K=>Tt (Ψ:=Ψ) (Z:=Z) G R j B f y a K;unfold SQ at k;delta SQ;simp_arith[Y3,↓re y.len y.hb];refine⟨by omega,?_⟩;rw[dT a];refine k _ λI s l X e c' N=>⟨m - 1,?_,I,s,l,?_,X,c',N,rfl⟩
 have:=IJ X;omega;have:=IJ X;omega;have A:pF Ψ %[.set 5 (.comp [] ["point"] (.nm 0) .val %[.idx (.xz 3) (.glo "BEGIN")|1] (.cmp .Gt (.idx (.idx (.xz 4) (.xz 0)) (.glo "BEGIN")) (.int 0)) (.idx (.xz 0) (.int 0))),.set 6 (.comp [] ["first"] (.nm 0) .val %[.xz 5|1] .nop (.call "chain_from" %[.xz 4,.xz 0,.xz 3|1])),.ret (.tup %[.bi .sorted %[.xz 6|1],.call "full_names" %[.xz 4|1]|1])|2] (eZ Q) (SQ es st g r (nC z b) none none):=by refine Ot O j f (Nt P j i f λcs k=>?_);have lc:=lM k;have l3:=ES f y.nd hk a;delta SQ;simp_arith[↓cA (md:=[]) C rfl rfl];refine yn (by omega) λds J=>?_;simp_arith[↓cA (md:=[]) C rfl rfl];refine U2 y.len y.hb (QX (y.le f.toBase.dom f.toBase.bg) (by rw[f.toBase.len];exact j)) (by omega) λcut L sc=>?_;simp_arith[on];exact⟨by omega,q ds cut (jb f B i y hk a k J L sc)⟩
 unfold SQ at A;delta SQ;simp_arith[Y3,↓re y.len y.hb];refine⟨by omega,?_⟩;rw[dF a];exact A
def RS(es:uC)(F:LS):uC:=es.filter λe=>decide (e.1∈F)
theorem YQ{e:Str×Str}:e∈RS es F↔e∈es/\e.1∈F:=by unfold RS;rw[QO,decide_eq_true_iff]
def jL(es:uC)(sr:LS)(x:Str)(F:LS)(n:Int):Prop:=∃h:List (LS),sJ h/\(∀c∈h,Chn (RS es F) sr x c x)/\n<=(h.length:Int)
theorem Chn.sub(w:∀e∈es,e∈v)(z:∀s∈sr,s∈u){c:LS}{n:Str}(h:Chn es sr g c n):Chn v u g c n:=by
 induction h with|st a b=>exact .st (z _ a) b|go _ b c y=>exact .go y b (w _ c)
theorem jL.sub{w:LS}{z:Int}(m:∀e∈es,e∈v)(j:∀s∈sr,s∈u)(i:∀y∈F,y∈w)(k:z<=n)(h:jL es sr x F n):jL v u x w z:=by obtain⟨q,a,c,l⟩:=h;refine⟨q,a,λd f=>Chn.sub (λe b=>?_) j (c d f),QAG k l⟩;obtain⟨p,o⟩:=YQ.mp b;exact YQ.mpr ⟨m e p,i _ o⟩
theorem m5{cs:List (LS)}{cut:LS}(h:Good (RS es F) sr x cs cut):jL es sr x F n↔n<=(cs.length:Int):=by constructor;rintro⟨y,a,c,l⟩;have:=rZ a c h.led;rw[<- h.len]at this;exact QAG l (QA3.mpr this);exact λl=>⟨cs,h.apart,λc hc=>(h.chn c hc).1,l⟩
inductive Held(es:uC)(sr:LS)(nd:List (Str×Int)):Str->Prop
 |see {x:Str}{n:Int}:(x,n)∈nd->x∈sr->Held es sr nd x
 |tell {x:Str}{n:Int}(F:LS):(x,n)∈nd->(∀y∈F,Held es sr nd y)->jL es sr x F n->Held es sr nd x
end
section
variable{es v:uC}{sr y:LS}{nd u:List (Str×Int)}
theorem y6{S:LS}(f:∀x∈S,Held es sr nd x)(e:∀x n,(x,n)∈nd->x∈sr->x∈S)(k:∀x n,(x,n)∈nd->x∉S->¬ jL es sr x S n)(x:Str):x∈S↔Held es sr nd x:=by
 refine⟨f x,λh=>?_⟩;induction h with|see a b=>exact e _ _ a b|@tell x n F a _ m w=>by_cases z:x∈S;exact z;exact absurd (m.sub (λ_ h=>h) (λ_ h=>h) w (QBN _)) (k x n a z)
theorem Held.sub(j:∀e∈es,e∈v)(g:∀s∈sr,s∈y)(f:∀x n,(x,n)∈nd->∃w,w<=n/\(x,w)∈u){x:Str}(h:Held es sr nd x):Held v y u x:=by
 induction h with|see a b=>obtain⟨w,_,m⟩:=f _ _ a;exact .see m (g _ b)|tell F a _ m i=>obtain⟨w,l,k⟩:=f _ _ a;exact .tell F k i (m.sub j g (λ_ z=>z) l)
theorem Ea{x:Str}(h:Held es sr nd x):∃n,(x,n)∈nd:=by
 cases h with|see a _=>exact⟨_,a⟩|tell _ a=>exact⟨_,a⟩
end
noncomputable def SE:PSp where
 md:=[.xx,.xx,.xy]
 run:=λv Q _=>∃(y:uC) (x F:LS) (g:Str),v=[.d (.tuple (y.map pr)),.d (.tuple (x.map PyData.str)),.lst ((F.map PyData.str).map T.d),.d (.str g)]/\(y.length<=126/\x.length<=11/\YG y x)/\∀u cut,Good (RS y F) x g u cut->Q (.tup [.lst ((u.map EC).map T.d),.lst ((cut.map PyData.str).map T.d)]) []
 mono:=λh _ z=>by obtain⟨y,x,F,g,e,l,q⟩:=z;exact⟨y,x,F,g,e,l,λu cut a=>h _ _ (q u cut a)⟩
theorem A1{es:uC}{sr F:LS}{g:Str}{K:T->LT->Prop}{E:XE}(y:es.length<=126)(x:sr.length<=11)(h:YG es sr)(q:∀cs cut,Good (RS es F) sr g cs cut->K (.tup [.lst ((cs.map EC).map T.d),.lst ((cut.map PyData.str).map T.d)]) []):UB SE [.d (.tuple (es.map pr)),.d (.tuple (sr.map PyData.str)),.lst ((F.map PyData.str).map T.d),.d (.str g)] K E:=⟨es,sr,F,g,rfl,⟨y,x,h⟩,q⟩
theorem G9{Ψ:PEv}(k:Ψ.sp "apart_chains"=RF)(ds Q E)(h:SE.run ds Q E):nH Ψ YD SE ZG ZF ds Q:=by
 obtain⟨y,v,F,g,rfl,⟨f,b,w⟩,q⟩:=h;have a:(RS y F).length<=126:=QX (Q1 _ _) f;have u:YG (RS y F) v:=⟨w.1,λe i=>w.2 e (YQ.mp i).1⟩
 refine gA [bD (.tuple (y.map pr)),bD (.tuple (v.map PyData.str)),some (.ky (.lst ((F.map PyData.str).map T.d))),bD (.str g)] rfl rfl rfl ?_;delta YD;simp_arith[↓cA (md:=[]) k rfl rfl];rw[<- lA pr y];refine fA (λp=>T.d (pr p)) (λ(p:Str×Str)=>T.d (pr p)) (λp=>decide (p.1∈F)) y [] _ (λx m R z=>?_) (by show 0+y.length<=_;omega) ?_;simp_arith[↓xR,gL,OI,iB,true_or];by_cases d:x.1∈F;rw[dT d]at z ⊢;exact z;rw[dF d]at z ⊢;exact z;rw[Qh,lA pr];simp_arith[↓cA (md:=[]) k rfl rfl];refine fY a b u λl cut j=>?_;simp_arith[↓zA];exact q l cut j
section
variable{Ψ:PEv}{E:XE}{ρ:kA}{K:TK}{a b c h:PX}{ds:List D}{n m:Bool}{L:Bool->Prop}
def El(x:T)(n:Bool)(Ψ:PEv)(b:PX)(E:XE)(ρ:kA)(K:TK):Prop:=sq (α:=Option Int) (pA x n) ρ (λρ R=>(pe Ψ b E).e ρ λu _ y=>IF u.er λo=>R o y) λu y=>LL (pA x n).vw none u λz k=>K z k y
def fM(x:T)(Q:Option Int->Prop):Prop:=IF x.er Q
theorem j3{i:Int}{Q:Option Int->Prop}:fM (.d (.int i)) Q=Q (some i):=rfl
theorem rg{x:T}{R:Option Int->kA->Prop}:sq (α:=Option Int) x ρ (λρ (R:Option Int->kA->Prop)=>R none ρ) R=R none ρ:=by unfold sq;split<;>rfl
theorem Sj{j:Nat}:tB Ψ (.slc a .nop (.xz j)) E ρ K=tB Ψ a E ρ λx n v=>El x n Ψ (.xz j) E v K:=by show(pe Ψ a E).e ρ (λx n v=>sq (α:=Option Int) (pA x n) v (λρ (R:Option Int->kA->Prop)=>R none ρ) λl w=>sq (α:=Option Int) (pA x n) w (λρ R=>(pe Ψ (.xz j) E).e ρ λu _ y=>IF u.er λo=>R o y) λu y=>LL (pA x n).vw l u λz k=>K z k y)=_;simp only[rg];rfl
theorem iu{x:D}:El (.d x) n Ψ b E ρ K=tB Ψ b E ρ λu _ y=>fM u λo=>fI (.d x) n none o λz k=>K z k y:=by cases n<;>rfl
theorem Yb(a b:List D):(T.tup [.lst (a.map T.d),.lst (b.map T.d)]).er=.tuple [.list a,.list b]:=by show PyData.tuple [.list (ersT (a.map T.d)),.list (ersT (b.map T.d))]=_;rw[pB,pB]
theorem nq{a b:List D}{m:Bool}{t:T}{R:T->Prop}:BA (.tup [.lst (a.map T.d),.lst (b.map T.d)]) true t m R=BA (.d (.tuple [.list a,.list b])) false t m R:=by
 have e:pA (.tup [.lst (a.map T.d),.lst (b.map T.d)]) true=.d (.tuple [.list a,.list b]):=by show T.d (T.tup [.lst (a.map T.d),.lst (b.map T.d)]).er=_;rw[Yb]
 unfold BA;rw[e];rfl
end
section
variable{Ψ:PEv}{E:XE}{ρ:kA}{a c h:PX}{W:LT->Prop}{R:Option T->Prop}{C:LT->Prop}{xs:List (T×Bool)}{ds:List D}{n m:Bool}
section
variable{md:List Md}{ts:LT}{b:Bool}{t u:Str}
theorem zC{v:PX}{M:List (T×Bool)->kA->Prop}:dM Ψ (.ny a v) E (.xx::md) ρ M=tB Ψ a E ρ λx n z=>T7 x n Ψ v E md z λxs y=>M ((x,n)::xs) y:=rfl
theorem k8{d:D}:ZB (.xx::md) ((.d d,n)::xs) C=ZB md xs λts=>C (.d d::ts):=by
 have e:XA (.xx::md) ((.d d,n)::xs) []=(XA md xs []).map (.d d::·):=by cases n<;>rfl
 unfold ZB;rw[e,jG]
theorem Ek:xL .val [(.lst ts,false)] W=W ts:=by unfold xL dC;exact CI ts
theorem Ao{m:List Bool}{x y:D}{v:CmpOp}:mH Ψ E (b::m) [t,u] (.tp [0,1]) (.cmp v a c) h ρ (.d (.tuple [x,y])) R=UN Ψ (.cmp v a c) E (bD x::bD y::oC (b::m) (lockA ρ)) λk z=>if k=true then tB Ψ h E z λy n _=>YC y n (R (some y)) else R none:=AB
theorem ju{m:List Bool}{x y:T}:mH Ψ E (b::m) [t,u] (.tp [0,1]) .nop h ρ (.tup [x,y]) R=tB Ψ h E (some (.ky x)::some (.ky y)::oC (b::m) (lockA ρ)) λy n _=>YC y n (R (some y)):=AB
theorem Yw:ZM ((.lst [],true)::xs) C=ZM xs λts=>C (.lst []::ts):=lu (ds:=[])
theorem gn{d:D}:UF [.d d,.lst ts]=.tup [.d d,.lst ts]:=rfl
theorem Ho{i j:Int}{L:Bool->Prop}:rB .GtE (.d (.int i)) (.d (.int j)) L=L (decide (j<=i)):=rfl
end
end
noncomputable abbrev Rw:=Str×List (LS)
def BJ(r:Rw):T:=.tup [.d (.str r.1),.lst ((r.2.map EC).map T.d)]
def xQ(p:Str×Int):D:=.tuple [.str p.1,.int p.2]
noncomputable def dZ(es:uC)(sr:LS)(nd:List (Str×Int))(h:List Rw)(F:LS)(b:Bool)(o6 o7 o8:Option Sl):kA:=[bD (.tuple (es.map pr)),bD (.tuple (sr.map PyData.str)),bD (.list (nd.map xQ)),oW (.lst (h.map BJ)),oW (.lst ((F.map PyData.str).map T.d)),bD (.bool b),o6,o7,o8]
section
variable{Ψ:PEv}{Z:PEnds}{es:uC}{sr:LS}{nd:List (Str×Int)}{q:PT}
section
variable{o5 o6 o7 o8:Option Sl}{h:List Rw}
def ZR(sr:LS)(nd:List (Str×Int)):List Rw:=(nd.filter λp=>decide (p.1∈sr)).map λp=>(p.1,[])
theorem Cs(hl:nd.length<=100){o4:Option Sl}(k:pF Ψ q Z [bD (.tuple (es.map pr)),bD (.tuple (sr.map PyData.str)),bD (.list (nd.map xQ)),oW (.lst ((ZR sr nd).map BJ)),o4,o5,o6,o7,o8]) :
  pF Ψ (.seq (.own 3 (.comp [false,false,false,false,false,false,true,true] ["name","number"] (.tp [0,1]) .val %[.xz 2|1] (.cmp .In (.xz 0) (.xz 3)) (.tup %[.xz 0,.lst .nz|1]))) q) Z [bD (.tuple (es.map pr)),bD (.tuple (sr.map PyData.str)),bD (.list (nd.map xQ)),none,o4,o5,o6,o7,o8]:=by
 simp_arith[↓zA];rw[<- lA xQ nd];refine fA (λp=>T.d (xQ p)) (λ(p:Str×Int)=>BJ (p.1,[])) (λp=>decide (p.1∈sr)) nd [] _ (λx z R y=>?_) (by show 0+nd.length<=_;omega) ?_;obtain⟨x,n⟩:=x;delta xQ;simp_arith[↓Ao,gL,OI,iB,true_or];by_cases d:x∈sr;rw[dT d]at y ⊢;simp_arith[↓Yw,↓gn];exact⟨by omega,by omega,y⟩;rw[dF d]at y ⊢;exact y;rw[Qh];have e:(nd.filter λp=>decide (p.1∈sr)).map (λp=>BJ (p.1,[]))=(ZR sr nd).map BJ:=by unfold ZR;rw[Qb];rfl
 rw[e];exact k
theorem Bs(hl:h.length<=100)(k:pF Ψ q Z [bD (.tuple (es.map pr)),bD (.tuple (sr.map PyData.str)),bD (.list (nd.map xQ)),oW (.lst (h.map BJ)),oW (.lst (((h.map λr=>r.1).map PyData.str).map T.d)),o5,o6,o7,o8]) :
  pF Ψ (.seq (.own 4 (.comp [false,false,false,false,false,false,true,false,true] ["name","chains"] (.tp [0,1]) .val %[.xz 3|1] .nop (.xz 0))) q) Z [bD (.tuple (es.map pr)),bD (.tuple (sr.map PyData.str)),bD (.list (nd.map xQ)),oW (.lst (h.map BJ)),none,o5,o6,o7,o8]:=by
 simp_arith[↓Ek];refine JB BJ (λr=>T.d (.str r.1)) h [] _ (λx z R y=>?_) (by show 0+h.length<=_;omega) ?_;delta BJ;simp_arith[↓ju];exact y;rw[Qh,lA (λr:Rw=>PyData.str r.1)];have e:(h.map λr=>PyData.str r.1)=(h.map λr=>r.1).map PyData.str:=by rw[Qb];rfl
 rw[e];exact k
theorem Us(f:Ψ.sp "told_through"=SE){F:LS}{b:Bool}{x:Str}{n:Int}(a:es.length<=126)(k:sr.length<=11)(e:YG es sr)(j:h.length<=100)(i:F.length<=100)
  (w:x∈F->∀o8,Z.nx (dZ es sr nd h F b (bD (.str x)) (bD (.int n)) o8))
  (v:x∉F->¬ jL es sr x F n->∀o8,Z.nx (dZ es sr nd h F b (bD (.str x)) (bD (.int n)) o8))
  (u:x∉F->jL es sr x F n->∀cs o8,Z.nx (dZ es sr nd (h++[(x,cs)]) (F++[x]) true (bD (.str x)) (bD (.int n)) o8)) :
  pF Ψ KC Z (dZ es sr nd h F b (bD (.str x)) (bD (.int n)) o8):=by
 delta dZ at w v u ⊢;delta KC;simp_arith[gL,OI,iB,true_or];by_cases d:x∈F;rw[dT d];exact w d _;rw[dF d];simp_arith[↓zC,↓k8,↓cA (md:=[.xx,.xx,.xy]) f rfl rfl];refine A1 a k e λcs cut g=>?_;have y:=m5 (n:=n) g;simp_arith[↓nq,↓Kj,↓Ho,QG];by_cases c:n<=(cs.length:Int);rw[dT c];simp_arith[↓Sj,↓iu,↓j3,↓gn];rw[GQ];refine⟨by omega,by omega,by rw[QG,QG];omega,?_⟩;have:=u d (y.mpr c) (gF cs none (some n)) (bD (.list (cs.map EC)));rw[QR,QR,QR]at this;exact this;rw[dF c];exact v d (λz=>c (y.mp z)) _
end
end
structure GI(es:uC)(sr:LS)(nd:List (Str×Int))(rs:List Rw)(F:LS):Prop where
 e:F=rs.map λr=>r.1
 ndp:F.Nodup
 held:∀x∈F,Held es sr nd x
 see:∀x n,(x,n)∈nd->x∈sr->x∈F
 non:∀r∈rs,r.1∈sr->r.2=[]
section
variable{es:uC}{sr:LS}{nd:List (Str×Int)}{u:List Rw}{F:LS}
theorem GI.len(g:GI es sr nd u F):F.length<=nd.length:=by
 have:=vQ (ns:=nd.map λp=>p.1) g.ndp λs x=>by obtain⟨n,h⟩:=Ea (g.held s x);exact QT.mpr ⟨_,h,rfl⟩
 rw[QG]at this;exact this
theorem GI.rlen(g:GI es sr nd u F):u.length=F.length:=by rw[g.e,QG]
theorem Vs(h:(nd.map λp=>p.1).Nodup):GI es sr nd (ZR sr nd) ((ZR sr nd).map λr=>r.1):=by
 have e:((ZR sr nd).map λr=>r.1)=(nd.filter λp=>decide (p.1∈sr)).map λp=>p.1:=by unfold ZR;rw[Qb];rfl
 refine⟨rfl,?_,λx y=>?_,λx n y v=>?_,λr z _=>?_⟩;rw[e];exact h.sublist (qA.map _);rw[e]at y;obtain⟨p,w,rfl⟩:=QT.mp y;obtain⟨a,k⟩:=QO.mp w;exact .see (n:=p.2) a (of_decide_eq_true k);rw[e];exact QT.mpr ⟨(x,n),QO.mpr ⟨y,dT v⟩,rfl⟩;unfold ZR at z;obtain⟨p,_,rfl⟩:=QT.mp z;rfl
theorem GI.add(g:GI es sr nd u F){x:Str}{n:Int}(w:(x,n)∈nd)(f:x∉F)(m:jL es sr x F n)(cs:List (LS)):GI es sr nd (u++[(x,cs)]) (F++[x]):=by
 refine⟨by rw[QR,<- g.e];rfl,qV.mpr ⟨g.ndp,Qi.mpr ⟨λz=>(nomatch z),Q0⟩,λa j b hb e=>?_⟩,λy v=>?_,λy k v h=>Qe _ (g.see y k v h),λr i h=>?_⟩;rw[QJ.mp hb]at e;exact f (e▸j);rcases Qf.mp v with z|z
 ·exact g.held y z
 rw[QJ.mp z];exact .tell F w g.held m;rcases Qf.mp i with z|z
 ·exact g.non r z h
 rw[QJ.mp z]at h;exact absurd (g.see x n w h) f
end
noncomputable def SF:PSp where
 md:=[]
 run:=λw Q _=>∃(u:uC) (y:LS) (nd:List (Str×Int)),w=[.d (.tuple (u.map pr)),.d (.tuple (y.map PyData.str)),.d (.list (nd.map xQ))]/\(u.length<=126/\y.length<=11/\YG u y/\nd.length<=90/\(nd.map λp=>p.1).Nodup)/\∀v F,GI u y nd v F->(∀x,x∈F↔Held u y nd x)->Q (.lst (v.map BJ)) []
 mono:=λh _ z=>by obtain⟨u,y,nd,e,l,q⟩:=z;exact⟨u,y,nd,e,l,λv F a b=>h _ _ (q v F a b)⟩
theorem gY{es:uC}{sr:LS}{nd:List (Str×Int)}{K:T->LT->Prop}{E:XE}(l:es.length<=126/\sr.length<=11/\YG es sr/\nd.length<=90/\(nd.map λp=>p.1).Nodup)(q:∀h F,GI es sr nd h F->(∀x,x∈F↔Held es sr nd x)->K (.lst (h.map BJ)) []):UB SF [.d (.tuple (es.map pr)),.d (.tuple (sr.map PyData.str)),.d (.list (nd.map xQ))] K E:=⟨es,sr,nd,rfl,l,q⟩
section
variable{Ψ:PEv}{Z:PEnds}{es:uC}{sr:LS}{nd:List (Str×Int)}{u:List Rw}{F:LS}
theorem Xs(L:Ψ.sp "told_through"=SE)(G:es.length<=126)(E:sr.length<=11)(J:YG es sr)(O:nd.length<=90){b:Bool}{o6 o7 o8:Option Sl}(g:GI es sr nd u F)
  (k:∀v w a o6 o7 o8,GI es sr nd v w->F.length<=w.length->(a=true->F.length<w.length)->(a=false->∀x n,(x,n)∈nd->x∉w->¬ jL es sr x w n)->Z.nx (dZ es sr nd v w a o6 o7 o8)) :
  pF Ψ ZC Z (dZ es sr nd u F b o6 o7 o8):=by
 delta dZ;delta ZC;simp_arith[↓zA];rw[<- lA xQ nd];refine kB (λ(p:Str×Int)=>T.d (xQ p)) (λl r=>∃v w a o6 o7 o8,GI es sr nd v w/\(∀p∈l,p∈nd)/\F.length<=w.length/\(a=true->F.length<w.length)/\(a=false->∀x n,(x,n)∈nd->(x,n)∈l∨x∈w∨¬ jL es sr x w n)/\r=dZ es sr nd v w a o6 o7 o8) ?_ ?_ _ _ ⟨u,F,false,_,_,_,g,λ_ z=>z,QZ _,λz=>(nomatch z),λ_ x n h=>.inl h,rfl⟩;rintro r ⟨v,w,a,B,A,K,f,_,q,o,j,rfl⟩;exact k v w a _ _ _ f q o λhb x n Y i=>((j hb x n Y).resolve_left λz=>(nomatch z)).resolve_left i;rintro⟨x,n⟩ l r N W ⟨v,w,a,B,A,K,f,m,q,o,j,rfl⟩;have Y:=m _ QD;have s:∀p∈l,p∈nd:=λp I=>m p (QE _ I);have Q:=f.len;have P:=f.rlen;refine GF.mk rfl ?_;refine Us (x:=x) (n:=n) L G E J (by omega) (by omega) (λi o8=>W _ ⟨v,w,a,_,_,_,f,s,q,o,λhb y k X=>?_,rfl⟩) (λi nm o8=>W _ ⟨v,w,a,_,_,_,f,s,q,o,λhb y k X=>?_,rfl⟩) λi C M o8=>W _ ⟨_,_,true,_,_,_,f.add Y i C M,s,?_,λ_=>?_,λz=>(nomatch z),rfl⟩;rcases j hb y k X with z|z
 ·rcases QL.mp z with e|z
  ·cases e
   exact .inr (.inl i)
  exact .inl z
 exact .inr z;rcases j hb y k X with z|z
 ·rcases QL.mp z with e|z
  ·cases e
   exact .inr (.inr nm)
  exact .inl z
 exact .inr z;rw[QI,qE];omega;rw[QI,qE];omega
end
theorem X4{Ψ:PEv}(r:Ψ.sp "told_through"=SE)(ds Q E)(h:SF.run ds Q E):nH Ψ iG SF KG KF ds Q:=by
 obtain⟨es,sr,nd,rfl,⟨j,i,o,f,p⟩,q⟩:=h;refine gA [bD (.tuple (es.map pr)),bD (.tuple (sr.map PyData.str)),bD (.list (nd.map xQ)),none,none,none,none,none,none] rfl rfl rfl ?_;have g0:=Vs (es:=es) (sr:=sr) p;have A:=g0.len;have K:=g0.rlen;refine Cs (by omega) (Bs (by omega) ?_);simp_arith[↓zA];refine zI (λm v=>∃y F b o6 o7 o8,m=2 * (nd.length - F.length)+(if b=true then 1 else 0)/\GI es sr nd y F/\(b=false->∀x n,(x,n)∈nd->x∉F->¬ jL es sr x F n)/\v=dZ es sr nd y F b o6 o7 o8) _ ⟨_,_,true,none,none,none,rfl,g0,λz=>(nomatch z),rfl⟩ ?_;rintro m v ⟨y,F,b,o6,o7,o8,a,g,s,rfl⟩;cases b with
 |true =>
  have w:=λ(Z:PEnds) l=>Xs (Ψ:=Ψ) (Z:=Z) (b:=true) (o6:=o6) (o7:=o7) (o8:=o8) r j i o f g l;unfold dZ at w;delta dZ;simp_arith[↓zA];refine w _ λu W e o6 o7 o8 k B Y X=>⟨_,?_,u,W,e,o6,o7,o8,rfl,k,X,rfl⟩
  have:=k.len;cases e with|true=>have:=Y rfl;rw[a,if_pos rfl];omega|false=>rw[a,if_pos rfl,if_neg QF];omega
 |false=>delta dZ;simp_arith[↓zA];exact q y F g λx=>y6 g.held g.see (s rfl) x
def tJ(p:Str×Int×Int×Int):D:=.tuple [.str p.1,.int p.2.1,.int p.2.2.1,.int p.2.2.2]
inductive Evt where
 |see (t:Int) (p m w:Str)|tell (t:Int) (a b m w:Str) (by_:LS)
def DD:Evt->D
 | .see t p m w=>.tuple [.str "see",.int t,.str p,.str m,.str w]|.tell t a b m w q=>.tuple [.str "tell",.int t,.str a,.str b,.str m,.str w,.tuple (q.map PyData.str)]
structure Wd where
 ps:List (Str×Int×Int×Int)
 ms:LS
 ag:uC
 es:List Evt
def wD(w:Wd):D:=.tuple [.list (w.ps.map tJ),.list (w.ms.map PyData.str),.list (w.ag.map pr),.list (w.es.map DD)]
section
variable{w:Wd}{p:Str×Int×Int×Int}{n m:Bool}{R:T->Prop}
theorem GA{ds:List D}{i:Nat}{d:D}(h:ds[i]?=some d):BA (.d (.tuple ds)) n (.d (.int (i:Int))) m R=R (.d d):=by rw[o0,show gE ds (i:Int)=some d from YF h,AB]
theorem TZ:BA (.d (wD w)) n (.d (.int 0)) m R=R (.d (.list (w.ps.map tJ))):=GA (i:=0) rfl
theorem Of:BA (.d (wD w)) n (.d (.int 1)) m R=R (.d (.list (w.ms.map PyData.str))):=GA (i:=1) rfl
theorem mq:BA (.d (wD w)) n (.d (.int 2)) m R=R (.d (.list (w.ag.map pr))):=GA (i:=2) rfl
theorem fP:BA (.d (wD w)) n (.d (.int 3)) m R=R (.d (.list (w.es.map DD))):=GA (i:=3) rfl
theorem KN:BA (.d (tJ p)) n (.d (.int 0)) m R=R (.d (.str p.1)):=GA (i:=0) rfl
theorem iq:BA (.d (tJ p)) n (.d (.int 1)) m R=R (.d (.int p.2.1)):=GA (i:=1) rfl
theorem aq:BA (.d (tJ p)) n (.d (.int 2)) m R=R (.d (.int p.2.2.1)):=GA (i:=2) rfl
theorem pq:BA (.d (tJ p)) n (.d (.int 3)) m R=R (.d (.int p.2.2.2)):=GA (i:=3) rfl
end
def LK(w:Wd):List (Str×Int):=w.ps.map λp=>(p.1,p.2.2.2)
def GL:PSp where
 md:=[]
 run:=λx Q _=>∃w:Wd,x=[.d (wD w)]/\w.ps.length<=90/\Q (.lst (((LK w).map xQ).map T.d)) []
 mono:=λh _ z=>by obtain⟨w,e,l,q⟩:=z;exact⟨w,e,l,h _ _ q⟩
theorem L8{w:Wd}{K:T->LT->Prop}{E:XE}(l:w.ps.length<=90)(q:K (.lst (((LK w).map xQ).map T.d)) []):UB GL [.d (wD w)] K E:=⟨w,rfl,l,q⟩
theorem Yh{Ψ:PEv}(ds Q E)(h:GL.run ds Q E):nH Ψ PH GL pN oK ds Q:=by
 obtain⟨w,rfl,l,q⟩:=h;refine gA [bD (wD w)] rfl rfl rfl ?_;delta PH;simp_arith[↓TZ];rw[<- lA tJ];refine JB (λp=>T.d (tJ p)) (λp=>T.d (xQ (p.1,p.2.2.2))) w.ps [] _ (λx z R y=>?_) (by show 0+w.ps.length<=_;omega) ?_;simp_arith[↓KN,↓pq];exact⟨by omega,y⟩;rw[Qh,lA λp:Str×Int×Int×Int=>xQ (p.1,p.2.2.2)];have e:(w.ps.map λp=>xQ (p.1,p.2.2.2))=(LK w).map xQ:=by unfold LK;rw[Qb];rfl
 rw[e];exact q
def jE(es:uC)(sr:LS):D:=.tuple [.tuple (sr.map PyData.str),.tuple (es.map pr)]
section
variable{es:uC}{sr:LS}{n m:Bool}{R:T->Prop}
theorem Kq:BA (.d (jE es sr)) n (.d (.int 0)) m R=R (.d (.tuple (sr.map PyData.str))):=GA (i:=0) rfl
theorem Zq:BA (.d (jE es sr)) n (.d (.int 1)) m R=R (.d (.tuple (es.map pr))):=GA (i:=1) rfl
end
noncomputable def FG:PSp where
 md:=[]
 run:=λv Q _=>∃(w:Wd) (u:uC) (y:LS),v=[.d (wD w),.d (jE u y)]/\(u.length<=126/\y.length<=11/\YG u y/\w.ps.length<=90/\(w.ps.map λp=>p.1).Nodup)/\∀l:LS,(∀x,x∈l↔Held u y (LK w) x)->l.length<=90->Q (.lst ((l.map PyData.str).map T.d)) []
 mono:=λh _ z=>by obtain⟨w,u,y,e,l,q⟩:=z;exact⟨w,u,y,e,l,λl a b=>h _ _ (q l a b)⟩
theorem Ak{ts:LT}{W:LT->Prop}:xL .val [(.lst ts,true)] W=W ((ersT ts).map T.d):=CI _
theorem Hi(r:Rw):(BJ r).er=.tuple [.str r.1,.list (ersT ((r.2.map EC).map T.d))]:=rfl
theorem Y2{w:Wd}{es:uC}{sr:LS}{K:T->LT->Prop}{E:XE}(l:es.length<=126/\sr.length<=11/\YG es sr/\w.ps.length<=90/\(w.ps.map λp=>p.1).Nodup)(q:∀l:LS,(∀x,x∈l↔Held es sr (LK w) x)->l.length<=90->K (.lst ((l.map PyData.str).map T.d)) []):UB FG [.d (wD w),.d (jE es sr)] K E:=⟨w,es,sr,rfl,l,q⟩
theorem O9{Ψ:PEv}(m:Ψ.sp "ground_alone"=SF)(l:Ψ.sp "needs_of"=GL)(ds Q E)(h:FG.run ds Q E):nH Ψ aF FG gJ cH ds Q:=by
 obtain⟨w,n,u,rfl,⟨b,a,f,z,nd⟩,q⟩:=h;have k:(LK w).length<=90:=by unfold LK;rw[QG];exact z
 have v:((LK w).map λp=>p.1).Nodup:=by unfold LK;rw[Qb];exact nd
 refine gA [bD (wD w),bD (jE n u)] rfl rfl rfl ?_;delta aF;simp_arith[↓Kq,↓Zq,↓cA (md:=[]) m rfl rfl,↓cA (md:=[]) l rfl rfl];refine L8 z ?_;simp_arith[↓zA];refine gY ⟨b,a,f,k,v⟩ λy F g j=>?_;rw[Ak];have fl:=g.len;have rl:y.length=F.length:=by rw[g.e,QG]
 rw[BQ,Qb,Qb];refine⟨rfl,?_⟩;refine JB (λr=>T.d (BJ r).er) (λr=>T.d (.str r.1)) y [] _ (λx o R i=>?_) (by show 0+y.length<=_;omega) ?_;rw[Hi];simp_arith[↓zA];exact i;rw[Qh,lA (λr:Rw=>PyData.str r.1)];have e:(y.map λr=>PyData.str r.1)=F.map PyData.str:=by rw[g.e,Qb];rfl
 rw[e];exact q F j (by omega)
def nA(h:List Evt)(n:Nat):Evt:=(h[n]?).getD (.see 0 "" "" "")
def HA(e:Evt):Prop:=∃t a b m w q,e=.tell t a b m w q
def NY:Evt->Str
 | .see _ _ m _=>m|.tell _ _ _ m _ _=>m
def OC:Evt->Str×Str
 | .see _ p m _=>(p,m)|.tell _ a b _ _ _=>(a,b)
def nD(n:Nat):D:=.int (n:Int)
theorem mL{x:List Evt}{i:Nat}{n m:Bool}{R:T->Prop}(h:i<x.length):BA (.d (.list (x.map DD))) n (.d (nD i)) m R=R (.d (DD (nA x i))):=by delta nD;rw[Sf,show gE (x.map DD) (i:Int)=some (DD (nA x i)) from YF (by rw[Qd,Qx h];unfold nA;rw[Qx h];rfl),AB]
section
variable{e:Evt}{n m:Bool}{R:T->Prop}
theorem cc(h:HA e):BA (.d (DD e)) n (.d (.int 2)) m R=R (.d (.str (OC e).1)):=by obtain⟨t,a,b,x,w,q,rfl⟩:=h;exact GA (i:=2) rfl
theorem AZ(h:HA e):BA (.d (DD e)) n (.d (.int 3)) m R=R (.d (.str (OC e).2)):=by obtain⟨t,a,b,x,w,q,rfl⟩:=h;exact GA (i:=3) rfl
theorem bc(h:HA e):BA (.d (DD e)) n (.d (.int 4)) m R=R (.d (.str (NY e))):=by obtain⟨t,a,b,x,w,q,rfl⟩:=h;exact GA (i:=4) rfl
end
section
variable{Ψ:PEv}{x:Str}{r:Int}{K:T->LT->Prop}{ks:List Pt}{L:Bool->Prop}
theorem Jd{ds:List D}{Q:T->Bool->Prop}:jO .tuple [(.lst (ds.map T.d),true)] Q=Q (.d (.tuple ds)) false:=by unfold jO dC;show VX .tuple [.ls ((ersT (ds.map T.d)).map T.d)] Q=_;rw[pB,Ze];exact propext ⟨λ⟨_,e,q⟩=>by rw[VA]at e;cases e;exact q,λq=>⟨_,VA _,q⟩⟩
def LF(h:List Evt)(y:LN)(m:Str):uC:=(y.filter λn=>decide (NY (nA h n)=m)).map λn=>OC (nA h n)
noncomputable def ZJ:PSp where
 md:=[]
 run:=λv Q _=>∃(y:List Evt) (u:LN) (m:Str),v=[.d (.list (y.map DD)),.d (.list (u.map nD)),.d (.str m)]/\u.length<=100/\(∀n∈u,n<y.length/\HA (nA y n))/\Q (.d (.tuple ((LF y u m).map pr))) []
 mono:=λh _ z=>by obtain⟨y,u,m,e,l,a,q⟩:=z;exact⟨y,u,m,e,l,a,h _ _ q⟩
theorem Uh(ds Q E)(h:ZJ.run ds Q E):nH Ψ AH ZJ eN aK ds Q:=by
 obtain⟨y,z,m,rfl,l,a,q⟩:=h;refine gA [bD (.list (y.map DD)),bD (.list (z.map nD)),bD (.str m),none] rfl rfl rfl ?_;delta AH;simp_arith[↓zA];rw[<- lA nD];refine fA (λn=>T.d (nD n)) (λn=>T.d (DD (nA y n))) (λn=>decide (NY (nA y n)=m)) z [] _ (λx w R v=>?_) (by show 0+z.length<=_;omega) ?_;simp_arith[↓mL (a x w).1,↓bc (a x w).2];split at v;rename_i c;rw[if_pos c];exact v;rename_i c;rw[if_neg c];exact v;rw[Qh,lA λn=>DD (nA y n)];simp_arith[↓zA];rw[<- lA λn=>DD (nA y n)];refine JB (λn=>T.d (DD (nA y n))) (λn=>T.d (pr (OC (nA y n)))) _ [] _ (λx w R v=>?_) (by show 0+(List.filter _ z).length<=_;have:=Q1 (λn=>decide (NY (nA y n)=m)) z;omega) ?_;have u:=(QO.mp w).1;simp_arith[↓cc (a x u).2,↓AZ (a x u).2];exact⟨by omega,v⟩;rw[Qh,lA λn=>pr (OC (nA y n)),Jd];have e:((z.filter λn=>decide (NY (nA y n)=m)).map λn=>pr (OC (nA y n)))=(LF y z m).map pr:=by unfold LF;rw[Qb];rfl
 rw[e];simp_arith[↓zA];exact q
def nI(w:Wd)(x:Str):LJ:=(w.ps.filter λp=>decide (p.1=x)).map λp=>p.2.1
def bI:PSp where
 md:=[]
 run:=λy Q _=>∃(w:Wd) (x:Str) (r:Int),y=[.d (wD w),.d (.str x)]/\w.ps.length<=90/\(nI w x)[0]?=some r/\Q (.d (.int r)) []
 mono:=λh _ z=>by obtain⟨w,x,r,e,l,a,q⟩:=z;exact⟨w,x,r,e,l,a,h _ _ q⟩
theorem E1{w:Wd}{E:XE}(l:w.ps.length<=90)(a:(nI w x)[0]?=some r)(q:K (.d (.int r)) []):UB bI [.d (wD w),.d (.str x)] K E:=⟨w,x,r,rfl,l,a,q⟩
theorem M9(ds Q E)(h:bI.run ds Q E):nH Ψ zK bI xP zM ds Q:=by
 obtain⟨w,x,r,rfl,l,a,q⟩:=h;refine gA [bD (wD w),bD (.str x)] rfl rfl rfl ?_;delta zK;simp_arith[↓TZ];rw[<- lA tJ];refine fA (λp=>T.d (tJ p)) (λp=>T.d (.int p.2.1)) (λp=>decide (p.1=x)) w.ps [] _ (λp u R y=>?_) (by show 0+w.ps.length<=_;omega) ?_;simp_arith[↓KN,↓iq];split at y;rename_i c;rw[if_pos c];exact y;rename_i c;rw[if_neg c];exact y;rw[Qh,lA λp:Str×Int×Int×Int=>PyData.int p.2.1];have e:((w.ps.filter λp=>decide (p.1=x)).map λp=>PyData.int p.2.1)=(nI w x).map PyData.int:=by unfold nI;rw[Qb];rfl
 rw[e];have z:gE ((nI w x).map PyData.int) 0=some (.int r):=YF (j:=0) (by rw[Qd,a];rfl);simp_arith[z];exact q
def fF(w:Wd)(x:Str):LJ:=(w.ps.filter λp=>decide (p.1=x)).map λp=>p.2.2.1
def PF:PSp where
 md:=[]
 run:=λy Q _=>∃(w:Wd) (x:Str) (r:Int),y=[.d (wD w),.d (.str x)]/\w.ps.length<=90/\(fF w x)[0]?=some r/\Q (.d (.int r)) []
 mono:=λh _ z=>by obtain⟨w,x,r,e,l,a,q⟩:=z;exact⟨w,x,r,e,l,a,h _ _ q⟩
theorem cY{w:Wd}{E:XE}(l:w.ps.length<=90)(a:(fF w x)[0]?=some r)(q:K (.d (.int r)) []):UB PF [.d (wD w),.d (.str x)] K E:=⟨w,x,r,rfl,l,a,q⟩
theorem Z4(ds Q E)(h:PF.run ds Q E):nH Ψ TH PF aN tK ds Q:=by
 obtain⟨w,x,r,rfl,l,a,q⟩:=h;refine gA [bD (wD w),bD (.str x)] rfl rfl rfl ?_;delta TH;simp_arith[↓TZ];rw[<- lA tJ];refine fA (λp=>T.d (tJ p)) (λp=>T.d (.int p.2.2.1)) (λp=>decide (p.1=x)) w.ps [] _ (λp u R y=>?_) (by show 0+w.ps.length<=_;omega) ?_;simp_arith[↓KN,↓aq];split at y;rename_i c;rw[if_pos c];exact y;rename_i c;rw[if_neg c];exact y;rw[Qh,lA λp:Str×Int×Int×Int=>PyData.int p.2.2.1];have e:((w.ps.filter λp=>decide (p.1=x)).map λp=>PyData.int p.2.2.1)=(fF w x).map PyData.int:=by unfold fF;rw[Qb];rfl
 rw[e];have z:gE ((fF w x).map PyData.int) 0=some (.int r):=YF (j:=0) (by rw[Qd,a];rfl);simp_arith[z];exact q
def VI(ks:List Pt):T:=.dct true (ks.map pr) (ks.map λ_=>T.d (.bool true))
def IK(ks:List Pt)(p:Pt):List Pt:=if p∈ks then ks else ks++[p]
theorem DT(ks:List Pt)(p:Pt):(IK ks p).length<=ks.length+1:=by unfold IK;split;omega;simp
theorem lO{α h:Type}(c:h):∀(l:List α) (n:Nat),(l.map λ_=>c).set n c=l.map λ_=>c
 |[],_=>rfl|_::_,0=>rfl|x::l,n+1=>by show c::(l.map λ_=>c).set n c=_;rw[lO c l n];rfl
theorem Xc{p:Pt}{Q:T->Prop}(hl:ks.length<sizeLine)(q:Q (VI (IK ks p))):Uc (VI ks) (.d (pr p)) (.d (.bool true)) Q:=by
 refine⟨EB p,by rw[QG];exact hl,?_⟩;show Q (HJ true (ks.map pr) (ks.map λ_=>T.d (.bool true)) (pr p) (.d (.bool true)));unfold IK at q;unfold HJ;by_cases c:p∈ks;rw[if_pos c]at q;cases e:bA (ks.map pr) (pr p) with|none=>exact absurd (UP.mpr c) (jB.mp e)|some n=>show Q (.dct true (ks.map pr) ((ks.map λ_=>T.d (.bool true)).set n (.d (.bool true))));rw[lO];exact q
 rw[if_neg c]at q;rw[jB.mpr λz=>c (UP.mp z)];unfold VI at q;rw[QR,QR]at q;exact q
theorem Fo{q:Pt}:rB .In (.d (pr q)) (VI ks) L=L (decide (q∈ks)):=by unfold VI;rw[T6,RI];exact propext ⟨λh=>h.2,λh=>⟨EB q,h⟩⟩
theorem xj{q:Pt}:rB .NotIn (.d (pr q)) (VI ks) L=L (!decide (q∈ks)):=by unfold VI;rw[IM,RI];exact propext ⟨λh=>h.2,λh=>⟨EB q,h⟩⟩
def IB(h:List Evt)(ks:List Pt)(n:Nat):List Pt:=match nA h n with
 | .see _ p m _=>IK ks (p,m)|_=>ks
def MA(h:List Evt)(l:LN):List Pt:=l.foldl (IB h) []
def uV:Evt->Str
 | .see _ _ _ _=>"see"|.tell _ _ _ _ _ _=>"tell"
end
section
variable{e:Evt}{n m:Bool}{R:T->Prop}{t:Int}{p h w:Str}
theorem yI:BA (.d (DD e)) n (.d (.int 0)) m R=R (.d (.str (uV e))):=by cases e;exact GA (i:=0) rfl;exact GA (i:=0) rfl
theorem i0:BA (.d (DD (.see t p h w))) n (.d (.int 2)) m R=R (.d (.str p)):=GA (i:=2) rfl
theorem vR:BA (.d (DD (.see t p h w))) n (.d (.int 3)) m R=R (.d (.str h)):=GA (i:=3) rfl
end
section
variable{Ψ:PEv}{ks v:List Pt}{a b x:Str}{L:Bool->Prop}{E:XE}{ns:LJ}{K:T->LT->Prop}{w:Wd}
theorem UM{c a b:Prop}[Decidable c](h:¬ c)(q:b):if c then a else b:=by rw[if_neg h];exact q
def yr(h:List Evt)(l:LN)(ks:List Pt)(o3:Option Sl):kA:=[bD (.list (h.map DD)),some (.ky (.lst (l.map λn=>T.d (nD n)))),oW (VI ks),o3]
noncomputable def DG:PSp where
 md:=[.xx,.xy]
 run:=λu Q _=>∃(y:List Evt) (l:LN),u=[.d (.list (y.map DD)),.lst ((l.map nD).map T.d)]/\l.length<=100/\(∀n∈l,n<y.length)/\Q (VI (MA y l)) []
 mono:=λh _ z=>by obtain⟨y,l,e,a,b,q⟩:=z;exact⟨y,l,e,a,b,h _ _ q⟩
theorem L9(ds Q E)(h:DG.run ds Q E):nH Ψ lF DG dJ uH ds Q:=by
 obtain⟨y,l,rfl,hl,o,q⟩:=h;refine gA [bD (.list (y.map DD)),some (.ky (.lst ((l.map nD).map T.d))),none,none] rfl rfl rfl ?_;delta lF;simp_arith[↓zA];rw[<- lA nD];refine kB (λn=>T.d (nD n)) (λr z=>∃ks u,r.foldl (IB y) ks=MA y l/\ks.length+r.length<=100/\(∀n∈r,n<y.length)/\z=yr y l ks u) ?_ ?_ l _ ⟨[],none,rfl,by simpa using hl,o,rfl⟩;rintro z ⟨ks,u,e,_,_,rfl⟩;have e:ks=MA y l:=e;subst e;delta yr;simp_arith[↓zA];exact q;rintro n r z N j ⟨ks,u,e,hk,f,rfl⟩;have i:ks.length+(r.length+1)<=100:=hk;have g:=f n QD;delta yr;delta oG;simp_arith[↓mL g,↓yI];have e:r.foldl (IB y) (IB y ks n)=MA y l:=e;unfold IB at e;cases ev:nA y n with|see t p m w=>rw[ev]at e;simp_arith[uV,↓i0,↓vR];rw[mL g,ev];simp_arith[↓vR];exact⟨by omega,Xc (p:=(p,m)) (by omega) (j _ ⟨IK ks (p,m),_,e,by have:=DT ks (p,m);omega,λx k=>f x (QE _ k),rfl⟩)⟩|tell t a b m w s=>rw[ev]at e;refine UM (show decide ((QS "tell")=(QS "see"))≠true by decide) ?_;exact j _ ⟨ks,_,e,by omega,λx k=>f x (QE _ k),rfl⟩
theorem OV:rB .In (.d (.tuple [.str a,.str b])) (VI ks) L=L (decide ((a,b)∈ks)):=Fo (q:=(a,b))
theorem ZX:rB .NotIn (.d (.tuple [.str a,.str b])) (VI ks) L=L (!decide ((a,b)∈ks)):=xj (q:=(a,b))
def RE(w:Wd)(ks:List Pt)(m:Str):LS:=(w.ps.filter λp=>decide ((p.1,m)∈ks)).map λp=>p.1
noncomputable def JJ:PSp where
 md:=[.xx,.ky]
 run:=λy Q _=>∃(w:Wd) (ks:List Pt) (m:Str),y=[.d (wD w),VI ks,.d (.str m)]/\w.ps.length<=90/\Q (.d (.tuple ((RE w ks m).map PyData.str))) []
 mono:=λh _ z=>by obtain⟨w,ks,m,e,l,q⟩:=z;exact⟨w,ks,m,e,l,h _ _ q⟩
theorem ph(ds Q E)(h:JJ.run ds Q E):nH Ψ OH JJ mN mK ds Q:=by
 obtain⟨w,ks,m,rfl,l,q⟩:=h;refine gA [bD (wD w),some (.ky (VI ks)),bD (.str m)] rfl rfl rfl ?_;delta OH;simp_arith[↓TZ];rw[<- lA tJ];refine fA (λp=>T.d (tJ p)) (λp=>T.d (.str p.1)) (λp=>decide ((p.1,m)∈ks)) w.ps [] _ (λp z R y=>?_) (by show 0+w.ps.length<=_;omega) ?_;simp_arith[↓KN,↓OV];refine⟨by omega,?_⟩;split at y;rename_i c;rw[if_pos c];exact y;rename_i c;rw[if_neg c];exact y;rw[Qh,lA λp:Str×Int×Int×Int=>PyData.str p.1,Jd];have e:((w.ps.filter λp=>decide ((p.1,m)∈ks)).map λp=>PyData.str p.1)=(RE w ks m).map PyData.str:=by unfold RE;rw[Qb];rfl
 rw[e];simp_arith[↓zA];exact q
theorem Io{ρ:kA}{a c h:PX}{t u:Str}{x y:D}{e:CmpOp}{R:Option T->Prop}:mH Ψ E [] [t,u] (.tp [0,1]) (.cmp e a c) h ρ (.d (.tuple [x,y])) R=UN Ψ (.cmp e a c) E (bD x::bD y::lockA ρ) λk z=>if k=true then tB Ψ h E z λy n _=>YC y n (R (some y)) else R none:=AB
theorem jX:∀{l:List D},(∀x∈l,x.canLay0=true/\x.depth<=1)->qh l=true/\wT l<=1
 |[],_=>by simp[qh,wT]|x::l,h=>by obtain⟨k,f⟩:=h x QD;obtain⟨z,e⟩:=jX (l:=l) λy u=>h y (QE _ u);simp only[qh,wT,k,z,Bool.and_self,true_and];omega
theorem Zh{l:List D}(h:∀x∈l,x.canLay0=true/\x.depth<=1):kE (.list l):=by obtain⟨y,z⟩:=jX h;refine⟨?_,?_⟩;simp only[QAN];exact y;simp only[QAy];omega
def DJ(w:Wd)(m:Str):LS:=(w.ag.filter λp=>decide (p.1=m)).map λp=>p.2
def CJ(w:Wd)(m:Str):LS:=(w.ag.filter λp=>decide (p.2=m)).map λp=>p.1
def OkS(a:Str):Prop:=qq a=true
def uc(h:T)(f:Pt->Bool):Prop:=∀a b (L:Bool->Prop),OkS a->OkS b->L (f (a,b))->rB .In (.d (.tuple [.str a,.str b])) h L
theorem Pn(ks:List Pt):uc (VI ks) λq=>decide (q∈ks):=λa b L _ _ h=>by rw[OV];exact h
theorem rh(h:∀p∈v,OkS p.1/\OkS p.2):kE (.list (v.map pr)):=Zh λx z=>by obtain⟨p,y,rfl⟩:=QT.mp z;have q:=IC (h p y).1 (h p y).2;exact⟨q.1,by simp[pr,QAy,wT]⟩
theorem S5(h:∀p∈v,OkS p.1/\OkS p.2):uc (.d (.list (v.map pr))) λq=>decide (q∈v):=λa b L u hb q=>by
 refine⟨.inr ⟨IC u hb,rh h⟩,?_⟩;have e:((v.map pr).any λy=>Ql y (.tuple [.str a,.str b]))=decide ((a,b)∈v):=by rw[QA2,Q3,WE,decide_eq_true_iff];constructor;rintro⟨p,z,e⟩;have e:Ql (pr p) (pr (a,b))=true:=e;rw[DQ,decide_eq_true_iff]at e;exact e▸z;intro z;refine⟨(a,b),z,?_⟩;show Ql (pr (a,b)) (pr (a,b))=true;rw[DQ];exact dT rfl
 show L ((v.map pr).any λy=>Ql y (.tuple [.str a,.str b]));rw[e];exact q
noncomputable def KJ:PSp where
 md:=[.xx,.ky]
 run:=λu Q _=>∃(w:Wd) (y:T) (f:Pt->Bool) (x m:Str),u=[.d (wD w),y,.d (.str x),.d (.str m)]/\(uc y f/\OkS x/\∀p∈w.ag,OkS p.1/\OkS p.2)/\w.ag.length<=100/\Q (.d (.bool ((DJ w m++CJ w m).any λr=>f (x,r)))) []
 mono:=λh _ z=>by obtain⟨w,y,f,x,m,e,a,l,q⟩:=z;exact⟨w,y,f,x,m,e,a,l,h _ _ q⟩
theorem Bh(ds Q E)(h:KJ.run ds Q E):nH Ψ fE KJ rH EF ds Q:=by
 obtain⟨w,u,f,x,m,rfl,⟨i,k,z⟩,l,q⟩:=h;have Y:=Q1 (λp:Str×Str=>decide (p.1=m)) w.ag;have X:=Q1 (λp:Str×Str=>decide (p.2=m)) w.ag;have s:(DJ w m).length<=100:=by unfold DJ;rw[QG];omega
 have o:(CJ w m).length<=100:=by unfold CJ;rw[QG];omega
 refine gA [bD (wD w),some (.ky u),bD (.str x),bD (.str m),none] rfl rfl rfl ?_;delta fE;simp_arith[↓mq];rw[<- lA pr w.ag];refine fA (λp=>T.d (pr p)) (λ(p:Str×Str)=>T.d (.str p.2)) (λp=>decide (p.1=m)) w.ag [] _ (λp e R y=>?_) (by show 0+w.ag.length<=_;omega) ?_;delta pr;simp_arith[↓Io];split at y;rename_i c;rw[if_pos c];exact y;rename_i c;rw[if_neg c];exact y;rw[Qh,lA λp:Str×Str=>PyData.str p.2];have n:((w.ag.filter λp=>decide (p.1=m)).map λp=>PyData.str p.2)=(DJ w m).map PyData.str:=by unfold DJ;rw[Qb];rfl
 rw[n];refine fA (λp=>T.d (pr p)) (λ(p:Str×Str)=>T.d (.str p.1)) (λp=>decide (p.2=m)) w.ag [] _ (λp e R y=>?_) (by show 0+w.ag.length<=_;omega) ?_;delta pr;simp_arith[↓Io];split at y;rename_i c;rw[if_pos c];exact y;rename_i c;rw[if_neg c];exact y;rw[Qh,lA λp:Str×Str=>PyData.str p.1];have j:((w.ag.filter λp=>decide (p.2=m)).map λp=>PyData.str p.1)=(CJ w m).map PyData.str:=by unfold CJ;rw[Qb];rfl
 rw[j,<- QR,<- QR];refine⟨by rw[QG,QG,QG,QG];omega,?_⟩;simp_arith[↓zA];rw[<- lA PyData.str];refine JB (λr=>T.d (.str r)) (λr=>T.d (.bool (f (x,r)))) (DJ w m++CJ w m) [] _ (λr e R y=>?_) (by show 0+(DJ w m++CJ w m).length<=_;rw[QI];omega) ?_;simp_arith[↓zA];refine⟨by omega,i _ _ _ k ?_ y⟩;rcases Qf.mp e with h|h;obtain⟨p,g,rfl⟩:=QT.mp h;exact(z p (QO.mp g).1).2;obtain⟨p,g,rfl⟩:=QT.mp h;exact(z p (QO.mp g).1).1;rw[Qh,lA λr=>PyData.bool (f (x,r)),Zd];refine⟨(DJ w m++CJ w m).map λr=>f (x,r),by rw[Qb];rfl,?_⟩;rw[QA2];simp_arith[↓zA];exact q
theorem zn{n:Bool}{Q:T->Bool->Prop}(y:ns.length<64)(q:∀h:LJ,h.Perm ns->h.Pairwise (·<=·)->Q (.lst ((h.map PyData.int).map T.d)) true):jO .sorted [(.lst ((ns.map PyData.int).map T.d),n)] Q:=by unfold jO dC;rw[xG];exact .inr (.inr ⟨_,ns,rfl,VA _,y,q⟩)
theorem ma{l:LN}(h:ns.Perm (l.map λ(n:Nat)=>(n:Int)))(z:ns.Pairwise (·<=·)):∃y:LN,ns=y.map (λ(n:Nat)=>(n:Int))/\y.Perm l/\y.Pairwise (·<=·):=by
 have e:ns=(ns.map QCR).map λ(n:Nat)=>(n:Int):=by rw[Qb];refine(QCL ns).symm.trans (wC λx u=>?_);obtain⟨n,_,rfl⟩:=QT.mp (h.mem_iff.mp u);rfl
 refine⟨ns.map QCR,e,?_,?_⟩;have:=h.map QCR;rw[Qb]at this;refine this.trans (QCK.of_eq ?_);exact(wC λn _=>rfl).trans (QCL l);rw[e]at z;exact(QBv.mp z).imp λh=>by omega
def HF(h:List Evt)(y:LN)(ks:List Pt):LN:=y.filter λn=>!decide (((OC (nA h n)).1,(OC (nA h n)).2)∈ks)
noncomputable def AE:PSp where
 md:=[.xx,.xy,.ky]
 run:=λf Q _=>∃(y:List Evt) (u:LN) (ks:List Pt),f=[.d (.list (y.map DD)),.lst ((u.map nD).map T.d),VI ks]/\u.length<64/\(∀n∈u,n<y.length/\HA (nA y n))/\∀k:LN,k.Perm (HF y u ks)->k.Pairwise (·<=·)->Q (.lst ((k.map nD).map T.d)) []
 mono:=λh _ z=>by obtain⟨y,u,ks,e,l,a,q⟩:=z;exact⟨y,u,ks,e,l,a,λk b c=>h _ _ (q k b c)⟩
theorem N9(ds Q E)(h:AE.run ds Q E):nH Ψ oF AE fJ bH ds Q:=by
 obtain⟨y,z,ks,rfl,l,a,q⟩:=h;refine gA [bD (.list (y.map DD)),some (.ky (.lst ((z.map nD).map T.d))),some (.ky (VI ks))] rfl rfl rfl ?_;delta oF;simp_arith[↓zA];rw[<- lA nD];refine fA (λn=>T.d (nD n)) (λn=>T.d (nD n)) (λn=>!decide (((OC (nA y n)).1,(OC (nA y n)).2)∈ks)) z [] _ (λn k R f=>?_) (by show 0+z.length<=_;omega) ?_;simp_arith[↓mL (a n k).1,↓cc (a n k).2,↓AZ (a n k).2,↓ZX];refine⟨by omega,?_⟩;split at f;rename_i c;rw[if_pos c];exact f;rename_i c;rw[if_neg c];exact f;rw[Qh,lA nD];have e:(HF y z ks).map nD=((HF y z ks).map λ(n:Nat)=>(n:Int)).map PyData.int:=by rw[Qb];rfl
 have fl:=Q1 (λn=>!decide (((OC (nA y n)).1,(OC (nA y n)).2)∈ks)) z;show jO .sorted [(.lst (((HF y z ks).map nD).map T.d),true)] _;rw[e];refine zn (by rw[QG];unfold HF;omega) λj i g=>?_;obtain⟨u,rfl,o,m⟩:=ma i g;have p:(u.map λ(n:Nat)=>(n:Int)).map PyData.int=u.map nD:=by rw[Qb];rfl
 rw[p];simp_arith[↓zA];exact q u o m
theorem UR{h:List Evt}{l:LN}(a:l.length<=100)(b:∀n∈l,n<h.length)(q:K (VI (MA h l)) []):UB DG [.d (.list (h.map DD)),.lst ((l.map nD).map T.d)] K E:=⟨h,l,rfl,a,b,q⟩
theorem aW{h:T}{f:Pt->Bool}{m:Str}(a:uc h f/\OkS x/\∀p∈w.ag,OkS p.1/\OkS p.2)(l:w.ag.length<=100)(q:K (.d (.bool ((DJ w m++CJ w m).any λr=>f (x,r)))) []):UB KJ [.d (wD w),h,.d (.str x),.d (.str m)] K E:=⟨w,h,f,x,m,rfl,a,l,q⟩
def aH(w:Wd)(h:List Pt)(b m:Str):Bool:=!decide ((b,m)∈h)&&(DJ w m++CJ w m).any λr=>decide ((b,r)∈h)
def ID(w:Wd)(h ks:List Pt)(n:Nat):List Pt:=match nA w.es n with
 | .tell _ a b m _ _=>if aH w h b m=true then IK ks (a,b) else ks|_=>ks
def aJ(w:Wd)(l:LN):List Pt:=l.foldl (ID w (MA w.es l)) []
def xc(w:Wd)(x:Str):Prop:=∃p∈w.ps,p.1=x
def C7(w:Wd):Evt->Prop
 | .see _ p m h=>xc w p/\m∈w.ms/\OkS h|.tell _ a b m h q=>xc w a/\xc w b/\m∈w.ms/\a≠b/\OkS h/\∀x∈q,xc w x
structure WOk(w:Wd):Prop where
 ag:∀p∈w.ag,OkS p.1/\OkS p.2
 al:w.ag.length<=100
 pl:w.ps.length<=11
 pn:(w.ps.map λp=>p.1).Nodup
 po:∀p∈w.ps,OkS p.1
 ml:w.ms.length<=10
 mo:∀m∈w.ms,OkS m
 mn:w.ms.Nodup
 el:w.es.length<=60
 eo:∀e∈w.es,C7 w e
theorem WOk.ev(h:WOk w){n:Nat}(y:n<w.es.length):C7 w (nA w.es n):=by unfold nA;rw[Qx y];exact h.eo _ (wk y)
theorem WOk.nm(h:WOk w)(y:xc w x):OkS x:=by obtain⟨p,z,rfl⟩:=y;exact h.po p z
end
section
variable{Ψ:PEv}{E:XE}{ρ:kA}{M:List (T×Bool)->kA->Prop}{a z:PX}{md:List Md}{d:D}{n m:Bool}{xs:List (T×Bool)}{C:LT->Prop}{R:T->Prop}{t:Int}{x b h y:Str}{q:LS}
theorem Cp{ks:List Pt}:T7 (VI ks) false Ψ z E md ρ M=dM Ψ z E md (lockA ρ) λxs _=>M xs ρ:=rfl
theorem j0:BA (.d (DD (.tell t x b h y q))) n (.d (.int 2)) m R=R (.d (.str x)):=GA (i:=2) rfl
theorem IZ:BA (.d (DD (.tell t x b h y q))) n (.d (.int 3)) m R=R (.d (.str b)):=GA (i:=3) rfl
theorem EZ:BA (.d (DD (.tell t x b h y q))) n (.d (.int 4)) m R=R (.d (.str h)):=GA (i:=4) rfl
end
section
variable{w:Wd}{K:T->LT->Prop}{Ψ:PEv}{u es:List Pt}{x:Str}{sr:LS}{f:Kn}
def Bq(w:Wd)(l:LN)(ks:List Pt)(o4 o5:Option Sl):kA:=[bD (wD w),some (.ky (.lst (l.map λn=>T.d (nD n)))),oW (VI (MA w.es l)),oW (VI ks),o4,o5]
noncomputable def oD:PSp where
 md:=[.xx,.xy]
 run:=λy Q _=>∃(w:Wd) (l:LN),y=[.d (wD w),.lst ((l.map nD).map T.d)]/\WOk w/\l.length<=100/\(∀n∈l,n<w.es.length)/\Q (VI (aJ w l)) []
 mono:=λh _ z=>by obtain⟨w,l,e,a,b,c,q⟩:=z;exact⟨w,l,e,a,b,c,h _ _ q⟩
theorem vY{l:LN}{E:XE}(h:WOk w)(a:l.length<=100)(b:∀n∈l,n<w.es.length)(q:K (VI (aJ w l)) []):UB oD [.d (wD w),.lst ((l.map nD).map T.d)] K E:=⟨w,l,rfl,h,a,b,q⟩
theorem t4(C:Ψ.sp "seen_among"=DG)(B:Ψ.sp "has_against"=KJ)(ds Q E)(h:oD.run ds Q E):nH Ψ bE oD oH TF ds Q:=by
 obtain⟨w,l,rfl,g,hl,Z,q⟩:=h;refine gA [bD (wD w),some (.ky (.lst ((l.map nD).map T.d))),none,none,none,none] rfl rfl rfl ?_;delta bE;simp_arith[↓fP,↓cA (md:=[.xx,.xy]) C rfl rfl,↓zC,↓k8];refine UR hl Z ?_;simp_arith[↓zA];rw[<- lA nD];refine kB (λn=>T.d (nD n)) (λr o=>∃y X s,r.foldl (ID w (MA w.es l)) y=aJ w l/\y.length+r.length<=100/\(∀n∈r,n<w.es.length)/\o=Bq w l y X s) ?_ ?_ l _ ⟨[],none,none,rfl,by simpa using hl,Z,rfl⟩;rintro o ⟨y,X,s,e,_,_,rfl⟩;have e:y=aJ w l:=e;subst e;delta Bq;simp_arith[↓zA];exact q;rintro n r o N i ⟨y,X,s,e,hk,v,rfl⟩;have W:y.length+(r.length+1)<=100:=hk;have Y:=v n QD;have k:=g.ev Y;have e:r.foldl (ID w (MA w.es l)) (ID w (MA w.es l) y n)=aJ w l:=e;unfold ID at e;delta Bq;delta BF;simp_arith[↓fP,↓mL Y,↓yI];cases ev:nA w.es n with|see t p m A=>rw[ev]at e;refine UM (show decide ((QS "see")=(QS "tell"))≠true by decide) ?_;exact i _ ⟨y,_,_,e,by omega,λx z=>v x (QE _ z),rfl⟩|tell t a b m A F=>rw[ev]at e k;obtain⟨I,hb,G,_⟩:=k;simp_arith[uV,↓j0,↓IZ,↓EZ,↓ZX,↓cA (md:=[.xx,.ky]) B rfl rfl,↓zC,↓k8,↓Cp];refine⟨by omega,?_⟩;unfold aH at e;by_cases c:(b,m)∈MA w.es l;simp_arith[dT c];simp only[dT c,wZ,QAI,Qn,if_false]at e;exact i _ ⟨y,_,_,e,by omega,λx z=>v x (QE _ z),rfl⟩;simp_arith[dF c];refine aW ⟨Pn _,g.nm hb,g.ag⟩ g.al ?_;simp_arith[↓zA];by_cases j:((DJ w m++CJ w m).any λr=>decide ((b,r)∈MA w.es l))=true;simp_arith[j];simp only[dF c,j,wH,WJ,if_true]at e;exact⟨by omega,Xc (p:=(a,b)) (by omega) (i _ ⟨IK y (a,b),_,_,e,by have:=DT y (a,b);omega,λx z=>v x (QE _ z),rfl⟩)⟩;rw[if_neg j];simp only[dF c,wH,WJ]at e;rw[if_neg j]at e;exact i _ ⟨y,_,_,e,by omega,λx z=>v x (QE _ z),rfl⟩
theorem SW(h:∀p∈u,OkS p.1/\OkS p.2){a b:Str}{L:Bool->Prop}(y:OkS a)(hb:OkS b)(q:L (!decide ((a,b)∈u))):rB .NotIn (.d (.tuple [.str a,.str b])) (.d (.list (u.map pr))) L:=S5 h a b (λc=>L (!c)) y hb q
def DR(w:Wd)(x:Str):Int:=((nI w x)[0]?).getD 0
def GM(w:Wd)(x:Str):Int:=((fF w x)[0]?).getD 0
theorem S8(h:xc w x):(nI w x)[0]?=some (DR w x):=by
 obtain⟨p,z,rfl⟩:=h;have y:p.2.1∈nI w p.1:=QT.mpr ⟨p,QO.mpr ⟨z,dT rfl⟩,rfl⟩;unfold DR;cases e:nI w p.1 with|nil=>rw[e]at y;cases y|cons x r=>rfl
theorem n6(h:xc w x):(fF w x)[0]?=some (GM w x):=by
 obtain⟨p,z,rfl⟩:=h;have y:p.2.2.1∈fF w p.1:=QT.mpr ⟨p,QO.mpr ⟨z,dT rfl⟩,rfl⟩;unfold GM;cases e:fF w p.1 with|nil=>rw[e]at y;cases y|cons x r=>rfl
def Ep(w:Wd)(wr u:List Pt):Evt->Bool
 | .see _ _ _ _=>true|.tell _ a b m _ _=>decide ((a,m)∈u)&&!decide ((a,b)∈wr)&&decide (GM w b<=DR w a)&&!((DJ w m++CJ w m).any λr=>decide ((b,r)∈u))
def zO(u:List Pt):Prop:=∀p∈u,OkS p.1/\OkS p.2
noncomputable def dO:PSp where
 md:=[.xx,.xx,.ky,.xx]
 run:=λv Q _=>∃(w:Wd) (e:Evt) (y u:List Pt),v=[.d (wD w),.d (DD e),VI y,.d (.list (u.map pr))]/\WOk w/\C7 w e/\zO u/\Q (.d (.bool (Ep w y u e))) []
 mono:=λh _ z=>by obtain⟨w,e,y,u,a,b,c,d,q⟩:=z;exact⟨w,e,y,u,a,b,c,d,h _ _ q⟩
theorem Bg{e:Evt}{wr:List Pt}{E:XE}(h:WOk w)(z:C7 w e)(y:zO u)(q:K (.d (.bool (Ep w wr u e))) []):UB dO [.d (wD w),.d (DD e),VI wr,.d (.list (u.map pr))] K E:=⟨w,e,wr,u,rfl,h,z,y,q⟩
theorem Nm(Z:Ψ.sp "rank_of"=bI)(Y:Ψ.sp "floor_of"=PF)(X:Ψ.sp "has_against"=KJ)(ds Q E)(h:dO.run ds Q E):nH Ψ tF dO tN sK ds Q:=by
 obtain⟨w,e,g,u,rfl,y,s,j,q⟩:=h;refine gA [bD (wD w),bD (DD e),some (.ky (VI g)),bD (.list (u.map pr)),none,none,none] rfl rfl rfl ?_;cases e with|see t p m n=>delta tF;simp_arith[↓yI,uV];exact q|tell t a b m n W=>obtain⟨l,hb,o,_⟩:=s;delta tF;simp_arith[↓yI,uV];refine UM (show decide ((QS "tell")=(QS "see"))≠true by decide) ?_;simp_arith[↓j0,↓IZ,↓EZ,↓c7];refine⟨by omega,SW j (y.nm l) (y.mo _ o) ?_⟩;have q:Q (.d (.bool (decide ((a,m)∈u)&&!decide ((a,b)∈g)&&decide (GM w b<=DR w a)&&!((DJ w m++CJ w m).any λr=>decide ((b,r)∈u))))) []:=q;by_cases k:(a,m)∈u;simp_arith[dT k,↓OV];rw[dT k]at q;refine⟨by omega,?_⟩;by_cases v:(a,b)∈g;simp_arith[dT v];rw[dT v]at q;exact q;simp_arith[dF v,↓cA (md:=[]) Z rfl rfl,↓cA (md:=[]) Y rfl rfl];rw[dF v]at q;have i:w.ps.length<=90:=QX y.pl (by decide);refine E1 i (S8 l) ?_;simp_arith[↓zA];refine cY i (n6 hb) ?_;simp_arith[↓Ho];by_cases z:GM w b<=DR w a;simp_arith[dT z,↓cA (md:=[.xx,.ky]) X rfl rfl,↓zC,↓k8];rw[dT z]at q;refine aW ⟨S5 j,y.nm hb,y.ag⟩ y.al ?_;simp_arith[↓zA];exact q;simp_arith[dF z];rw[dF z]at q;exact q;simp_arith[dF k];rw[dF k]at q;exact q
noncomputable abbrev Kn:=List ((List Pt×LS)×LS)
def TY(f:Kn):List D:=f.map λx=>jE x.1.1 x.1.2
def ki(f:Kn):LT:=f.map λx=>T.d (.list (x.2.map PyData.str))
def zX(f:Kn):T:=.dct true (TY f) (ki f)
def fK(w:Wd)(f:Kn):Prop:=∀x∈f,∀y,y∈x.2↔Held x.1.1 x.1.2 (LK w) y
theorem Yc:∀l:LS,tDs (l.map NK.s)=l.map PyData.str
 |[]=>rfl|x::l=>by show PyData.str x::tDs (l.map NK.s)=_;rw[Yc l];rfl
theorem Zc:∀l:List Pt,tDs (l.map λp=>NK.t [.s p.1,.s p.2])=l.map pr
 |[]=>rfl|x::l=>by show pr x::tDs (l.map λp=>NK.t [.s p.1,.s p.2])=_;rw[Zc l];rfl
theorem Am:∀l:LS,nkds (l.map NK.s)=0
 |[]=>rfl|x::l=>by show max 0 (nkds (l.map NK.s))=0;rw[Am l];rfl
theorem Em:∀l:List Pt,nkds (l.map λp=>NK.t [.s p.1,.s p.2])<=1
 |[]=>Qt _|x::l=>by show max 1 (nkds (l.map λp=>NK.t [.s p.1,.s p.2]))<=1;have:=Em l;omega
theorem oQ(es:List Pt)(sr:LS):GD true (jE es sr):=by refine⟨[.t (sr.map NK.s),.t (es.map λp=>NK.t [.s p.1,.s p.2])],?_,?_⟩;show _=PyData.tuple [.tuple (tDs (sr.map NK.s)),.tuple (tDs (es.map λp=>NK.t [.s p.1,.s p.2]))];rw[Yc,Zc];rfl;show max (nkds (sr.map NK.s)+1) (max (nkds (es.map λp=>NK.t [.s p.1,.s p.2])+1) 0)+1<=6;rw[Am];have:=Em es;omega
theorem c8{v:List Pt}{z:LS}(h:jE es sr=jE v z):es=v/\sr=z:=by injection h with h;injection h with h1 h2;injection h2 with h2 _;injection h1 with h1;injection h2 with h2;refine⟨(WS λx y e=>?_).mp h2,(WS λx y e=>?_).mp h1⟩;injection e with e;injection e with e1 e2;injection e2 with e2 _;injection e1 with e1;injection e2 with e2;exact QCC e1 e2;injection e
theorem zi{v:LS}{Q:T->Prop}(hl:f.length<sizeLine)(h:bA (TY f) (jE es sr)=none)(q:Q (zX (f++[((es,sr),v)]))):Uc (zX f) (.d (jE es sr)) (.lst ((v.map PyData.str).map T.d)) Q:=by refine⟨oQ es sr,by unfold TY;rw[QG];exact hl,?_⟩;show Q (HJ true (TY f) (ki f) (jE es sr) (.d (.list (ersT ((v.map PyData.str).map T.d)))));unfold HJ;rw[h,pB];unfold zX TY ki at q;rw[QR,QR]at q;exact q
theorem Ud{k:Nat}(h:bA (TY f) (jE es sr)=some k):∃v,((es,sr),v)∈f/\(ki f)[k]?=some (T.d (.list (v.map PyData.str))):=by
 have e:=NC h;unfold TY at e;unfold ki;rw[Qd]at e ⊢;cases z:f[k]? with|none=>rw[z]at e;cases e|some x=>rw[z]at e;obtain⟨g,y⟩:=c8 (Qo e);obtain⟨⟨a,b⟩,v⟩:=x;cases g;cases y;exact⟨v,qQ z,rfl⟩
end
section
variable{Ψ:PEv}{E:XE}{ρ:kA}{K:TK}{M:List (T×Bool)->kA->Prop}{a b c i g:PX}{md:List Md}{m:Bool}{f:Kn}{es:List Pt}{sr:LS}{L:Bool->Prop}{R:T->Prop}
section
variable{u:List (Str×LS)}{w:Str}
theorem Pb:rB .NotIn (.d (.tuple [.tuple (sr.map PyData.str),.tuple (es.map pr)])) (zX f) L=L (!(bA (TY f) (jE es sr)).isSome):=by unfold zX;rw[IM];exact propext ⟨λh=>h.2,λh=>⟨oQ es sr,h⟩⟩
theorem Yq{v:LS}{k:Nat}(h:bA (TY f) (jE es sr)=some k)(hv:(ki f)[k]?=some (T.d (.list (v.map PyData.str))))(q:R (.d (.list (v.map PyData.str)))):BA (zX f) false (.d (.tuple [.tuple (sr.map PyData.str),.tuple (es.map pr)])) m R:=.inr ⟨true,_,_,k,_,rfl,oQ es sr,h,hv,q⟩
theorem iw:S7 (zX f) false Ψ b E ρ K=tB Ψ b E (lockA ρ) λy m _=>K y m ρ:=rfl
def vZ(u:List (Str×LS)):T:=.dct false (u.map λx=>.str x.1) (u.map λx=>T.d (.list (x.2.map PyData.str)))
theorem yo{v:LS}{Q:T->Prop}(hl:u.length<sizeLine)(h:w∉u.map λx=>x.1)(q:Q (vZ (u++[(w,v)]))):Uc (vZ u) (.d (.str w)) (.d (.list (v.map PyData.str))) Q:=by refine⟨⟨w,rfl⟩,by rw[QG];exact hl,?_⟩;show Q (HJ false (u.map λx=>.str x.1) (u.map λx=>T.d (.list (x.2.map PyData.str))) (.str w) (.d (.list (v.map PyData.str))));unfold HJ;rw[jB.mpr λz=>h (by obtain⟨x,y,e⟩:=QT.mp z;injection e with e;exact QT.mpr ⟨x,y,e⟩)];unfold vZ at q;rw[QR,QR]at q;exact q
theorem zo(h:w∈u.map λx=>x.1)(q:∀v,(w,v)∈u->R (.d (.list (v.map PyData.str)))):BA (vZ u) false (.d (.str w)) m R:=by
 cases e:bA (u.map λx=>PyData.str x.1) (.str w) with
 |none=>obtain⟨x,l,j⟩:=QT.mp h;exact absurd (QT.mpr ⟨x,l,congrArg PyData.str j⟩) (jB.mp e)|some k =>
  have j:=NC e;rw[Qd]at j;cases z:u[k]? with|none=>rw[z]at j;cases j|some x=>rw[z]at j;have j:PyData.str x.1=.str w:=Qo j;injection j with j;obtain⟨y,v⟩:=x;cases j;exact .inr ⟨false,_,_,k,T.d (.list (v.map PyData.str)),rfl,⟨_,rfl⟩,e,by rw[Qd,z];rfl,q v (qQ z)⟩
theorem Jw:S7 (vZ u) false Ψ b E ρ K=tB Ψ b E (lockA ρ) λy m _=>K y m ρ:=rfl
theorem Et{v:Bool}{mk:List Bool}{t:Str}{x:T}{z:CmpOp}{R:Option T->Prop}:mH Ψ E (v::mk) [t] (.nm 0) (.cmp z a c) g ρ x R=UN Ψ (.cmp z a c) E (some (.ky x)::oC (v::mk) (lockA ρ)) λk h=>if k=true then tB Ψ g E h λy n _=>YC y n (R (some y)) else R none:=rfl
end
end
section
variable{m:Str}{K:T->LT->Prop}
theorem Pa{c a b:Prop}[Decidable c](h:c)(q:a):if c then a else b:=by rw[if_pos h];exact q
theorem F8{w:Wd}{ks:List Pt}{E:XE}(l:w.ps.length<=90)(q:K (.d (.tuple ((RE w ks m).map PyData.str))) []):UB JJ [.d (wD w),VI ks,.d (.str m)] K E:=⟨w,ks,m,rfl,l,q⟩
theorem O8{h:List Evt}{x:LN}{E:XE}(l:x.length<=100)(a:∀n∈x,n<h.length/\HA (nA h n))(q:K (.d (.tuple ((LF h x m).map pr))) []):UB ZJ [.d (.list (h.map DD)),.d (.list (x.map nD)),.d (.str m)] K E:=⟨h,x,m,rfl,l,a,q⟩
def oJ(w:Wd)(l h:LN)(m x:Str):Prop:=Held (LF w.es h m) (RE w (MA w.es l) m) (LK w) x
end
open Classical in
def y8(w:Wd)(l h:LN)(x m:Str):Bool:=decide (oJ w l h m x)
open Classical in
section
variable{Ψ:PEv}{Z:PEnds}{w:Wd}{l f:LN}{g:Kn}{i:List (Str×LS)}{m:Str}{o8 o9 o7:Option Sl}
theorem HI(w:Wd)(l f:LN)(x m:Str):y8 w l f x m=true↔oJ w l f m x:=by unfold y8;exact decide_eq_true_iff
def LZ(w:Wd)(l f:LN)(x:Str):List Pt:=(w.ms.filter (y8 w l f x)).map λm=>(x,m)
def yD(w:Wd)(l f:LN):List Pt:=w.ps.flatMap λp=>LZ w l f p.1
def X7(w:Wd)(f:LN):Prop:=f.length<=100/\∀n∈f,n<w.es.length/\HA (nA w.es n)
def Nu(Q:T->LT->Prop):PEnds:={ nx:=λh=>JU (DA [3] h) (Q (.d .none)),rt:=λt h=>JU (DA [3] h) (Q t) }
def cZ(w:Wd)(l f:LN)(g:Kn)(i:List (Str×LS))(o6 o7 o8 o9:Option Sl):kA:=[bD (wD w),some (.ky (.lst ((l.map nD).map T.d))),bD (.list (f.map nD)),oW (zX g),oW (VI (MA w.es l)),oW (vZ i),o6,o7,o8,o9]
def f8(w:Wd)(l f:LN)(m:Str):T:=.d (jE (LF w.es f m) (RE w (MA w.es l) m))
theorem Hd{k:Nat}{v:LS}(hl:i.length<sizeLine)(y:m∉i.map λx=>x.1)(h:bA (TY g) (jE (LF w.es f m) (RE w (MA w.es l) m))=some k)(hv:(ki g)[k]?=some (T.d (.list (v.map PyData.str))))(q:Z.nx (cZ w l f g (i++[(m,v)]) (bD (.str m)) (some (.ky (f8 w l f m))) o8 o9)):pF Ψ TC Z (cZ w l f g i (bD (.str m)) (some (.ky (f8 w l f m))) o8 o9):=by delta cZ f8 jE;delta TC;simp_arith[↓iw];refine Yq h hv ?_;simp_arith[↓zA];exact yo hl y q
theorem og(w:Wd)(ks:List Pt)(m:Str):(RE w ks m).length<=w.ps.length:=by unfold RE;rw[QG];exact Q1 _ _
theorem Ni(h:List Evt)(f:LN)(m:Str):(LF h f m).length<=f.length:=by unfold LF;rw[QG];exact Q1 _ _
theorem Tf(h:WOk w)(hv:X7 w f)(m:Str):YG (LF w.es f m) (RE w (MA w.es l) m):=by constructor;intro s z;obtain⟨p,u,rfl⟩:=QT.mp z;exact h.po p (QO.mp u).1;intro e v;obtain⟨n,y,rfl⟩:=QT.mp v;have y:=(QO.mp y).1;obtain⟨a,t,x,b,j,k,q,e⟩:=hv.2 n y;have:=h.ev a;rw[e]at this ⊢;exact⟨h.nm this.1,h.nm this.2.1⟩
theorem Ys(E:Ψ.sp "seers_of"=JJ)(C:Ψ.sp "edges_of"=ZJ)(p:Ψ.sp "holders_in"=FG)(a:WOk w)(hv:X7 w f)(hk:fK w g)(B:g.length<=20000)(hl:i.length<1000)(o:m∉i.map λx=>x.1)(q:∀h v,fK w h->h.length<=g.length+1->(∀y,y∈v↔oJ w l f m y)->Z.nx (cZ w l f h (i++[(m,v)]) (bD (.str m)) (some (.ky (f8 w l f m))) o8 o9)):pF Ψ UD Z (cZ w l f g i (bD (.str m)) o7 o8 o9):=by
 have J:=a.pl;have I:=og w (MA w.es l) m;have G:=Ni w.es f m;have F:=hv.1;delta cZ;delta UD;simp_arith[↓fP,↓cA (md:=[.xx,.ky]) E rfl rfl,↓cA (md:=[]) C rfl rfl,↓cA (md:=[]) p rfl rfl,↓zC,↓k8,↓Cp];refine F8 (by omega) ?_;simp_arith[↓zA];refine O8 hv.1 hv.2 ?_;simp_arith[↓Pb];refine⟨by omega,?_⟩;cases e:bA (TY g) (jE (LF w.es f m) (RE w (MA w.es l) m)) with
 |some k=>obtain⟨v,s,r⟩:=Ud e;refine UM (λz=>by cases z) ?_;exact Hd (by omega) o e r (q g v hk (by omega) (hk _ s))|none =>
  refine Pa rfl ?_;simp_arith[↓cA (md:=[]) p rfl rfl];refine Y2 ⟨by omega,by omega,Tf a hv m,by omega,a.pn⟩ λv b A=>?_;simp_arith[↓zA];refine zi (by omega) e ?_;have K:bA (TY (g++[((LF w.es f m,RE w (MA w.es l) m),v)])) (jE (LF w.es f m) (RE w (MA w.es l) m))≠none:=λz=>jB.mp z (QT.mpr ⟨_,QW _ (QJ.mpr rfl),rfl⟩);have n:fK w (g++[((LF w.es f m,RE w (MA w.es l) m),v)]):=λx u=>by rcases Qf.mp u with u|u;exact hk x u;rw[QJ.mp u];exact b
  cases j:bA (TY (g++[((LF w.es f m,RE w (MA w.es l) m),v)])) (jE (LF w.es f m) (RE w (MA w.es l) m)) with|none=>exact absurd j K|some k=>obtain⟨X,W,Y⟩:=Ud j;exact Hd (by omega) o j Y (q _ X n (by rw[QI];exact QZ _) (n _ W))
theorem KZ{b:PT}{p:PSp}{N x:LS}{ds:LT}{Q:T->LT->Prop}(ρ:kA)(hl:ds.length=x.length)(hc:VB 0 p.md x.length=[3])(y:mB N p.md ds=ρ)(h:pF Ψ b (Nu Q) ρ):ds.length=x.length/\pF Ψ b (iD p x.length Q) (mB N p.md ds):=by
 have e:iD p x.length Q=Nu Q:=by unfold iD;rw[hc];rfl
 rw[e,y];exact⟨hl,h⟩
noncomputable def UC:PSp where
 md:=[.xx,.xy,.xx,.chg]
 run:=λy Q _=>∃(w:Wd) (l f:LN) (g:Kn),y=[.d (wD w),.lst ((l.map nD).map T.d),.d (.list (f.map nD)),zX g]/\(WOk w/\l.length<=100/\∀n∈l,n<w.es.length)/\X7 w f/\(fK w g/\g.length<=10000)/\∀x,fK w x->x.length<=g.length+10->Q (.lst (((yD w l f).map pr).map T.d)) [zX x]
 mono:=λh _ z=>by obtain⟨w,l,f,g,e,a,b,c,q⟩:=z;exact⟨w,l,f,g,e,a,b,c,λx u v=>h _ _ (q x u v)⟩
theorem KQ(h:WOk w)(l f:LN)(x:Str):(LZ w l f x).length<=10:=by unfold LZ;rw[QG];exact QX (Q1 _ _) h.ml
theorem Js{h:List Pt}{o6:Option Sl}{p:Str×Int×Int×Int}(u:WOk w)(j:i.map (λx=>x.1)=w.ms)(b:∀x∈i,∀y,y∈x.2↔oJ w l f x.1 y)(hl:h.length<=1000)(q:Z.nx (cZ w l f g i o6 o7 (oW (.lst (((h++LZ w l f p.1).map pr).map T.d))) (bD (tJ p)))):pF Ψ VD Z (cZ w l f g i o6 o7 (oW (.lst ((h.map pr).map T.d))) (bD (tJ p))):=by
 have n:=u.ml;have k:=KQ u l f p.1;delta cZ;delta VD;simp_arith[↓Of];rw[<- lA PyData.str];refine fA (λm=>T.d (.str m)) (λm=>T.d (pr (p.1,m))) (y8 w l f p.1) w.ms [] _ (λm a R z=>?_) (by show 0+w.ms.length<=_;omega) ?_;simp_arith[↓Et,↓KN,↓Jw];refine zo (j▸a) λv hv=>?_;have e:decide (p.1∈v)=y8 w l f p.1 m:=by rw[Q3,decide_eq_true_iff];exact(b _ hv p.1).trans (HI w l f p.1 m).symm
 simp_arith[gL,OI,iB,true_or,e];split at z;rename_i c;rw[if_pos c];exact⟨by omega,z⟩;rename_i c;rw[if_neg c];exact z;rw[Qh,lA λm=>pr (p.1,m)];have e:((w.ms.filter (y8 w l f p.1)).map λm=>pr (p.1,m))=(LZ w l f p.1).map pr:=by unfold LZ;rw[Qb];rfl
 rw[e,<- QR,<- QR];exact⟨by rw[QG,QG,QG,QG];omega,q⟩
theorem P9(M:Ψ.sp "seen_among"=DG)(L:Ψ.sp "seers_of"=JJ)(J:Ψ.sp "edges_of"=ZJ)(I:Ψ.sp "holders_in"=FG)(ds Q E)(h:UC.run ds Q E):nH Ψ eF UC lJ dH ds Q:=by
 obtain⟨w,l,f,g,rfl,⟨n,hl,F⟩,hv,⟨hk,G⟩,q⟩:=h;have S:=n.ml;have R:=n.pl;refine KZ [bD (wD w),some (.ky (.lst ((l.map nD).map T.d))),bD (.list (f.map nD)),oW (zX g),none,none,none,none,none,none] rfl rfl rfl ?_;delta eF;simp_arith[↓fP,↓Of,↓cA (md:=[.xx,.xy]) M rfl rfl,↓zC,↓k8];refine UR hl F ?_;simp_arith[↓Of];rw[<- lA PyData.str];refine kB (λm=>T.d (.str m)) (λr b=>∃u i a o7,i.map (λx=>x.1)++r=w.ms/\(fK w u/\u.length+r.length<=g.length+w.ms.length)/\(∀x∈i,∀y,y∈x.2↔oJ w l f x.1 y)/\b=cZ w l f u i a o7 none none) ?_ ?_ w.ms _ ⟨g,[],none,none,rfl,⟨hk,QZ _⟩,(λx j=>by cases j),rfl⟩;rintro b ⟨u,i,a,o7,e,⟨Y,o⟩,K,rfl⟩;have e:i.map (λx=>x.1)=w.ms:=by rw[<- e,qB]
 have o:u.length<=g.length+w.ms.length:=o;delta cZ;simp_arith[↓TZ];rw[<- lA tJ];refine⟨by omega,?_⟩;refine kB (λp=>T.d (tJ p)) (λr b=>∃k a o7 o9,k++r.flatMap (λp=>LZ w l f p.1)=yD w l f/\k.length+10 * r.length<=200/\b=cZ w l f u i a o7 (oW (.lst ((k.map pr).map T.d))) o9) ?_ ?_ w.ps _ ⟨[],_,_,none,rfl,by show 0+10 * w.ps.length<=200;omega,rfl⟩;rintro b ⟨k,a,o7,o9,s,_,rfl⟩;have s:k=yD w l f:=by rw[<- s];exact(qB k).symm
 subst s;delta cZ;simp_arith[↓zA];exact q u Y (by omega);rintro p r b N W ⟨k,a,o7,o9,s,A,rfl⟩;have A:k.length+10 * (r.length+1)<=200:=A;have B:=KQ n l f p.1;refine Js n e K (by omega) (W _ ⟨k++LZ w l f p.1,a,o7,_,?_,by rw[QI];omega,rfl⟩);rw[Qv];exact s;rintro m r b N W ⟨u,i,a,o7,e,⟨Y,o⟩,K,rfl⟩;have o:u.length+(r.length+1)<=g.length+w.ms.length:=o;have C:i.length+(r.length+1)=w.ms.length:=by rw[<- e,QI,QG];rfl
 have nd:=n.mn;rw[<- e]at nd;refine Ys L J I n hv Y (by omega) (by omega) (λz=>(qV.mp nd).2.2 m z m QD rfl) λX v P H O=>W _ ⟨X,i++[(m,v)],_,_,?_,⟨P,by omega⟩,?_,rfl⟩;rw[QR,Qv];exact e;intro x j;rcases Qf.mp j with j|j;exact K x j;rw[QJ.mp j];exact O
end
end L2.L3.K37
namespace L2.L3
open PySem PySem.Spec PyProof.Rows PySem.W PySem.SeqAt
def CD(h:Heap)(v:Value)(p:Int×Int):Prop:=∃a o n t u,v=.ref a/\h.get? a=some o/\o.cls=.type "tuple"/\o.data=.seq (qF [Value.int p.1 t,Value.int p.2 u]) n
theorem CD.keep{h h':Heap}{v:Value}{x:Int×Int}{c:Addr}{u:Obj}(e:h.get? c=some u)(hc:u.cls≠.type "tuple")(k:∀b o,b≠c->h.get? b=some o->h'.get? b=some o)(t:CD h v x):CD h' v x:=by obtain⟨a,o,n,t,r,f,y,w,d⟩:=t;exact⟨a,o,n,t,r,f,k _ _ (λz=>by rw[z,e]at y;cases y;exact hc w) y,w,d⟩
section
variable{prog:Program}{w:World}{A:Around}{E:pC}{s:Shared}
section
variable{vs:LW}{r f:Addr}{a b c:Int}{t u v:Tok}{n:Nat}{kz:List (Int×Int)}
theorem Rh{v u:Value}{x y:Int×Int}{Q:Bool->Shared->Prop}(hv:CD s.heap v x)(z:CD s.heap u y)(q:Q (decide (x.1<y.1∨x.1=y.1/\x.2<y.2)) s):wpAny (model prog w) A (keyLt' (tuples' true) v u) Q E s:=by obtain⟨a,o,n,t,r,rfl,g,_,j⟩:=hv;obtain⟨b,p,X,l,m,rfl,k,_,i⟩:=z;refine kat_lt g j k i (kat_cons (QAl ?_));by_cases e:x.1=y.1;rw[e,beq_self_eq_true];refine kat_yes (kat_cons (QAl ?_));by_cases h:x.2=y.2;rw[h,beq_self_eq_true];refine kat_yes (kat_nil ?_);rw[show decide (x.1<y.1∨x.1=y.1/\x.2<y.2)=false from dF (by omega)]at q;exact q;rw[beq_false_of_ne h];refine kat_no (kat_one _ _ (PyProof.Rows.lt_int ?_));rw[show decide (x.1<y.1∨x.1=y.1/\x.2<y.2)=decide (x.2<y.2) from decide_eq_decide.mpr (by omega)]at q;exact q;rw[beq_false_of_ne e];refine kat_no (oneLt_int ?_);rw[show decide (x.1<y.1∨x.1=y.1/\x.2<y.2)=decide (x.1<y.1) from decide_eq_decide.mpr (by omega)]at q;exact q
theorem U5{ns:List (Int×Int)}{Q:SortKind->Shared->Prop}(l:Paired (CD s.heap) vs ns)(K:2<=vs.length)(q:Q (tuples' true) s):wpAny (model prog w) A (keyKind' vs.toArray) Q E s:=by
 have key:∀{vs:LW}{ns:List (Int×Int)},Paired (CD s.heap) vs ns->∃fs,KatTups s.heap vs fs/\fs.length=vs.length/\∀f∈fs,∃x t,f=.int x t:=by
  intro vs ns h;induction h with
  |nil=>exact⟨[],.nil,rfl,λ_ z=>(nomatch z)⟩
  |@cons v x Z Y h _ e=>obtain⟨fs,j,i,g⟩:=e;obtain⟨a,o,n,t,r,rfl,p,hc,X⟩:=h;refine⟨.int x.1 t::fs,.cons (f:=.int x.1 t) p hc X (by simp) j,by rw[QM,QM,i],λf m=>?_⟩;rcases QL.mp m with rfl|z;exact⟨_,_,rfl⟩;exact g f z
 obtain⟨fs,k,W,y⟩:=key l;exact kat_kind (T:=.type "int") k (by omega) (λv hv=>by obtain⟨x,t,rfl⟩:=y v hv;exact .of_pure rfl) (by decide) q
theorem XH{α x:Type}{R:α->x->Prop}{d:α}{e:x}:∀{l:List α}{m:List x},Paired R l m->∀i,i<l.length->R (l.getD i d) (m.getD i e)
 |_,_,.nil,i,h=>absurd h (Nat.not_lt_zero _)|_,_,.cons r _,0,_=>r|_,_,.cons _ t,i+1,h=>XH t i (wn h)
theorem iK{α x:Type}{R:α->x->Prop}:∀{l z:List α}{m y:List x},Paired R l m->Paired R z y->Paired R (l++z) (m++y)
 |_,_,_,_,.nil,h=>h|_,_,_,_,.cons r t,h=>.cons r (iK t h)
theorem NN{Q:LW->Shared->Prop}(Y:A.handled=none)(q:IsRange s.heap r a b c t u v)(x:QBO a b c=true)
  (X:WL a b c=n) (z:n<=2 ^ 24)
  (h:∀h' g y,(∀b o,s.heap.get? b=some o->h'.get? b=some o)->s.heap.objs.size<h'.objs.size->ItemsOf (λi v=>∃t,v=.int (a+i * c) t) y n->Q y.toList { s with heap:=h',toks:=g }) :
  wpAny (model prog w) A (collect (.ref r)) Q E s:=by
 unfold collect;refine QC (wpAny_runValue (Wx F.entry_proto_collect ?_));rw[WA F.plain_proto_collect _];show wpAny _ A.in1 (newList [] >>= λl=>again (.builtin "list.__iadd__" ⟨[l,.ref r],[]⟩)) _ _ s;refine QC (Qw ?_);refine QK ⟨QBg QBw _,Wx F.entry_list_iadd ?_⟩;rw[WA QBw _];have Z:(s.heap.push { cls:=.type "list",data:=.seq ([]:LW).toArray }).get? s.heap.objs.size=some { cls:=.type "list",data:=.seq #[] }:=QU _ rfl;show wpAny _ A.in1 (Builtin.List.listExtendWith (.ref s.heap.objs.size) (.ref r) (.ref s.heap.objs.size)) _ _ _;refine wpAny_extend_range (R:=λr j=>match r with | .ok (.ret v)=>wpAny (model prog w) A (match v with | .ref a=>(do let o <- load a;match o.data with | .seq m _=>pure m.toList|_=>unsupported "internal:collect")|_=>unsupported "internal:collect") Q E j | .ok _=>False | .error e=>E e j) (s:={ s with heap:=s.heap.push { cls:=.type "list",data:=.seq ([]:LW).toArray } }) Y (QH _ q) x X z _ _ _ Z λh' g y W p k it=>?_;show wpAny _ A (load s.heap.objs.size >>= _) _ _ _;refine QC (wpAny_load k ?_);exact QK (h h' g y (λb o e=>p b o (Qj (QY e)) (QH _ e)) (QY k) it)
theorem Th{a:Addr}{P:PySem.Fin->Shared->Prop}(ho:s.heap.get? a=some (seqObj "list" vs.toArray n))(h64:vs.length<64)(hl:kz.length=vs.length)
  (hf:∀(h:Heap) (g:Nat),(∀b o,b≠a->s.heap.get? b=some o->h.get? b=some o)->∀(i:Nat) (x:Value) (p:Int×Int),vs[i]?=some x->kz[i]?=some p->∀C:Value->Shared->Prop,
   (∀W m k,(∀b o,h.get? b=some o->W.get? b=some o)->CD W k p->C k { s with heap:=W,toks:=m })->wpAny (model prog w) A (call (.ref f) [x]) C (λ_ _=>False) { s with heap:=h,toks:=g })
  (k:∀(p:Array Nat) (h':Heap) (g c:Nat),Pm vs.length p->True->(∀b o,b≠a->s.heap.get? b=some o->h'.get? b=some o)->h'.get? a=some (seqObj "list" (p.toList.map λi=>vs.getD i Value.none).toArray c)->P (.done (.ret .none)) { s with heap:=h',toks:=g }) :
  wpAny (model prog w) A (ksk_tree a (.ref f) false) P E s:=by
 have ha:a<s.heap.objs.size:=QY ho;have s1:=Q4 s.heap a (Q5 λ_=>(#[]:Array Value));obtain⟨G,ho1⟩:∃G,(s.heap.update a (Q5 λ_=>(#[]:Array Value))).get? a=some (seqObj "list" #[] G):=⟨_,W0 ho λ_=>#[]⟩
 generalize hH:((s.heap.update a (Q5 λ_=>(#[]:Array Value))).push (seqObj "tuple" vs.toArray 0))=hT;have S:hT.objs.size=s.heap.objs.size+1:=by rw[<- hH,size_push',QCA]
 have kS0:(hT.push (seqObj "list" #[] 0)).get? hT.objs.size=some (seqObj "list" #[] 0):=QU _ rfl;have a0:(hT.push (seqObj "list" #[] 0)).get? a=some (seqObj "list" #[] G):=QH _ (by rw[<- hH];exact QH _ ho1);have kp0:∀b o,b≠a->s.heap.get? b=some o->(hT.push (seqObj "list" #[] 0)).get? b=some o:=λb o hb e=>QH _ (by rw[<- hH];exact QH _ ((s1.2 b hb).trans e));have naK:a≠hT.objs.size:=by rw[S];exact Qj (w6 ha)
 unfold ksk_tree;refine QC (QB2 ho rfl (QC (WP ho rfl ?_ (by rw[QN];omega) (Qt _))));refine QC (QBL ho1 rfl (QC (QBE ?_ (by show vs.length<=_;omega))));refine QC (QAe (qi ?_) (Qt _));rw[hH];generalize hK:hT.objs.size=kS at *;have fin:∀(y:LW) (e:Nat) (h:Heap) (g:Nat) (st:SortSt) (p:Array Nat),y.length=vs.length->h.get? kS=some (seqObj "list" (qF y) e)->h.get? a=some (seqObj "list" #[] G)->(∀b o,b≠a->s.heap.get? b=some o->h.get? b=some o)->Pm vs.length p->True ->
   (arrOf st).map (·.2)=qF (p.toList.map λi=>vs.getD i Value.none)->failedOf st=none->wpAny (model prog w) A (ksk_tail a false G (.ref kS) st) P E { s with heap:=h,toks:=g }:=by
  intro y e h g st p Z hk l I pm H hout N;have t1:=Q4 h kS (Q5 λ_=>(#[]:Array Value));have R:=(t1.2 a naK).trans l;have t2:=Q4 (h.update kS (Q5 λ_=>(#[]:Array Value))) a (Q5 λ_=>qF (p.toList.map λi=>vs.getD i Value.none));have hps:(p.toList.map λi=>vs.getD i Value.none).length=vs.length:=by rw[QG,(qO.mp pm).length_eq];simp
  unfold ksk_tail;dsimp only;rw[hout];refine QC (WP hk rfl ?_ (by rw[QN,Q7];omega) (Qt _));refine QC (wpAny_letGo (QC (QBL R rfl (QC (WP R rfl ?_ (Qt _) (by simp only[Qn,if_false];rw[QN,Q7];omega))))));rw[N];simp only[bne_self_eq_false,Qn,if_false];refine QK (k p _ g _ pm H (λb o hb e=>?_) (W0 R λ_=>qF (p.toList.map λi=>vs.getD i Value.none)));have O:b≠kS:=λz=>by have:=QY e;rw[z,S]at this;exact absurd this (Nat.not_lt.mpr (wc _))
  exact(t2.2 b hb).trans ((t1.2 b O).trans (I b o hb e))
 have L:∀(y:LW) (e:Nat) (h:Heap) (g:Nat),Paired (CD h) y kz->h.get? kS=some (seqObj "list" (qF y) e)->h.get? a=some (seqObj "list" #[] G)->(∀b o,b≠a->s.heap.get? b=some o->h.get? b=some o) ->
   wpAny (model prog w) A (ksk_end a false vs.toArray G (.ref kS) (qF y)) P E { s with heap:=h,toks:=g }:=by
  intro y e h g Y hk l I;have Z:y.length=vs.length:=(qH Y).trans hl;unfold ksk_end;dsimp only;simp only[Qn,if_false];by_cases h2:vs.length<2;have F:vs.toArray.size<2:=by rw[QN];exact h2
  rw[if_pos F,if_pos F];refine QC (QK ?_);rw[QCJ];refine QC (QK ?_);refine fin y e h g _ (qF (Qr vs.length)) Z hk l I (QCI _) trivial ?_ rfl;show((qF y).zip vs.toArray).map (·.2)=_;rw[sO];apply WC.mp;simp[WD,Z];have F:¬ vs.toArray.size<2:=by rw[QN];exact h2
  rw[if_neg F,if_neg F];refine QC (U5 (s:={ s with heap:=h,toks:=g }) Y (by omega) ?_);have tree:(kas_sort vs.length).kasWp (kas_ask prog w A (tuples' true) y) (λp K=>K={ s with heap:=h,toks:=g }/\Pm vs.length p/\True) { s with heap:=h,toks:=g } :=
   PC.wp (λi j hi hj C hC=>Rh (s:={ s with heap:=h,toks:=g }) (XH (e:=(0,0)) Y i (by omega)) (XH (e:=(0,0)) Y j (by omega)) (hC _)) (λp Y=>⟨rfl,Y,trivial⟩) (UT (by omega))
  refine QC (qr (kat_run (Q:=λB K=>∃p:Array Nat,arrOf B=p.map (kas_item ((qF y).zip vs.toArray))/\failedOf B=none/\K={ s with heap:=h,toks:=g }/\Pm vs.length p/\True) Z (by omega) h64 (λp B K _ a2 a3 a4=>⟨p,a2,a3,a4⟩) tree) ?_ λ_ _ x=>x);rintro⟨⟨⟩,B⟩ K ⟨p,har,N,rfl,pm,H⟩;exact fin y e h g B p Z hk l I pm H (kat_snds Z har) N
 unfold ksk_rest;refine QC (QBq ?_);rw[List.forIn_toArray];refine QC (ksk_fold (λj K=>∃(y:LW) (e:Nat) (h:Heap) (g:Nat),K={ s with heap:=h,toks:=g }/\Paired (CD h) y (kz.take j)/\h.get? kS=some (seqObj "list" (qF y) e)/\h.get? a=some (seqObj "list" #[] G)/\(∀b o,b≠a->s.heap.get? b=some o->h.get? b=some o)/\j<=vs.length) vs 0 _ ⟨[],0,_,s.toks,rfl,.nil,kS0,a0,kp0,Qt _⟩ (λj x K hx hI=>?_) λK hI=>?_);obtain⟨y,e,h,g,rfl,Y,hk,l,I,jl⟩:=hI;rw[Wc]at Y jl ⊢;have jv:j<vs.length:=(Qg.mp hx).1;have hkl:y.length=j:=by rw[qH Y,wg];omega
 have hzj:kz[j]?=some (kz[j]'(by omega)):=Qx _;refine QC (Ws (qr (hf h g I j x _ hx hzj (λJ K=>∃W m,K={ s with heap:=W,toks:=m }/\(∀b o,h.get? b=some o->W.get? b=some o)/\CD W J (kz[j]'(by omega))) λW m J X ka=>⟨W,m,rfl,X,ka⟩) (λJ K hc=>?_) λ_ _ z=>z.elim));obtain⟨W,m,rfl,X,ka⟩:=hc;have ea:(qF y).push J=qF (y++[J]):=by simp
 have s5:=Q4 W kS (Q5 (·.push J));have M:=X _ _ hk;dsimp only;refine QC (WP M rfl ?_ (by rw[QN,Q7];omega) (QX (wx (Array.size_push ..)) (by rw[QN,Q7];omega)));refine QK ⟨rfl,y++[J],_,_,m,rfl,?_,by rw[<- ea];exact W0 M (·.push J),(s5.2 a naK).trans (X _ _ l),λb o hb q=>?_,jv⟩;have H:∀{v:Value}{x:Int×Int},CD W v x->CD (W.update kS (Q5 (·.push J))) v x:=λt=>t.keep M (by show Value.type "list"≠Value.type "tuple";decide) λb o hb q=>(s5.2 b hb).trans q;rw[List.take_succ,hzj];exact iK (L2.Paired.mapP Y λ_ _ ⟨a1,o1,n1,t1,r1,G,g1,c1,d1⟩=>H ⟨a1,o1,n1,t1,r1,G,X _ _ g1,c1,d1⟩) (.cons (H ka) .nil);have O:b≠kS:=λz=>by have:=QY q;rw[z,S]at this;exact absurd this (Nat.not_lt.mpr (wc _))
 exact(s5.2 b O).trans (X _ _ (I b o hb q));obtain⟨y,e,h,g,rfl,Y,hk,l,I,_⟩:=hI;rw[Wc,<- hl,List.take_length]at Y;exact QC (QB2 hk rfl (L y e h g Y hk l I))
theorem V8{Q:pC}(S:A.handled=none)(N:IsRange s.heap r a b c t u v)(y:QBO a b c=true)
  (R:WL a b c=n) (h64:n<64) (hl:kz.length=n)
  (H:∀(Y:Heap) (z:Nat),(∀b o,s.heap.get? b=some o->Y.get? b=some o)->∀(i:Nat) (Z:Tok) (p:Int×Int),kz[i]?=some p->∀C:Value->Shared->Prop,
   (∀I W k,(∀b o,Y.get? b=some o->I.get? b=some o)->CD I k p->C k { s with heap:=I,toks:=W })->wpAny (model prog w) A.in1.in1 (call (.ref f) [Value.int (a+i * c) Z]) C (λ_ _=>False) { s with heap:=Y,toks:=z })
  (k:∀(p:Array Nat) (vs:LW) (D:Addr) (h':Heap) (z e:Nat),Pm n p->True->(∀b o,s.heap.get? b=some o->h'.get? b=some o)->s.heap.objs.size<=D->vs.length=n->(∀(i:Nat) x,vs[i]?=some x->∃t,x=Value.int (a+i * c) t) ->
   h'.get? D=some (seqObj "list" (p.toList.map λi=>vs.getD i Value.none).toArray e)->Q (.ref D) { s with heap:=h',toks:=z }) :
  wpAny (model prog w) A (call (.builtin "sorted") [.ref r] [(QS "key",.ref f)]) Q E s:=by
 refine call_function_entry_kw kind_sorted plain_sorted entry_sorted (ksk_s1 _ _) ?_;unfold Builtin.«sorted»;refine QC (m:=checkCount "sorted" 1 1 _) (QK ?_);refine QC (NN S N y R (by omega) λg K h l G it=>?_);have L:h.toList.length=n:=by rw[Qs];exact it.1
 refine QC (QAe ?_ (by rw[Q7];omega));have X:(g.push (seqObj "list" h.toList.toArray 0)).get? g.objs.size=some (seqObj "list" h.toList.toArray 0):=QU _ rfl;have j:∀b o,s.heap.get? b=some o->(g.push (seqObj "list" h.toList.toArray 0)).get? b=some o:=λb o q=>QH _ (l b o q);refine QC (qi (wpAny_call_entry_kw slot_list_sort ⟨_,X,rfl⟩ entry_list_sort ?body (ksk_l1 _ _)))
 case body =>
  show wpAny (model prog w) A.in1.in1 (Builtin.«list.sort» ⟨[.ref g.objs.size],[(QS "key",.ref f)]⟩) _ _ _;rw[ksk_t1];have nD:∀b o,s.heap.get? b=some o->b≠g.objs.size:=λb o q=>Qj (QY (l b o q));refine Th (s:={ s with heap:=g.push (seqObj "list" h.toList.toArray 0),toks:=K }) (kz:=kz) X (by omega) (by omega) (λY z B i x p F O C hC=>?_) λp h' z c J M B P=>⟨_,rfl,QK ⟨_,rfl,?_⟩⟩
  obtain⟨Z,rfl⟩:=it.2 i x (by rw[<- F,We]);exact H Y z (λb o q=>B b o (nD b o q) (j b o q)) i Z p O C hC;rw[L]at J;exact k p h.toList _ h' z c J M (λb o q=>B b o (nD b o q) (j b o q)) (QAv G) L (λi x F=>it.2 i x (by rw[<- F,We])) P
end
end
section
variable{U Z p2 W V Y X K:Pos}
noncomputable abbrev X5(U Z p2 W V Y X:Pos):Expr:=.Tuple [.Subscript (.Subscript (.Name "events" U) (.Name "number" Z) p2) (.Constant (.int 1) 0 W) V,.Name "number" Y] 0 X
noncomputable abbrev La(K:Pos):Arguments:={ posonlyargs:=[],args:=[{ arg:="number",annotation:=none,pos:=K }],vararg:=none,kwonlyargs:=[],kw_defaults:=[],kwarg:=none,defaults:=[] }
noncomputable abbrev vV:Scope:={ kind:=.function,names:=[(QS "number",.local),(QS "events",.free)],isGenerator:=false,isCoroutine:=false,more:=[] }
variable{prog:Program}{w:World}{A:Around}{E:pC}{s:Shared}
section
variable{h h':Heap}{y n:Addr}{i:Nat}{g:Int}{l:Tok}
def kO(h:Heap)(y:Addr)(i:Nat)(g:Int):Prop:=∃(x z:Array Value) (t:Addr) (u:Tok),(h.IsList y x∨IsTup h y x)/\x[i]?=some (.ref t)/\i<2 ^ 62/\x.size<2 ^ 62/\IsTup h t z/\z[1]?=some (.int g u)/\z.size<2 ^ 62
theorem kO.keepB{P:Addr}{m:Array Value}(p:h.get? P=some (tabObj m))(k:∀b o,b≠P->h.get? b=some o->h'.get? b=some o)(x:kO h y i g):kO h' y i g:=by
 obtain⟨f,j,t,u,a,b,c,q,⟨o,d⟩,e⟩:=x;have v:∀{b:Addr}{o:Obj}{T:String},h.get? b=some o->o.cls=.type T->b≠P:=λe c z=>by rw[z,p]at e;cases e;cases c
 refine⟨f,j,t,u,?_,b,c,q,⟨o,k _ _ (v d.1 d.2.1) d.1,d.2⟩,e⟩;rcases a with⟨o,a⟩| ⟨o,a⟩
 exact .inl ⟨o,k _ _ (v a.1 a.2.1) a.1,a.2⟩;exact .inr ⟨o,k _ _ (v a.1 a.2.1) a.1,a.2⟩
theorem kO.keep(z:∀b o,h.get? b=some o->h'.get? b=some o)(x:kO h y i g):kO h' y i g:=by
 obtain⟨v,k,t,u,a,b,c,f,⟨o,d⟩,e⟩:=x;refine⟨v,k,t,u,?_,b,c,f,⟨o,z _ _ d.1,d.2⟩,e⟩;rcases a with⟨o,a⟩| ⟨o,a⟩
 exact .inl ⟨o,z _ _ a.1,a.2⟩;exact .inr ⟨o,z _ _ a.1,a.2⟩
theorem K5{env:Env}{L:Addr}{m:Str->Option Value}{Q:pC}(hk:env.scope=vV)(G:env.cells.lookup (QS "events")=some n)(hc:s.heap.IsCell n (some (.ref y)))
  (S:env.locals=L) (P:s.heap.Ns L m) (R:m "number"=some (.int i l)) (F:kO s.heap y i g)
  (q:∀J u,Q (.ref s.heap.objs.size) { s with heap:=s.heap.push { cls:=.type "tuple",data:=.seq (qF [Value.int g u,Value.int i l]) },toks:=J }) :
  wpAny (model prog w) A (eval (X5 U Z p2 W V Y X) env) Q E s:=by
 have N:env.kindOf "number"=some .local:=by show env.scope.names.lookup _=_;rw[hk];rfl
 have O:env.kindOf "events"=some .free:=by show env.scope.names.lookup _=_;rw[hk];rfl
 have k:env.scope.kind=.function:=by rw[hk]
 obtain⟨C,B,t,u,a,b,c,c2,d,e,c3⟩:=F;subst S;have v:∀{p:Pos}{Q:pC}(z:Shared),z.heap=s.heap->Q (.int i l) z->wpAny (model prog w) A (eval (.Name "number" p) env) Q E z:=λz I q=>QA4 (QA5 k N (by rw[I];exact P) R q) (by decide);refine QBI ?_;show wpAny _ _ (spliced ((false,eval (.Subscript (.Subscript (.Name "events" U) (.Name "number" Z) p2) (.Constant (.int 1) 0 W) V) env)::backTo X (starEach [.Name "number" Y] env))) _ _ s;refine WM (QBm (QBm (QA4 (QBH k O G hc (v _ rfl ?_) (by decide)) (by decide))));have o:(0:Int)<=(i:Int):=QBi i;have f:(i:Int)<2 ^ 63:=by omega (config:={})
 have M:∀{Q:pC},Q (.ref t) s->wpAny (model prog w) A (subscriptTail (.Name "events" U) (.Name "number" Z) (.ref y) (.int i l)) Q E s:=λ{Q} q=>by rcases a with a|a;exact item_listR a o f (by simpa using b) q;have I:i<C.size:=(QAC.mp b).1;exact qe (x:=.ref t) a.typeIs QAD.lookup (QBc (j:=i) (Q:=λr z=>r=.ref t/\Q r z) a (by omega (config:={})) f (by rw[QAc o (by omega (config:={}))];simp) b ⟨rfl,q⟩)
 refine M (QBY ?_);have H:1<B.size:=(QAC.mp e).1;refine qe (x:=.int g u) (s:={ s with toks:=s.toks+1 }) (show IsTup s.heap t B from d).typeIs QAD.lookup (QBc (j:=1) (show IsTup s.heap t B from d) (by decide) (by decide) (by rw[QAc (by decide) (by omega (config:={}))];rfl) e ⟨rfl,?_⟩);show wpAny _ _ (spliced ((false,eval (.Name "number" Y) env)::backTo X (starEach [] env))) _ _ _;exact WM (v _ rfl (QAV ⟨by rw[Q7];show 2<=_;decide,q _ _⟩))
theorem V5{f L:Addr}{z:Str}{N I:Value}{C:pC}(j:A.depth<recursionLimit)(P:s.heap.get? f=some (kla_obj "<lambda>" z (La K) (X5 U Z p2 W V Y X) vV [(QS "events",n)] N L I))
  (F:s.heap.CodeRec (.ref L) z) (r:s.heap.NoLimit) (hc:s.heap.IsCell n (some (.ref y))) (B:kO s.heap y i g)
  (k:∀G p v,(∀b o,s.heap.get? b=some o->G.get? b=some o)->CD G v (g,(i:Int))->C v { s with heap:=G,toks:=p }) :
  wpAny (model prog w) A (call (.ref f) [.int i l]) C E s:=by
 refine wpAny_call (kla_callFunE j P rfl rfl rfl rfl F ?_);show wpAny _ _ (pure [(QS "number",Value.int i l)]) _ _ _;refine QK (QA6 (show ∀x∈vV.names,x.2≠NameKind.cell by decide) (by intro x O;rcases QJ.mp O with rfl;rfl) (λJ q m=>⟨r.fresh _ m,kla_codeExpr ?_⟩) rfl);have a:∀b o,s.heap.get? b=some o->J.get? b=some o:=λb o e=>m.extBut b o (Qj (QY e)) (QH _ e);refine K5 (s:={ s with heap:=J,toks:=s.toks+1 }) rfl rfl (hc.keeps a) rfl q rfl (B.keep a) λM u=>?_;exact k _ M _ (λb o e=>QH _ (a b o e)) ⟨_,_,_,_,_,rfl,QU _ rfl,rfl,rfl⟩
end
end
theorem EV{pos:Pos}{a b:Int}{c y:Value}(l:LW)(h:TriplesOk l)(g:codeAmong pos (l++[rawInt a,rawInt b,c])=some y):codeAmong pos l=some y∨y=c:=by
 fun_induction TriplesOk l with
 |case1=>right;have g:codeAmong pos [rawInt a,rawInt b,c]=some y:=g;unfold rawInt codeAmong at g;split at g;exact(Qo g).symm;cases g|case2 i t f u x v w=>simp only[QAh,codeAmong]at g ⊢;split at g;rename_i z;rw[if_pos z];exact .inl g;rename_i z;rw[if_neg z];exact w h g|case3 l e k=>exact h.elim
section
variable{X:Cx}{h:PB}{σ:St}{H:Hp}{s:Shared}
theorem _root_.L2.Inv.tabbed{P x:Addr}{q:Str}{y:Array Value}{K W:Int}{h':Heap}{t':Nat}(I:Inv X h σ H s)(m:H P=some (.tbl q))(N:s.heap.get? P=some (tabObj y))(A:TriplesOk y.toList)(p:∀pos l,codeAmong pos y.toList=some l->∃c,l=.ref c/\H c=some (.own P)/\s.heap.CodeRec l q)
  (a:Ww P s.heap h') (i:s.heap.objs.size<=x) (B:h'.CodeRec (.ref x) q) (f:h'.get? P=some (tabObj (y++#[rawInt K,rawInt W,.ref x]))):H x=none/\Inv X h σ (CA H x (.own P)) { s with heap:=h',toks:=t' }:=by
 have C:H x=none:=I.hok.fresh i;have w:∀b o,H b=some o->b≠x:=λb o e z=>by rw[z,C]at e;cases e
 have Z:∀b,H b=none->b≠P:=λb e z=>by rw[z,m]at e;cases e
 refine⟨C,I.un ⟨λb o e n _ _=>a b o (Z b n) e,λb o e n _ _=>⟨o.slots,a b o (Z b n) e⟩,λb o e n _=>?_,λb o e _=>?_,λb F e=>?_,λb o u e=>?_,λb q e=>?_⟩ λb u e=>?_⟩;rw[vA (Qj (Qm (QY e) i))];exact n;by_cases hb:b=P
 ·exact⟨_,hb▸f⟩
 exact⟨o,a b o hb e⟩;rw[vA (w b _ e)];exact e;rw[vA (w b _ e)];exact e;rw[vA (w b _ e)];exact e;by_cases hb:b=x
 ·subst hb
  rw[YA]at e;cases e;obtain⟨c,o,Y,t,M,L,_⟩:=B;cases M;exact⟨o,L⟩
 rw[vA hb]at e;by_cases j:b=P;subst j;rw[m]at e;cases e;refine⟨_,f,?_,λpos l g=>?_⟩;simpa using TriplesOk_snoc K W _ y.toList A;rcases EV y.toList A (by simpa using g) with g|rfl
 ·obtain⟨c,rfl,o,O,ob,Y,G,E,J,r⟩:=p pos l g
  cases E;refine⟨c,rfl,by rw[vA (w c _ o)];exact o,c,ob,Y,G,rfl,a _ _ (λz=>?_) J,r⟩;rw[z,m]at o;cases o
 exact⟨x,rfl,YA,B⟩;refine(I.hok b u e).stay (λd v k g=>a d v (λz=>?_) g) (λd g=>by rw[vA (w d _ g)];exact g) λd F g=>by rw[vA (w d _ g)];exact g
 rcases k with k|k;exact j (k.symm.trans z);rw[z,m]at k;cases k
end
def Hu(K:QA)(H:Hp)(xs:LV)(kz:List (Int×Int)):Prop:=kz.length=xs.length/\∀(j:Nat) p,kz[j]?=some p->p.2=j/\∃t h,xs[j]?=some (.ref t)/\ED K H t h/\h[1]?=some (.int p.1)
noncomputable def Cu(K:QA)(P:Addr)(i:Nat):TE:=λy H Q=>∃ev h z,y[i]?=some (some (.ref ev))/\(AC K H ev h∨ED K H ev h)/\Hu K H h z/\h.length<64 /\
 ∀(p:Array Nat) x l,Pm h.length p->True->(x=H∨∃c,H c=none/\x=CA H c (.own P))->x l=none->Q (.ref l) (CA x l (.lst (p.toList.map λ(i:Nat)=>V.int i)))
section
variable{X:Cx}{J G p2 F E B W U Z S M Y g d a O L:Pos}
section
variable{x:PB}{σ:St}{H:Hp}{s:Shared}{y:Addr}{kz:List (Int×Int)}{i:Nat}{q:Str}
theorem ao{xs:LV}(I:Inv X x σ H s)(k:AC X.K H y xs∨ED X.K H y xs)(C:Hu X.K H xs kz):∀(j:Nat) p,kz[j]?=some p->kO s.heap y j p.1:=λj p N=>by obtain⟨_,t,ys,f,Q,P⟩:=C.2 j p N;have hz:=Q7;obtain⟨h,n,w,R⟩:=I.tuple Q;obtain⟨u2,o,A⟩:=n.get P;obtain⟨m,rfl⟩:=A;have l2:=n.length;have jl:j<xs.length:=(Qg.mp f).1;rcases k with k|k;obtain⟨v,r,b,z⟩:=I.list k;obtain⟨u,e,q⟩:=r.get f;cases q;have l:=r.length;exact⟨v.toArray,h.toArray,t,m,.inl b.isList,by simpa using e,by omega,by rw[QN];omega,w,by simpa using o,by rw[QN];omega⟩;obtain⟨v,r,b,z⟩:=I.tuple k;obtain⟨u,e,q⟩:=r.get f;cases q;have l:=r.length;exact⟨v.toArray,h.toArray,t,m,.inr b,by simpa using e,by omega,by rw[QN];omega,w,by simpa using o,by rw[QN];omega⟩
theorem Lb(I:Inv X x σ H s)(w:X.N[i]?=some (QS "events"))(h:X.env.scope.names.lookup (QS "events")=some .cell)(hv:σ[i]?=some (some (.ref y))):∃v,X.env.cells.lookup (QS "events")=some v/\s.heap.IsCell v (some (.ref y)):=by
 obtain⟨m,_,hl⟩:=I.loc;obtain⟨u,r,l⟩:=hl i "events" _ w hv (.inr (.inl h));cases r;rcases l with⟨k,_⟩| ⟨_,c,e,z⟩
 have k:X.env.scope.names.lookup (QS "events")=some .local:=k;rw[h]at k;cases k;exact⟨c,e,z⟩
theorem lK{n:Nat}{vs:LW}(hv:∀i,i<n->∃t,vs.getD i Value.none=.int (i:Int) t):∀l:LN,(∀i∈l,i<n)->oA (l.map λ(i:Nat)=>V.int i) (l.map λi=>vs.getD i Value.none)
 |[],_=>.nil|i::l,h=>.cons (hv i (h i QD)) (lK hv l λj z=>h j (QE _ z))
theorem BS{R f ce c':Addr}{b ctv:Value}{t u v:Tok}{Q:VK}{n:Nat}(I:Inv X x σ H s)(hh:X.A.handled=none)(z:X.A.in1.in1.depth<recursionLimit)
  (ho:s.heap.get? f=some (kla_obj "<lambda>" q (La U) (X5 J G p2 F E B W) vV [(QS "events",ce)] b c' ctv)) (m:s.heap.CodeRec (.ref c') q) (hc:s.heap.IsCell ce (some (.ref y))) (hev:∀(j:Nat) p,kz[j]?=some p->p.2=j/\kO s.heap y j p.1)
  (hl:kz.length=n) (h64:n<64) (hr:IsRange s.heap R 0 n 1 t u v) (k:∀(p:Array Nat) l,Pm n p->True->H l=none->Q (.ref l) (CA H l (.lst (p.toList.map λ(i:Nat)=>V.int i)))) :
  wpAny (model X.prog X.w) X.A (call (.builtin "sorted") [.ref R] [(QS "key",.ref f)]) (EP X x σ Q) X.xe s:=by
 refine V8 (n:=n) hh hr (small_one (by decide) (by decide) (by omega) (by omega)) (by rw[rangeSize_one];split<;>omega) h64 hl (λh3 P h j tx p hj C hC=>?_) λp K D h' P e b up h r vl hvs ho'=>?_;obtain⟨e2,ev'⟩:=hev j p hj;have e3:(0:Int)+(j:Int) * 1=(j:Int):=by omega
 rw[e3];refine V5 (s:={ s with heap:=h3,toks:=P }) z (h _ _ ho) (m.keeps h) (I.nolimit.keeps h) (hc.keeps h) (ev'.keep h) λh4 N v kp4 ka=>hC h4 N v kp4 ?_;rw[<- e2]at ka;exact ka;have pl:∀i∈p.toList,i<n:=λi hi=>by simpa using(qO.mp b).mem_iff.mp hi
 have ps:p.toList.length=n:=by rw[(qO.mp b).length_eq];simp
 refine⟨.ref D,CA H D (.lst (p.toList.map λ(i:Nat)=>V.int i)),I.laid (t':=P) h r ⟨by rw[QG,ps,Q7];omega,_,e,lK (λi hi=>?_) p.toList pl,ho'⟩,rfl,k p D b up (I.hok.fresh r)⟩;have o:i<K.length:=by omega
 obtain⟨t,e⟩:=hvs i (K[i]) (Qx o);refine⟨t,?_⟩;have:K.getD i Value.none=K[i]:=by simp[o]
 rw[this,e,show(0:Int)+(i:Int) * 1=(i:Int) by omega]
theorem g9{c P:Addr}(hN:X.N[i]?=some (QS "events"))(hs:X.env.scope.names.lookup (QS "events")=some .cell)(n:X.env.code=.ref c)(hC:CodeHd X.base c P)(hT:vP X.mg X.base P q)(hq:q=X.env.qual++"<lambda>")(hb:X.base.BuiltinsAt X.mg P)(hgP:mainGlobals≠P)
  (g1:Gl X "sorted") (m1:X.mg "sorted"=none) (g2:Gl X "range") (m2:X.mg "range"=none) (g3:Gl X "len") (m3:X.mg "len"=none) (hh:X.A.handled=none) (f:X.A.in1.in1.depth<recursionLimit) :
  PE X (.Call (.Name "sorted" S) [.Call (.Name "range" M) [.Call (.Name "len" Y) [.Name "events" g] [] d] [] a] [⟨some "key",.Lambda (La U) (X5 J G p2 F E B W) vV Z,O⟩] L) (Cu X.K P i):=by
 rintro x s σ H Q I ⟨y,xs,kz,hv,hsq,m,h64,k⟩;refine wq (FH I g1 m1 boot_sorted ?_);refine callWith_kw ?_;show wpAny _ _ (spliced ((false,eval (.Call (.Name "range" M) [.Call (.Name "len" Y) [.Name "events" g] [] d] [] a) X.env)::backTo L (starEach [] X.env))) _ _ s;have paL:PA X [.Call (.Name "len" Y) [.Name "events" g] [] d] _:=eI (cM yJ g3 m3 boot_len (eI (U3 hN (.inr (.inl hs))) CP)) CP;refine WM (Call_ (FH I g2 m2 boot_range (callWith_type1 (TB (paL a x s σ H (λvs H1=>vs=[.int xs.length]/\H1=H) I ?_) λus h ⟨vs,H1,I1,r1,q1⟩=>?_) rfl rfl)));exact⟨_,hv,y,xs,rfl,hsq,rfl,rfl⟩;obtain⟨rfl,rfl⟩:=q1;cases r1 with
 |cons r rr =>
 cases rr;obtain⟨t,rfl⟩:=r;refine call_range_1 (QAV (kws_cons (kla_eval rfl ?_)));have w:Inv X x σ H1 { h with heap:=h.heap.push { cls:=.type "range",data:=.fields #[.int 0 h.toks,.int xs.length t,.int 1 (h.toks+1)] },toks:=h.toks+1+1 }:=I1.kept λb o e=>QH _ e;have hr2:IsRange (h.heap.push { cls:=.type "range",data:=.fields #[.int 0 h.toks,.int xs.length t,.int 1 (h.toks+1)] }) h.heap.objs.size 0 xs.length 1 h.toks t (h.toks+1):=QU _ rfl;have hP:=w.tb P q hT;obtain⟨ps,hp,ht,hps⟩:=w.hok P _ hP;obtain⟨ce,hce,hcl⟩:=Lb w hN hs hv;have R:closureFor vV X.env=pure [(QS "events",ce)]:=by unfold closureFor cellOf;simp[hce]
 obtain⟨bm,ob,b1,b2,b3,b4,b5,b6⟩:=hb;have hb2:=And.intro b1 (And.intro b2 (And.intro b3 (And.intro b4 (And.intro (w.bk _ _ b5) b6))));have evs:=ao w hsq m;subst hq;cases e:codeAmong Z ps.toList with|none=>refine kla_makeFunction (mg:=X.mg) R I.ok.glob (w.mod.glob.keeps w.bk) n (hC.keeps w.bk) hp ht e hgP ⟨bm,ob,hb2⟩ λc' ctv h' tk hx hge hlt v htb=>evalAll_nil ?_;obtain⟨hn,I3⟩:=w.tabbed (t':=tk) hP hp ht hps hx hge v htb;have C:∀{oN:Obj}(b:Addr) (o:Obj),h'.get? b=some o->(h'.push oN).get? b=some o:=λb o e=>QH _ e;obtain⟨oc,c1,c2⟩:=hcl;show wpAny _ _ (call (.builtin "sorted") [.ref h.heap.objs.size] [(QS "key",.ref h'.objs.size)]) _ _ _;refine BS (I3.kept C) hh f (QU _ rfl) (v.push _) ⟨oc,C _ _ (hx _ _ (λz=>?_) c1),c2⟩ (λj p hj=>⟨(m.2 j p hj).1,((evs j p hj).keepB hp hx).keep C⟩) m.1 h64 (C _ _ (hx _ _ (λz=>?_) hr2)) λp l pm u hl=>k p _ l pm u (.inr ⟨c',hn,rfl⟩) hl;rw[z,hp]at c1;cases c1;cases c2;have z2:=hp.symm.trans (z▸hr2);cases z2|some cv=>obtain⟨c',rfl,_,v⟩:=hps _ _ e;refine kla_makeFunctionHit (mg:=X.mg) R I.ok.glob (w.mod.glob.keeps w.bk) n (hC.keeps w.bk) hp ht e ⟨bm,ob,hb2⟩ λctv h' tk kp hge=>evalAll_nil ?_;have C:∀{oN:Obj}(b:Addr) (o:Obj),(h.heap.push { cls:=.type "range",data:=.fields #[.int 0 h.toks,.int xs.length t,.int 1 (h.toks+1)] }).get? b=some o->(h'.push oN).get? b=some o:=λb o e=>QH _ (kp b o e);show wpAny _ _ (call (.builtin "sorted") [.ref h.heap.objs.size] [(QS "key",.ref h'.objs.size)]) _ _ _;exact BS (w.kept C) hh f (QU _ rfl) (v.keeps C) (hcl.keeps C) (λj p hj=>⟨(m.2 j p hj).1,(evs j p hj).keep C⟩) m.1 h64 (C _ _ hr2) λp l pm u hl=>k p _ l pm u (.inl rfl) hl
end
end
def MM:D->Option Int
 | .tuple h=>(match h[1]? with|some (PyData.int t)=>some t|_=>none)
 |_=>none
def OM(h:List D):List (Int×Int):=(Qr h.length).map λ(i:Nat)=>(((h[i]?).bind MM).getD 0,(i:Int))
theorem lZ{x:List D}{j:Nat}{p:Int×Int}(h:(OM x)[j]?=some p):j<x.length/\p=(((x[j]?).bind MM).getD 0,(j:Int)):=by unfold OM at h;rw[Qd]at h;by_cases c:j<x.length;rw[Wz c]at h;exact⟨c,(Qo h).symm⟩;rw[Q8 (by simpa using c)]at h;cases h
def Dp(h:List D)(ns:LN):Prop:=ns.Perm (Qr h.length)/\True
def Bm:PSp where
 md:=[]
 run:=λz Q _=>∃x:List D,z=[.d (.list x)]/\x.length<64/\(∀e∈x,∃t,MM e=some t)/\∀y,Dp x y->Q (.lst (y.map λ(i:Nat)=>.d (.int i))) []
 mono:=λh _ ⟨x,a,b,c,d⟩=>⟨x,a,b,c,λy q=>h _ _ (d y q)⟩
theorem T1{K:QA}{H x:Hp}{a:Addr}{xs:LV}(e:Same H x)(h:ED K H a xs):ED K x a xs:=by rcases h with(h|⟨o,h⟩)|h;exact .inl (.inl (e _ _ h));exact .inl (.inr ⟨o,e _ _ h⟩);exact .inr h
section
variable{P:Program}{w:World}{K:QA}{mg:Str->Option Value}{base:Heap}{Ψ:PEv}{D C p2 B W U n m g a0 a1 R O N L J I y:Pos}
noncomputable abbrev Zs:Scope:={ kind:=.function,names:=[(QS "events",.cell),(QS "sorted",.globalImplicit),(QS "range",.globalImplicit),(QS "len",.globalImplicit)],isGenerator:=false,isCoroutine:=false,more:=[] }
noncomputable abbrev Mu(D C p2 B W U n m g a0 a1 R O N L J I y:Pos):List Stmt:=[.Return (some (.Call (.Name "sorted" a0) [.Call (.Name "range" a1) [.Call (.Name "len" R) [.Name "events" O] [] N] [] L] [⟨some "key",.Lambda (La m) (X5 D C p2 B W U n) vV g,J⟩] I)) y]
theorem gX{H F:Hp}{vs:LV}{Q:VK}{E:XK}{T:Addr}(h:lift K Bm vs H Q E):vs.length=1/\Cu K T 0 (mD [QS "events"] vs) H λv H'=>Q v H':=by
 obtain⟨F,ts,M,Y,h1,h2,h3,h4,x,rfl,h64,he,q⟩:=h;cases h2 with
 |chg hm=>cases hm|@rd _ v vs' _ _ Z _ hr _ r =>
 cases r;refine⟨rfl,?_⟩;cases hr with
 |d rp hz =>
 cases rp with
 |@lst a xs _ hq rs =>
 have S:xs.length=x.length:=rs.length;have kl:(OM x).length=xs.length:=by unfold OM;rw[QG,qK,S]
 refine⟨a,xs,OM x,rfl,.inl (h1.seq hq),⟨kl,λj p hj=>?_⟩,by rw[S];exact h64,λp H1 l pm up hH hl=>?_⟩;obtain⟨jl,rfl⟩:=lZ hj;have A:x[j]?=some (x[j]'jl):=Qx jl;obtain⟨t,k⟩:=he _ (wk jl);obtain⟨v,v1,v2⟩:=rs.get A;refine⟨rfl,?_⟩;rw[A];show ∃t ys,_/\_/\ys[1]?=some (V.int ((MM x[j]).getD 0));rw[k];generalize x[j]=e at *;cases v2 with
 |@tup b ys ds sq rs2 =>
  have k:(match ds[1]? with|some (PyData.int t)=>some t|_=>none)=some t:=k;cases hd:ds[1]? with
  |none=>rw[hd]at k;cases k|some d =>
   rw[hd]at k;obtain⟨u,u1,u2⟩:=rs2.get hd;cases u2 with|int i=>cases k;exact⟨b,ys,v1,T1 h1 sq,u1⟩|_=>cases k
 |_=>cases k
 have pn:p.size=x.length:=by have:=pm.size_eq;simpa[S]using this
 have f:H l=none:=by
  rcases hH with rfl|⟨c,hc,rfl⟩
  exact hl;by_cases z:l=c
  ·rw[z];exact hc
  rw[vA z]at hl;exact hl
 have hs:Same H H1:=by
  rcases hH with rfl|⟨c,hc,rfl⟩
  exact λ_ _ e=>e;exact λb o e=>by rw[vA (aA e hc)];exact e
 have s:Same H (CA H1 l (.lst (p.toList.map λ(i:Nat)=>V.int i))):=λb o e=>by rw[vA (aA e f)];exact hs b o e
 have fl:F l=none:=by
  cases z:F l with|none=>rfl|some o=>rw[h1 l o z]at f;cases f
 have X:∀G:LN,Trs K F (CA H1 l (.lst (p.toList.map λ(i:Nat)=>V.int i))) true (G.map λ(i:Nat)=>V.int i) (G.map λ(i:Nat)=>.d (.int i)) λ_=>False:=λG=>by
  induction G with|nil=>exact .nil λ_ z=>z|cons i r ih=>exact .cons (.d (.int _) λ_ (z:False)=>z) ih (λ_ z=>z.elim) λb=>⟨Qc,λz=>z.elim id id⟩
 refine q p.toList ⟨?_,?_⟩ (.ref l) F (CA H1 l (.lst (p.toList.map λ(i:Nat)=>V.int i))) (λb=>b=l) (λ_=>False) ⟨λ_ _ e=>e,λb o e=>s b o (h1 b o e),λb u e _=>s b u e,λb e=>?_,λb e z=>absurd e z⟩ (.lst YA fl (X _) (λz=>z) λb=>⟨.inl,λz=>z.elim id Qc⟩) (.nil λ_ z=>z) (λ_ _ z=>z) λb z=>.inr (z.elim (λz=>z▸f) Qc);rw[S]at pm;exact qO.mp pm;trivial;cases z:H b with|none=>rfl|some o=>rw[s b o z]at e;cases e
theorem Ia{f c T:Addr}{oc kV v l ct:Value}{M Y:Option Addr}{b:Array (Option Value)}{z:Arguments}{k:Nat}(X:K.In base)(G:base.Ns mainGlobals mg)(p:mg "going_order"=some (.ref f))
  (lk:K.lookup f=some ⟨oc,M,.func (fnOf "going_order" "going_order" z (Mu D C p2 B W U n m g a0 a1 R O N L J I y) Zs .none kV v l Y (.ref c) ct),b⟩)
  (j:codeIn K (.ref c) "going_order"=true) (e:keepIn K (.ref f)=true) (r:CodeHd base c T) (hb:base.BuiltinsAt mg T) (i:mainGlobals≠T) (m1:mg "sorted"=none) (m2:mg "range"=none) (m3:mg "len"=none)
  (u:∀us:LW,us.length=1->bindArgs (fnOf "going_order" "going_order" z (Mu D C p2 B W U n m g a0 a1 R O N L J I y) Zs .none kV v l Y (.ref c) ct) ⟨us,[]⟩=pure ([QS "events"].zip us)) (hR:Ψ.sp "going_order"=Bm):UG P w K mg base Ψ (k+1) "going_order":=by
 have S:FnScope [QS "events"] [QS "events"] Zs:=⟨rfl,rfl,rfl,by decide,rfl,by intro x hx;rcases QJ.mp hx with rfl;exact .inr rfl,by decide⟩
 refine⟨f,_,[QS "events"],?_,p,e,.all u⟩;rw[hR];refine Nd lk j S (λZ H Q E h=>(gX (T:=T) (F:=H) h).1) λA a s H Z Q E o h=>⟨_,KW (x3 (g9 (q:=(QS "going_order")++(QS ".<locals>.<lambda>")) rfl rfl rfl r ?_ ?_ hb i rfl m1 rfl m2 rfl m3 o.hd ?_)),(gX (F:=H) h).2⟩
 exact⟨f,_,_,c,p,X _ _ lk,rfl,rfl,r,rfl⟩;show QS "going_order"++QS ".<locals>.<lambda>"=(QS "going_order"++QS ".<locals>.")++QS "<lambda>";decide;exact WK (QX (QAm _ (3 * k)) (QAm _ 5)) o.dp
end
end L2.L3
namespace L2.L3.K37
open PySem PySem.Spec PyProof.Rows L2 L2.L3
def FN(a b:Nat):Bool:=decide (a<=b)
def srt(l:LN):LN:=l.mergeSort FN
theorem Gn(a b c:Nat)(x:FN a b=true)(y:FN b c=true):FN a c=true:=dT (QX (of_decide_eq_true x) (of_decide_eq_true y))
theorem Hn(a b:Nat):(FN a b||FN b a)=true:=by rcases Nat.le_total a b with z|z;rw[show FN a b=true from dT z];rfl;rw[show FN b a=true from dT z,QBx]
theorem gg(l:LN):(srt l).Pairwise λa b=>a<=b:=(List.pairwise_mergeSort Gn Hn l).imp λz=>of_decide_eq_true z
theorem lg{z l:LN}(h:z.Perm l)(u:z.Pairwise (·<=·)):z=srt l:=QCK.eq_of_pairwise (λa b _ _ x y=>Nat.le_antisymm x y) u (gg l) (h.trans (QBP l FN).symm)
theorem DL(l:LN):(srt l).Perm l:=QBP l FN
noncomputable abbrev Stp:=Nat×Bool×LN×List Pt
structure Gs where
 past:LN
 taken:LN
 held:List Pt
 steps:List Stp
def R7(w:Wd)(g:Gs)(n:Nat):Bool:=Ep w (aJ w g.past) g.held (nA w.es n)
def yU(w:Wd)(g:Gs)(n:Nat):LN:=if(R7 w g n&&decide (uV (nA w.es n)="tell"))=true then g.taken++[n] else g.taken
def yV(w:Wd)(g:Gs)(n:Nat):LN:=srt (HF w.es (yU w g n) (aJ w (g.past++[n])))
def Ld(w:Wd)(g:Gs)(n:Nat):List Pt:=yD w (g.past++[n]) (yV w g n)
def iC(w:Wd)(g:Gs)(n:Nat):Gs:=⟨g.past++[n],yU w g n,Ld w g n,g.steps++[(n,R7 w g n,yV w g n,Ld w g n)]⟩
def CS(w:Wd)(ns:LN):Gs:=ns.foldl (iC w) ⟨[],[],[],[]⟩
def iJ(s:Stp):D:=.tuple [nD s.1,.bool s.2.1,.list (s.2.2.1.map nD),.list (s.2.2.2.map pr)]
def A7(l:LN):T:=.lst ((l.map nD).map T.d)
noncomputable def xb(w:Wd)(past taken:LN)(wr held:List Pt)(h:Kn)(st:List Stp)(o8 o9 o10:Option Sl):kA:=[bD (wD w),bD (.list (w.es.map DD)),oW (A7 past),oW (A7 taken),oW (VI wr),bD (.list (held.map pr)),oW (zX h),oW (.lst ((st.map iJ).map T.d)),o8,o9,o10]
theorem T4(l:LN)(n:Nat):A7 (l++[n])=.lst ((l.map nD).map T.d++[T.d (nD n)]):=by unfold A7;rw[QR,QR];rfl
theorem fg(l:List Stp)(n:Stp):((l++[n]).map iJ).map T.d=(l.map iJ).map T.d++[T.d (iJ n)]:=by rw[QR,QR];rfl
theorem y2{h:List Evt}{x:LN}{ks:List Pt}{K:T->LT->Prop}{E:XE}(l:x.length<64)(a:∀n∈x,n<h.length/\HA (nA h n))(q:K (.lst (((srt (HF h x ks)).map nD).map T.d)) []):UB AE [.d (.list (h.map DD)),.lst ((x.map nD).map T.d),VI ks] K E:=⟨h,x,ks,rfl,l,a,λu z y=>by rw[lg z y];exact q⟩
theorem K2{w:Wd}{l y:LN}{x:Kn}{K:T->LT->Prop}{E:XE}(z:WOk w)(a:l.length<=100)(b:∀n∈l,n<w.es.length)(c:X7 w y)(d:fK w x)(e:x.length<=10000)(q:∀h,fK w h->h.length<=x.length+10->K (.lst (((yD w l y).map pr).map T.d)) [zX h]):UB UC [.d (wD w),.lst ((l.map nD).map T.d),.d (.list (y.map nD)),zX x] K E:=⟨w,l,y,x,rfl,⟨z,a,b⟩,c,⟨d,e⟩,q⟩
section
variable{Ψ:PEv}{E:XE}{K:TK}{y x:D}{u:List D}{k:T}{g f e c b w v:Option Sl}
theorem vb(h:Ψ.sp "held_among"=UC)(q:UB UC [.d y,.lst (u.map T.d),.d x,k] (λr j=>∃n,j=[n]/\K r true [bD y,g,oW (.lst (u.map T.d)),f,e,c,oW n,b,w,v,bD x]) E):tB Ψ (.call "held_among" %[.xz 0,.xz 2,.xz 10,.xz 6|1]) E [bD y,g,oW (.lst (u.map T.d)),f,e,c,oW k,b,w,v,bD x] K:=by show ∃j,DA (xA (Ψ.sp "held_among").md %[.xz 0,.xz 2,.xz 10,.xz 6|1]) [bD y,g,oW (.lst (u.map T.d)),f,e,c,oW k,b,w,v,bD x]=some j/\(xA (Ψ.sp "held_among").md %[.xz 0,.xz 2,.xz 10,.xz 6|1]).Nodup/\(pe Ψ %[.xz 0,.xz 2,.xz 10,.xz 6|1] E).a (Ψ.sp "held_among").md (clear (xA (Ψ.sp "held_among").md %[.xz 0,.xz 2,.xz 10,.xz 6|1]) [bD y,g,oW (.lst (u.map T.d)),f,e,c,oW k,b,w,v,bD x]) λp l=>∃o,XA (Ψ.sp "held_among").md p j=some o/\(Ψ.sp "held_among").run o (λr m=>∃i,xC (xA (Ψ.sp "held_among").md %[.xz 0,.xz 2,.xz 10,.xz 6|1]) m l=some i/\K r true i) E;rw[h];refine⟨[k],rfl,Qi.mpr ⟨wm,Q0⟩,?_⟩;refine⟨rfl,?_⟩;refine⟨[.d y,.lst (u.map T.d),.d x,k],?_,?_⟩;show(match oE (T.lst (u.map T.d)) with|some t=>(some [T.d x,k]).map (t::·)|none=>none).map (T.d y::·)=_;rw[G1];rfl;refine UC.mono (λr j z=>?_) (λ_ z=>z) q;obtain⟨n,rfl,z⟩:=z;exact⟨_,rfl,z⟩
end
section
variable{Ψ:PEv}{Z:PEnds}{w:Wd}{u:Kn}{n:Nat}{o10:Option Sl}{g:Gs}{ns:LN}{K:T->LT->Prop}{E:XE}{i k m:Int}{cs:LJ}
theorem vo(r:Ψ.sp "wrong_among"=oD)(a:Ψ.sp "live_among"=AE)(p:Ψ.sp "held_among"=UC){past taken:LN}{wr held:List Pt}{st:List Stp}{b:Bool}(y:WOk w)(Y:past.length<=60)(v:∀n∈past,n<w.es.length)(s:taken.length<=60)(z:∀n∈taken,n<w.es.length/\HA (nA w.es n))(hk:fK w u)(f:u.length<=10000)(X:st.length<=60)
  (q:∀h,fK w h->h.length<=u.length+10->Z.nx (xb w past taken (aJ w past) (yD w past (srt (HF w.es taken (aJ w past)))) h (st++[(n,b,srt (HF w.es taken (aJ w past)),yD w past (srt (HF w.es taken (aJ w past))))]) (bD (nD n)) (bD (.bool b)) (bD (.list ((srt (HF w.es taken (aJ w past))).map nD))))) :
  pF Ψ uK Z (xb w past taken wr held u st (bD (nD n)) (bD (.bool b)) o10):=by
 have x:=DL (HF w.es taken (aJ w past));have fl:=Q1 (λn=>!decide (((OC (nA w.es n)).1,(OC (nA w.es n)).2)∈aJ w past)) taken;have e:X7 w (srt (HF w.es taken (aJ w past))):=⟨by rw[x.length_eq];unfold HF;omega,λn o=>z n (QO.mp (x.mem_iff.mp o)).1⟩
 delta xb A7;delta uK;simp_arith[↓cA (md:=[.xx,.xy]) r rfl rfl,↓cA (md:=[.xx,.xy,.ky]) a rfl rfl,↓zC,↓k8,↓Cp];refine vY y (by omega) v ?_;simp_arith[↓cA (md:=[.xx,.xy,.ky]) a rfl rfl,↓zC,↓k8,↓Cp];refine y2 (by omega) z ?_;simp_arith[↓zA];refine vb p (K2 y (by omega) v e hk f λh l j=>⟨_,rfl,?_⟩);simp_arith[↓zA];rw[QG,QG];refine⟨by omega,by omega,?_⟩;have q:=q h l j;unfold xb A7 at q;rw[fg]at q;exact q
structure GsOk(w:Wd)(g:Gs):Prop where
 p:∀n∈g.past,n<w.es.length
 tl:g.taken.length<=g.past.length
 t:∀n∈g.taken,n<w.es.length/\HA (nA w.es n)
 h:zO g.held
 s:g.steps.length=g.past.length
theorem fX(y:WOk w)(l z:LN):zO (yD w l z):=by intro p h;obtain⟨x,v,h⟩:=wE.mp h;obtain⟨m,a,rfl⟩:=QT.mp h;exact⟨y.po x v,y.mo m (QO.mp a).1⟩
theorem t8{e:Evt}(h:uV e="tell"):HA e:=by
 cases e with|see t p m x=>exact absurd (show QS "see"=QS "tell" from h) (by decide)|tell t a b m x q=>exact⟨t,a,b,m,x,q,rfl⟩
theorem Jc(h:GsOk w g)(x:n<w.es.length):(yU w g n).length<=g.past.length+1/\∀k∈yU w g n,k<w.es.length/\HA (nA w.es k):=by have:=h.tl;unfold yU;split;rename_i c;rw[Qa,decide_eq_true_iff]at c;refine⟨by rw[QI];exact Wl this,λk hk=>?_⟩;rcases Qf.mp hk with hk|hk;exact h.t k hk;rw[QJ.mp hk];exact⟨x,t8 c.2⟩;exact⟨by omega,h.t⟩
theorem uL(v:WOk w)(h:GsOk w g)(x:n<w.es.length):GsOk w (iC w g n):=by
 obtain⟨z,y⟩:=Jc h x;refine⟨λk hk=>?_,?_,y,fX v _ _,?_⟩;rcases Qf.mp hk with hk|hk
 ·exact h.p k hk
 rw[QJ.mp hk];exact x;show(yU w g n).length<=(g.past++[n]).length;rw[QI];exact z;show(g.steps++_).length=(g.past++[n]).length;rw[QI,QI,h.s];rfl
theorem Ks(G:Ψ.sp "is_taken"=dO)(F:Ψ.sp "wrong_among"=oD)(C:Ψ.sp "live_among"=AE)(B:Ψ.sp "held_among"=UC){o9:Option Sl}(j:WOk w)(a:GsOk w g)(I:g.past.length<60)(v:n<w.es.length)(hk:fK w u)(Y:u.length<=10000)
  (q:∀x o9 o10,fK w x->x.length<=u.length+10->Z.nx (xb w (g.past++[n]) (yU w g n) (aJ w (g.past++[n])) (Ld w g n) x (iC w g n).steps (bD (nD n)) o9 o10)) :
  pF Ψ bN Z (xb w g.past g.taken (aJ w g.past) g.held u g.steps (bD (nD n)) o9 o10):=by
 have J:=a.tl;have M:=a.s;obtain⟨L,o⟩:=Jc a v;have X:∀k∈g.past++[n],k<w.es.length:=(uL j a v).p;have r:=λ{o10}=>vo (Z:=Z) (wr:=aJ w g.past) (held:=g.held) (st:=g.steps) (n:=n) (b:=R7 w g n) (o10:=o10) F C B j (past:=g.past++[n]) (by rw[QI];exact I) X (taken:=yU w g n) (by omega) o hk Y (by omega) λx A W=>q x _ _ A W;delta xb A7;delta bN;simp_arith[↓mL v,↓cA (md:=[.xx,.xx,.ky,.xx]) G rfl rfl,↓zC,↓k8,↓Cp];refine Bg j (j.ev v) a.h ?_;simp_arith[↓mL v,↓yI];rw[QG,QG,<- T4];refine⟨by omega,?_⟩;have e:Ep w (aJ w g.past) g.held (nA w.es n)=R7 w g n:=rfl;rw[e];cases y:R7 w g n with
 |false=>have f:yU w g n=g.taken:=if_neg (by rw[y];exact λz=>by cases z);rw[f,y]at r;exact r|true =>
  cases l:decide (uV (nA w.es n)="tell") with|false=>have f:yU w g n=g.taken:=if_neg (by rw[y,l];exact λz=>by cases z);rw[f,y]at r;exact r|true=>have f:yU w g n=g.taken++[n]:=if_pos (by rw[y,l];rfl);rw[f,y]at r;simp_arith[↓zA];rw[QG,QG,<- T4];exact⟨by omega,r⟩
theorem Jb(e:Evt):∃t,MM (DD e)=some t:=by
 cases e with|see t p m h=>exact⟨t,rfl⟩|tell t a b m h q=>exact⟨t,rfl⟩
def K7(w:Wd)(ns:LN):Prop:=Dp (w.es.map DD) ns
theorem jd(h:K7 w ns):∀n∈ns,n<w.es.length:=λn x=>by
 have:=qD.mp (h.1.mem_iff.mp x)
 rwa [QG]at this
theorem D4(h:K7 w ns):ns.length=w.es.length:=by rw[h.1.length_eq,qK,QG]
theorem Dg(x:WOk w)(q:∀ns,K7 w ns->K (A7 ns) []):UB Bm [.d (.list (w.es.map DD))] K E:=⟨_,rfl,by rw[QG];exact WK x.el (by decide),λe y=>by
 obtain⟨v,_,rfl⟩:=QT.mp y;exact Jb v,λns h=>by
 have:=q ns h;unfold A7 at this;rw[Qb]at this;exact this⟩
def cI:PSp where
 md:=[]
 run:=λx Q _=>∃w:Wd,x=[.d (wD w)]/\WOk w/\∀ns,K7 w ns->Q (.lst (((CS w ns).steps.map iJ).map T.d)) []
 mono:=λh _ z=>by obtain⟨w,e,a,q⟩:=z;exact⟨w,e,a,λns b=>h _ _ (q ns b)⟩
theorem V2(h:WOk w)(q:∀ns,K7 w ns->K (.lst (((CS w ns).steps.map iJ).map T.d)) []):UB cI [.d (wD w)] K E:=⟨w,rfl,h,q⟩
theorem Up{r:PT}{i:Nat}{ρ:kA}:ML Ψ E r Z i (.lst []) true ρ=dB Ψ E r Z (ρ.set i (bD (.list []))):=Bp (ds:=[])
theorem R9(s:Ψ.sp "going_order"=Bm)(L:Ψ.sp "is_taken"=dO)(J:Ψ.sp "wrong_among"=oD)(I:Ψ.sp "live_among"=AE)(G:Ψ.sp "held_among"=UC)(ds Q E)(h:cI.run ds Q E):nH Ψ RV cI V7 VW ds Q:=by obtain⟨w,rfl,b,q⟩:=h;have R:=b.el;refine gA [bD (wD w),none,none,none,none,none,none,none,none,none,none] rfl rfl rfl ?_;delta RV;simp_arith[↓fP,↓cA (md:=[]) s rfl rfl];refine⟨by omega,by omega,by omega,?_⟩;simp_arith[↓Up,↓cA (md:=[]) s rfl rfl];refine⟨by omega,Dg b λns v=>?_⟩;delta A7;simp_arith[↓zA];rw[<- lA nD];have M:=D4 v;refine kB (λn=>T.d (nD n)) (λr f=>∃g u o l o10,r.foldl (iC w) g=CS w ns/\(GsOk w g/\g.past.length+r.length<=60/\∀n∈r,n<w.es.length)/\(fK w u/\u.length<=10 * g.past.length)/\f=xb w g.past g.taken (aJ w g.past) g.held u g.steps o l o10) ?_ ?_ ns _ ⟨⟨[],[],[],[]⟩,[],none,none,none,rfl,⟨⟨λ_ z=>(by cases z),QZ _,λ_ z=>(by cases z),λ_ z=>(by cases z),rfl⟩,by show 0+ns.length<=60;omega,jd v⟩,⟨λ_ z=>(by cases z),QZ _⟩,rfl⟩;rintro f ⟨g,u,o,l,o10,e,_,_,rfl⟩;have e:g=CS w ns:=e;subst e;delta xb;simp_arith[↓zA];exact q ns v;rintro n r f N F ⟨g,u,o,l,o10,e,⟨W,Y,X⟩,⟨A,O⟩,rfl⟩;have Y:g.past.length+(r.length+1)<=60:=Y;have p:=X n QD;refine Ks L J I G b W (by omega) p A (by omega) λy j a B P=>F _ ⟨iC w g n,y,_,j,a,e,⟨uL b W p,?_,λx C=>X x (QE _ C)⟩,⟨B,?_⟩,rfl⟩;show(g.past++[n]).length+r.length<=60;rw[QI];show g.past.length+1+r.length<=60;omega;show y.length<=10 * (g.past++[n]).length;rw[QI];show y.length<=10 * (g.past.length+1);omega
def gI{α:Type}(l:List α)(i:Int)(d:α):α:=(gE l i).getD d
theorem CC{α:Type}{l:List α}{d:α}(z:0<=i)(y:i<l.length):gE l i=some (gI l i d)/\gI l i d∈l:=by obtain⟨v,x,h⟩:=OQ z y;unfold gI;rw[x];exact⟨rfl,qQ h⟩
theorem RC{α:Type}{f:α->D}{l:List α}(d:α){K:D->Prop}(x:0<=i)(h:i<l.length)(q:K (f (gI l i d))):GF (gE (l.map f) i) K:=by rw[IG,(CC (d:=d) x h).1];exact⟨_,rfl,q⟩
def RO(cs:LJ)(k:Int):Int:=if 0<cs.length then gI cs (k % cs.length) 0 else 0
def Gr(c k:Int):Int:=(c % 2147483647+7 * k+3) * (48271+1103 * k * k) % 2147483629
def uA(cs:LJ)(k m:Int):Int:=Gr (RO cs k) k / 64 % m
theorem JA(h:0<m):0<=uA cs k m/\uA cs k m<m:=⟨wz _ (by omega),wG _ h⟩
theorem dj{j:Nat}(h:j<100)(c:Int)(hc:decide (0<=c/\c<=4000)=true):0<=c+(j:Int)/\c+(j:Int)<=5000:=by have:=of_decide_eq_true hc;omega
theorem dk(h:0<=k/\k<=100)(c:Int)(hc:decide (0<=c/\c<=40)=true):0<=11 * k+c/\11 * k+c<=5000:=by have:=of_decide_eq_true hc;omega
noncomputable def vC:PSp where
 md:=[.xy]
 run:=λx Q _=>∃(cs:LJ) (k m:Int),x=[.lst ((cs.map PyData.int).map T.d),.d (.int k),.d (.int m)]/\((0<=k/\k<=5000)/\0<m)/\Q (.d (.int (uA cs k m))) []
 mono:=λh _ z=>by obtain⟨cs,k,m,e,a,q⟩:=z;exact⟨cs,k,m,e,a,h _ _ q⟩
theorem R5{a b:LJ}(h:(a.map PyData.int).map T.d=(b.map PyData.int).map T.d):a=b:=(WS λx y e=>by injection e).mp ((WS λx y e=>by injection e).mp h)
theorem FB:UB vC [.lst ((cs.map PyData.int).map T.d),.d (.int k),.d (.int m)] K E=(((0<=k/\k<=5000)/\0<m)/\K (.d (.int (uA cs k m))) []):=propext ⟨λ⟨h,_,_,e,a,q⟩=>by injection e with e1 e2;injection e1 with e1;cases R5 e1;cases e2;exact⟨a,q⟩,λq=>⟨cs,k,m,rfl,q⟩⟩
theorem lN{ds:List D}{n:Bool}{md:List Md}{xs:List (T×Bool)}{C:LT->Prop}:ZB (.xy::md) ((.d (.list ds),n)::xs) C=ZB md xs λts=>C (.lst (ds.map T.d)::ts):=Iu (by rw[rA];simp only[oE,T.vw,VA,Q2])
theorem A9(ds Q E)(h:vC.run ds Q E):nH Ψ uN vC MT eO ds Q:=by
 obtain⟨cs,k,m,rfl,⟨⟨e,v⟩,y⟩,q⟩:=h;refine gA [some (.ky (.lst ((cs.map PyData.int).map T.d))),bD (.int k),bD (.int m),none,none] rfl rfl rfl ?_;have r:∀c,c=RO cs k->pF Ψ eG (eZ Q) [some (.ky (.lst ((cs.map PyData.int).map T.d))),bD (.int k),bD (.int m),bD (.int c),none]:=by rintro c rfl;delta eG;simp_arith[↓zA];have a:=wz (RO cs k) (show(2147483647:Int)≠0 by decide);have b:=wG (RO cs k) (show(0:Int)<2147483647 by decide);exact⟨YN.ok (.inl ⟨by decide,by decide⟩),YN.ok (.inl ⟨by decide,by decide⟩),YN.ok (.inr ⟨by omega,by omega⟩),YN.ok (.inl ⟨by omega,by omega⟩),y,q⟩
 delta uN;simp_arith[QG];by_cases c:0<cs.length;have x:(0:Int)<cs.length:=by omega
 rw[if_pos (dT x)];refine⟨x,RC 0 (wz _ (by omega)) (wG _ x) ?_⟩;exact r _ (by unfold RO;rw[if_pos c]);rw[if_neg (λz=>by have:=of_decide_eq_true z;omega)];exact r _ (by unfold RO;rw[if_neg c])
def jC(m:Int)(cs:LJ)(p:Int×Nat):LJ:=if(p.2:Int)<m then cs++[p.1] else cs.set ((p.2:Int) % m).toNat (gI cs ((p.2:Int) % m) 0 * 31+p.1)
def bB(m:Int)(l:LJ):LJ:=l.zipIdx.foldl (jC m) []
theorem DM{m:Int}(y:0<m):∀(l:LJ) (i:Nat) (cs:LJ),(cs.length:Int)<=m->cs.length<=i->((i:Int)<m->cs.length=i)->((l.zipIdx i).foldl (jC m) cs).length<=m.toNat
 |[],i,cs,h,_,_=>by show cs.length<=_;omega|x::l,i,cs,h,h2,h3=>by show((l.zipIdx (i+1)).foldl (jC m) (jC m cs (x,i))).length<=_;unfold jC;split;rename_i c;have c:(i:Int)<m:=c;have:=h3 c;refine DM y l (i+1) _ ?_ ?_ λ_=>?_;rw[QI];show((cs.length+1:Nat):Int)<=m;omega;rw[QI];show cs.length+1<=i+1;omega;rw[QI];show cs.length+1=i+1;omega;rename_i c;have c:¬ (i:Int)<m:=c;refine DM y l (i+1) _ ?_ ?_ λz=>?_;rw[qY];exact h;rw[qY];omega;omega
noncomputable def mE:PSp where
 md:=[.xy]
 run:=λx Q _=>∃(ns:LJ) (m:Int),x=[.lst ((ns.map PyData.int).map T.d),.d (.int m)]/\(0<m/\m<=100)/\Q (.lst (((bB m ns).map PyData.int).map T.d)) []
 mono:=λh _ z=>by obtain⟨ns,m,e,a,q⟩:=z;exact⟨ns,m,e,a,h _ _ q⟩
theorem pU{ns:LJ}(h:0<m/\m<=100)(q:K (.lst (((bB m ns).map PyData.int).map T.d)) []):UB mE [.lst ((ns.map PyData.int).map T.d),.d (.int m)] K E:=⟨ns,m,rfl,h,q⟩
def uo(ns:LJ)(m:Int)(cs:LJ)(o3 o4:Option Sl):kA:=[some (.ky (.lst ((ns.map PyData.int).map T.d))),bD (.int m),oW (.lst ((cs.map PyData.int).map T.d)),o3,o4]
def Zo{α:Type}(f:α->D)(p:α×Nat):T:=.d (.tuple [.int (p.2:Int),f p.1])
theorem Z6{α:Type}(f:α->D)(l:List α):((l.map f).zipIdx.map λp=>T.d (.tuple [.int (p.2:Int),p.1]))=l.zipIdx.map (Zo f):=by rw[List.zipIdx_map,Qb];rfl
theorem Mj{c:PX}{s y r:PT}{o:Option Sl}{σ:kA}:dB Ψ E (.seq (.ife c s y) r) Z (o::σ)=UN Ψ c E (o::σ) λk x=>if k=true then dB Ψ E s { Z with nx:=λh=>dB Ψ E r Z h } x else dB Ψ E y { Z with nx:=λh=>dB Ψ E r Z h } x:=rfl
theorem ZY(ds Q E)(h:mE.run ds Q E):nH Ψ SH mE sN rK ds Q:=by
 obtain⟨ns,m,rfl,⟨s,A⟩,q⟩:=h;refine gA [some (.ky (.lst ((ns.map PyData.int).map T.d))),bD (.int m),none,none,none] rfl rfl rfl ?_;delta SH;simp_arith[↓zA];refine⟨by omega,?_⟩;rw[Z6];refine kB (Zo PyData.int) (λr f=>∃l i cs p o,r=List.zipIdx l i/\r.foldl (jC m) cs=bB m ns/\((cs.length:Int)<=m/\((i:Int)<m->cs.length=i)/\(m<=(i:Int)->(cs.length:Int)=m))/\f=uo ns m cs p o) ?_ ?_ _ _ ⟨ns,0,[],none,none,rfl,rfl,⟨by show(0:Int)<=m;omega,λ_=>rfl,λz=>by omega⟩,rfl⟩;rintro f ⟨l,i,cs,p,o,_,e,_,rfl⟩;have e:cs=bB m ns:=e;subst e;delta uo;simp_arith[↓zA];exact q;rintro⟨x,j⟩ r f N X ⟨l,i,cs,p,o,v,e,⟨B,W,Y⟩,rfl⟩;cases l with|nil=>cases v|cons y l=>injection v with v e3;injection v with e4 e5;subst e4;subst e5;have e:r.foldl (jC m) (jC m cs (x,j))=bB m ns:=e;delta uo Zo;delta xJ;simp_arith[↓Mj];by_cases c:(j:Int)<m;rw[show jC m cs (x,j)=cs++[x] from if_pos c]at e;have:=W c;simp_arith[dT c,QG];refine⟨by omega,X _ ⟨l,j+1,cs++[x],bD (.int (j:Int)),bD (.int x),e3,e,⟨?_,?_,?_⟩,?_⟩⟩;rw[QI];show((cs.length+1:Nat):Int)<=m;omega;rw[QI];intro z;show cs.length+1=j+1;omega;rw[QI];intro z;show((cs.length+1:Nat):Int)=m;omega;delta uo;rw[QR,QR];rfl;rw[show jC m cs (x,j)=cs.set ((j:Int) % m).toNat (gI cs ((j:Int) % m) 0 * 31+x) from if_neg c]at e;have C:(cs.length:Int)=m:=Y (by omega);have a:=wz (j:Int) (show m≠0 by omega);have b:=wG (j:Int) s;rw[if_neg (λz=>c (of_decide_eq_true z))];refine⟨s,RC 0 a (by omega) ?_⟩;simp_arith[↓zA];refine⟨YN.ok (.inr ⟨by decide,by decide⟩),s,Aq a (by rw[QG];omega) (X _ ⟨l,j+1,cs.set ((j:Int) % m).toNat (gI cs ((j:Int) % m) 0 * 31+x),bD (.int (j:Int)),bD (.int x),e3,e,⟨?_,?_,?_⟩,?_⟩)⟩;rw[qY];omega;intro z;omega;intro z;rw[qY];omega;delta uo;rw[QA1,QA1,QA1]
end
section
variable{Ψ:PEv}{E:XE}{ρ:kA}{K:TK}{a y v h b:PX}{x:D}{n:Bool}{f:Str}{w:Operator}{g:Bi}{i:Int}
def oU(x:T)(n:Bool)(Ψ:PEv)(y v:PX)(E:XE)(p:kA)(K:TK):Prop:=sq (α:=Option Int) (pA x n) p (if isNop y=true then λρ (R:Option Int->kA->Prop)=>R none ρ else λρ R=>(pe Ψ y E).e ρ λl _ m=>IF l.er λo=>R o m) λl m =>
   sq (α:=Option Int) (pA x n) m (if isNop v=true then λρ (R:Option Int->kA->Prop)=>R none ρ else λρ R=>(pe Ψ v E).e ρ λu _ j=>IF u.er λo=>R o j) λu j=>LL (pA x n).vw l u λz k=>K z k j
theorem JN:tB Ψ (.slc a y v) E ρ K=tB Ψ a E ρ λx n z=>oU x n Ψ y v E z K:=rfl
theorem Hs:oU (.d x) n Ψ .nop (.call f h) E ρ K=tB Ψ (.call f h) E ρ λu _ e=>fM u λo=>fI (.d x) n none o λz k=>K z k e:=by cases n<;>rfl
theorem Ls:oU (.d x) n Ψ .nop (.bin w a b) E ρ K=tB Ψ (.bin w a b) E ρ λu _ e=>fM u λo=>fI (.d x) n none o λz k=>K z k e:=by cases n<;>rfl
theorem Ds:oU (.d x) n Ψ .nop (.bi g h) E ρ K=tB Ψ (.bi g h) E ρ λu _ e=>fM u λo=>fI (.d x) n none o λz k=>K z k e:=by cases n<;>rfl
theorem Rs:oU (.d x) n Ψ (.call f h) .nop E ρ K=tB Ψ (.call f h) E ρ λu _ e=>fM u λo=>fI (.d x) n o none λz k=>K z k e:=by cases n<;>rfl
theorem Os:oU (.d x) n Ψ (.int i) (.bin w a b) E ρ K=tB Ψ (.bin w a b) E ρ λu _ e=>fM u λo=>fI (.d x) n (some i) o λz k=>K z k e:=by cases n<;>rfl
end
section
variable{a k most:Int}{b d e c:D}{cs:LJ}{K:T->LT->Prop}{E:XE}{Ψ:PEv}{n m:Bool}{Q:T->Bool->Prop}{R:T->Prop}{i:Nat}{w:Ps}{o:LS}{X:Option (Str×Str)}{p:Str×Str}{Z:PEnds}{ρ:kA}
def mQ:Str:="bcdfgjkmnpqvwxyz"
def ud(a b f:Int)(k:Nat):Str:=GJ "zq" a++⟨#[gI mQ.cps.toList ((f+(k:Int)) % 16) 0]⟩++wl "vzb" none (some b)
def Sm(a b f:Int):LS:=(Qr 16).map (ud a b f)
def Ij(s:Str):Bool:=decide (s.length<=3)&&s.cps.toList.all λc=>decide (c<128)
theorem k9:((Qr 2).all λ(a:Nat)=>Ij (GJ "zq" (a:Int)))=true:=by decide +kernel
theorem J8:((Qr 4).all λ(b:Nat)=>Ij (wl "vzb" none (some (b:Int))))=true:=by decide +kernel
theorem Fa:(decide mQ.cps.toList.Nodup&&mQ.cps.toList.all λc=>decide (c<128))=true:=by decide +kernel
theorem J3(h:0<=a)(x:a<2):Ij (GJ "zq" a)=true:=by obtain⟨a,rfl⟩:=qa h;exact Qq.mp k9 a (qD.mpr (by omega))
theorem V1(h:0<=a)(x:a<4):Ij (wl "vzb" none (some a))=true:=by obtain⟨a,rfl⟩:=qa h;exact Qq.mp J8 a (qD.mpr (by omega))
theorem sM(a b f:Int)(k:Nat):(ud a b f k).cps.toList=(GJ "zq" a).cps.toList++([gI mQ.cps.toList ((f+(k:Int)) % 16) 0]++(wl "vzb" none (some b)).cps.toList):=by show((GJ "zq" a).cps++#[gI mQ.cps.toList ((f+(k:Int)) % 16) 0]++(wl "vzb" none (some b)).cps).toList=_;rw[QBQ,QBQ,Qv]
theorem Di{l:LN}(h:l.Nodup){x y:Int}(j:0<=x)(g:x<l.length)(f:0<=y)(z:y<l.length)(e:gI l x 0=gI l y 0):x=y:=by obtain⟨v,Y,s⟩:=OQ j g;obtain⟨u,r,q⟩:=OQ f z;unfold gI at e;rw[Y,r]at e;have e:v=u:=e;subst e;have:=(List.getElem?_inj (i:=x.toNat) (by omega) h).mp (s.trans q.symm);omega
theorem YK(f:Int)(k:Nat):0<=(f+(k:Int)) % 16/\(f+(k:Int)) % 16<mQ.cps.toList.length:=⟨wz _ (by decide),wG _ (by decide)⟩
theorem Hh{b f:Int}(l:0<=a)(g:a<2)(b0:0<=b)(v:b<4)(r:0<=f)(q:f<16):(Sm a b f).Nodup/\∀x∈Sm a b f,OkS x:=by
 have X:=Fa;rw[Qa,decide_eq_true_iff]at X;have p:=J3 l g;have s:=V1 b0 v;unfold Ij at p s;rw[Qa]at p s;constructor;refine QBv.mpr (wW (λ{i j} u z h e=>h ?_) QCB);have e:=congrArg (λs:Str=>s.cps.toList) e;have e:(ud a b f i).cps.toList=(ud a b f j).cps.toList:=e;rw[sM,sM]at e;have e:=List.append_cancel_left e;injection e with e _;have:=Di X.1 (YK f i).1 (YK f i).2 (YK f j).1 (YK f j).2 e;have:=qD.mp u;have:=qD.mp z;omega;intro x y;obtain⟨k,_,rfl⟩:=QT.mp y;show(ud a b f k).cps.all _=true;rw[<- Array.all_toList,sM,Qq];intro c hc;have:c<128:=by
  rcases Qf.mp hc with hc|hc;exact of_decide_eq_true (Qq.mp p.2 c hc);rcases Qf.mp hc with hc|hc
  ·rw[QJ.mp hc]
   exact of_decide_eq_true (Qq.mp X.2 _ (CC (YK f k).1 (YK f k).2).2)
  exact of_decide_eq_true (Qq.mp s.2 c hc)
 exact dT (by omega)
def sC(cs:LJ):LS:=Sm (uA cs 901 2) (uA cs 902 4) (uA cs 903 16)
theorem zG(cs:LJ):(sC cs).Nodup/\(∀x∈sC cs,OkS x)/\(sC cs).length=16:=by have a:=JA (cs:=cs) (k:=901) (m:=2) (by decide);have b:=JA (cs:=cs) (k:=902) (m:=4) (by decide);have c:=JA (cs:=cs) (k:=903) (m:=16) (by decide);obtain⟨y,h⟩:=Hh a.1 a.2 b.1 b.2 c.1 c.2;exact⟨y,h,by unfold sC Sm;rw[QG,qK]⟩
def OF:PSp where
 md:=[]
 run:=λx Q _=>∃cs:LJ,x=[.d (.list (cs.map PyData.int))]/\Q (.lst (((sC cs).map PyData.str).map T.d)) []
 mono:=λh _ z=>by obtain⟨cs,e,q⟩:=z;exact⟨cs,e,h _ _ q⟩
theorem bY(q:K (.lst (((sC cs).map PyData.str).map T.d)) []):UB OF [.d (.list (cs.map PyData.int))] K E:=⟨cs,rfl,q⟩
theorem Y4(v:Ψ.sp "_law_draw"=vC)(ds Q E)(h:OF.run ds Q E):nH Ψ vK OF bP vM ds Q:=by
 obtain⟨cs,rfl,q⟩:=h;have a:=JA (cs:=cs) (k:=901) (m:=2) (by decide);have b:=JA (cs:=cs) (k:=902) (m:=4) (by decide);have c:=JA (cs:=cs) (k:=903) (m:=16) (by decide);refine gA [bD (.list (cs.map PyData.int)),none,none,none,none] rfl rfl rfl ?_;delta vK;simp_arith[↓JN,↓Hs,↓j3,↓cA (md:=[.xy]) v rfl rfl,↓lN,↓FB];have z:(QS "zq").length=2:=rfl;have y:(QS "vzb").length=3:=rfl;have x:(QS "bcdfgjkmnpqvwxyz").length=16:=rfl;rw[z,y];refine⟨by omega,by omega,by omega,by omega,?_⟩;refine JB (λ(i:Nat)=>T.d (.int (i:Int))) (λi=>T.d (.str (ud (uA cs 901 2) (uA cs 902 4) (uA cs 903 16) i))) _ [] _ (λi r R u=>?_) (by show 0+(Qr 16).length<=_;rw[qK];omega) ?_;simp_arith[↓zA];have W:=wz (uA cs 903 16+(i:Int)) (show(16:Int)≠0 by decide);have Y:=wG (uA cs 903 16+(i:Int)) (show(0:Int)<16 by decide);rw[x];refine⟨by omega,?_⟩;have f:gE (QS "bcdfgjkmnpqvwxyz").cps.toList ((uA cs 903 16+(i:Int)) % 16)=some (gI mQ.cps.toList ((uA cs 903 16+(i:Int)) % 16) 0):=(CC (l:=mQ.cps.toList) (YK _ i).1 (YK _ i).2).1;refine⟨_,f,?_⟩;simp_arith[↓zA];have p:=J3 a.1 a.2;have s:=V1 b.1 b.2;unfold Ij at p s;rw[Qa,decide_eq_true_iff]at p s;have e:(GJ (QS "zq") (uA cs 901 2)++⟨#[gI mQ.cps.toList ((uA cs 903 16+(i:Int)) % 16) 0]⟩:Str).length=(GJ (QS "zq") (uA cs 901 2)).length+1:=Array.size_append;have j:(GJ (QS "zq") (uA cs 901 2)).length<=3:=p.1;have g:(wl (QS "vzb") none (some (uA cs 902 4))).length<=3:=s.1;rw[e];exact⟨by show _+1<=_;omega,by omega,u⟩;rw[Qh,lA λi=>PyData.str (ud (uA cs 901 2) (uA cs 902 4) (uA cs 903 16) i)];have e:((Qr 16).map λi=>PyData.str (ud (uA cs 901 2) (uA cs 902 4) (uA cs 903 16) i))=(sC cs).map PyData.str:=by unfold sC Sm;rw[Qb];rfl
 exact e▸q
def Ck(b:Bool):Int:=if b then 1 else 0
theorem Yd{b:Bool}:jO .int [(.d (.bool b),n)] Q=Q (.d (.int (Ck b))) false:=by unfold jO dC;rw[rA];exact Ro b
theorem Jq{f g h k:D}{t:T}:BA (.lst [.d d,.d e,.d f,.d g,.d h,.d k]) n t m R=BA (.lst ([d,e,f,g,h,k].map T.d)) n t m R:=rfl
def Ig(cs:LJ)(h:Int)(p:Str×Nat):Str×Int×Int×Int:=(p.1,uA cs (910+(p.2:Int)) h,uA cs (920+(p.2:Int)) h * Ck (decide (uA cs (930+(p.2:Int)) 3=0)),gI [1,1,1,2,2,3] (uA cs (940+(p.2:Int)) 6) 0)
def eL(cs:LJ):Int:=gI [4,100] (uA cs 904 2) 0
def XN(cs:LJ)(ns:LS):List (Str×Int×Int×Int):=ns.zipIdx.map (Ig cs (eL cs))
noncomputable def FL:PSp where
 md:=[]
 run:=λy Q _=>∃(cs:LJ) (x:LS),y=[.d (.list (cs.map PyData.int)),.d (.list (x.map PyData.str))]/\x.length<=100/\Q (.lst (((XN cs x).map tJ).map T.d)) []
 mono:=λh _ z=>by obtain⟨cs,x,e,a,q⟩:=z;exact⟨cs,x,e,a,h _ _ q⟩
theorem G8{ns:LS}(h:ns.length<=100)(q:K (.lst (((XN cs ns).map tJ).map T.d)) []):UB FL [.d (.list (cs.map PyData.int)),.d (.list (ns.map PyData.str))] K E:=⟨cs,ns,rfl,h,q⟩
def kq(cs:LJ)(ns:LS)(w:List (Str×Int×Int×Int))(o4 o5 o6 o7:Option Sl):kA:=[bD (.list (cs.map PyData.int)),bD (.list (ns.map PyData.str)),oW (.lst ((w.map tJ).map T.d)),bD (.int (eL cs)),o4,o5,o6,o7]
theorem V0(cs:LJ):0<eL cs:=by have a:=JA (cs:=cs) (k:=904) (m:=2) (by decide);have:=(CC (l:=[(4:Int),100]) (d:=0) a.1 a.2).2;show 0<gI _ _ _;rcases QL.mp this with e|e;rw[e];decide;rw[QJ.mp e];decide
theorem Bk(b:Bool):-(2 ^ 64)<Ck b/\Ck b<2 ^ 64:=by cases b<;>decide
theorem Ua{α:Type}{l:List α}{p:α×Nat}(h:p∈l.zipIdx i):p.1∈l/\p.2<i+l.length:=by obtain⟨z,y,x⟩:=List.mem_zipIdx h;exact⟨x▸wk _,y⟩
theorem eh(W:Ψ.sp "_law_draw"=vC)(ds Q E)(h:FL.run ds Q E):nH Ψ RH FL rN pK ds Q:=by
 obtain⟨cs,y,rfl,hl,q⟩:=h;have a:=JA (cs:=cs) (k:=904) (m:=2) (by decide);have wp:=V0 cs;refine gA [bD (.list (cs.map PyData.int)),bD (.list (y.map PyData.str)),none,none,none,none,none,none] rfl rfl rfl ?_;delta RH;simp_arith[↓cA (md:=[.xy]) W rfl rfl,↓lN,↓FB];refine⟨by omega,by omega,RC (f:=PyData.int) (l:=[4,100]) 0 a.1 a.2 ?_⟩;rw[Z6];refine kB (Zo PyData.str) (λr ρ=>∃w s g v u,w++r.map (Ig cs (eL cs))=XN cs y/\(w.length+r.length<=100/\∀p∈r,p.2<100)/\ρ=kq cs y w s g v u) ?_ ?_ _ _ ⟨[],none,none,none,none,rfl,⟨by rw[List.length_zipIdx];show 0+_<=_;omega,λp Y=>by have:=(Ua Y).2;omega⟩,rfl⟩;rintro ρ ⟨w,s,g,v,u,e,_,rfl⟩;have e:w=XN cs y:=by rw[<- e];exact(qB _).symm
 subst e;delta kq;simp_arith[↓zA];exact q;rintro⟨x,j⟩ r ρ N J ⟨w,s,g,v,u,e,⟨B,A⟩,rfl⟩;have B:w.length+(r.length+1)<=100:=B;have z:j<100:=A (x,j) QD;have b:=JA (cs:=cs) (k:=940+(j:Int)) (m:=6) (by decide);delta kq Zo;delta vJ;simp?[↓cA (md:=[.xy]) W rfl rfl,↓lN,↓FB,↓Yd,↓Jq,QG];have I:=dj z 910 rfl;have G:=dj z 920 rfl;have F:=dj z 930 rfl;have C:=dj z 940 rfl;refine⟨I.1,I.2,wp,G.1,G.2,wp,F.1,F.2,YN.ok (.inr (Bk _)),by omega,C.1,C.2,RC (f:=PyData.int) (l:=[1,1,1,2,2,3]) 0 b.1 b.2 ⟨by omega,by omega,J _ ⟨w++[Ig cs (eL cs) (x,j)],bD (.int (j:Int)),bD (.str x),bD (.int (uA cs (910+(j:Int)) (eL cs))),bD (.int (uA cs (920+(j:Int)) (eL cs) * Ck (decide (uA cs (930+(j:Int)) 3=0)))),?_,⟨?_,λp Y=>A p (QE _ Y)⟩,?_⟩⟩⟩;rw[Qv];exact e;rw[QI];show w.length+1+r.length<=100;omega;delta kq;rw[QR,QR];rfl
theorem JO(cs:LJ)(ns:LS):(XN cs ns).map (λp=>p.1)=ns:=by unfold XN;rw[Qb];exact List.zipIdx_map_fst 0 ns
noncomputable abbrev Ps:=List (Str×Int×Int×Int)
def jk:Str×Int×Int×Int:=("",0,0,0)
def IR(w:Ps)(i:Int):Str:=(gI w i jk).1
def E3(w:Ps)(x:Str):LS:=(w.filter λp=>!decide (p.1=x)).map λp=>p.1
def ug(cs:LJ)(k:Int):Int:=gI [k,2 * (k / 2),uA cs (11 * k+3) 9,100 - k] (uA cs 905 4) 0
def Sk(cs:LJ)(k:Int):Str:=wl "abcdef" (some (uA cs (11 * k+2) 6)) none
def ck(cs:LJ)(k:Int)(o:LS):Str:=gI o (uA cs (11 * k+1) (o.length:Int)) ""
def Vt(cs:LJ)(k:Int)(w:Ps):LS:=(Qr (uA cs (11 * k+7) 3).toNat).map λ(j:Nat)=>IR w (uA cs (11 * k+8+(j:Int)) (w.length:Int))
def pX(cs:LJ)(k:Int)(w:Ps)(o:LS):Evt:=.see (ug cs k) (IR w (uA cs (11 * k) (w.length:Int))) (ck cs k o) (Sk cs k)
def hG(cs:LJ)(k:Int)(w:Ps)(a m:Str):Evt:=.tell (ug cs k) a (gI (E3 w a) (uA cs (11 * k+6) ((E3 w a).length:Int)) "") m (Sk cs k) (Vt cs k w)
noncomputable def Td(cs:LJ)(k:Int)(w:Ps)(o:LS):Option (Str×Str)->Evt
 |none=>pX cs k w o|some (a,b)=>if uA cs (11 * k+4) 4=0 then pX cs k w o else if 0<uA cs (11 * k+5) 3 then hG cs k w a b else hG cs k w (IR w (uA cs (11 * k) (w.length:Int))) (ck cs k o)
def j8:Option (Str×Str)->D
 |none=>.none|some p=>pr p
def Nj(w:Ps)(o:LS):Option (Str×Str)->Prop
 |none=>True|some (a,b)=>(∃p∈w,p.1=a)/\b∈o
structure BdOk(w:Ps)(o:LS):Prop where
 p2:2<=w.length
 pl:w.length<=11
 nd:(w.map λp=>p.1).Nodup
 m1:1<=o.length
 ml:o.length<=10
theorem A3(h:BdOk w o)(x:Str):0<(E3 w x).length:=by
 have y:=h.p2;have nd:=h.nd;cases w with
 |nil=>simp at y|cons p r=>cases r with|nil=>simp at y|cons q r=>have z:p.1≠q.1:=λe=>(Qi.mp nd).1 (show p.1∈_ from e.symm▸QD);refine WX (a:=if p.1=x then q.1 else p.1) ?_;unfold E3;split;rename_i c;exact QT.mpr ⟨q,QO.mpr ⟨QE _ QD,by rw[dF λe=>z (c.trans e.symm)];rfl⟩,rfl⟩;rename_i c;exact QT.mpr ⟨p,QO.mpr ⟨QD,by rw[dF c];rfl⟩,rfl⟩
noncomputable def YH:PSp where
 md:=[]
 run:=λx Q _=>∃(cs:LJ) (k:Int) (w:Ps) (o:LS) (X:Option (Str×Str)),x=[.d (.list (cs.map PyData.int)),.d (.int k),.d (.list (w.map tJ)),.d (.list (o.map PyData.str)),.d (j8 X)]/\(0<=k/\k<=100)/\BdOk w o/\Q (.d (DD (Td cs k w o X))) []
 mono:=λh _ z=>by obtain⟨cs,k,w,o,X,e,a,b,q⟩:=z;exact⟨cs,k,w,o,X,e,a,b,h _ _ q⟩
theorem N8(a:0<=k/\k<=100)(b:BdOk w o)(q:K (.d (DD (Td cs k w o X))) []):UB YH [.d (.list (cs.map PyData.int)),.d (.int k),.d (.list (w.map tJ)),.d (.list (o.map PyData.str)),.d (j8 X)] K E:=⟨cs,k,w,o,X,rfl,a,b,q⟩
theorem Jn{a:D}:UF [.d a,.d b,.d c,.d d,.d e]=.d (.tuple [a,b,c,d,e]):=rfl
theorem Dr{a f g:D}:UF [.d a,.d b,.d c,.d d,.d e,.d f,.d g]=.d (.tuple [a,b,c,d,e,f,g]):=rfl
theorem Im{ds:List D}:jO .tuple [(.lst (ds.map T.d),n)] Q=Q (.d (.tuple ds)) false:=by unfold jO dC;rw[xG];show VX .tuple [.ls (ds.map T.d)] Q=_;rw[Ze];exact propext ⟨λ⟨_,e,q⟩=>by rw[VA]at e;cases e;exact q,λq=>⟨_,VA _,q⟩⟩
theorem Af:(QS "abcdef").length=6:=rfl
noncomputable def Zk(cs:LJ)(k:Int)(w:Ps)(o:LS)(X:Option (Str×Str))(mt:Str)(o8:Option Sl)(o10 o11 o12 x h:Option Sl):kA:=[bD (.list (cs.map PyData.int)),bD (.int k),bD (.list (w.map tJ)),bD (.list (o.map PyData.str)),bD (j8 X),bD (.int (uA cs (11 * k) (w.length:Int))),bD (.str mt),bD (.str (Sk cs k)),o8,bD (.int (ug cs k)),o10,o11,o12,x,h]
theorem Ba:IntMulOk 11 k:=YN.ok (.inl ⟨by decide,by decide⟩)
theorem Sd(u:Ψ.sp "_law_draw"=vC){Q:T->LT->Prop}{a mt:Str}{o8 o11 o12 x h:Option Sl}(hk:0<=k/\k<=100)(hb:BdOk w o)(q:Q (.d (DD (hG cs k w a mt))) []):pF Ψ sF (eZ Q) (Zk cs k w o X mt o8 (bD (.str a)) o11 o12 x h):=by
 have C:=A3 hb a;have A:=hb.pl;have B:=hb.p2;delta Zk;delta sF;simp_arith[↓zA];rw[<- lA tJ];refine fA (λp=>T.d (tJ p)) (λ(p:Str×Int×Int×Int)=>T.d (.str p.1)) (λp=>!decide (p.1=a)) w [] _ (λp z R y=>?_) (by show 0+w.length<=_;omega) ?_;simp_arith[↓KN];split at y;rename_i c;rw[if_pos c];exact y;rename_i c;rw[if_neg c];exact y;rw[Qh,lA λp:Str×Int×Int×Int=>PyData.str p.1];have e:((w.filter λp=>!decide (p.1=a)).map λp=>PyData.str p.1)=(E3 w a).map PyData.str:=by unfold E3;rw[Qb];rfl
 rw[e];simp?[↓cA (md:=[.xy]) u rfl rfl,↓lN,↓FB,QG];have s:=JA (cs:=cs) (k:=11 * k+6) (m:=((E3 w a).length:Int)) (by omega);have G:=JA (cs:=cs) (k:=11 * k+7) (m:=3) (by decide);have g:=dk hk 7 rfl;refine⟨Ba,(dk hk 6 rfl).1,(dk hk 6 rfl).2,by omega,RC (α:=Str) "" s.1 s.2 ?_⟩;refine⟨by omega,Ba,g.1,g.2,by omega,by omega,?_⟩;refine kB (λ(i:Nat)=>T.d (.int (i:Int))) (λr ρ=>∃bs h,bs++r.map (λ(j:Nat)=>IR w (uA cs (11 * k+8+(j:Int)) (w.length:Int)))=Vt cs k w/\(bs.length+r.length<=3/\∀j∈r,j<3)/\ρ=Zk cs k w o X mt o8 (bD (.str a)) (bD (.list ((E3 w a).map PyData.str))) (bD (.str (gI (E3 w a) (uA cs (11 * k+6) ((E3 w a).length:Int)) ""))) (oW (.lst ((bs.map PyData.str).map T.d))) h) ?_ ?_ _ _ ⟨[],h,rfl,⟨by rw[qK];show 0+_<=3;omega,λj Y=>by have:=qD.mp Y;omega⟩,rfl⟩;rintro ρ ⟨bs,h,e,_,rfl⟩;have e:bs=Vt cs k w:=by rw[<- e];exact(qB _).symm
 subst e;delta Zk;simp_arith[↓Im,↓Dr];exact⟨by omega,q⟩;rintro j r ρ N W ⟨bs,h,e,⟨f,v⟩,rfl⟩;have f:bs.length+(r.length+1)<=3:=f;have F:j<3:=v j QD;have l:=JA (cs:=cs) (k:=11 * k+8+(j:Int)) (m:=(w.length:Int)) (by omega);delta Zk;delta FK;simp?[↓cA (md:=[.xy]) u rfl rfl,↓lN,↓FB,QG];refine⟨Ba,by omega,by omega,by omega,RC jk l.1 l.2 ?_⟩;simp_arith[↓KN,QG];refine⟨by omega,W _ ⟨bs++[IR w (uA cs (11 * k+8+(j:Int)) (w.length:Int))],bD (.int (j:Int)),?_,⟨?_,λp z=>v p (QE _ z)⟩,?_⟩⟩;rw[Qv];exact e;rw[QI];show bs.length+1+r.length<=3;omega;delta Zk;rw[QR,QR];rfl
theorem ue{L:Bool->Prop}:rB .Is (.d (j8 X)) (.d .none) L=L X.isNone:=by cases X<;>rfl
theorem Hk:BA (.d (j8 (some p))) n (.d (.int 0)) m R=R (.d (.str p.1)):=GA (i:=0) rfl
theorem Gk:BA (.d (j8 (some p))) n (.d (.int 1)) m R=R (.d (.str p.2)):=GA (i:=1) rfl
theorem su{r:PT}{a:D}:ML Ψ E r Z i (.lst [.d a,.d b,.d c,.d d]) true ρ=dB Ψ E r Z (ρ.set i (bD (.list [a,b,c,d]))):=Bp (ds:=[a,b,c,d])
theorem Xh(y:Ψ.sp "_law_draw"=vC)(ds Q E)(h:YH.run ds Q E):nH Ψ xK YH cP xM ds Q:=by
 obtain⟨cs,k,w,o,X,rfl,hk,hb,q⟩:=h;have B:=hb.pl;have C:=hb.p2;have F:=hb.m1;have x:=JA (cs:=cs) (k:=11 * k) (m:=(w.length:Int)) (by omega);have A:=JA (cs:=cs) (k:=11 * k+1) (m:=(o.length:Int)) (by omega);have G:=JA (cs:=cs) (k:=11 * k+2) (m:=6) (by decide);have W:=JA (cs:=cs) (k:=905) (m:=4) (by decide);refine gA [bD (.list (cs.map PyData.int)),bD (.int k),bD (.list (w.map tJ)),bD (.list (o.map PyData.str)),bD (j8 X),none,none,none,none,none,none,none,none,none,none] rfl rfl rfl ?_;delta xK;simp?[↓JN,↓Rs,↓j3,↓cA (md:=[.xy]) y rfl rfl,↓lN,↓FB,QG,↓c7,↓ue];have Y:=dk hk 1 rfl;have s:=dk hk 2 rfl;have r:=dk hk 3 rfl;refine⟨Ba,by omega,by omega,by omega,Ba,Y.1,Y.2,by omega,RC (α:=Str) "" A.1 A.2 ?_⟩;rw[Af];refine⟨Ba,s.1,s.2,by omega,YN.ok (.inl ⟨by decide,by decide⟩),Ba,r.1,r.2,by omega,?_⟩;simp_arith[↓su,↓cA (md:=[.xy]) y rfl rfl,↓lN,↓FB,↓c7,↓ue];refine RC (f:=PyData.int) (l:=[k,2 * (k / 2),uA cs (11 * k+3) 9,100 - k]) 0 W.1 W.2 ?_;cases X with|none=>simp_arith[Option.isNone_none];refine RC jk x.1 x.2 ?_;simp_arith[↓KN,↓Jn];exact⟨by omega,q⟩|some p=>simp_arith[Option.isNone_some];have j:=dk hk 4 rfl;refine⟨Ba,j.1,j.2,?_⟩;have q:Q (.d (DD (if uA cs (11 * k+4) 4=0 then pX cs k w o else if 0<uA cs (11 * k+5) 3 then hG cs k w p.1 p.2 else hG cs k w (IR w (uA cs (11 * k) (w.length:Int))) (ck cs k o)))) []:=q;by_cases v:uA cs (11 * k+4) 4=0;rw[if_pos v]at q;rw[if_pos (dT v)];refine RC jk x.1 x.2 ?_;simp_arith[↓KN,↓Jn];exact⟨by omega,q⟩;rw[if_neg v]at q;rw[if_neg (λz=>v (of_decide_eq_true z))];refine RC jk x.1 x.2 ?_;simp_arith[↓KN,↓cA (md:=[.xy]) y rfl rfl,↓lN,↓FB,↓Hk,↓Gk];have g:=dk hk 5 rfl;refine⟨Ba,g.1,g.2,?_⟩;by_cases u:0<uA cs (11 * k+5) 3;rw[if_pos u]at q;rw[if_pos (dT u)];exact Sd (mt:=p.2) y hk hb q;rw[if_neg u]at q;rw[if_neg (λz=>u (of_decide_eq_true z))];exact Sd (mt:=ck cs k o) y hk hb q
theorem zd{i:Int}(x:0<=i)(h:i<(w.length:Int)):∃p∈w,p.1=IR w i:=⟨_,(CC (d:=jk) x h).2,rfl⟩
def Uk(w:Ps)(o:LS):Evt->Prop
 | .see _ p m h=>(∃x∈w,x.1=p)/\m∈o/\OkS h|.tell _ a b m h q=>(∃x∈w,x.1=a)/\(∃x∈w,x.1=b)/\m∈o/\a≠b/\OkS h/\∀y∈q,∃x∈w,x.1=y
theorem Ef:((Qr 6).all λ(a:Nat)=>qq (wl "abcdef" (some (a:Int)) none))=true:=by decide +kernel
theorem U0(cs:LJ)(k:Int):OkS (Sk cs k):=by have h:=JA (cs:=cs) (k:=11 * k+2) (m:=6) (by decide);unfold Sk;obtain⟨a,e⟩:=qa h.1;rw[e]at h ⊢;exact Qq.mp Ef a (qD.mpr (by omega))
def Z5:Evt->Str×Str
 | .see _ p m _=>(p,m)|.tell _ _ b m _ _=>(b,m)
theorem so(hb:BdOk w o)(hl:Nj w o X):Uk w o (Td cs k w o X):=by
 have C:=hb.p2;have G:=hb.m1;have r:=JA (cs:=cs) (k:=11 * k) (m:=(w.length:Int)) (by omega);have q:=JA (cs:=cs) (k:=11 * k+1) (m:=(o.length:Int)) (by omega);have u:=zd r.1 r.2;have h:ck cs k o∈o:=(CC q.1 q.2).2;have v:∀a m,(∃x∈w,x.1=a)->m∈o->Uk w o (hG cs k w a m):=λa m A W=>by have F:=A3 hb a;have l:=JA (cs:=cs) (k:=11 * k+6) (m:=((E3 w a).length:Int)) (by omega);obtain⟨x,Y,e⟩:=QT.mp (CC (d:=("":Str)) l.1 l.2).2;obtain⟨B,f⟩:=QO.mp Y;refine⟨A,⟨x,B,e⟩,W,λz=>?_,U0 cs k,λy s=>?_⟩;rw[dT (e.trans z.symm)]at f;cases f;obtain⟨j,_,rfl⟩:=QT.mp s;have g:=JA (cs:=cs) (k:=11 * k+8+(j:Int)) (m:=(w.length:Int)) (by omega);exact zd g.1 g.2
 cases X with
 |none=>exact⟨u,h,U0 cs k⟩|some p =>
  obtain⟨a,b⟩:=p;show Uk w o (if uA cs (11 * k+4) 4=0 then pX cs k w o else if 0<uA cs (11 * k+5) 3 then hG cs k w a b else hG cs k w (IR w (uA cs (11 * k) (w.length:Int))) (ck cs k o));split;exact⟨u,h,U0 cs k⟩;split
  ·exact v a b hl.1 hl.2
  exact v _ _ u h
theorem Ha{e:Evt}(h:Uk w o e):Nj w o (some (Z5 e)):=by
 cases e with|see t p m x=>exact⟨h.1,h.2.1⟩|tell t a b m x q=>exact⟨h.2.1,h.2.2.1⟩
theorem EI{α:Type}(xs:List α)(a b:Option Int):(gF xs a b).Sublist xs:=(QBl _ _).trans (List.drop_sublist _ _)
theorem Bb{α:Type}{xs:List α}{b:Int}(y:0<=a)(x:a<=b)(h:b<=xs.length):(gF xs (some a) (some b)).length=(b - a).toNat:=by obtain⟨a,rfl⟩:=qa y;obtain⟨b,rfl⟩:=qa (QAG y x);have x:a<=b:=QA3.mp x;have h:b<=xs.length:=QA3.mp h;unfold gF;rw[HT.sIx_nat,HT.sIx_nat,wg,Wk,WT h,WT (QX x h),WT (Nat.sub_le_sub_right h a),<- Int.ofNat_sub x];rfl
theorem IS{α:Type}{xs:List α}{b:Int}(x:0<=b)(h:b<=xs.length):(gF xs none (some b)).length=b.toNat:=by obtain⟨b,rfl⟩:=qa x;have h:b<=xs.length:=QA3.mp h;unfold gF;rw[HT.sIx_nat,HT.sIx_none,wg,Wk,WT h,Nat.sub_zero,Nat.sub_zero,WT h];rfl
theorem aV{α z:Type}{f:α->List z}{c:Nat}:∀(l:List α),(∀x∈l,(f x).length<=c)->(l.flatMap f).length<=c * l.length
 |[],_=>Qt _|x::l,h=>by have a:=h x QD;have b:=aV l λy u=>h y (QE _ u);rw[w9,QI,QM,Nat.mul_add];omega
def Ib(cs:LJ)(o:LS)(k j:Nat):uC:=if 0<uA cs (950+3 * (k:Int)+(j:Int)) 3 then[gI [(gI o (k:Int) "",gI o (j:Int) ""),(gI o (j:Int) "",gI o (k:Int) "")] (uA cs (960+3 * (k:Int)+(j:Int)) 2) ("","")] else[]
def Dj(cs:LJ)(o:LS)(k:Nat):uC:=(Qr k).flatMap (Ib cs o k)
def Kk(cs:LJ)(o:LS):uC:=(Qr o.length).flatMap (Dj cs o)
theorem BX(cs:LJ)(o:LS)(k j:Nat):(Ib cs o k j).length<=1:=by unfold Ib;split;exact QZ _;exact Qt _
theorem FX(cs:LJ)(o:LS)(k:Nat):(Dj cs o k).length<=k:=by have:=aV (Qr k) λj _=>BX cs o k j;rw[qK]at this;show(List.flatMap _ _).length<=k;omega
theorem jc(h:o.length<=10):(Kk cs o).length<=100:=by have:=aV (c:=10) (Qr o.length) λk hk=>QX (FX cs o k) (by have:=qD.mp hk;omega);rw[qK]at this;show(List.flatMap _ _).length<=100;omega
theorem XQ{α:Type}{l:List α}{k:Nat}{d:α}(h:k<l.length):gE l (k:Int)=some (gI l (k:Int) d)/\gI l (k:Int) d∈l:=CC (QBi k) (by omega)
theorem Fj(h:p∈Kk cs o):p.1∈o/\p.2∈o:=by obtain⟨k,hk,h⟩:=wE.mp h;obtain⟨j,x,h⟩:=wE.mp h;have hk:=qD.mp hk;have x:=qD.mp x;have a:=(XQ (d:=("":Str)) hk).2;have b:=(XQ (d:=("":Str)) (show j<o.length by omega)).2;unfold Ib at h;split at h;have d:=JA (cs:=cs) (k:=960+3 * (k:Int)+(j:Int)) (m:=2) (by decide);have g:=(CC (l:=[(gI o (k:Int) ("":Str),gI o (j:Int) ""),(gI o (j:Int) "",gI o (k:Int) "")]) (d:=("","")) d.1 d.2).2;rw[<- QJ.mp h]at g;rcases QL.mp g with g|g;rw[g];exact⟨a,b⟩;rw[QJ.mp g];exact⟨b,a⟩;cases h
def NM(cs:LJ)(w:Ps)(o:LS)(s:List Evt×Option (Str×Str))(k:Nat):List Evt×Option (Str×Str):=(s.1++[Td cs (k:Int) w o s.2],some (Z5 (Td cs (k:Int) w o s.2)))
def gt(cs:LJ)(w:Ps)(o:LS):List Evt:=((Qr cs.length).foldl (NM cs w o) ([],none)).1
theorem Ad{cs:LJ}{w:Ps}{o:LS}(hb:BdOk w o):∀(l:LN) (s:List Evt×Option (Str×Str)),(∀e∈s.1,Uk w o e)->Nj w o s.2->(∀e∈(l.foldl (NM cs w o) s).1,Uk w o e)/\(l.foldl (NM cs w o) s).1.length=s.1.length+l.length
 |[],s,h,_=>⟨h,rfl⟩|k::l,s,h,h2=>by have e:=so (cs:=cs) (k:=(k:Int)) hb h2;obtain⟨a,b⟩:=Ad hb l (NM cs w o s k) (λx y=>by rcases Qf.mp y with y|y;exact h x y;rw[QJ.mp y];exact e) (Ha e);refine⟨a,b.trans ?_⟩;show(s.1++[_]).length+l.length=s.1.length+(l.length+1);rw[QI];show s.1.length+1+l.length=_;omega
def yd(cs:LJ)(most:Int):LS:=gF (sC cs) none (some (2+uA cs 906 (most - 1)))
def AU(cs:LJ):LS:=gF (sC cs) (some 6) (some (7+uA cs 907 3))
def E7(cs:LJ):LS:=if uA cs 908 3=0 then gF (sC cs) none (some ((AU cs).length:Int)) else AU cs
def Cq(cs:LJ)(w:Ps)(o:LS):Wd:=⟨w,o,Kk cs o,gt cs w o⟩
def aL(ns:LJ)(most:Int):Wd:=Cq (bB 24 ns) (XN (bB 24 ns) (yd (bB 24 ns) most)) (E7 (bB 24 ns))
theorem AW(cs:LJ):1<=(AU cs).length/\(AU cs).length<=6:=by have m:=JA (cs:=cs) (k:=907) (m:=3) (by decide);have n:=(zG cs).2.2;unfold AU;rw[Bb (by decide) (by omega) (by rw[n];omega)];omega
theorem Kd(cs:LJ):(1<=(E7 cs).length/\(E7 cs).length<=6)/\(E7 cs).Sublist (sC cs):=by have n:=(zG cs).2.2;have m:=AW cs;unfold E7;split;rw[IS (by omega) (by rw[n];omega)];exact⟨by omega,EI _ _ _⟩;exact⟨m,EI _ _ _⟩
theorem Ve(cs:LJ)(h:2<=most/\most<=10):BdOk (XN cs (yd cs most)) (E7 cs):=by have n:=zG cs;have d:=JA (cs:=cs) (k:=906) (m:=most - 1) (by omega);have e:=JO cs (yd cs most);have l:=congrArg qt e;have c:(yd cs most).length=(2+uA cs 906 (most - 1)).toNat:=IS (by omega) (by rw[n.2.2];omega);rw[QG,c]at l;have m:=(Kd cs).1;exact⟨by omega,by omega,by rw[e];exact(EI _ _ _).nodup n.1,m.1,by omega⟩
theorem u6(ns:LJ):(bB 24 ns).length<=24:=DM (by decide) ns 0 [] (by decide) (QZ _) (λ_=>rfl)
theorem K0(ns:LJ)(h:2<=most/\most<=10):WOk (aL ns most):=by
 have n:=zG (bB 24 ns);have hb:=Ve (bB 24 ns) h;have m:=Kd (bB 24 ns);have f:=u6 ns;have y:∀x∈E7 (bB 24 ns),OkS x:=λx j=>n.2.1 x (m.2.mem j);obtain⟨r,v⟩:=Ad (cs:=bB 24 ns) hb (Qr (bB 24 ns).length) ([],none) (λ_ z=>by cases z) trivial;rw[qK]at v;refine⟨λp u=>?_,jc hb.ml,hb.pl,hb.nd,λp u=>?_,hb.ml,y,m.2.nodup n.1,?_,λe l=>?_⟩;obtain⟨a,b⟩:=Fj u;exact⟨y _ a,y _ b⟩;have:p.1∈yd (bB 24 ns) most:=(JO (bB 24 ns) (yd (bB 24 ns) most))▸QT.mpr ⟨p,u,rfl⟩;exact n.2.1 _ ((EI _ _ _).mem this);exact QX (wx v) (by show 0+_<=60;omega);have:=r e l;cases e with|see t p m g=>exact this|tell t a b m g q=>exact this
noncomputable def bR(cs:LJ)(most:Int)(nm:LS)(w:Ps)(o:LS)(h o7 o8 o9 o10 o11 o12:Option Sl):kA:=[bD (.list (cs.map PyData.int)),bD (.int most),bD (.list (nm.map PyData.str)),bD (.list (w.map tJ)),bD (.list (o.map PyData.str)),h,o7,o8,o9,o10,o11,o12]
def k7(h:uC):Option Sl:=some (.own (.lst ((h.map pr).map T.d)))
def Yk(es:List Evt):Option Sl:=some (.own (.lst ((es.map DD).map T.d)))
theorem Ed(ds:List D):(T.lst (ds.map T.d)).er=.list ds:=by show PyData.list (ersT (ds.map T.d))=_;rw[pB]
theorem tu{r:PT}{a:D}:ML Ψ E r Z i (.lst [.d a,.d b]) true ρ=dB Ψ E r Z (ρ.set i (bD (.list [a,b]))):=Bp (ds:=[a,b])
end
section
variable{Ψ:PEv}{Z:PEnds}{cs:LJ}{most:Int}{u:LS}{y:Ps}{h:LS}{o7 o8 o9 o10 o11 o12:Option Sl}
theorem Uq(a:Ψ.sp "_law_draw"=vC){x:uC}{k j:Nat}(hk:k<h.length)(w:j<h.length)(g:h.length<=10)(i:x.length<=200)(q:∀o9,Z.nx (bR cs most u y h (k7 (x++Ib cs h k j)) (bD (.int (k:Int))) (bD (.int (j:Int))) o9 o10 o11 o12)):pF Ψ tG Z (bR cs most u y h (k7 x) (bD (.int (k:Int))) (bD (.int (j:Int))) o9 o10 o11 o12):=by
 have b:gE (h.map PyData.str) (k:Int)=some (.str (gI h (k:Int) "")):=by rw[IG,(XQ (d:=("":Str)) hk).1];rfl
 have e:gE (h.map PyData.str) (j:Int)=some (.str (gI h (j:Int) "")):=by rw[IG,(XQ (d:=("":Str)) w).1];rfl
 have d:=JA (cs:=cs) (k:=960+3 * (k:Int)+(j:Int)) (m:=2) (by decide);have v:IntMulOk 3 (k:Int):=YN.ok (.inl ⟨by decide,by decide⟩);delta bR k7;delta tG;simp_arith[b,e,↓tu,↓cA (md:=[.xy]) a rfl rfl,↓lN,↓FB,QG];refine⟨by omega,by omega,by omega,v,by omega,by omega,?_⟩;by_cases c:0<uA cs (950+3 * (k:Int)+(j:Int)) 3;rw[show Ib cs h k j=_ from if_pos c]at q;rw[if_pos (dT c)];refine⟨v,by omega,by omega,RC (f:=pr) (l:=[(gI h (k:Int) ("":Str),gI h (j:Int) ""),(gI h (j:Int) "",gI h (k:Int) "")]) ("","") d.1 d.2 ⟨by omega,?_⟩⟩;have q:=q (bD (.list [pr (gI h (k:Int) ("":Str),gI h (j:Int) ""),pr (gI h (j:Int) ("":Str),gI h (k:Int) "")]));unfold k7 at q;rw[QR,QR]at q;exact q;rw[show Ib cs h k j=_ from if_neg c,qB]at q;rw[if_neg (λz=>c (of_decide_eq_true z))];exact q _
theorem Xq(n:Ψ.sp "_law_draw"=vC){z:uC}{k:Nat}(hk:k<h.length)(f:h.length<=10)(p:z.length<=100)(q:∀o8 o9,Z.nx (bR cs most u y h (k7 (z++Dj cs h k)) (bD (.int (k:Int))) o8 o9 o10 o11 o12)):pF Ψ sG Z (bR cs most u y h (k7 z) (bD (.int (k:Int))) o8 o9 o10 o11 o12):=by
 delta bR k7;delta sG;simp_arith[qM];refine⟨by omega,by omega,?_⟩;refine kB (λ(i:Nat)=>T.d (.int (i:Int))) (λr v=>∃a o8 o9,a++r.flatMap (Ib cs h k)=z++Dj cs h k/\(a.length+r.length<=200/\∀j∈r,j<h.length)/\v=bR cs most u y h (k7 a) (bD (.int (k:Int))) o8 o9 o10 o11 o12) ?_ ?_ _ _ ⟨z,o8,o9,rfl,⟨by rw[qK];omega,λj l=>by have:=qD.mp l;omega⟩,rfl⟩;rintro v ⟨a,o8,o9,e,_,rfl⟩;have e:a=z++Dj cs h k:=by rw[<- e];exact(qB _).symm
 subst e;delta bR;simp_arith[↓zA];exact q _ _;rintro j r v N m ⟨a,o8,o9,e,⟨b,w⟩,rfl⟩;have b:a.length+(r.length+1)<=200:=b;have o:=BX cs h k j;refine Uq n hk (w j QD) f (by omega) λo9=>m _ ⟨a++Ib cs h k j,_,o9,?_,⟨by rw[QI];omega,λx g=>w x (QE _ g)⟩,rfl⟩;rw[Qv];exact e
theorem Vq(w:Ψ.sp "_law_event"=YH){z:Option Sl}{k:Nat}{es:List Evt}{x:Option (Str×Str)}(hk:k<=100)(hb:BdOk y h)(g:es.length<=100)(q:∀o12,Z.nx (bR cs most u y h z (bD (.int (k:Int))) o8 o9 (Yk (es++[Td cs (k:Int) y h x])) (bD (j8 (some (Z5 (Td cs (k:Int) y h x))))) o12)):pF Ψ rG Z (bR cs most u y h z (bD (.int (k:Int))) o8 o9 (Yk es) (bD (j8 x)) o12):=by
 delta bR Yk;delta rG;simp?[↓cA (md:=[]) w rfl rfl];refine N8 ⟨by omega,by omega⟩ hb ?_;generalize Td cs (k:Int) y h x=e at *;simp_arith[↓yI,QG];refine⟨by omega,?_⟩;have q:=λo=>q o;unfold Yk at q;rw[QR,QR]at q;cases e with|see t p m v=>simp_arith[↓yI,uV,↓i0,↓vR];refine⟨by omega,UM (show decide ((QS "see")=(QS "tell"))≠true by decide) ?_⟩;exact q _|tell t a b m v f=>simp_arith[↓yI,uV,↓j0,↓IZ,↓EZ];exact⟨by omega,by omega,q _⟩
theorem fc(s:Ψ.sp "_law_draw"=vC)(p:Ψ.sp "_law_event"=YH){Q:T->LT->Prop}(X:cs.length<=100)(hb:BdOk y h)(q:Q (.d (wD (Cq cs y h))) []):pF Ψ rF (eZ Q) (bR cs most u y h none none none none none none none):=by
 have n:=hb.ml;delta bR;delta rF;simp_arith[QG,qM];refine⟨by omega,by omega,by omega,?_⟩;refine kB (λ(i:Nat)=>T.d (.int (i:Int))) (λr v=>∃a o7 o8 o9,a++r.flatMap (Dj cs h)=Kk cs h/\(a.length+10 * r.length<=100/\∀j∈r,j<h.length)/\v=bR cs most u y h (k7 a) o7 o8 o9 none none none) ?_ ?_ _ _ ⟨[],none,none,none,rfl,⟨by rw[qK];show 0+_<=100;omega,λj l=>qD.mp l⟩,rfl⟩;rintro v ⟨a,o7,o8,o9,e,_,rfl⟩;have e:a=Kk cs h:=by rw[<- e];exact(qB _).symm
 subst e;delta bR;simp_arith[QG,qM];refine⟨by omega,by omega,by omega,?_⟩;refine kB (λ(i:Nat)=>T.d (.int (i:Int))) (λr v=>∃z f o7 o12,(r.foldl (NM cs y h) (z,f)).1=gt cs y h/\(z.length+r.length<=100/\∀j∈r,j<=100)/\v=bR cs most u y h (k7 (Kk cs h)) o7 o8 o9 (Yk z) (bD (j8 f)) o12) ?_ ?_ _ _ ⟨[],none,_,_,rfl,⟨by rw[qK];show 0+_<=100;omega,λj l=>by have:=qD.mp l;omega⟩,rfl⟩;rintro v ⟨z,f,o7,o12,e,_,rfl⟩;have e:z=gt cs y h:=e;subst e;delta bR k7 Yk;simp_arith[↓zA];rw[Ed,Ed];exact⟨by omega,q⟩;rintro j r v N m ⟨z,f,o7,o12,e,⟨b,w⟩,rfl⟩;have b:z.length+(r.length+1)<=100:=b;refine Vq p (w j QD) hb (by omega) λo12=>m _ ⟨_,_,_,o12,e,⟨?_,λx g=>w x (QE _ g)⟩,rfl⟩;rw[QI];show z.length+1+r.length<=100;omega;rintro k r v N m ⟨a,o7,o8,o9,e,⟨b,w⟩,rfl⟩;have b:a.length+10 * (r.length+1)<=100:=b;have o:=w k QD;have Y:=FX cs h k;refine Xq s o n (by omega) λo8 o9=>m _ ⟨a++Dj cs h k,_,o8,o9,?_,⟨by rw[QI];omega,λx g=>w x (QE _ g)⟩,rfl⟩;rw[Qv];exact e
end
section
variable{ks:List Pt}{p:Pt}{u:List Evt}{l v:LN}{x m y:Str}{w:Wd}{n:Nat}{es:uC}
def NF:PSp where
 md:=[.xy]
 run:=λf Q _=>∃(b:LJ) (k:Int),f=[.lst ((b.map PyData.int).map T.d),.d (.int k)]/\(2<=k/\k<=10)/\Q (.d (wD (aL b k))) []
 mono:=λh _ z=>by obtain⟨b,k,e,a,q⟩:=z;exact⟨b,k,e,a,h _ _ q⟩
theorem xY{ns:LJ}{most:Int}{K:T->LT->Prop}{E:XE}(h:2<=most/\most<=10)(q:K (.d (wD (aL ns most))) []):UB NF [.lst ((ns.map PyData.int).map T.d),.d (.int most)] K E:=⟨ns,most,rfl,h,q⟩
theorem i4{Ψ:PEv}(b:Ψ.sp "_law_draw"=vC)(f:Ψ.sp "_law_event"=YH)(o:Ψ.sp "_law_folded"=mE)(j:Ψ.sp "_law_names"=OF)(i:Ψ.sp "_law_people"=FL)(ds Q E)(h:NF.run ds Q E):nH Ψ kK NF uP kM ds Q:=by obtain⟨a,k,rfl,g,q⟩:=h;have fl:=u6 a;refine gA [some (.ky (.lst ((a.map PyData.int).map T.d))),bD (.int k),none,none,none,none,none,none,none,none,none,none] rfl rfl rfl ?_;delta kK;simp_arith[↓cA (md:=[.xy]) o rfl rfl];refine pU (by decide) ?_;have q:Q (.d (wD (Cq (bB 24 a) (XN (bB 24 a) (yd (bB 24 a) k)) (E7 (bB 24 a))))) []:=q;generalize bB 24 a=cs at *;have r:=(zG cs).2.2;have hb:=Ve cs g;have s:=AW cs;simp_arith[↓cA (md:=[]) j rfl rfl];refine bY ?_;simp?[↓cA (md:=[]) i rfl rfl,↓JN,↓Ls,↓j3,↓cA (md:=[.xy]) b rfl rfl,↓lN,↓FB,GQ];refine⟨by omega,G8 (QX ((EI _ _ _).length_le) (by omega)) ?_⟩;simp_arith[↓JN,↓Os,↓Ds,↓j3,↓Yd,↓cA (md:=[.xy]) b rfl rfl,↓lN,↓FB,GQ,QG];by_cases c:uA cs 908 3=0;rw[if_pos (dT c)];have e:E7 cs=gF (sC cs) none (some ((AU cs).length:Int)):=if_pos c;rw[e]at q hb;exact fc b f (by omega) hb q;rw[if_neg (λz=>c (of_decide_eq_true z))];have e:E7 cs=AU cs:=if_neg c;rw[e]at q hb;exact fc b f (by omega) hb q
theorem bS{q:Pt}:q∈IK ks p↔q∈ks∨q=p:=by unfold IK;split;rename_i c;exact⟨.inl,λh=>h.elim id λe=>e▸c⟩;rw[Qf,QJ]
def GE(u:List Evt)(x m:Str)(n:Nat):Prop:=∃t h,nA u n=.see t x m h
theorem VO{u:List Evt}{x m:Str}:∀(l:LN) (ks:List Pt),(x,m)∈l.foldl (IB u) ks↔(x,m)∈ks∨∃n∈l,GE u x m n
 |[],ks=>⟨.inl,λh=>h.elim id λ⟨_,h,_⟩=>by cases h⟩|n::l,ks=>by
  show(x,m)∈l.foldl (IB u) (IB u ks n)↔_;rw[VO l];have e:(x,m)∈IB u ks n↔(x,m)∈ks∨GE u x m n:=by
   unfold IB GE;cases nA u n with|see t p z f=>show _∈IK ks (p,z)↔_;rw[bS];exact or_congr wo ⟨λe=>by cases e;exact⟨_,_,rfl⟩,λ⟨_,_,e⟩=>by cases e;rfl⟩|tell t a b z f q=>exact⟨.inl,λh=>h.elim id λ⟨_,_,e⟩=>by cases e⟩
  rw[e,or_assoc];refine or_congr wo ⟨λh=>?_,λ⟨k,hk,h⟩=>?_⟩;rcases h with h|⟨k,hk,h⟩
  ·exact⟨n,QD,h⟩
  exact⟨k,QE _ hk,h⟩;rcases QL.mp hk with rfl|hk
  ·exact .inl h
  exact .inr ⟨k,hk,h⟩
theorem pE:(x,m)∈MA u l↔∃n∈l,GE u x m n:=(VO l []).trans ⟨λh=>h.elim (λh=>by cases h) id,.inr⟩
def b7(w:Wd)(z:List Pt)(a b:Str)(n:Nat):Prop:=∃t m h q,nA w.es n=.tell t a b m h q/\aH w z b m=true
theorem IW{w:Wd}{f:List Pt}{a b:Str}:∀(l:LN) (ks:List Pt),(a,b)∈l.foldl (ID w f) ks↔(a,b)∈ks∨∃n∈l,b7 w f a b n
 |[],ks=>⟨.inl,λh=>h.elim id λ⟨_,h,_⟩=>by cases h⟩|n::l,ks=>by
  show(a,b)∈l.foldl (ID w f) (ID w f ks n)↔_;rw[IW l];have e:(a,b)∈ID w f ks n↔(a,b)∈ks∨b7 w f a b n:=by
   unfold ID b7;cases nA w.es n with|see t p g i=>exact⟨.inl,λh=>h.elim id λ⟨_,_,_,_,e,_⟩=>by cases e⟩|tell t x y g i q=>show _∈(if aH w f y g=true then IK ks (x,y) else ks)↔_;split;rename_i c;rw[bS];exact or_congr wo ⟨λe=>by cases e;exact⟨_,_,_,_,rfl,c⟩,λ⟨_,_,_,_,e,_⟩=>by cases e;rfl⟩;rename_i c;exact⟨.inl,λh=>h.elim id λ⟨_,_,_,_,e,z⟩=>by cases e;exact absurd z c⟩
  rw[e,or_assoc];refine or_congr wo ⟨λh=>?_,λ⟨k,hk,h⟩=>?_⟩;rcases h with h|⟨k,hk,h⟩
  ·exact⟨n,QD,h⟩
  exact⟨k,QE _ hk,h⟩;rcases QL.mp hk with rfl|hk
  ·exact .inl h
  exact .inr ⟨k,hk,h⟩
theorem Z0{a b:Str}:(a,b)∈aJ w l↔∃n∈l,b7 w (MA w.es l) a b n:=(IW l []).trans ⟨λh=>h.elim (λh=>by cases h) id,.inr⟩
def HZ(w:Wd)(g:Gs):LN:=srt (HF w.es g.taken (aJ w g.past))
theorem TJ{h:LN}:n∈srt (HF u h ks)↔n∈h/\OC (nA u n)∉ks:=by rw[(DL _).mem_iff];unfold HF;rw[QO,Qy,decide_eq_false_iff_not]
theorem iE:p∈yD w l v↔xc w p.1/\p.2∈w.ms/\oJ w l v p.2 p.1:=by unfold yD LZ;rw[wE];constructor;rintro⟨x,z,h⟩;obtain⟨m,b,rfl⟩:=QT.mp h;obtain⟨a,k⟩:=QO.mp b;exact⟨⟨x,z,rfl⟩,a,(HI _ _ _ _ _).mp k⟩;rintro⟨⟨x,z,e⟩,a,k⟩;exact⟨x,z,QT.mpr ⟨p.2,QO.mpr ⟨a,(HI _ _ _ _ _).mpr (e▸k)⟩,by rw[e]⟩⟩
theorem K6:p∈LF u v m↔∃n∈v,NY (nA u n)=m/\OC (nA u n)=p:=by unfold LF;rw[QT];constructor;rintro⟨n,k,e⟩;obtain⟨z,h⟩:=QO.mp k;exact⟨n,z,of_decide_eq_true h,e⟩;rintro⟨n,z,h,e⟩;exact⟨n,QO.mpr ⟨z,dT h⟩,e⟩
theorem sP:x∈RE w ks m↔xc w x/\(x,m)∈ks:=by unfold RE;rw[QT];constructor;rintro⟨p,k,e⟩;obtain⟨z,h⟩:=QO.mp k;exact⟨⟨p,z,e⟩,e▸of_decide_eq_true h⟩;rintro⟨⟨p,z,e⟩,h⟩;exact⟨p,QO.mpr ⟨z,dT (e.symm▸h)⟩,e⟩
theorem FI{i f:LN}(r:∀n∈l,∀y,GE w.es y m n->∃k∈i,GE w.es y m k)(q:∀n∈v,NY (nA w.es n)=m->n∈f)(h:oJ w l v m x):oJ w i f m x:=by refine Held.sub (λe o=>?_) (λs j=>?_) (λy n g=>⟨n,QBN _,g⟩) h;obtain⟨n,a,b,c⟩:=K6.mp o;exact K6.mpr ⟨n,q n a b,b,c⟩;obtain⟨a,b⟩:=sP.mp j;obtain⟨n,g,z⟩:=pE.mp b;exact sP.mpr ⟨a,pE.mpr (r n g s z)⟩
theorem Ai{g:Str}{c:LS}{n:Str}(h:Chn es [] g c n):False:=by
 induction h with|st a _=>cases a|go _ _ _ z=>exact z
theorem uZ{nd:List (Str×Int)}(a:∀y n,(y,n)∈nd->1<=n)(h:Held es [] nd x):False:=by
 cases h with
 |see _ b=>cases b|@tell _ n F k _ m =>
  obtain⟨z,_,hc,hl⟩:=m;cases z with|nil=>have:=a _ _ k;have hl:n<=0:=hl;omega|cons c z=>exact Ai (hc c QD)
theorem bZ(b:∀p∈w.ps,1<=p.2.2.2)(v:LN):yD w [] v=[]:=by refine wX.mpr λp a=>?_;obtain⟨_,_,h⟩:=iE.mp a;unfold oJ at h;rw[show RE w (MA w.es []) p.2=[] from wX.mpr λs k=>by obtain⟨_,k⟩:=sP.mp k;obtain⟨_,z,_⟩:=pE.mp k;cases z]at h;refine uZ (λy n h=>?_) h;obtain⟨p,a,e⟩:=QT.mp h;cases e;exact b p a
structure Fair(w:Wd)(lv0:LN)(hd0:List Pt)(n:Nat)(tk:Bool)(v:LN)(hd sn:List Pt):Prop where
 c1:∀p∈sn,p∈hd
 c2:(∀x∈lv0,x∈v)->∀p∈hd0,p∈hd
 c3:(∀x∈v,x∈lv0∨x=n)->∀p∈hd,p∉hd0->p.2=NY (nA w.es n)
 c4:HA (nA w.es n)->(∀x∈v,x∈lv0∨x=n)/\∀x∈lv0,x∉v->OC (nA w.es x)=OC (nA w.es n)
 c5:HA (nA w.es n)->tk=false->n∉v/\((∀x∈lv0,x∈v)->hd=hd0)
theorem Il(h:GE u y m n):NY (nA u n)=m:=by obtain⟨_,_,e⟩:=h;rw[e];rfl
theorem OW(h:HA (nA u n))(z:GE u y m n):False:=by obtain⟨_,_,_,_,_,_,e⟩:=h;obtain⟨_,_,k⟩:=z;rw[e]at k;cases k
theorem kG{x:Nat}:x∈l++[n]↔x∈l∨x=n:=by rw[Qf,QJ]
end
section
variable{w:Wd}{g:Gs}{n:Nat}
theorem A0{x:Nat}(h:x∈yU w g n):x∈g.taken∨x=n:=by unfold yU at h;split at h;exact kG.mp h;exact .inl h
theorem il{x:Nat}(h:x∈g.taken):x∈yU w g n:=by unfold yU;split;exact Qe _ h;exact h
theorem zY(h:HA (nA w.es n))(y m:Str):(y,m)∈MA w.es (g.past++[n])↔(y,m)∈MA w.es g.past:=by rw[pE,pE];constructor;rintro⟨k,hk,z⟩;rcases kG.mp hk with hk|rfl;exact⟨k,hk,z⟩;exact(OW h z).elim;rintro⟨k,hk,z⟩;exact⟨k,Qe _ hk,z⟩
theorem vW(u:HA (nA w.es n))(p:Pt):(p∈aJ w g.past->p∈aJ w (g.past++[n]))/\(p∈aJ w (g.past++[n])->p∈aJ w g.past∨p=OC (nA w.es n)):=by
 obtain⟨a,b⟩:=p;have e:∀y m,aH w (MA w.es (g.past++[n])) y m=aH w (MA w.es g.past) y m:=λy m=>by have e:∀m,decide ((y,m)∈MA w.es (g.past++[n]))=decide ((y,m)∈MA w.es g.past):=λm=>decide_eq_decide.mpr (zY u y m);unfold aH;simp only[e]
 rw[Z0,Z0];unfold b7;simp only[e];constructor;rintro⟨k,hk,z⟩;exact⟨k,Qe _ hk,z⟩;rintro⟨k,hk,t,m,x,q,z,h⟩;rcases kG.mp hk with hk|rfl;exact .inl ⟨k,hk,t,m,x,q,z,h⟩;rw[z];exact .inr rfl
theorem gZ{l:List Pt}(q:WOk w)(B:GsOk w g)(A:n<w.es.length)(i:n∉g.past)(tp:∀x∈g.taken,x∈g.past)(j:g.held=yD w g.past (HZ w g))(K:∀p∈l,∃k∈g.past++[n],GE w.es p.1 p.2 k):Fair w (HZ w g) g.held n (R7 w g n) (yV w g n) (Ld w g n) l:=by
 have r:HA (nA w.es n)->(∀x∈yV w g n,x∈HZ w g∨x=n)/\∀x∈HZ w g,x∉yV w g n->OC (nA w.es x)=OC (nA w.es n):=λf=>by refine⟨λx v=>?_,λx v W=>?_⟩;obtain⟨a,b⟩:=TJ.mp v;rcases A0 a with a|a;exact .inl (TJ.mpr ⟨a,λz=>b ((vW f _).1 z)⟩);exact .inr a;obtain⟨a,b⟩:=TJ.mp v;by_cases c:OC (nA w.es x)∈aJ w (g.past++[n]);exact((vW f _).2 c).resolve_left b;exact absurd (TJ.mpr ⟨il a,c⟩) W
 refine⟨λp u=>?_,λh p u=>?_,λh p u i=>?_,r,λf X=>?_⟩;obtain⟨k,hk,z⟩:=K p u;have Z:=(uL q B A).p k hk;have ev:=q.ev Z;have s:=z;obtain⟨t,E,e⟩:=z;rw[e]at ev;obtain⟨x,v,C⟩:=ev.1;exact iE.mpr ⟨ev.1,ev.2.1,.see (n:=x.2.2.2) (QT.mpr ⟨x,v,by rw[C]⟩) (sP.mpr ⟨ev.1,pE.mpr ⟨k,hk,s⟩⟩)⟩;rw[j]at u;obtain⟨a,b,c⟩:=iE.mp u;exact iE.mpr ⟨a,b,FI (λk hk y z=>⟨k,Qe _ hk,z⟩) (λk hk _=>h k hk) c⟩;obtain⟨a,b,c⟩:=iE.mp u;by_cases e:p.2=NY (nA w.es n);exact e;refine absurd ?_ i;rw[j];refine iE.mpr ⟨a,b,FI (λk hk y z=>?_) (λk hk z=>?_) c⟩;rcases kG.mp hk with hk|rfl
 ·exact⟨k,hk,z⟩
 exact absurd (Il z).symm e;rcases h k hk with h|rfl
 ·exact h
 exact absurd z.symm e;have Y:yU w g n=g.taken:=if_neg (by rw[X];exact λz=>by cases z);have o:n∉yV w g n:=λz=>by have:=(TJ.mp z).1;rw[Y]at this;exact i (tp n this)
 refine⟨o,λh=>?_⟩;rw[j];have key:∀x m,y8 w (g.past++[n]) (yV w g n) x m=y8 w g.past (HZ w g) x m:=λx m=>by
  rw[Q3,HI,HI];refine⟨FI (λk hk y z=>?_) (λk hk _=>?_),FI (λk hk y z=>⟨k,Qe _ hk,z⟩) (λk hk _=>h k hk)⟩;rcases kG.mp hk with hk|rfl
  ·exact⟨k,hk,z⟩
  exact(OW f z).elim;exact((r f).1 k hk).resolve_right λz=>o (z▸hk)
 show yD w (g.past++[n]) (yV w g n)=_;unfold yD LZ;congr 1;funext p;rw[show y8 w (g.past++[n]) (yV w g n) p.1=y8 w g.past (HZ w g) p.1 from funext λm=>key p.1 m]
end
section
variable{n:Nat}{l:List D}
def IU(n:Nat)(x:D):Prop:=x.canLay0=true/\x.depth<=n
theorem YM{n:Nat}:∀{l:List D},(∀x∈l,IU n x)->qh l=true/\wT l<=n
 |[],_=>⟨rfl,Qt _⟩|x::l,h=>by obtain⟨k,w⟩:=h x QD;obtain⟨u,z⟩:=YM (l:=l) λy v=>h y (QE _ v);exact⟨by show(x.canLay0&&qh l)=true;rw[k,u];rfl,Nat.max_le.mpr ⟨w,z⟩⟩
theorem Ph(h:∀x∈l,IU n x):IU (n+1) (.list l):=⟨(YM h).1,Wl (YM h).2⟩
theorem Hr(h:∀x∈l,IU n x):IU (n+1) (.tuple l):=⟨(YM h).1,Wl (YM h).2⟩
theorem Vn{s:Str}(h:OkS s):IU n (.str s):=⟨h,Qt _⟩
theorem Lr{i:Int}:IU n (.int i):=⟨rfl,Qt _⟩
theorem n5{x:D}(h:IU n x)(y:n<=64):kE x:=⟨h.1,QX h.2 y⟩
theorem Fn{x:D}(h:IU n x)(u:∀y∈l,IU n y):∀y∈x::l,IU n y:=λy z=>by rcases QL.mp z with rfl|z;exact h;exact u y z
theorem Bn:∀y∈([]:List D),IU n y:=λy h=>by cases h
theorem Cn{α:Type}{f:α->D}{l:List α}(h:∀a∈l,IU n (f a)):∀y∈l.map f,IU n y:=λy x=>by obtain⟨a,z,rfl⟩:=QT.mp x;exact h a z
theorem Jh(l:LN):kE (.list (l.map nD)):=n5 (Ph (n:=0) (Cn λa _=>Lr)) (by decide)
theorem Xn{p:Pt}(h:OkS p.1/\OkS p.2):IU 1 (pr p):=Hr (Fn (Vn h.1) (Fn (Vn h.2) Bn))
end
section
variable{ds es:List D}{L:Bool->Prop}{x:D}{h:CmpOp}
theorem Li(i j:Int):Ql (.int i) (.int j)=decide (i=j):=by simp only[Ql];rw[Q3,beq_iff_eq,decide_eq_true_iff]
end
section
variable{z u:LN}{n:Nat}
def HC(z u:LN):LN:=z.filter λx=>!decide (x∈u)
def PJ(z u:LN)(n:Nat):LN:=u.filter λx=>!decide (x∈z)&&!decide (x=n)
theorem cS(h:HC z u=[]):∀x∈z,x∈u:=λx y=>by by_cases c:x∈u;exact c;have:x∈HC z u:=QO.mpr ⟨y,by rw[dF c];rfl⟩;rw[h]at this;cases this
theorem da(h:PJ z u n=[]):∀x∈u,x∈z∨x=n:=λx y=>by
 by_cases c:x∈z;exact .inl c;by_cases d:x=n
 ·exact .inr d
 have:x∈PJ z u n:=QO.mpr ⟨y,by rw[dF c,dF d];rfl⟩;rw[h]at this;cases this
theorem Lh(h:∀x∈u,x∈z∨x=n):PJ z u n=[]:=wX.mpr λx y=>by obtain⟨a,b⟩:=QO.mp y;rcases h x a with h|h;rw[dT h]at b;cases b;rw[dT h,wZ,QAH]at b;cases b
theorem i6(a b:Nat):Ql (nD a) (nD b)=decide (a=b):=by unfold nD;rw[Li];exact decide_eq_decide.mpr Int.ofNat_inj
theorem Uj(l:LN)(x:Nat):((l.map nD).any λy=>Ql y (nD x))=decide (x∈l):=by rw[QA2,Q3,WE,decide_eq_true_iff];constructor;rintro⟨y,v,e⟩;have e:Ql (nD y) (nD x)=true:=e;rw[i6,decide_eq_true_iff]at e;exact e▸v;intro h;refine⟨x,h,?_⟩;show Ql (nD x) (nD x)=true;rw[i6];exact dT rfl
theorem gb(l:LN):(l.map nD).all iB=true:=Qq.mpr λy h=>by obtain⟨x,_,rfl⟩:=QT.mp h;rfl
end
section
variable{L:Bool->Prop}{l:LN}{x:Nat}{z:List Pt}{p:Pt}
theorem oe:rB .In (.d (nD x)) (.d (.list (l.map nD))) L=L (decide (x∈l)):=by show(((iB (nD x)=true/\(l.map nD).all iB=true)∨(kE (nD x)/\kE (.list (l.map nD))))/\L ((l.map nD).any λy=>Ql y (nD x)))=_;rw[Uj];exact propext ⟨λh=>h.2,λh=>⟨.inl ⟨rfl,gb l⟩,h⟩⟩
theorem S6:rB .NotIn (.d (nD x)) (.d (.list (l.map nD))) L=L (!decide (x∈l)):=oe (L:=λc=>L (!c))
theorem Co{y:Nat}:rB .NotEq (.d (nD x)) (.d (nD y)) L=L (!decide (x=y)):=by show L (!decide ((x:Int)=(y:Int)))=_;rw[decide_eq_decide.mpr Int.ofNat_inj]
theorem NV(h:zO z)(y:OkS p.1/\OkS p.2)(q:L (!decide (p∈z))):rB .NotIn (.d (pr p)) (.d (.list (z.map pr))) L:=SW (a:=p.1) (b:=p.2) h y.1 y.2 q
theorem aw(ds:List D)(h:kE (.list ds))(q:L (decide (ds=[]))):rB .Eq (.d (.list ds)) (.d (.list [])) L:=by
 refine⟨h,n5 (n:=1) (Ph Bn) (by decide),?_⟩;cases ds with|nil=>exact q|cons d ds=>exact q
end
section
variable{s:Stp}{n m:Bool}{R:T->Prop}{Ψ:PEv}{E:XE}{ρ:kA}{L:Bool->Prop}{y:CmpOp}{t:T}
theorem Fk:BA (.d (iJ s)) n (.d (.int 0)) m R=R (.d (nD s.1)):=GA (i:=0) rfl
theorem Dk:BA (.d (iJ s)) n (.d (.int 2)) m R=R (.d (.list (s.2.2.1.map nD))):=GA (i:=2) rfl
theorem Pf:BA (.d (iJ s)) n (.d (.int 3)) m R=R (.d (.list (s.2.2.2.map pr))):=GA (i:=3) rfl
theorem Ju{i j k l:Nat}{P:kA->Prop}:YT (.tp [i,j,k,l]) (.d (iJ s)) ρ P=P ((((ρ.set i (bD (nD s.1))).set j (bD (.bool s.2.1))).set k (bD (.list (s.2.2.1.map nD)))).set l (bD (.list (s.2.2.2.map pr)))):=AB
theorem Yo{d:D}:(T.d d).er=d:=rfl
theorem Kt:rB y t (pA (.lst []) true) L=rB y t (.d (.list [])) L:=rfl
theorem Hj{f:Bi}{x:PX}{L:Bool->kA->Prop}:UN Ψ (.bi f x) E ρ L=tB Ψ (.bi f x) E ρ λt _ h=>T0 t λb=>L b h:=rfl
theorem Ms{x:D}{i j:Int}{K:TK}:oU (.d x) n Ψ (.int i) (.int j) E ρ K=fI (.d x) n (some i) (some j) λz k=>K z k ρ:=by cases n<;>rfl
theorem vr{t:Int}{a b z x:Str}{q:LS}{Q:T->Bool->Prop}:fI (.d (DD (.tell t a b z x q))) n (some 2) (some 4) Q=Q (.d (.tuple [.str a,.str b])) false:=by
 unfold fI;rw[rA];show LL (.tp ([PyData.str "tell",.int t,.str a,.str b,.str z,.str x,.tuple (q.map PyData.str)].map T.d)) (some 2) (some 4) Q=_;refine propext ⟨λh=>?_,λh=>.inr (.inr ⟨_,_,rfl,VA _,(by decide:¬ (HT.sIx 7 0 (some 2)=0/\HT.sIx 7 7 (some 4)=7)),h⟩)⟩;rcases h with⟨_,e,_⟩| ⟨_,_,e,_⟩| ⟨_,v,e,u,_,h⟩
 cases e;cases e;cases e;rw[VA]at u;cases u;exact h
theorem zm{e:Evt}(h:HA e){Q:T->Bool->Prop}:fI (.d (DD e)) n (some 2) (some 4) Q=Q (.d (pr (OC e))) false:=by obtain⟨t,a,b,z,x,q,rfl⟩:=h;exact vr
theorem fj{p q:Pt}(z:OkS p.1/\OkS p.2)(x:OkS q.1/\OkS q.2):rB .NotEq (.d (pr p)) (.d (pr q)) L=L (!decide (p=q)):=by show(kE (pr p)/\kE (pr q)/\L (!PyData.eqv (pr p) (pr q)))=_;rw[DQ];exact propext ⟨λh=>h.2.2,λh=>⟨IC z.1 z.2,IC x.1 x.2,h⟩⟩
end
structure FD where
 w:Wd
 b:Stp
 s:Stp
 sn:List Pt
structure FOk(d:FD):Prop where
 w:WOk d.w
 n:d.s.1<d.w.es.length
 h0:zO d.b.2.2.2
 h:zO d.s.2.2.2
 sn:zO d.sn
 l0:d.b.2.2.1.length<=100
 l:d.s.2.2.1.length<=100
 k0:d.b.2.2.2.length<=1000
 k:d.s.2.2.2.length<=1000
 sl:d.sn.length<=100
 t0:∀x∈d.b.2.2.1,x<d.w.es.length/\HA (nA d.w.es x)
 f:Fair d.w d.b.2.2.1 d.b.2.2.2 d.s.1 d.s.2.1 d.s.2.2.1 d.s.2.2.2 d.sn
noncomputable def MH(d:FD)(o9 o10 o11 o12:Option Sl):kA:=[bD (wD d.w),bD (iJ d.b),bD (iJ d.s),some (.ky (.lst ((d.sn.map pr).map T.d))),bD (nD d.s.1),bD (.bool d.s.2.1),bD (.list (d.s.2.2.1.map nD)),bD (.list (d.s.2.2.2.map pr)),bD (DD (nA d.w.es d.s.1)),o9,o10,o11,o12]
def kL(l:LN):Option Sl:=bD (.list (l.map nD))
section
variable{Ψ:PEv}{Z:PEnds}{d:FD}{q:PT}{o9 o10 o11 o12:Option Sl}
theorem Dd{R:Option T->Prop}{p:Bool}{a:T}(h:R (if p=true then some a else none)):if p=true then R (some a) else R none:=by cases p;exact h;exact h
theorem ft(h:FOk d)(k:pF Ψ q Z (MH d (kL (HC d.b.2.2.1 d.s.2.2.1)) none none none)):pF Ψ (.seq (.tset [4,5,6,7] (.xz 2)) (.seq (.set 8 (.idx (.idx (.xz 0) (.int 3)) (.xz 4))) (.seq (.set 9 (.comp [] ["_law_one"] (.nm 0) .val %[.idx (.xz 1) (.int 2)|1] (.cmp .NotIn (.xz 0) (.xz 7)) (.xz 0))) q))) Z [bD (wD d.w),bD (iJ d.b),bD (iJ d.s),some (.ky (.lst ((d.sn.map pr).map T.d))),none,none,none,none,none,none,none,none,none]:=by have z:=h.l0;simp_arith[↓Ju,Yo,↓fP,↓mL h.n,↓Dk];rw[<- lA nD];refine fA (λn=>T.d (nD n)) (λn=>T.d (nD n)) (λx=>!decide (x∈d.s.2.2.1)) d.b.2.2.1 [] _ (λx u R y=>?_) (by show 0+d.b.2.2.1.length<=_;omega) ?_;simp_arith[↓S6];exact Dd y;rw[Qh,lA nD];simp_arith[↓zA];exact k
theorem bt(y:FOk d)(k:pF Ψ q Z (MH d o9 (kL (PJ d.b.2.2.1 d.s.2.2.1 d.s.1)) none none)):pF Ψ (.seq (.set 10 (.comp [] ["_law_one"] (.nm 0) .val %[.xz 6|1] (.and (.cmp .NotIn (.xz 0) (.idx (.xz 2) (.int 2))) (.cmp .NotEq (.xz 0) (.xz 5))) (.xz 0))) q) Z (MH d o9 none none none):=by
 have l:=y.l;delta MH;simp_arith[↓zA];rw[<- lA nD];refine fA (λn=>T.d (nD n)) (λn=>T.d (nD n)) (λx=>!decide (x∈d.b.2.2.1)&&!decide (x=d.s.1)) d.s.2.2.1 [] _ (λx z R h=>?_) (by show 0+d.s.2.2.1.length<=_;omega) ?_;simp_arith[↓u7,↓Dk,↓S6,↓Co];cases c:decide (x∈d.b.2.2.1) with|true=>rw[c]at h;exact h|false=>rw[c]at h;exact Dd (p:=!decide (x=d.s.1)) h
 rw[Qh,lA nD];simp_arith[↓zA];exact k
end
section
variable{L:Bool->Prop}{n:Bool}{Q:T->Bool->Prop}{l:LN}
theorem SU{α:Type}{l:List α}(q:Q (.d (.bool false)) false):jO .any [(.lst ((l.map λ_=>PyData.bool false).map T.d),n)] Q:=by rw[Zd];refine⟨l.map λ_=>false,by rw[Qb];rfl,?_⟩;rw[show(l.map λ_=>false).any id=false from QAT.mpr λx h=>by obtain⟨_,_,rfl⟩:=QT.mp h;exact λz=>by cases z];exact q
theorem Vb(q:L (decide (l=[]))):rB .Eq (.d (.list (l.map nD))) (pA (.lst []) true) L:=by
 rw[Kt];refine aw _ (Jh _) ?_;cases l with|nil=>exact q|cons x r=>exact q
theorem Ur(q:L (!decide (l=[]))):rB .NotEq (.d (.list (l.map nD))) (pA (.lst []) true) L:=Vb (L:=λc=>L (!c)) q
theorem lP(e:Evt):(∃t p m w,e=.see t p m w)∨HA e:=by
 cases e with|see t p m w=>exact .inl ⟨t,p,m,w,rfl⟩|tell t a b m w q=>exact .inr ⟨t,a,b,m,w,q,rfl⟩
theorem sQ{e:Evt}(h:HA e):uV e="tell":=by obtain⟨_,_,_,_,_,_,rfl⟩:=h;rfl
theorem Cd{e:Evt}(h:∃t p m w,e=.see t p m w):uV e="see":=by obtain⟨_,_,_,_,rfl⟩:=h;rfl
theorem oq{e:Evt}{m:Bool}{R:T->Prop}(h:∃t p m w,e=.see t p m w):BA (.d (DD e)) n (.d (.int 3)) m R=R (.d (.str (NY e))):=by obtain⟨_,_,_,_,rfl⟩:=h;exact vR
theorem Xe{w:Wd}(x:WOk w){e:Evt}(h:C7 w e)(t:HA e):OkS (OC e).1/\OkS (OC e).2:=by obtain⟨_,_,_,_,_,_,rfl⟩:=t;exact⟨x.nm h.1,x.nm h.2.1⟩
end
section
variable{Ψ:PEv}{Z:PEnds}{d:FD}{q:PT}{o9 o10 o11 o12:Option Sl}
theorem ut(y:FOk d)(k:pF Ψ q Z (MH d o9 o10 none none)):pF Ψ (.seq (.ife (.bi .any %[.comp [false,false,false,false,false,false,false,false,false,false,false,false,true] ["_law_pair"] (.nm 0) .val %[.xz 3|1] .nop (.cmp .NotIn (.xz 0) (.xz 8))|1]) %[.ret (.bl false)|2] .nil) q) Z (MH d o9 o10 none none):=by have l:=y.sl;delta MH;simp_arith[↓Hj];rw[<- lA pr d.sn];refine JB (λp=>T.d (pr p)) (λ_=>T.d (.bool false)) d.sn [] _ (λx z R u=>?_) (by show 0+d.sn.length<=_;omega) ?_;simp_arith[↓zA];refine NV y.h (y.sn x z) ?_;rw[dT (y.f.c1 x z)];exact u;rw[Qh,lA λ_=>PyData.bool false];refine SU ?_;rw[lA pr d.sn];simp_arith[↓zA];exact k
theorem vt(y:FOk d)(k:pF Ψ q Z (MH d (kL (HC d.b.2.2.1 d.s.2.2.1)) o10 none none)):pF Ψ (.seq (.ife (.and (.cmp .Eq (.xz 9) (.lst .nz)) (.bi .any %[.comp [false,false,false,false,false,false,false,false,false,false,false,false,true] ["_law_pair"] (.nm 0) .val %[.idx (.xz 1) (.int 3)|1] .nop (.cmp .NotIn (.xz 0) (.xz 8))|1])) %[.ret (.bl false)|2] .nil) q) Z (MH d (kL (HC d.b.2.2.1 d.s.2.2.1)) o10 none none):=by
 have l:=y.k0;delta MH kL;simp_arith[↓fN];refine⟨by omega,Vb ?_⟩;cases c:decide (HC d.b.2.2.1 d.s.2.2.1=[]) with|false=>exact k|true=>have v:=y.f.c2 (cS (of_decide_eq_true c));simp_arith[↓Hj,↓Pf];rw[<- lA pr d.b.2.2.2];refine JB (λp=>T.d (pr p)) (λ_=>T.d (.bool false)) d.b.2.2.2 [] _ (λx z R u=>?_) (by show 0+d.b.2.2.2.length<=_;omega) ?_;simp_arith[↓zA];refine NV y.h (y.h0 x z) ?_;rw[dT (v x z)];exact u;rw[Qh,lA λ_=>PyData.bool false];refine SU ?_;simp_arith[↓zA];exact k
def uk(d:FD):Option Sl:=bD (.str (NY (nA d.w.es d.s.1)))
theorem oo(a:FOk d)(i:∀p∈d.s.2.2.2,p∉d.b.2.2.2->p.2=NY (nA d.w.es d.s.1))(k:∀o12,Z.nx (MH d o9 o10 (uk d) o12)):pF Ψ TD Z (MH d o9 o10 (uk d) none):=by
 delta MH uk;delta TD;simp_arith[↓zA];rw[<- lA pr d.s.2.2.2];refine kB (λp=>T.d (pr p)) (λr y=>(∀p∈r,p∈d.s.2.2.2)/\∃o12,y=MH d o9 o10 (uk d) o12) ?_ ?_ _ _ ⟨λp h=>h,none,rfl⟩;rintro y ⟨_,o,rfl⟩;exact k (UK o);rintro p r y N g ⟨u,o,rfl⟩;have v:=u p QD;have z:=g (MH d o9 o10 (uk d) (bD (pr p))) ⟨λx f=>u x (QE _ f),_,rfl⟩;delta MH uk;delta vN;simp_arith[↓fN,↓Pf,↓Y0];refine NV a.h0 (a.h p v) ?_;cases c:decide (p∈d.b.2.2.2) with|true=>exact z|false=>have e:=i p v (of_decide_eq_false c);simp_arith[wH,↓Y0];rw[dT e];exact z
theorem zt(u:FOk d)(k:∀o11 o12,pF Ψ q Z (MH d o9 (kL (PJ d.b.2.2.1 d.s.2.2.1 d.s.1)) o11 o12)):pF Ψ (.seq (.ife (.cmp .Eq (.xz 10) (.lst .nz)) (.seq (.set 11 (.idx (.xz 8) (.int 3))) (.seq (.ife (.cmp .Eq (.idx (.xz 8) (.int 0)) (.str "tell")) %[.set 11 (.idx (.xz 8) (.int 4))|2] .nil) TD)) .nil) q) Z (MH d o9 (kL (PJ d.b.2.2.1 d.s.2.2.1 d.s.1)) none none):=by
 have y:=λ(Z:PEnds) h k=>oo (Ψ:=Ψ) (Z:=Z) (o9:=o9) (o10:=kL (PJ d.b.2.2.1 d.s.2.2.1 d.s.1)) u h k;delta MH kL;simp_arith[↓zA];refine⟨by omega,Vb ?_⟩;cases c:decide (PJ d.b.2.2.1 d.s.2.2.1 d.s.1=[]) with|false=>exact k _ _|true=>have h:=u.f.c3 (da (of_decide_eq_true c));rcases lP (nA d.w.es d.s.1) with z|x;simp_arith[↓yI,Cd z,↓oq z];refine y _ h λo12=>?_;exact k _ _;simp_arith[↓yI,sQ x,↓AZ x,↓bc x];refine y _ h λo12=>?_;exact k _ _
theorem jt(x:FOk d)(u:HA (nA d.w.es d.s.1))(k:pF Ψ q Z (MH d (kL (HC d.b.2.2.1 d.s.2.2.1)) o10 o11 o12)):pF Ψ (.seq (.ife (.and (.not (.xz 5)) (.or (.cmp .In (.xz 4) (.xz 6)) (.and (.cmp .Eq (.xz 9) (.lst .nz)) (.cmp .NotEq (.xz 7) (.idx (.xz 1) (.int 3)))))) %[.ret (.bl false)|2] .nil) q) Z (MH d (kL (HC d.b.2.2.1 d.s.2.2.1)) o10 o11 o12):=by
 delta MH kL;simp_arith[↓fN,↓GX,↓c7];cases c:d.s.2.1 with
 |true=>unfold MH at k;rw[c]at k;exact k|false =>
  obtain⟨z,y⟩:=x.f.c5 u c;unfold MH at k;rw[c]at k;simp_arith[wH,↓oe,↓fN];rw[dF z];simp_arith[↓fN];refine⟨by omega,Vb ?_⟩;cases a:decide (HC d.b.2.2.1 d.s.2.2.1=[]) with|false=>exact k|true=>have e:=y (cS (of_decide_eq_true a));simp_arith[↓Pf];rw[<- e];have ok:kE (.list (d.s.2.2.2.map pr)):=n5 (n:=2) (Ph (Cn λp v=>Xn (x.h p v))) (by decide);refine⟨ok,ok,?_⟩;rw[PySem.SeqAt.eqv_refl _ ok.1];exact k
theorem yt(h:FOk d)(z:HA (nA d.w.es d.s.1))(k:pF Ψ q Z (MH d (kL (HC d.b.2.2.1 d.s.2.2.1)) (kL (PJ d.b.2.2.1 d.s.2.2.1 d.s.1)) o11 o12)):pF Ψ (.seq (.ife (.or (.cmp .NotEq (.xz 10) (.lst .nz)) (.bi .any %[.comp [] ["_law_one"] (.nm 0) .val %[.xz 9|1] .nop (.cmp .NotEq (.slc (.idx (.idx (.xz 1) (.int 3)) (.xz 0)) (.int 2) (.int 4)) (.slc (.xz 9) (.int 2) (.int 4)))|1])) %[.ret (.bl false)|2] .nil) q) Z (MH d (kL (HC d.b.2.2.1 d.s.2.2.1)) (kL (PJ d.b.2.2.1 d.s.2.2.1 d.s.1)) o11 o12):=by have m:=h.l0;have l:(HC d.b.2.2.1 d.s.2.2.1).length<=d.b.2.2.1.length:=Q1 _ _;obtain⟨j,i⟩:=h.f.c4 z;have ev:=h.w.ev h.n;delta MH kL;simp_arith[↓c7];refine⟨by omega,Ur ?_⟩;rw[dT (Lh j)];simp_arith[↓Hj,wZ];rw[<- lA nD (HC d.b.2.2.1 d.s.2.2.1)];refine JB (λn=>T.d (nD n)) (λ_=>T.d (.bool false)) (HC d.b.2.2.1 d.s.2.2.1) [] _ (λx e R g=>?_) (by show 0+(HC d.b.2.2.1 d.s.2.2.1).length<=_;omega) ?_;obtain⟨a,y⟩:=QO.mp e;have y:x∉d.s.2.2.1:=of_decide_eq_false (by rw[Qy]at y;exact y);obtain⟨v,u⟩:=h.t0 x a;simp_arith[↓fP,↓mL v,↓JN,↓Ms,↓zm u,↓zm z,↓fj (Xe h.w (h.w.ev v) u) (Xe h.w ev z)];rw[dT (i x a y)];exact g;rw[Qh,lA λ_=>PyData.bool false];refine SU ?_;simp_arith[↓zA];exact k
theorem fo(x:FOk d)(k:Z.rt (.d (.bool true)) (MH d (kL (HC d.b.2.2.1 d.s.2.2.1)) (kL (PJ d.b.2.2.1 d.s.2.2.1 d.s.1)) o11 o12)):pF Ψ SD Z (MH d (kL (HC d.b.2.2.1 d.s.2.2.1)) (kL (PJ d.b.2.2.1 d.s.2.2.1 d.s.1)) o11 o12):=by have u:=λ(Z:PEnds) q=>yt (Ψ:=Ψ) (Z:=Z) (q:=q) (o11:=o11) (o12:=o12) x;have z:=λ(Z:PEnds) q=>jt (Ψ:=Ψ) (Z:=Z) (q:=q) (o10:=kL (PJ d.b.2.2.1 d.s.2.2.1 d.s.1)) (o11:=o11) (o12:=o12) x;delta MH kL;rcases lP (nA d.w.es d.s.1) with y|h;delta SD aG;simp_arith[↓yI,Cd y];exact k;unfold SD;refine Eq.mpr t7 ?_;delta aG;simp_arith[↓yI,sQ h,↓G7,↓F7,↓D7];refine u _ _ h (z _ _ h ?_);show pF Ψ %[.ret (.bl true)|2] Z _;delta MH kL;simp_arith[↓zA];exact k
def EE:PSp where
 md:=[.xx,.xx,.xx,.xy]
 run:=λx Q _=>∃d:FD,x=[.d (wD d.w),.d (iJ d.b),.d (iJ d.s),.lst ((d.sn.map pr).map T.d)]/\FOk d/\Q (.d (.bool true)) []
 mono:=λh _ z=>by obtain⟨d,z,a,q⟩:=z;exact⟨d,z,a,h _ _ q⟩
theorem C2{K:T->LT->Prop}{E:XE}(h:FOk d)(q:K (.d (.bool true)) []):UB EE [.d (wD d.w),.d (iJ d.b),.d (iJ d.s),.lst ((d.sn.map pr).map T.d)] K E:=⟨d,rfl,h,q⟩
theorem T9{Ψ:PEv}(ds Q E)(h:EE.run ds Q E):nH Ψ xN EE GT aO ds Q:=by obtain⟨d,rfl,x,q⟩:=h;refine gA [bD (wD d.w),bD (iJ d.b),bD (iJ d.s),some (.ky (.lst ((d.sn.map pr).map T.d))),none,none,none,none,none,none,none,none,none] rfl rfl rfl ?_;unfold xN;exact ft x (bt x (ut x (vt x (zt x λo11 o12=>fo x q))))
end
def jq(w:Wd):Gs->LN->List Stp
 |_,[]=>[]|g,n::r=>(n,R7 w g n,yV w g n,Ld w g n)::jq w (iC w g n) r
theorem sR(w:Wd):∀(ns:LN) (g:Gs),(ns.foldl (iC w) g).steps=g.steps++jq w g ns
 |[],g=>(qB _).symm|n::r,g=>by show(r.foldl (iC w) (iC w g n)).steps=_;rw[sR w r];show(g.steps++[_])++_=g.steps++(_::_);rw[Qv];rfl
def g0:Gs:=⟨[],[],[],[]⟩
theorem yb(w:Wd)(ns:LN):(CS w ns).steps=jq w g0 ns:=sR w ns g0
theorem tw(w:Wd):GsOk w g0:=⟨λ_ z=>(by cases z),QZ _,λ_ z=>(by cases z),λ_ z=>(by cases z),rfl⟩
structure LI(w:Wd)(ns:LN)(g:Gs)(r:LN)(b:Stp)(sn:List Pt):Prop where
 o:GsOk w g
 a:g.past++r=ns
 t:∀x∈g.taken,x∈g.past
 h:g.held=yD w g.past (HZ w g)
 e:b.2.2=(HZ w g,g.held)
 s:∀p∈sn,∃k∈g.past,GE w.es p.1 p.2 k
 l:sn.length<=g.past.length
theorem Al{w:Wd}{z:LN}{y:List Pt}(x:WOk w)(v:∀n∈z,n<w.es.length)(h:∀p∈y,∃k∈z,GE w.es p.1 p.2 k):zO y:=λp u=>by obtain⟨k,hk,_,_,e⟩:=h p u;have ev:=x.ev (v k hk);rw[e]at ev;exact⟨x.nm ev.1,x.mo _ ev.2.1⟩
theorem E5{w:Wd}(y:WOk w)(l x:LN):(yD w l x).length<=1000:=by
 have z:=y.pl;have:∀h:List (Str×Int×Int×Int),(h.flatMap λp=>LZ w l x p.1).length<=10 * h.length:=λh=>by
  induction h with|nil=>exact QZ _|cons p r u=>have:=KQ y l x p.1;rw[w9,QI,QM];omega
 have:=this w.ps;show(w.ps.flatMap λp=>LZ w l x p.1).length<=1000;omega
theorem jV{h:List Evt}{x:LN}{ks:List Pt}:(srt (HF h x ks)).length<=x.length:=by rw[(DL _).length_eq];exact Q1 _ _
def X8(h:List Pt)(e:Evt):List Pt:=if uV e="see" then h++[OC e] else h
section
variable{w:Wd}{ns r:LN}{g:Gs}{b:Stp}{y:List Pt}{n:Nat}
theorem Sr(u:WOk w)(C:ns.length=w.es.length)(A:ns.Nodup/\∀n∈ns,n<w.es.length)(h:LI w ns g (n::r) b y):n<w.es.length/\FOk ⟨w,b,(n,R7 w g n,yV w g n,Ld w g n),X8 y (nA w.es n)⟩/\LI w ns (iC w g n) r (n,R7 w g n,yV w g n,Ld w g n) (X8 y (nA w.es n)):=by
 have j:=h.a;have i:n<w.es.length:=A.2 n (j▸QW _ QD);have B:n∉g.past:=λz=>by have:=A.1;rw[<- j]at this;exact(qV.mp this).2.2 n z n QD rfl
 have Y:=uL u h.o i;have M:=u.el;have J:g.past.length<60:=by have:=congrArg qt j;rw[QI,QM,C]at this;omega
 have f:(∀p∈X8 y (nA w.es n),∃k∈g.past++[n],GE w.es p.1 p.2 k)/\(X8 y (nA w.es n)).length<=g.past.length+1:=by
  have l:=h.l;have a:∀p∈y,∃k∈g.past++[n],GE w.es p.1 p.2 k:=λp v=>by obtain⟨k,hk,z⟩:=h.s p v;exact⟨k,Qe _ hk,z⟩
  unfold X8;split;rename_i c;refine⟨λp v=>?_,by rw[QI];show y.length+1<=_;omega⟩;rcases Qf.mp v with v|v;exact a p v;rw[QJ.mp v];refine⟨n,QW _ QD,?_⟩;cases e:nA w.es n with|see t p m K=>exact⟨t,K,e⟩|tell t a b m K q=>rw[e]at c;exact absurd (show("tell":Str)="see" from c) (by decide)
  exact⟨a,by omega⟩
 have L:=Y.tl;have G:(iC w g n).past.length=g.past.length+1:=QI;have I:=h.o.tl;have W:b.2.2.1=HZ w g:=congrArg qj h.e;have Z:b.2.2.2=g.held:=congrArg QCN h.e;have F:(HZ w g).length<=g.taken.length:=jV;have E:(yV w g n).length<=(iC w g n).taken.length:=jV;refine⟨i,⟨u,i,?_,fX u _ _,Al u Y.p f.1,?_,?_,?_,E5 u _ _,?_,?_,?_⟩,⟨Y,?_,?_,rfl,rfl,f.1,?_⟩⟩;show zO b.2.2.2;rw[Z];exact h.o.h;show b.2.2.1.length<=100;rw[W];omega;show(yV w g n).length<=100;omega;show b.2.2.2.length<=1000;rw[Z,h.h];exact E5 u _ _;exact QX f.2 (by omega);show ∀x∈b.2.2.1,_;rw[W];exact λx X=>h.o.t x (TJ.mp X).1;show Fair w b.2.2.1 b.2.2.2 n _ _ _ _;rw[W,Z];exact gZ u h.o i B h.t h.h f.1;show(g.past++[n])++r=ns;rw[<- j,Qv];rfl;intro x X;rcases A0 X with z|z;exact Qe _ (h.t x z);exact z▸QW _ QD;rw[G];exact f.2
end
section
variable{Ψ:PEv}{Z:PEnds}{is:LJ}{o5:Option Sl}
theorem P4(is:LJ):∀p∈(aL is 6).ps,1<=p.2.2.2:=λp h=>by obtain⟨x,_,rfl⟩:=QT.mp (show p∈XN (bB 24 is) (yd (bB 24 is) 6) from h);have a:=JA (cs:=bB 24 is) (k:=940+(x.2:Int)) (m:=6) (by decide);have:=(CC (l:=[(1:Int),1,1,2,2,3]) (d:=0) a.1 a.2).2;show 1<=gI [(1:Int),1,1,2,2,3] (uA (bB 24 is) (940+(x.2:Int)) 6) 0;generalize gI [(1:Int),1,1,2,2,3] (uA (bB 24 is) (940+(x.2:Int)) 6) 0=v at *;simp only[QL,wm,or_false]at this;omega
def lS(is:LJ)(w:Wd)(b:Stp)(h:List Pt)(o4 o5:Option Sl):kA:=[some (.ky (.lst ((is.map PyData.int).map T.d))),bD (wD w),bD (iJ b),oW (.lst ((h.map pr).map T.d)),o4,o5]
def b0:Stp:=(0,true,[],[])
theorem Pr(x:Ψ.sp "_law_fair"=EE){d:FD}(h:FOk d)(q:Z.nx (lS is d.w d.s d.sn (bD (iJ d.s)) o5)):pF Ψ kN Z (lS is d.w d.b d.sn (bD (iJ d.s)) o5):=by delta lS;delta kN;simp_arith[↓GX,↓cA (md:=[.xx,.xx,.xx,.xy]) x rfl rfl,↓zC,↓k8];refine C2 h ?_;simp_arith[wZ];exact q
theorem Rr(v:Ψ.sp "_law_fair"=EE){w:Wd}{b s:Stp}{h:List Pt}(z:s.1<w.es.length)(hl:h.length<=100)(u:FOk ⟨w,b,s,X8 h (nA w.es s.1)⟩)(q:∀o4 o5,Z.nx (lS is w s (X8 h (nA w.es s.1)) o4 o5)):pF Ψ fL Z (lS is w b h (bD (iJ s)) o5):=by have r:=λ(o5:Option Sl)=>Pr (is:=is) (Z:=Z) (o5:=o5) v u (q _ _);delta lS;rcases lP (nA w.es s.1) with⟨t,p,m,x,e⟩| y;unfold X8 at r;rw[e]at r;delta fL;simp_arith[↓fP,↓Fk,↓mL z,e,↓yI,uV,↓i0,↓vR];have r:=r (bD (DD (.see t p m x)));unfold lS at r;rw[if_pos (show uV (.see t p m x)="see" from rfl),QR,QR]at r;refine⟨by omega,?_⟩;refine⟨by rw[QG,QG];omega,?_⟩;exact r;unfold X8 at r;rw[sQ y,if_neg (by decide)]at r;delta fL;simp_arith[↓fP,↓Fk,↓mL z,↓yI,sQ y];exact r _
theorem Vh(C:Ψ.sp "_law_fair"=EE)(B:Ψ.sp "_law_world"=NF)(A:Ψ.sp "gone"=cI)(ds Q E)(h:DP.run ds Q E):nH Ψ A6 DP tf u3 ds Q:=by
 obtain⟨is,hl,hb,rfl,q⟩:=h;refine gA [some (.ky (.lst ((is.map PyData.int).map T.d))),none,none,none,none,none] rfl rfl rfl ?_;have m:=K0 is (most:=6) (by decide);have W:=P4 is;delta A6;simp_arith[↓cA (md:=[.xy]) B rfl rfl];refine xY (by decide) ?_;generalize aL is 6=w at *;have J:=m.el;simp_arith[↓zA];refine⟨by omega,by omega,by omega,rfl,by omega,?_⟩;show pF Ψ _ (eZ Q) [some (.ky (.lst ((is.map PyData.int).map T.d))),bD (wD w),bD (iJ b0),none,none,none];simp_arith[↓Up,↓cA (md:=[]) A rfl rfl];refine⟨by omega,V2 m λi y=>?_⟩;have X:=D4 y;have p:=jd y;have nd:i.Nodup:=y.1.nodup_iff.mpr QCB;have G:b0.2.2=(HZ w g0,g0.held):=by rw[show HZ w g0=[] from QAg.mp (Nat.le_zero.mp jV)];rfl
 simp_arith[↓zA];rw[yb,<- lA iJ];refine kB (λs=>T.d (iJ s)) (λr f=>∃g x b v u o5,r=jq w g x/\LI w i g x b v/\f=lS is w b v u o5) ?_ ?_ _ _ ⟨g0,i,b0,[],none,none,rfl,⟨tw w,rfl,λ_ z=>(by cases z),(bZ W _).symm,G,λ_ z=>(by cases z),QZ _⟩,rfl⟩;rintro f ⟨g,x,b,v,u,o5,e,k,rfl⟩;delta lS;simp_arith[↓zA];exact q;rintro s r f N K ⟨g,x,b,v,u,o5,e,k,rfl⟩;cases x with|nil=>cases e|cons n x=>injection e with e1 e2;subst e1;obtain⟨Y,F,j⟩:=Sr m X ⟨nd,p⟩ k;have o:=congrArg qt k.a;rw[QI,QM]at o;have I:=k.l;exact Rr (s:=(n,R7 w g n,yV w g n,Ld w g n)) C Y (by omega) F λu o5=>K _ ⟨iC w g n,x,_,_,u,o5,e2,j,rfl⟩
end
end L2.L3.K37
namespace L2.L3
open PySem PySem.Spec PyProof.Rows L2.L3.Q
section
variable{K:QA}{x:Str}{st:Stmt}
theorem sV{h:Heap}:∀(y:List Addr),(cq y h).In h
 |[],a,o,e=>nomatch e
 |b::y,a,o,e=>by
  unfold cq at e;rw[WG]at e;cases c:h.get? b with
  |none=>rw[c]at e;exact sV y a o e|some z =>
   rw[c]at e;have e:QCD a ((b,z)::cq y h)=some o:=e;rw[wj]at e;cases d:a==b with|true=>rw[d]at e;cases e;rw[beq_iff_eq.mp d];exact c|false=>rw[d]at e;exact sV y a o e
theorem Fi{q:Str}{f:Addr}{y:FuncData}{w:Value}{v:Option Addr}{z:Array (Option Value)}(hl:K.lookup f=some ⟨w,v,.func y,z⟩)(h:Jk y (Wb K y.code q&&wI K (.ref f))=Jk (ql x q (uD st) (mC st) (NA st) .none .none .none .none none .none .none) true):∃y,Fun K x q st f y:=by obtain⟨Y,X,s,r,p,o,n,m,l,j,i,g,e,b,a⟩:=y;unfold Jk at h;injection h with h1 h2;injection h2 with h2 h3;injection h1 with b1 h1;injection h1 with b2 h1;injection h1 with b3 h1;injection h1 with b4 b5;injection h2 with c1 h2;injection h2 with c2 h2;injection h2 with c3 c4;obtain⟨u,k⟩:=Wq.mp h3;simp only at b1 b2 b3 b4 b5 c1 c2 c3 c4 u;subst b1 b2 b3 b4 b5 c1 c2 c3 c4;exact⟨_,Gi hl u k⟩
theorem O1(h:tV K x=HS x st)(y:(HS x st).isSome=true):NX K x st:=by
 have z:HS x st=some (Jk (ql x x (uD st) (mC st) (NA st) .none .none .none .none none .none .none) true):=by cases st<;>first|rfl|cases y
 rw[z]at h;unfold tV at h;split at h;rename_i f hf;split at h;rename_i hl;obtain⟨u,F⟩:=Fi hl (Qo h);exact⟨f,u,hf,F⟩;cases h;cases h
theorem C8(h:DU K x=true):qk K mainGlobals x=some none:=by unfold DU at h;split at h;assumption;cases h
theorem N1{i:Int}(h:kg K x=some i):dN K x (.int i):=by
 unfold kg at h;split at h;rename_i u hu;cases u with|int j t=>cases h;exact⟨_,_,hu,rfl,λ_=>.int i⟩|_=>cases h
 cases h
theorem oR:∀{us:LW}{xs:LS},us.map Ll=xs.map some->us.map cN=xs.map λy=>some (.str y)
 |[],[],_=>rfl|[],_::_,h=>by cases h|_::_,[],h=>by cases h|u::us,x::xs,h=>by
  injection h with h1 h2;rw[QV,QV,oR h2];cases u with|str z t=>cases h1;rfl|_=>cases h1
theorem kY{xs:LS}(h:xg K x=some (xs.map some))(y:xs.length<=sizeLine):dN K x (.tuple (xs.map PyData.str)):=by unfold xg at h;split at h;rename_i f hf;split at h;rename_i t od its n osl hl;split at h;rename_i et;subst et;injection h with h;exact G0 (its:=its.toList) hf (by simpa using hl) (oR h) y;cases h;cases h;cases h
theorem go_of(e:seen K=due):fG K tA=true:=(W7 (W7 (W7 (W7 e).2).2).2).2
end
section
variable{K:QA}{h:Heap}{mg:Str->Option Value}{T:Addr}
theorem DS(e:fG K T=true)(X:K.In h)(G:h.Ns mainGlobals mg):(∃f k w v z c,mg "going_order"=some (.ref f)/\K.lookup f=some ⟨k,w,.func v,z⟩/\v.code=.ref c/\QAi K c T=true)/\(∀y:Heap,K.In y->y.BuiltinsAt mg T)/\K.lookup T=none/\mainGlobals≠T:=by
 obtain⟨u,e⟩:=yA e;obtain⟨x,e⟩:=yA e;obtain⟨g,a⟩:=yA e;refine⟨?_,?_,QAR.mp g,bne_iff_ne.mp a⟩;split at u
 ·rename_i f hf
  split at u;rename_i k w v z hl;split at u;rename_i c hc;exact⟨f,k,w,v,z,c,WR X G hf,hl,hc,u⟩;cases u;cases u
 cases u;intro y Y;split at x;rename_i b hb;split at x;rename_i t d z hl;obtain⟨n,x⟩:=yA x;obtain⟨m,x⟩:=yA x;obtain⟨l,x⟩:=yA x;obtain⟨j,i⟩:=yA x;exact⟨b,_,WR X G hb,bne_iff_ne.mp l,bne_iff_ne.mp j,bne_iff_ne.mp i,Y _ _ hl,by rw[beq_iff_eq.mp n],by rw[beq_iff_eq.mp m],rfl⟩;cases x;cases x
theorem Ci(e:fG K T=true)(X:K.In h)(G:h.Ns mainGlobals mg):∃v c,(∀x:Heap,K.In x->∀P q,vP mg x P q->P=T/\q=v)/\QAi K c T=true/\K.lookup T=none:=by obtain⟨⟨f,I,F,C,w,c,p,n,m,y⟩,_,l,_⟩:=DS e X G;refine⟨C.qualname++".<locals>.<lambda>",c,λx Y P q t=>?_,y,l⟩;obtain⟨M,o,B,N,A,W,Z,s,⟨L,E,_,_,_,_,_,_,_,j,_,i,g,_⟩,r⟩:=t;cases p.symm.trans A;have z:=W.symm.trans (Y _ _ n);cases z;cases Z;cases m.symm.trans s;obtain⟨J,u,_,_,_,_,_,_,_,b,_,a,k,_⟩:=W8 Y y;cases j.symm.trans b;cases i.symm.trans a;cases g.symm.trans k;exact⟨rfl,r⟩
end
theorem walk_seen{l:PySem.W.OpenLaw}{k:Nat}{q:Program}{loose:LS}{XP:(Str->Option Value)->Heap->Prop}{YP:World->Heap->Prop}{d:DefRec}{x:Str}{Fs:QA->Prop}{T:Addr}
  (hn:l.most=some 63) (C:d.params.defaults=[]) (S:Room k callerA) (hY:∀(w:World) (h:Heap),YP w h->∃K:QA,K.In h/\Fs K/\h.get? T=some (QBG #[])) (B:∀K,Fs K->fG K T=true)
  (F:∀(w:World) (mg:Str->Option Value) (p:Addr) (h:Heap) (K:QA),K.In h->Fs K->fG K T=true->h.Ns mainGlobals mg->mg d.name=some (.ref p) ->
   ∃E:FuncData,(∀(s:Shared) (u:Value),BindsTo s E ⟨[u],[]⟩ [(x,u)]) /\
    ∀y:Heap,K.In y->y.Ns mainGlobals mg->FnOk l.prog w K mg y RZ k p E [x] (lift K DP)) :
  PySem.W.WalkO q loose XP YP l.row.toRowW d [] (λf vs=>PySem.call f vs):=by
 intro w L J mg mb G Y p o pm cd doc dV kV ho hd hcd M A hg args I as j n R Z hlo;obtain rfl:dV=.none:=PySem.W.Dflts.none M C;obtain rfl:kV=.none:=PySem.W.Dflts.noKw M;obtain⟨a,vs,P,rfl,rfl,m,i,v⟩:=Att.script_of hn j Z;obtain⟨K,X,fs,Q⟩:=hY w _ Y;have N:=B K fs;obtain⟨tq,c,g1,g2,g3⟩:=Ci N X G.T.g;obtain⟨E,hb,hF⟩:=F w mg p _ K X fs N G.T.g A;refine PySem.W.enter_call (QBz (Y5 g1 ((W8 X g2).tab Q) g3 X G.T.g G.T.b G.T.builtins G.T.nolimit hg m i (QX v (by decide)) S hF hb (λH hO hS=>Ih _ H a P v (Tb n) hS) λH e O=>λz=>z) λr O hq=>?_);obtain⟨rfl,h2,h3,h4⟩:=hq;exact⟨.inl ⟨.bool true,.bool true,[],rfl,λ_=>rfl,.bool true,Att.post_true l _,λ_=>⟨List.Pairwise.nil,λ_ hm=>(nomatch hm)⟩⟩,h2,h3,h4⟩
end L2.L3
namespace L2.L3.K37
open PySem PySem.Spec PyProof.Rows L2 L2.L3 L2.L3.Q
def yu:Nat->(LW->Prop)->Prop
 |0,p=>p []|n+1,p=>∀u,yu n λh=>p (u::h)
theorem Uu:∀{n:Nat}{p:LW->Prop},yu n p->∀us:LW,us.length=n->p us
 |0,_,h,us,e=>by rw[QAg.mp e];exact h|_+1,_,_,[],e=>nomatch e
 |_+1,_,h,u::us,e=>Uu (h u) us (Nat.succ.inj e)
def Zw(x q:Str)(st:Stmt)(u:LS):Prop:=∀(kV h v:Value) (k:Option Addr) (y w:Value),yu u.length λz=>bindArgs (ql x q (uD st) (mC st) (NA st) .none kV h v k y w) ⟨z,[]⟩=pure (u.zip z)
def Aj:List (Str×D):=tT.map (λp=>(p.1,.tuple (p.2.map PyData.str)))++sT.map λp=>(p.1,.int p.2)
structure Cx(K:QA)(h:Heap)(mg:Str->Option Value):Prop where
 X:K.In h
 G:h.Ns mainGlobals mg
 V:∀p∈Aj,dN K p.1 p.2
 N:∀y∈nT,qk K mainGlobals y=some none
 D:∀p∈fT,NX K p.1 (top p.2)
theorem YE{α:Type}{d:α}:∀{l:List α}{i:Nat},QCO i l.length=true->l.getD i d∈l
 |[],_,h=>nomatch h
 |_::_,0,_=>.head _|_::_,_+1,h=>.tail _ (YE (Nat.blt_eq.mpr (wn (Nat.blt_eq.mp h))))
theorem Xd{α:Type}{l:List (Str×α)}{p:Str×α}(nd:(l.map qj).Nodup)(h:p∈l):l.lookup p.1=some p.2:=by
 induction l with|nil=>cases h|cons a l y=>obtain⟨x,s⟩:=a;rw[QV,Qi]at nd;rw[wj];rcases QL.mp h with rfl|h;rw[beq_self_eq_true];have v:p.1∈l.map qj:=QBM h;have u:(p.1==x)=false:=beq_eq_false_iff_ne.mpr λz=>nd.1 (by rw[<- z];exact v);rw[u];exact y nd.2 h
def vd:LS:=fT.map qj
def fx(i:Nat):Str×Nat:=fT.getD i ("",0)
def tbl(r:List PSp):PEv:=Kc (vd.zip r) Aj
theorem mR{r:List PSp}(i:Nat)(h:QCO i Aj.length=true:=by rfl):(tbl r).va (Aj.getD i ("",.none)).1=some (Aj.getD i ("",.none)).2:=Xd (aE (by kernel_rfl)) (YE h)
theorem Tl{r:List PSp}(nd:NJ ((vd.zip r).map qj)=true)(i:Nat)(h:QCO i (vd.zip r).length=true):(tbl r).sp ((vd.zip r).getD i ("",zk)).1=((vd.zip r).getD i ("",zk)).2:=by show(QCD _ _).getD zk=_;rw[Xd (aE nd) (YE h)];rfl
def nB(n:Need)(fs:LS):Bool:=n.fn.all (λx=>fs.contains x)&&((n.va.all λx=>(Aj.map qj).contains x)&&n.no.all (λx=>nT.contains x))
section
variable{P:Program}{w:World}{K:QA}{h base:Heap}{mg:Str->Option Value}{r v:List PSp}{R:PSp}{u:LS}{k:Nat}{b:PT}{n:Need}{N z:LS}
theorem hv(C:Cx K h mg)(A:∀g∈u,UG P w K mg base (tbl r) k g)(i:Nat)(yC:YB n b N z (top (fx i).2)=true)
  (body:∀ts Q E,R.run ts Q E->ts.length=z.length/\dB (tbl r) (λ_=>False) b (iD R z.length Q) (mB N R.md ts)) (o:(tbl v).sp (fx i).1=R) (hc:OJ (VB 0 R.md z.length) b=true:=by kernel_rfl)
  (hb:Zw (fx i).1 (fx i).1 (top (fx i).2) z:=by(repeat intro _);rfl)
  (x:nB n u=true:=by kernel_rfl) (l:QCO i fT.length=true:=by rfl):UG P w K mg base (tbl v) (k+1) (fx i).1:=by
 obtain⟨s,x⟩:=yA x;obtain⟨q,p⟩:=yA x;exact k6 C.X C.G (C.D _ (YE l)) yC hc (λa b c d e f=>Uu (hb a b c d e f)) (λg m=>A g (mP s g m)) (uW C.X C.G C.V q) (λy j=>C.N y (mP p y j)) body o
theorem hc(A:∀g∈u,UG P w K mg base (tbl r) k g){x:Str}(Z:UG P w K mg base (tbl r) (k+1) x):∀g∈x::u,UG P w K mg base (tbl r) (k+1) g:=by intro g y;rcases QL.mp y with rfl|y;exact Z;exact(A g y).mono (wc _)
theorem hl(C:Cx K h mg)(A:∀g∈u,UG P w K mg base (tbl r) k g){x q:Str}{st:Stmt}{f:Addr}{e:FuncData}(F:Fun K x q st f e)(yC:YB n b N z st=true)
  (body:∀ts Q E,R.run ts Q E->ts.length=z.length/\dB (tbl r) (λ_=>False) b (iD R z.length Q) (mB N R.md ts)) (hc:OJ (VB 0 R.md z.length) b=true:=by kernel_rfl) (a:nB n u=true:=by kernel_rfl):FnOk P w K mg base RZ (k+1) f e z (lift K R):=by
 obtain⟨o,a⟩:=yA a;obtain⟨m,l⟩:=yA a;exact c6 F yC hc (λg j=>A g (mP o g j)) (uW C.X C.G C.V m) (λy i=>QAF C.X C.G (C.N y (mP l y i))) body
theorem cx_of(X:K.In h)(G:h.Ns mainGlobals mg)(e:seen K=due)(o:(fT.all λp=>(HS p.1 (top p.2)).isSome)=true)(m:(tT.all λp=>decide (p.2.length<=1000))=true):Cx K h mg:=by injection e with j e;injection e with i e;injection e with g e;injection e with f _;have j:=Wa.mp j;have i:=Wa.mp i;have g:=Wa.mp g;have f:=Wa.mp f;refine⟨X,G,λp x=>?_,λy l=>C8 (f y l),λp x=>O1 (j p x) (Qq.mp o p x)⟩;rcases Qf.mp x with x|x;obtain⟨q,a,rfl⟩:=QT.mp x;have:=of_decide_eq_true (Qq.mp m q a);exact kY (i q a) (by omega);obtain⟨q,a,rfl⟩:=QT.mp x;exact N1 (g q a)
end
section
variable{P:Program}{w:World}{h:Heap}{mg:Str->Option Value}
def Ej:List PSp:=[mE,vC,OF,FL,YH,NF,Bm,KJ,bI,PF,dO,DG,oD,AE,ZJ,JJ,HD,IE,lE,pD,YJ,gD,nE,dI,RF,SE,SF,GL,FG,UC,cI,EE,DP]
theorem eA(i:Nat)(h:QCO i (vd.zip Ej).length=true:=by rfl):(tbl Ej).sp ((vd.zip Ej).getD i ("",zk)).1=((vd.zip Ej).getD i ("",zk)).2:=Tl (by kernel_rfl) i h
theorem sw{K:QA}{x:Heap}{k:Nat}(C:Cx K h mg)(q:fG K tA=true)(v:K.In x)(m:x.Ns mainGlobals mg):UG P w K mg x (tbl Ej) (k+1) "going_order":=by obtain⟨f,M,p,⟨⟨J,I,kV,B,F,R,b,Q,i,rfl,lk,a⟩,n⟩⟩:=C.D (fx 6) (YE rfl);obtain⟨⟨O,l,j,A,e,c,g,W,Z,Y⟩,s,L,r⟩:=DS q C.X C.G;cases(WR C.X C.G p).symm.trans g;cases lk.symm.trans W;cases(show b=.ref c from Z);have z:=λy (o:nT.contains y=true)=>QAF C.X C.G (C.N y (Qu.mp o));exact Ia v m g lk a n (W8 v Y) (s x v) r (z _ (by kernel_rfl)) (z _ (by kernel_rfl)) (z _ (by kernel_rfl)) (λE hl=>by obtain⟨u,rfl⟩:=QAr.mp hl;rfl) (eA 6)
theorem all{K:QA}{v:Addr}(C:Cx K h mg)(b:fG K tA=true)(y:mg "law"=some (.ref v)) :
  ∃z:FuncData,(∀(s:Shared) (u:Value),BindsTo s z ⟨[u],[]⟩ [("_law_script",u)])/\∀x:Heap,K.In x->x.Ns mainGlobals mg->FnOk P w K mg x RZ 33 v z ["_law_script"] (lift K DP):=by
 refine ji C.X C.G (C.D (fx 32) (YE rfl)) rfl y (eA 32) (λ_ _ _ _ _ _ e hl=>by obtain⟨u,rfl⟩:=QAr.mp hl;rfl) λx a k f z F _=>?_;have A:∀g∈([]:LS),UG P w K mg x (tbl Ej) 0 g:=nofun;have A:=hc A (hv C A 0 gT ZY (eA 0));have A:=hc A (hv C A 1 tZ A9 (eA 1));have A:=hc A (hv C A 2 DV (Y4 (eA 1)) (eA 2));have A:=hc A (hv C A 3 cT (eh (eA 1)) (eA 3));have A:=hc A (hv C A 4 FV (Xh (eA 1)) (eA 4));have A:=hc A (hv C A 5 CV (i4 (eA 1) (eA 4) (eA 0) (eA 2) (eA 3)) (eA 5));have A:=hc A (sw C b a k);have A:=hc A (hv C A 7 EM Bh (eA 7));have A:=hc A (hv C A 8 BV M9 (eA 8));have A:=hc A (hv C A 9 mT Z4 (eA 9));have A:=hc A (hv C A 10 lT (Nm (eA 8) (eA 9) (eA 7)) (eA 10));have A:=hc A (hv C A 11 PN L9 (eA 11));have A:=hc A (hv C A 12 TM (t4 (eA 11) (eA 7)) (eA 12));have A:=hc A (hv C A 13 RN N9 (eA 13));have A:=hc A (hv C A 14 oT Uh (eA 14));have A:=hc A (hv C A 15 xT ph (eA 15));have A:=hc A (hv C A 16 GV E9 (eA 16));have A:=hc A (hv C A 17 pT (ja (eA 16)) (eA 17));have A:=hc A (hv C A 18 uT (YY (eA 17) (eA 16) (mR 0) (mR 1)) (eA 18));have A:=hc A (hv C A 19 II (J4 (mR 0)) (eA 19));have A:=hc A (hv C A 20 MQ (Kh (mR 0)) (eA 20));have A:=hc A (hv C A 21 AM KY (eA 21));have A:=hc A (hv C A 22 EN (K4 (eA 21)) (eA 22));have A:=hc A (hv C A 23 AN S9 (eA 23));have A:=hc A (hv C A 24 AK (V4 (eA 18) (eA 19) (eA 20) (eA 22) (eA 23) (mR 0)) (eA 24));have A:=hc A (hv C A 25 RK (G9 (eA 24)) (eA 25));have A:=hc A (hv C A 26 SK (X4 (eA 25)) (eA 26));have A:=hc A (hv C A 27 bT Yh (eA 27));have A:=hc A (hv C A 28 SN (O9 (eA 26) (eA 27)) (eA 28));have A:=hc A (hv C A 29 TN (P9 (eA 11) (eA 15) (eA 14) (eA 28)) (eA 29));have A:=hc A (hv C A 30 Mb (R9 (eA 6) (eA 10) (eA 12) (eA 13) (eA 29)) (eA 30));have A:=hc A (hv C A 31 sZ T9 (eA 31));exact hl C A F jj (Vh (eA 31) (eA 5) (eA 30))
def hk:PySem.W.Hook:=⟨HX×Option Obj,ob,λ_=>(due,some (QBG #[])),λ_ h=>∃K:QA,K.In h/\seen K=due/\h.get? tA=some (QBG #[]),λ_ _ e=>⟨_,sV _,(W7 e).1,(W7 e).2⟩,λ_ _ _ ⟨K,X,e,t⟩ k=>⟨K,X.keeps k,e,k _ _ t⟩⟩
end
end L2.L3.K37
open PySem PySem.W PyProof.Rows
set_option maxRecDepth 100000 in
set_option maxHeartbeats 0 in
theorem PySem.Challenge.cw_quoteweave_k37_whole_what_falls_holds : PySem.Challenge.rw_quoteweave_k37_whole_what_falls.Holds := by
 refine holds_law L2.L3.Q.ws λy=>?_;refine holds_open (q:=L2.L3.Q.qv) (loose:=[]) (Xt:=L2.L3.Q.xt) (XP:=XL L2.L3.Q.qv []) (Yf:=Hook.obs L2.L3.K37.hk) (Ya:=Hook.val L2.L3.K37.hk) (YP:=Hook.says L2.L3.K37.hk) (N:=2210) L2.L3.Q.lf (Hook.of L2.L3.K37.hk) (Hook.keeps L2.L3.K37.hk) (λs e=>xl_of s (Wq.mp e).1) XL.keeps (by rfl) (by rfl) (by rfl) (λs e=>recFacts_of (Wq.mp e).2) (by rfl) (by first|assumption|decide +kernel) (by decide +kernel) ⟨rfl,rfl,rfl,rfl,rfl,by decide +kernel⟩ ?hw ?hc
 case hw=>w_witness2
 case hc=>exact L2.L3.walk_seen (l:=Q6) (k:=33) (x:="_law_script") (Fs:=λK=>L2.L3.Q.seen K=L2.L3.Q.due) rfl rfl ⟨rfl,by decide,by decide⟩ (λw h Y=>Y) (λK e=>L2.L3.go_of e) λw u v h K X e z G m=>L2.L3.K37.all (L2.L3.K37.cx_of X G e (by kernel_rfl) (by kernel_rfl)) z m
