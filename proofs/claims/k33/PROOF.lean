import PyProof.Rows.All
import Wide.All
import OpenK.AllK
import Wide.FinOn
import Lean
import PyProof.EqAt
import PyProof.EqKinds
import PyProof.TupleCall
import PySem.Challenge.RW_quoteweave_k33_whole_held_is_the_least
noncomputable section
set_option Elab.async false
set_option linter.all false
set_option genInjectivity false
set_option genSizeOf false
set_option maxRecDepth 100000
set_option maxHeartbeats 4000000
open List renaming length_map->QA,mem_cons_of_mem->QC,mem_cons_self->QD,length_append->QH,mem_singleton->QI,map_append->QJ,length_cons->QL,mem_cons->QM,mem_filter->QO,size_toArray->QR,mem_map->QS,mem_append->QT,mem_append_right->QU,map_cons->QV,length_singleton->QY,map_map->Qc,getElem?_map->Qe,mem_append_left->Qf,getElem?_eq_some_iff->Qh,nodup_cons->Qi,nil_append->Qj,length_filter_le->Qk,getElem?_eq_getElem->Qn,range->Qr,nodup_nil->Qs,length_nil->Qt,append_nil->Qu,append_assoc->Qw,all_eq_true->Qy,filter_sublist->Q2,mem_range->Q3,length_range->Q4,isEmpty_iff->Q5,getElem?_eq_none->qC,contains_iff_mem->qE,getElem?_append_left->qF,nodup_append->qH,toArray->qI,getElem?_append_right->qJ,getElem?_set_ne->qS,mem_of_getElem?->qT,length_set->qa,getElem?_set_self->qe,all_cons->qj,length_replicate->qm,ext_getElem?->qz,getElem?_set->wB,find?_cons->wE,map_congr_left->wF,getElem?_concat_length->wG,getElem_mem->wH,mem_flatMap->wI,map_nil->wJ,length->wN,getElem?_cons_succ->wV,getElem?_replicate->wX,length_take->wb,lookup_cons->wc,not_mem_nil->wf,any_cons->wy,set->w4,map_snd_zip->w9,filter_cons->WA,filterMap_cons->WB,eraseIdx_append_of_length_le->WN,map_inj_right->WQ,drop_eq_nil_of_le->WT,length_pos_of_mem->WU,eraseIdxIfInBounds_toArray->WV,flatMap_cons->WX,map_inj_left->WZ,mem_iff_getElem?->Wi,map_fst_zip->Wj,any_eq_true->Wk,getElem?_modify->Wm,forIn_cons->Wt,getElem?_range->Wx,mem_map_of_mem->W4,foldl_cons->W5,zip_cons_cons->QAB,replicate->QAF,drop_eq_getElem_cons->QAL,length_erase_of_mem->QAR,foldl_append->QAS,getElem?_cons_zero->QAT,cons_append->QAa,length_drop->QAf,length_eq_one_iff->QAm,modify_succ_cons->QAn,modify_zero_cons->QAo,of_mem_zip->QAq,map_set->QAv,eq_nil_or_concat->QAx,concat_eq_append->QAy,mem_erase_of_ne->QA5,forIn_nil->QA8,mergeSort_perm->QBI,set_cons_zero->QBK,set_cons_succ->QBL,mem_filterMap->QBT,take_sublist->QBc,mapM_toArray->QBi,pairwise_map->QBl,any_map->QBu,flatMap->QBw,drop_length->QB4,lookup->QB6,Perm->QCD,map_id->QCE,getD->QCJ
open PySem.W renaming Frag->QE,nsIn->qk,fnOf->ql,keepIn->wM,mg_of->WP,codeIn->Wb,WData->Ws,codeHd_of_K->W7,mg_none_of->QAC,methodObj->QAN,codeHdIn->QAb,cellsFrom_some->QAi,tabObj->QBB
open PySem.PyData renaming str->Jx,int->Jy
open PySem.Value renaming none->Jz,ref->jx
open PySem renaming wpAny_bind->QF,wpAny_pure->QN,sizeLine_eq->Q0,wpAny_loadPart'->qG,wpAny_newObj_type->qL,mem_of_lookup->qN,wpAny_call_entry->qO,wpAny_callSpecial?_slot->qb,Spec->qh,wpAny_typeNameOfWhole_itemiter->qp,wpAny_mono->qq,wpAny_typeNameOfWhole_keyiter->qt,wpAny_holding->qy,wpAny_dictEntries->wA,wpAny_setField_rec->wK,wpAny_truthy_bool->wP,wpAny_passesOwn->wQ,wpAny_Call_Name_kw->wj,wpAny_dictEpoch->wu,wpAny_field->WC,wpAny_isOneOf_itemiter->WS,wpAny_notOrdered_dict->Wf,wpAny_attempt->Wr,wpAny_execs_nil->Wu,codeAny_builtin->Ww,wpAny_setField->QAJ,wpAny_fieldsOf->QAK,wpAny_pyIter_list->QAQ,seqIndex_of->QAV,wpAny_Call_method0_late->QAW,wpAny_newList->QAX,wpAny_isInstance->QAd,wpAny_eqBool_int->QAe,wpAny_isOneOf_keyiter->QAu,wpAny_Name->QAz,call_meets->QA0,wpAny_loadName_local->QA1,wpAny_newFunctionEnv->QA2,wpAny_seqItems->QA7,wpAny_newTuple->QA9,wpAny_loadName_free->QBC,wpAny_Tuple_spliced->QBD,evalArgs_none->QBE,wpAny_setItem_pairs->QBF,wpAny_Constant_int->QBR,wpAny_standAt->QBS,wpAny_handled->QBW,wpAny_pyIter_tuple->QBX,plainId_quiet->QBY,wpAny_assign_Name->QBb,slot_list_getitem->QBe,wpAny_rule->QBg,wpAny_pyIter_slot->QBh,wpAny_pyIter_enum->QBk,codeAny_mono->QBp,seqIndex_neg->QBq,wpAny_pyHash_str->QBx,wpAny_execs_cons->QBy,wpAny_of_eq->QB8,wpAny_throw->QB9,storedH_new->QCA,typeIs_str->QCF,Str->QCI
open Bool renaming false_ne_true->QG,and_eq_true->Qg,false_eq_true->Qo,eq_iff_iff->Q7,not_eq_true'->qB,not_false->qZ,true_and->wx,or_eq_true->WL,false_and->Wa,and_eq_true_iff->Wo,not_true->Wp,false_or->QAU,and_false->QA6,and_true->QBM,or_false->QBN,or_true->QBn,true_or->QBo
open PySem.Heap renaming get?_push_of_some->QK,get?_push_size->QZ,lt_size->Qb,SameBut->qW,get?_update_self->wn,ExtBut->Wv,size_push->QAG,get?_update_other->QAj,get?_push_cases->QA4,size_update->QB3,IsList->QB7
open PySem.Str renaming ofString->QW
open Nat renaming le_trans->QX,le_refl->Qa,lt_of_lt_of_le->Ql,ne_of_lt->Qm,zero_le->Q8,lt_irrefl->qw,le_succ->wC,lt_of_succ_lt_succ->wg,ne_of_gt->wk,le_of_eq->wq,min_eq_left->ww,lt_succ_of_lt->wz,lt_of_le_of_lt->WF,zero_add->Wc,succ_le_succ->QAg,le_add_right->QAh,le_of_lt->QAp,lt_or_ge->QAr,sub_self->QBt,sub_zero->QBv,blt->QCH
open False renaming elim->Qd
open PySem.Challenge renaming pw_quoteweave_k33_whole_held_is_the_least->Qp,rw_quoteweave_k33_whole_held_is_the_least->Qz
open Option.some renaming injEq->Qq,inj->Qv
open PySem.PyData renaming eqv->Qx,strOk->qX,canLayAll0->wR,depthAll->wt,canLay0->QAI,depth->QAs,noConfusion->QBV
open Array renaming length_toList->Q1,perm_iff_toList_perm->qR,getElem?_toList->wo,toList_inj->w8,getElem?_eq_some_iff->W9,getElem?_eq_none->QAl,toList_append->QBJ,forIn_toList->QBO
open Option renaming map_some->Q6,map_none->wT,isNone_iff_eq_none->QAM,isSome_map->QAP,getD_none->QBz,getD_some->QB1
open PySem.Heap.SameBut renaming update->Q9
open PySem.Obj renaming mapSeq->qA,data_mapFields->WJ,isFreed_of_fields->QAt,data_mapDictKeys->QA3,cls_mapFields->QBf
open Ne renaming symm->qD
open PySem.Paired renaming length->qK
open Classical renaming byContradiction->qM
open Int renaming toNat_natCast->qP,eq_ofNat_of_zero_le->qQ,emod_lt_of_pos->wL,lt_irrefl->wa,emod_nonneg->wv,le_trans->QAD,le_refl->QAZ,ofNat_le->QAw,natCast_nonneg->QBa,toNat->QCK
open PySem.Builtin.SmallTypes renaming nextOf->qU
open PySem.F renaming slot_dict_itemiterator_next->qV,slot_dict_keyiterator_next->qY,slot_tuple_iterator_next->qd,args_tuple_iterator_next_1->WE,entry_tuple_iterator_next->WI,plainAttrs_list->WM,args_dict_itemiterator_next_1->WW,entry_dict_itemiterator_next->We,args_dict_keyiterator_next_1->Wh,entry_dict_keyiterator_next->Wl,slot_dict_getitem->QAH,plainAttrs_dict->QAY,slot_dict_items_iter->QAk,plain_list_iadd->QBm,entry_list_pop->QB0,slot_dict_iter->QB2,slot_list_pop->QB5
open PyProof.Rows renaming subscriptTail_builtinR->qf,callWith_type1->wm,listUpdate_at->WK,get?_update_seq->Wz,slot_tuple_getitem->QAA,seqEpoch_at->QBG,getItem_tuple->QBU,sortedAll_old->QBZ,Subscript_->QBd,listItems_at->QBr,sortedAll_at->QBs
open LawfulBEq renaming eq_of_beq->qg
open PySem.SeqAt renaming EqAt->qi
open Prod renaming fst->qr,ext->QCG
open Lean.Parser.Tactic renaming tacticSeq->qu
open PySem.Builtin.Dict_items renaming addrOf->wO,ownsTuple->Wq
open List.Pairwise renaming imp_of_mem->wU,map->WY
open PySem.Builtin.Str renaming occurrences->wW
open Iff renaming rfl->wY
open PySem.W.WData renaming weightAll->wZ,weight->Wn
open PySem.Txt renaming slice->we
open PySem.Around renaming under_plainId->w6,in1_units->QAc
open PySem.Builtin.List renaming listTooLong->WD
open PySem.Builtin.Range renaming rangeSize->WG,small->QBH
open PySem.Calls renaming spliced_cons->WH,callWith_builtin->WR,Name_function_global->W8,spliced_nil->QAO
open List.cons renaming injEq->WO
open PySem.Builtin.Dict renaming showsAll->Wg
open PySem.Builtin.Int renaming intBits->W0
open Prod.mk renaming inj->W6
open PySem.Builtin.Tuple renaming tupleHashOf->QAE
open List.Perm renaming refl->QBA
open PySem.SeqAt.EqAt renaming int_str->QBP,str_int->QBQ
open PyProof.Rows.SortSt renaming mk'->QBj
open Array.Perm renaming refl->QCB
open StateT renaming run_pure->QCC
theorem dF{p:Prop}[Decidable p](h:¬p):decide p=false:=_root_.decide_eq_false h
theorem dT{p:Prop}[Decidable p](h:p):decide p=true:=_root_.decide_eq_true h
abbrev TB:=List (PySem.Addr×PySem.Obj)
abbrev YC:=PySem.Value -> PySem.Shared -> Prop
abbrev oB:=PySem.Addr -> Prop
abbrev JB:=List (QCI×QCI)
set_option hygiene false in
local macro_rules | `(tactic| omega)=>do
 let f:=λ(s:String)=>(s.splitOn " ").toArray.map λx=>Lean.mkIdent x.toName
 let a<-(f "L2.szA L2.szB L2.szC L2.unA Nat.le_trans Nat.lt_of_le_of_lt").mapM λx=>`(qu| exact $x (by assumption) (by decide))
 let b<-(f "Nat.lt_of_lt_of_le Nat.lt_of_le_of_lt Nat.le_trans").mapM λx=>`(qu| exact $x (by assumption) (by assumption))
 let c<-(f "Nat.le_of_lt Nat.ne_of_lt Nat.ne_of_gt Nat.lt_succ_of_lt Nat.le_of_lt_succ L2.prA").mapM λx=>`(qu| exact $x (by assumption))
 let d<-(f "Nat.le_refl Nat.le_succ Nat.zero_le Nat.succ_pos").mapM λx=>`(qu| exact $x _)
 `(tactic| first|decide|assumption|exact L2.szL (by decide) $[| $a]* $[| $b]* $[| $c]* $[| $d]*|omega (config:={}) | (have:=PySem.sizeLine_eq;omega (config:={})))
set_option hygiene false in
local macro_rules
 | `(%[ $xs,*|1 ])=>do
  let mut r<-`(PX.nz)
  for x in xs.getElems.reverse do r<-`(PX.ny $x $r)
  return r
 | `(%[ $xs,*|2 ])=>do
  let mut r<-`(PT.nil)
  for x in xs.getElems.reverse do r<-`(PT.seq $x $r)
  return r
def zza:="yA Be Fe V7 De Ge Le Ue K7 Ce Z7 He Xe jf Zp Ze gf zf Kp bf tf Ke sf af Ve uf Y7 Vp xf xU vU G7 rf mf df yf L7 ue J7 be Zf N7 bU cU Me Oo U7 Re Se Po Pe Oe X7 Hv Ov Lv Nv Mv Jp gp Dv Gv Fv Mu Hu Lu Kv Yv Zv Jv vp Tu Rv Pv mX Bn Cn pv nv gv dv bv uv vv Iu Eu Au jp Io Eo Ao Te Pu Ou Ru Ro Ee sv xu Jf Up Ko Je ae fe oe ge se re Mo No bn xn je Ed Ld uo ao Du Yo Jo Td v7 Sd k7 Nd u7 HJ Pd Yu Gu jd Sm Om yd tu Uf R0 Bk su Vu Xu iu au Pk Lk Tk xc Ye Gd eB reduceIte"
def zzb:="oH sE VF kR T.isD lockA JF lock kill nH Tg.ix oC iW vO rR isMut sV frzAt UV Kb uD.eq_1 uD.eq_2 gM.eq_1 gM.eq_2 gM.eq_3 gM.eq_4 J5 i5 t5 iI.eq_1 List.modify_succ_cons List.modify_zero_cons Option.map_some List.length_cons List.length_nil List.getElem?_cons_zero List.getElem?_cons_succ List.cons_append List.nil_append List.set_cons_zero List.set_cons_succ Nat.reduceAdd Nat.reduceSub Nat.zero_add Bool.and_true Bool.true_and Bool.not_true Bool.not_false Bool.or_true Bool.true_or Bool.or_false Bool.false_or Bool.and_false Bool.false_and if_true if_false Bool.false_eq_true true_and and_true false_implies ne_eq reduceCtorEq not_false_eq_true not_true_eq_false implies_true forall_const Int.reduceLT Int.reduceLE Int.reducePow Int.reduceNeg Nat.reducePow and_self eq_self Option.some.injEq Sl.own.injEq Sl.ky.injEq and_assoc decide_true decide_false"
set_option hygiene false in
local macro_rules | `(tactic| simp_arith [$ls,*])=>do
 let a<-(zza.splitOn " ").toArray.mapM λx=>`(Lean.Parser.Tactic.simpLemma| ↓ $(Lean.mkIdent x.toName):ident)
 let b<-(zzb.splitOn " ").toArray.mapM λx=>`(Lean.Parser.Tactic.simpLemma| $(Lean.mkIdent x.toName):ident)
 `(tactic| simp only [$ls,*,$a,*,$b,*])
set_option hygiene false in
local macro_rules | `(tactic| simp? [$ls,*])=>do
 let a<-(zza.splitOn " ").toArray.mapM λx=>`(Lean.Parser.Tactic.simpLemma| ↓ $(Lean.mkIdent x.toName):ident)
 let b<-(zzb.splitOn " ").toArray.mapM λx=>`(Lean.Parser.Tactic.simpLemma| $(Lean.mkIdent x.toName):ident)
 `(tactic| simp -implicitDefEqProofs only [$ls,*,$a,*,$b,*])
abbrev LS:=List QCI
abbrev LN:=List Nat
abbrev LJ:=List Int
abbrev LW:=List PySem.Value
namespace L2.L3.Q
open PySem PySem.W PySem.Spec PyProof.Rows
noncomputable def Rp(x:List Addr)(h:Heap):QE:=x.filterMap λa=>(h.get? a).map λo=>(a,o)
noncomputable abbrev Ip:=(Str×Str×Arguments×FuncBody×Scope)×(Addr×List (Str×Addr)×Value×Addr)×Bool
noncomputable def nk(h:FuncData)(b:Bool):Ip:=((h.name,h.qualname,h.params,h.body,h.scope),(h.globals,h.closure,h.defaults,h.builtins),b)
noncomputable def CV(K:QE)(x:Str):Option Ip:=match qk K mainGlobals x with
 |some (some (.ref f))=>(match K.lookup f with
  |some ⟨_,_,.func fd,_⟩=>some (nk fd (Wb K fd.code x&&wM K (.ref f)))|_=>none)
 |_=>none
noncomputable def jT(x:Str)(st:Stmt):Option Ip:=match st with
 | .FunctionDef _ a b _ _ _ sc _ _ _=>some (nk (ql x x a b sc .none .none .none .none none .none .none) true)|_=>none
def Ul:Value->Option Str
 | .str z _=>some z|_=>none
noncomputable def Nf(K:QE)(x:Str):Option (List (Option Str)):=match qk K mainGlobals x with
 |some (some (.ref f))=>(match K.lookup f with
  |some ⟨.type t,_,.seq its _,_⟩=>if t="tuple" then some (its.toList.map Ul) else none|_=>none)
 |_=>none
def Lr:Value->Option Int
 | .int i _=>some i|_=>none
noncomputable def Lf(K:QE)(x:Str):Option Int:=match qk K mainGlobals x with
 |some (some u)=>Lr u|_=>none
noncomputable def EU(K:QE)(x:Str):Bool:=match qk K mainGlobals x with
 |some none=>true|_=>false
noncomputable def yG(K:QE)(T:Addr):Bool:=(match qk K mainGlobals "going_order" with
 |some (some (.ref f))=>(match K.lookup f with
  |some ⟨_,_,.func fd,_⟩=>(match fd.code with
   | .ref c=>QAb K c T|_=>false)
  |_=>false)
 |_=>false)&&((match qk K mainGlobals "__builtins__" with
 |some (some (.ref b))=>(match K.lookup b with
  |some ⟨.type t,some d,.plain,_⟩=>t == "module" && (d==builtinsNs&&(b != builtinsNs&&(b != mainGlobals&&b != T)))|_=>false)
 |_=>false)&&((K.lookup T).isNone&&mainGlobals != T))
def top(i:Nat):Stmt:=Qp.main.body.getD i (.Pass ⟨0,0,0,0⟩)
noncomputable def fT:List (Str×Nat):=([("_law_folded",35),("_law_draw",31),("_law_names",32),("_law_people",33),("_law_event",34),("_law_world",36),("_law_fanned",42),("going_order",16),("has_against",21),("rank_of",19),("floor_of",20),("is_taken",18),("seen_among",23),("wrong_among",22),("live_among",24),("edges_of",27),("seers_of",26),("add_way",6),("add_name",5),("rooms_of",4),("points_reached",7),("lay_chain",8),("name_behind",10),("chain_from",9),("full_names",11),("apart_chains",3),("told_through",14),("ground_alone",13),("needs_of",29),("holders_in",28),("held_among",25),("gone",17),("_law_subsets",38),("_law_meets",37),("_law_enough",39),("_law_least",40),("_law_due",41),("law",43)]:List (String×Nat)).map λp=>(QW p.1,p.2)
def tT:List (Str×LS):=[("BEGIN",["","begin"])]
def sT:List (Str×Int):=[("WIDE",2)]
noncomputable def nT:LS:=(["any","enumerate","int","len","list","max","range","sorted","tuple"]:List String).map QW
noncomputable def qv:Program:={ Qp with main:={ Qp.main with body:=[1,2,3,4,5,6,7,8,9,10,11,13,14,16,17,18,19,20,21,22,23,24,25,26,27,28,29,31,32,33,34,35,36,37,38,39,40,41,42,43].map top } }
def tA:Addr:=84
noncomputable abbrev uY:=List (Option Ip)×List (Option (List (Option Str)))×List (Option Int)×List Bool×Bool
noncomputable def seen(K:Frag):uY:=(fT.map λp=>CV K p.1,tT.map λp=>Nf K p.1,sT.map λp=>Lf K p.1,nT.map (EU K),yG K tA)
noncomputable def due:uY:=(fT.map λp=>jT p.1 (top p.2),tT.map λp=>some (p.2.map some),sT.map λp=>some p.2,nT.map λ_=>true,true)
noncomputable def fr(s:Shared):Frag:=Rp ((Qr 300).filter λa=>a != tA) s.heap
noncomputable def xt(s:Shared):Bool:=xlAt qv [] s&&recOk (RowW.records Qz.row.toRowW) s
noncomputable def ob(s:Shared):uY×Option Obj:=(seen (fr s),s.heap.get? tA)
theorem lf:LeftO Qp qv [] xt ob (λ_=>(due,some (tabObj #[]))) 2508:=by intro w;kernel_rfl
theorem ws:Qz.wellSaid=true:=by kernel_rfl
end L2.L3.Q
namespace L2
open PySem PySem.Spec PyProof.Rows
section
variable{n m:Nat}
theorem szL(h:n<=16777216):n<=sizeLine:=by rw[Q0];exact h
theorem szS(h:n<16777216):n<sizeLine:=by rw[Q0];exact h
theorem yw(h:n<=m)(k:m<=16777216):n<=sizeLine:=szL (QX h k)
theorem Jw(h:n<=m)(k:m<16777216):n<sizeLine:=szS (WF h k)
theorem aw(h:n<=m)(k:m<=16777216):0+n<=sizeLine:=by rw[Wc];exact yw h k
theorem tw{k c:Nat}(h:n+k<c)(l:m<=k):n+m<c:=WF (Nat.add_le_add_left l n) h
end
open PySem.SeqAt
inductive NK where
 |s (x:Str)|t (xs:List NK)
noncomputable instance:DecidableEq NK:=λ_ _=>Classical.propDecidable _
mutual
def Z0(h:Heap):NK->Value->Prop
 | .s x,v=>∃t,v=.str x t|.t ks,v=>∃a y,v=.ref a/\h.IsTuple a y/\NKvs h ks y.toList
def NKvs(h:Heap):List NK->LW->Prop
 |[],vs=>vs=[]|k::ks,vs=>∃v r,vs=v::r/\Z0 h k v/\NKvs h ks r
end
mutual
def z5:NK->Nat
 | .s _=>0|.t h=>nkds h+1
def nkds:List NK->Nat
 |[]=>0|k::ks=>max (z5 k) (nkds ks)
end
mutual
def dr(w:World):NK->Int
 | .s x=>hashStr w x|.t h=>reduceHash (QAE (nkhs w h))
def nkhs(w:World):List NK->LJ
 |[]=>[]|k::ks=>dr w k::nkhs w ks
end
mutual
def zk:NK->Nat
 | .s _=>1|.t h=>nkts h+1
def nkts:List NK->Nat
 |[]=>0|k::ks=>zk k+nkts ks
end
theorem ZW{h:Heap}{a:Addr}{xs x:Array Value}(p:h.IsTuple a xs)(q:h.IsTuple a x):xs=x:=by obtain⟨o,e,_,n,d⟩:=p;obtain⟨u,y,_,v,z⟩:=q;cases e.symm.trans y;cases d.symm.trans z;rfl
mutual
theorem k5{h:Heap}:∀{k l:NK}{v:Value},Z0 h k v->Z0 h l v->k=l
 | .s x,.s y,v,⟨t,e⟩,⟨u,e'⟩=>by subst e;cases e';rfl|.s x,.t ls,v,⟨t,e⟩,⟨_,_,e',_⟩=>by subst e;cases e'|.t ks,.s y,v,⟨_,_,e,_⟩,⟨_,e'⟩=>by subst e;cases e'|.t ks,.t ls,v,⟨a,its,e,p,q⟩,⟨b,jts,e',p',q'⟩=>by subst e;cases e';cases ZW p p';rw[nks_inj q q']
theorem nks_inj{h:Heap}:∀{ks ls:List NK}{vs:LW},NKvs h ks vs->NKvs h ls vs->ks=ls
 |[],[],_,_,_=>rfl|[],_::_,_,e,⟨_,_,e',_⟩=>by cases(show _=[] from e).symm.trans e'|_::_,[],_,⟨_,_,e',_⟩,e=>by cases(show _=[] from e).symm.trans e'|k::ks,l::ls,_,⟨v,r,e,p,q⟩,⟨v',r',e',p',q'⟩=>by cases e.symm.trans e';rw[k5 p p',nks_inj q q']
end
mutual
theorem pS{h h':Heap}(k:∀a its,h.IsTuple a its->h'.IsTuple a its):∀{x:NK}{v:Value},Z0 h x v->Z0 h' x v
 | .s x,v,e=>e|.t ks,v,⟨a,its,e,p,q⟩=>⟨a,its,e,k a its p,nks_keeps k q⟩
theorem nks_keeps{h h':Heap}(k:∀a its,h.IsTuple a its->h'.IsTuple a its):∀{xs:List NK}{vs:LW},NKvs h xs vs->NKvs h' xs vs
 |[],_,e=>e|x::xs,_,⟨v,r,e,p,q⟩=>⟨v,r,e,pS k p,nks_keeps k q⟩
end
section
variable{prog:Program}{w:World}{E:YC}
mutual
theorem hX:∀(k:NK) (v:Value) (A:Around) (s:Shared) (Q:Int->Shared->Prop),Z0 s.heap k v->A.units+z5 k<cLine->Q (dr w k) { s with toks:=s.toks+zk k }->wpAny (model prog w) A (pyHash v) Q E s
 | .s x,v,A,s,Q,⟨t,e⟩,_,q=>by subst e;exact QBx q|.t ks,v,A,s,Q,⟨a,its,e,⟨o,ho,hc,n,hd⟩,hi⟩,h,q=>by subst e;have h:A.units+(nkds ks+1)<cLine:=h;refine PySem.W.pyHash_slot (T:="tuple") ⟨o,ho,hc⟩ F.slot_tuple_hash F.entry_tuple_hash (F.args_tuple_hash_1 _) (beq_builtin_none _) (.inr (by omega)) ?_;show wpAny _ _ (Builtin.Tuple.tupleItemsOf (.ref a) >>= _) _ _ s;refine QF (wpAny_tupleItemsOf ho hd ?_);refine QF ?_;rw[<- QBO];refine nk_loop ks its.toList A.in1 s #[] _ hi (by rw[QAc];omega) λb hb=>?_;show wpAny _ _ (retInt (QAE b.toList)) _ _ _;rw[hb];exact QF (wpAny_mkInt (QN ⟨_,_,rfl,by rw[Nat.add_assoc];exact q⟩))
theorem nk_loop:∀(ks:List NK) (vs:LW) (A:Around) (s:Shared) (b:Array Int) (Q:Array Int->Shared->Prop),NKvs s.heap ks vs->A.units+nkds ks<cLine ->
  (∀y,y.toList=b.toList++nkhs w ks->Q y { s with toks:=s.toks+nkts ks }) ->
  wpAny (model prog w) A (forIn vs b λx r=>do let h <- pyHash x;pure PUnit.unit;pure (ForInStep.yield (r.push h))) Q E s
 |[],vs,A,s,b,Q,e,_,q=>by subst e;exact QN (q b (Qu _).symm)|k::ks,vs,A,s,b,Q,⟨v,r,e,p,p'⟩,z,q=>by subst e;have z:A.units+max (z5 k) (nkds ks)<cLine:=z;rw[Wt];refine QF (QF (hX k v A s _ p (by omega) ?_));refine QF (QN (QN ?_));refine nk_loop ks r A _ _ Q p' (by omega) λy hb=>?_;have e:s.toks+zk k+nkts ks=s.toks+(zk k+nkts ks):=Nat.add_assoc _ _ _;have:=q y (by rw[hb,Array.toList_push,Qw];rfl);show Q y { s with toks:=s.toks+zk k+nkts ks };rw[e];exact this
end
end
theorem ij{ks ls:List NK}{n m:Nat}(x:n=ks.length)(y:m=ls.length):((Qr (min n m)).all (λj=>decide (ks[j]?=ls[j]?))&&n==m)=decide (NK.t ks=NK.t ls):=by subst x y;rw[Q7,decide_eq_true_iff,Qg,Qy,beq_iff_eq];constructor;rintro⟨z,v⟩;congr 1;refine qz λj=>?_;by_cases u:j<ks.length;exact of_decide_eq_true (z j (Q3.mpr (by omega)));rw[qC (by omega),qC (by omega)];intro h;injection h with h;subst h;exact⟨λ_ _=>dT rfl,rfl⟩
theorem bQ{h:Heap}:∀{ks:List NK}{vs:LW},NKvs h ks vs->vs.length=ks.length
 |[],_,e=>by cases(show _=[] from e);rfl|_::_,_,⟨v,r,e,_,q⟩=>by rw[e,QL,QL,bQ q]
mutual
theorem Ac:∀(k l:NK) (v u:Value) (A:Around) (s:Shared),Z0 s.heap k v->Z0 s.heap l u->A.units+z5 k<cLine->EqAt A s v u (decide (k=l))
 | .s x,.s y,v,u,A,s,⟨t,e⟩,⟨t',e'⟩,_=>by
  subst e e';have:=EqAt.str_str (A:=A) (s:=s) x t y t';have z:(x==y)=decide (NK.s x=NK.s y):=by rw[Q7,decide_eq_true_iff,beq_iff_eq];exact⟨λh=>h▸rfl,λh=>by injection h⟩
  rw[<- z];exact this
 | .s x,.t ls,v,u,A,s,⟨t,e⟩,⟨b,jts,e',p,_⟩,f=>by subst e e';rw[dF λh=>by cases h];exact EqAt.str_tuple x t p (by omega)|.t ks,.s y,v,u,A,s,⟨a,its,e,p,_⟩,⟨t,e'⟩,f=>by subst e e';rw[dF λh=>by cases h];exact EqAt.tuple_str y t p (by omega)|.t ks,.t ls,v,u,A,s,⟨a,its,e,p,q⟩,⟨b,jts,e',p',q'⟩,f=>by subst e e';by_cases w:a=b;subst w;cases ZW p p';rw[nks_inj q q',dT rfl];exact EqAt.same _;have f:A.units+(nkds ks+1)<cLine:=f;refine EqAt.of_refs w ?_;have i:=bQ q;have g:=bQ q';rw[Q1]at i g;rw[<- ij i g];refine RcAt.tuples p p' (by omega) λj n m=>?_;have:=nks_eq ks ls its.toList jts.toList A.in1 s q q' (by rw[QAc];omega) j (by rw[Q1];exact n) (by rw[Q1];exact m);simpa using this
theorem nks_eq:∀(ks ls:List NK) (vs us:LW) (A:Around) (s:Shared),NKvs s.heap ks vs->NKvs s.heap ls us->A.units+nkds ks<cLine->∀j (y:j<vs.length) (x:j<us.length),EqAt A s vs[j] us[j] (decide (ks[j]?=ls[j]?))
 |[],_,vs,us,A,s,e,_,_,j,y,_=>by cases(show vs=[] from e);cases y|_::_,[],vs,us,A,s,_,e,_,j,_,x=>by cases(show us=[] from e);cases x|k::ks,l::ls,_,_,A,s,⟨v,r,e,p,q⟩,⟨v',r',e',p',q'⟩,u,j,y,x=>by
  subst e e';have u:A.units+max (z5 k) (nkds ks)<cLine:=u;cases j with|zero=>have:=Ac k l v v' A s p p' (by omega);have z:decide (k=l)=decide ((k::ks)[0]?=(l::ls)[0]?):=decide_eq_decide.mpr ⟨λh=>by rw[h];rfl,λh=>Qv h⟩;rw[<- z];exact this|succ j=>exact nks_eq ks ls r r' A s q q' (by omega) j (wg y) (wg x)
end
section
variable{prog:Program}{w:World}{A:Around}{E:YC}{s:Shared}
mutual
theorem oS:∀(k:NK) (v:Value) (n:Nat) (Q:Bool->Shared->Prop),Z0 s.heap k v->z5 k<=n->Q true s->wpAny (model prog w) A (eqIsQuiet n v) Q E s
 | .s x,v,n,Q,⟨t,e⟩,_,q=>by subst e;rw[eqIsQuiet_byValue _ rfl];exact QN q|.t ks,v,n,Q,⟨a,its,e,⟨o,ho,hc,m,hd⟩,hi⟩,g,q=>by
  subst e;have g:nkds ks+1<=n:=g;obtain⟨n,rfl⟩:∃m,n=m+1:=⟨n - 1,by omega⟩
  have i:s.TypeIs (.ref a) "tuple":=⟨o,ho,hc⟩
  unfold eqIsQuiet;refine QF (wpAny_specialOf i F.slot_tuple_eq.lookup ?_);show wpAny _ _ (isInstance (.ref a) (.type "tuple") >>= _) _ _ s;refine QF (QAd i isSubtype_tuple_tuple ?_);simp only[Wp,Qo,if_false];refine QF (QA7 ho hd ?_);refine QF ?_;show wpAny _ _ (forIn its _ _) _ _ s;rw[<- QBO];refine wpAny_forIn_list _ (λh r z=>r.1=none/\z=s/\∀v∈h,∀Q:Bool->Shared->Prop,Q true s->wpAny (model prog w) A (eqIsQuiet n v) Q E s) _ ?_ ?_ _ _ ⟨rfl,rfl,nks_quiet ks its.toList n hi (by omega)⟩;rintro v h r z ⟨f,rfl,y⟩;refine QF (y v QD _ ?_);simp only[Wp,Qo,if_false];exact QN ⟨rfl,rfl,λu b=>y u (QC _ b)⟩;rintro⟨j,l⟩ z ⟨f,rfl,_⟩;cases(show j=none from f);exact QN q
theorem nks_quiet:∀(ks:List NK) (vs:LW) (n:Nat),NKvs s.heap ks vs->nkds ks<=n->∀v∈vs,∀Q:Bool->Shared->Prop,Q true s->wpAny (model prog w) A (eqIsQuiet n v) Q E s
 |[],vs,n,e,_,v,hv,Q,q=>by cases(show vs=[] from e);cases hv|k::ks,vs,n,⟨x,r,e,p,p'⟩,h,v,hv,Q,q=>by subst e;have h:max (z5 k) (nkds ks)<=n:=h;rcases QM.mp hv with rfl|hv;exact oS k v n Q p (by omega) q;exact nks_quiet ks r n p' (by omega) v hv Q q
end
end
section
variable{H:Hp}{a b:Addr}{o:HO}
noncomputable def GE(prog:Program)(w:World):HeapKind prog w NK where
 is:=λh k a=>Z0 h k (.ref a)/\z5 k<=6
 hash:=dr w
 draws:=zk
 room:=λA=>A.units+8<cLine
 inj:=λy u=>k5 y.1 u.1
 keeps:=λ{h m k a d o p q} x j l i=>⟨pS (λb f ⟨ob,e,c,n,v⟩=>⟨ob,(i.2 b λz=>by subst z;cases e.symm.trans j;cases l.symm.trans v).trans e,c,n,v⟩) x.1,x.2⟩
 pyHash:=λg hk h=>hX _ _ _ _ _ hk.1 (by have:=hk.2;omega) h
 eqBool:=λg y u h=>Ac _ _ _ _ _ _ y.1 u.1 (by have:=y.2;omega) _ _ _ _ h
 quiet:=λhk h=>oS _ _ _ _ hk.1 (by have:=hk.2;omega) h
noncomputable abbrev Key:=Sum Int Str
noncomputable def XO:Key->Value->Bool
 | .inl k,v=>Value.isInt k v|.inr x,v=>Value.isStrOf x v
noncomputable def Hr(w:World):Key->Int
 | .inl k=>hashInt k|.inr x=>hashStr w x
theorem OA:∀{k:Key}{v:Value},XO k v=true->(∃i t,k=Sum.inl i/\v=Value.int i t)∨(∃x t,k=Sum.inr x/\v=Value.str x t)
 | .inl i,v,h=>by obtain⟨t,e⟩:=Value.isInt_shape (k:=i) (v:=v) h;exact .inl ⟨i,t,rfl,e⟩|.inr x,v,h=>by obtain⟨t,e⟩:=Value.isStrOf_shape (x:=x) (v:=v) h;exact .inr ⟨x,t,rfl,e⟩
theorem lZ(i:Int)(t:Tok):XO (.inl i) (.int i t)=true:=by simp[XO,Value.isInt]
theorem gZ(x:Str)(t:Tok):XO (.inr x) (.str x t)=true:=by simp[XO,Value.isStrOf]
theorem Sh(a b:Int):decide ((Sum.inl a:Key)=Sum.inl b)=(a==b):=by by_cases e:a=b;subst e;simp;have h:¬ (Sum.inl a:Key)=Sum.inl b:=λq=>e (Sum.inl.inj q);rw[dF h];exact(beq_eq_false_iff_ne.mpr e).symm
theorem Oh(a b:Str):decide ((Sum.inr a:Key)=Sum.inr b)=decide (a=b):=by by_cases e:a=b;subst e;simp;have h:¬ (Sum.inr a:Key)=Sum.inr b:=λq=>e (Sum.inr.inj q);rw[dF h,dF e]
theorem Rh(a:Int)(b:Str):decide ((Sum.inl a:Key)=Sum.inr b)=false:=dF (λq=>nomatch q)
theorem Ph(a:Str)(b:Int):decide ((Sum.inr a:Key)=Sum.inl b)=false:=dF (λq=>nomatch q)
noncomputable def ND(prog:Program)(w:World):PySem.KeyKind prog w Key where
 is:=XO
 hash:=Hr w
 inj:=λv a b f hb=>by
  rcases OA f with⟨i,t,rfl,rfl⟩| ⟨x,t,rfl,rfl⟩
  rcases OA hb with⟨j,u,rfl,e⟩| ⟨y,u,rfl,e⟩
  ·injection e with e1 _;rw[e1]
  exact nomatch e;rcases OA hb with⟨j,u,rfl,e⟩| ⟨y,u,rfl,e⟩
  ·exact nomatch e
  injection e with e1 _;rw[e1]
 byValue:=λk v h=>by rcases OA h with⟨i,t,rfl,rfl⟩| ⟨x,t,rfl,rfl⟩<;>rfl
 pyHash:=λhv h=>by
  rcases OA hv with⟨i,t,rfl,rfl⟩| ⟨x,t,rfl,rfl⟩
  exact wpAny_pyHash_int h;exact QBx h
 eqBool:=λz hv h=>by
  rcases OA z with⟨i,t,rfl,rfl⟩| ⟨x,t,rfl,rfl⟩
  rcases OA hv with⟨j,u,rfl,rfl⟩| ⟨y,u,rfl,rfl⟩
  ·rw[Sh]at h;exact QAe h
  rw[Rh]at h;exact QBP i t y u _ _ _ _ h;rcases OA hv with⟨j,u,rfl,rfl⟩| ⟨y,u,rfl,rfl⟩
  ·rw[Ph]at h;exact QBQ x t j u _ _ _ _ h
  rw[Oh]at h;exact wpAny_eqBool_str h
 «strs»:=λk x t v h=>by
  rcases OA h with⟨i,u,rfl,e⟩| ⟨y,u,rfl,e⟩
  exact nomatch e;injection e with e1 _;subst e1;cases v<;>rfl
theorem aS(prog:Program)(w:World)(i:Int)(t:Tok):(ND prog w).is (.inl i) (.int i t)=true:=lZ i t
theorem tS(prog:Program)(w:World)(x:Str)(t:Tok):(ND prog w).is (.inr x) (.str x t)=true:=gZ x t
set_option genInjectivity true in
inductive V where
 |non|bl (b:Bool)|int (i:Int)|str (x:Str)|byt (b:Array UInt8)|flt (b:UInt64)|ref (a:Addr)|ty (n:String)
 deriving DecidableEq
abbrev LV:=List V
noncomputable def YA:V->Value->Prop
 | .non,u=>u=Jz|.bl b,u=>u=Value.bool b|.int i,u=>∃t,u=Value.int i t|.str x,u=>∃t,u=Value.str x t|.byt b,u=>∃t,u=Value.bytes b t|.flt b,u=>∃t,u=Value.float b t|.ref a,u=>u=jx a|.ty n,u=>u=Value.type n
noncomputable abbrev nA:LV->LW->Prop:=Paired YA
theorem nA.length{xs:LV}{us:LW}(r:nA xs us):xs.length=us.length:=qK r
theorem nA.get:∀{xs:LV}{us:LW}{i:Nat}{x:V},nA xs us->xs[i]?=some x->∃u,us[i]?=some u/\YA x u
 |_,_,_,_,.nil,e=>by simp at e|_,_,0,_,.cons r _,e=>by simp at e;subst e;exact⟨_,rfl,r⟩|_,_,i+1,x,.cons _ t,e=>by obtain⟨u,y,h⟩:=nA.get (i:=i) (x:=x) t (by simpa using e);exact⟨u,by simpa using y,h⟩
theorem nA.set{x:V}{u:Value}(r:YA x u):∀{xs:LV}{us:LW}(i:Nat),nA xs us->nA (xs.set i x) (us.set i u)
 |_,_,_,.nil=>.nil|_,_,0,.cons _ t=>.cons r t|_,_,i+1,.cons q t=>.cons q (nA.set r i t)
theorem nA.append:∀{xs h:LV}{us ws:LW},nA xs us->nA h ws->nA (xs++h) (us++ws)
 |_,_,_,_,.nil,s=>s|_,_,_,_,.cons r t,s=>.cons r (nA.append t s)
theorem nA.take:∀{xs:LV}{us:LW}(n:Nat),nA xs us->nA (xs.take n) (us.take n)
 |_,_,0,_=>.nil|_,_,_+1,.nil=>.nil|_,_,n+1,.cons r t=>.cons r (nA.take n t)
theorem nA.drop:∀{xs:LV}{us:LW}(n:Nat),nA xs us->nA (xs.drop n) (us.drop n)
 |_,_,0,r=>r|_,_,_+1,.nil=>.nil|_,_,n+1,.cons _ t=>nA.drop n t
noncomputable def lW:Option V->Option Value->Prop
 |some v,some u=>YA v u|none,none=>True|_,_=>False
def KV{h:Type}:List (h×V)->List (h×Value)->Prop:=Paired λ(p:h×V) (q:h×Value)=>p.1=q.1/\YA p.2 q.2
def kV:Key->V
 | .inl i=>.int i|.inr x=>.str x
inductive HO where
 |lst (xs:LV)
 |tup (xs:LV)
 |dK (kvs:List (Key×V))|dT (ep:Nat) (kvs:List (NK×Addr×V))
 |set (S:Int->Bool) (n:Nat)
 |ins (C dx:Addr) (fs:List (Str×V))
 |own (x:Addr)
 |xd (fs:List (Str×V))
 |met (f x:Addr)
 |rng (lo hi:Int)
 |frz (o:Obj) (u:HO)
 |tbl (q:Str)
 |ext (φ:Heap->Prop)
noncomputable abbrev Hp:=Addr->Option HO
noncomputable def BA(H:Hp)(a:Addr)(o:HO):Hp:=λb=>if b=a then some o else H b
theorem ZA:BA H a o a=some o:=by unfold BA;rw[if_pos rfl]
theorem vA(h:b≠a):BA H a o b=H b:=by unfold BA;rw[if_neg h]
theorem m8{u:HO}:BA (BA H a o) a u=BA H a u:=by funext b;unfold BA;split<;>rfl
theorem JA(h:H a=some o)(h':H b=none):a≠b:=by intro e;subst e;rw[h]at h';cases h'
end
section
variable(P:Program)(w:World)
noncomputable def zB(H:Hp)(h:Heap)(a:Addr):HO->Prop
 | .lst k=>k.length<=sizeLine/\∃(z:LW) (n:Nat),nA k z/\h.get? a=some { cls:=.type "list",data:=.seq z.toArray n }|.tup k=>k.length<=sizeLine/\∃z:LW,nA k z/\IsTup h a z.toArray|.dK y=>y.length<=sizeLine/\(a==sysModules)=false/\∃m,KV y m/\h.DictOf (ND P w) a m|.dT K y=>y.length<=sizeLine/\(a==sysModules)=false/\∃k:List (NK×Addr×Value),
   Paired (λ(p:NK×Addr×V) (q:NK×Addr×Value)=>p.1=q.1/\p.2.1=q.2.1/\YA p.2.2 q.2.2) y k /\
   ∃o X,h.get? a=some o/\o.ExactDict/\o.data=.dict X K/\X.toList=k.map (entryOfKey (GE P w))/\(k.map (·.1)).Nodup
 | .set S n=>h.SetOf (intKind P w) a S n|.ins C e fs=>H e=some (.own a)/\fs.length<=1000/\e≠a/\h.get? a=some (PySem.W.instObj C e) /\
   ∃b,h.Ns1 e b/\(∀f,lW (fs.lookup f) (b f))/\PySem.Within b (fs.map (·.1))
 | .own _=>∃o,h.get? a=some o|.xd fs=>∃b,h.Ns1 a b/\∀f,lW (fs.lookup f) (b f)|.rng Y Z=>∃t u v,h.get? a=some { cls:=.type "range",data:=.fields #[.int Y t,.int Z u,.int 1 v] }|.frz o u=>h.get? a=some o/\zB H h a u|.tbl q=>∃i,h.get? a=some { cls:=.none,data:=.fields i }/\TriplesOk i.toList/\∀j l,codeAmong j i.toList=some l->∃c,l=.ref c/\H c=some (.own a)/\h.CodeRec l q|.met f x=>h.get? a=some (QAN (.ref f) (.ref x))|.ext g=>g h/\(∃o,h.get? a=some o)/\∀s r:Heap,g s->(∀o,s.get? a=some o->r.get? a=some o)->g r
def iN(H:Hp)(h:Heap):Prop:=∀a o,H a=some o->zB P w H h a o
end
section
variable{P:Program}{w:World}{H i:Hp}{h h':Heap}{a:Addr}{o:HO}
theorem zB.lt(x:zB P w H h a o):a<h.objs.size:=by
 cases o with|lst v=>obtain⟨_,_,_,_,e⟩:=x;exact Qb e|tup v=>obtain⟨_,_,_,p⟩:=x;exact p.lt|dK z=>obtain⟨_,_,_,_,o,_,_,e,_⟩:=x;exact Qb e|dT j z=>obtain⟨_,_,_,_,o,_,e,_⟩:=x;exact Qb e|set S n=>obtain⟨o,_,_,_,e,_⟩:=x;exact Qb e|ins C l fs=>obtain⟨_,_,_,e,_⟩:=x;exact Qb e|own y=>obtain⟨_,e⟩:=x;exact Qb e|xd fs=>obtain⟨_,⟨_,_,_,e,_⟩,_⟩:=x;exact Qb e|rng b g=>obtain⟨_,_,_,e⟩:=x;exact Qb e|frz ob u=>obtain⟨e,_⟩:=x;exact Qb e|tbl q=>obtain⟨_,e,_⟩:=x;exact Qb e|met f y=>exact Qb (show h.get? a=some _ from x)|ext k=>obtain⟨_,⟨_,e⟩,_⟩:=x;exact Qb e
theorem Paired.mapP{α z:Type}{F G:α->z->Prop}:∀{y:List α}{x:List z},Paired F y x->(∀a b,F a b->G a b)->Paired G y x
 |_,_,.nil,_=>.nil|_,_,.cons r t,f=>.cons (f _ _ r) (Paired.mapP t f)
theorem zB.stay(x:zB P w H h a o)(k:∀b u,(b=a∨H b=some (.own a))->h.get? b=some u->h'.get? b=some u)
  (K:∀b,H b=some (.own a)->i b=some (.own a)) (O:∀b xs,H b=some (.tup xs)->i b=some (.tup xs)):zB P w i h' a o:=by
 induction o with|lst xs=>obtain⟨z,m,n,r,e⟩:=x;exact⟨z,m,n,r,k _ _ (.inl rfl) e⟩|tup xs=>obtain⟨z,m,r,ob,e,c⟩:=x;exact⟨z,m,r,ob,k _ _ (.inl rfl) e,c⟩|dK W=>obtain⟨z,y,s,r,ob,j,l,e,c⟩:=x;exact⟨z,y,s,r,ob,j,l,k _ _ (.inl rfl) e,c⟩|dT l W=>obtain⟨z,y,xs,r,ob,j,e,c⟩:=x;exact⟨z,y,xs,r,ob,j,k _ _ (.inl rfl) e,c⟩|set S n=>obtain⟨ob,j,l,t,e,c⟩:=x;exact⟨ob,j,l,t,k _ _ (.inl rfl) e,c⟩|ins C R fs=>obtain⟨d,z,F,e,Z,⟨Y,j,l,J,c⟩,r⟩:=x;exact⟨K _ d,z,F,k _ _ (.inl rfl) e,Z,⟨Y,j,l,k _ _ (.inr d) J,c⟩,r⟩|own y=>obtain⟨ob,e⟩:=x;exact⟨ob,k _ _ (.inl rfl) e⟩|xd fs=>obtain⟨Z,⟨Y,j,l,e,c⟩,r⟩:=x;exact⟨Z,⟨Y,j,l,k _ _ (.inl rfl) e,c⟩,r⟩|rng N Q=>obtain⟨t,u,v,e⟩:=x;exact⟨t,u,v,k _ _ (.inl rfl) e⟩|frz ob u G=>obtain⟨e,q⟩:=x;exact⟨k _ _ (.inl rfl) e,G q⟩|tbl q=>obtain⟨E,e,t,f⟩:=x;refine⟨E,k _ _ (.inl rfl) e,t,λX L g=>?_⟩;obtain⟨c,rfl,o,c1,ob,s,B,A,I,r⟩:=f X L g;cases A;exact⟨c,rfl,K _ o,c,ob,s,B,rfl,k _ _ (.inr o) I,r⟩|met f y=>have e:h.get? a=some (QAN (.ref f) (.ref y)):=x;show h'.get? a=some (QAN (.ref f) (.ref y));exact k a _ (.inl rfl) e|ext M=>obtain⟨p,⟨o,e⟩,st⟩:=x;exact⟨st _ _ p λo q=>k _ _ (.inl rfl) q,⟨o,k _ _ (.inl rfl) e⟩,st⟩
theorem iN.lt(x:iN P w H h)(e:H a=some o):a<h.objs.size:=(x a o e).lt
theorem iN.fresh(x:iN P w H h)(e:h.objs.size<=a):H a=none:=by
 cases q:H a with|none=>rfl|some u=>exact absurd (Ql (x.lt q) e) (qw _)
theorem iN.kept(x:iN P w H h)(k:∀b u,h.get? b=some u->h'.get? b=some u):iN P w H h':=λa o e =>
 (x a o e).stay (λb u _ q=>k b u q) (λ_ q=>q) λ_ _ q=>q
theorem iN.laid(x:iN P w H h)(k:∀b u,h.get? b=some u->h'.get? b=some u)(z:h.objs.size<=a)(new:zB P w (BA H a o) h' a o):iN P w (BA H a o) h':=λb u e=>by have y:=x.fresh z;by_cases hb:b=a;subst hb;rw[ZA]at e;cases e;exact new;rw[vA hb]at e;exact(x b u e).stay (λc v _ q=>k c v q) (λc q=>by rw[vA (JA q y)];exact q) λc f q=>by rw[vA (JA q y)];exact q
end
def Rd(H:Hp)(a:Addr)(u:HO):Prop:=H a=some u∨∃o,H a=some (.frz o u)
theorem Rd.ok{P:Program}{w:World}{H:Hp}{h:Heap}{a:Addr}{u:HO}(r:Rd H a u)(x:iN P w H h):zB P w H h a u:=by
 rcases r with r|⟨o,r⟩
 exact x a u r;obtain⟨_,q⟩:=x a _ r;exact q
noncomputable def Yk:Option HO->Prop
 |some (.lst _)=>True|some (.dK _)=>True|some (.dT _ _)=>True|some (.set _ _)=>True|some (.ins _ _ _)=>True|some (.ext _)=>True|_=>False
section
variable{P:Program}{w:World}{H:Hp}{h h':Heap}{x e:Addr}{a:HO}
theorem iN.write(ok:iN P w H h)(l:Yk (H x))(o:e=x∨H e=some (.own x))(k:∀b u,b≠e->h.get? b=some u->h'.get? b=some u)(m:∃u,h'.get? e=some u)
  (new:zB P w (BA H x a) h' x a):iN P w (BA H x a) h':=λb u q=>by
 have g:∀c y,H c=some (.own y)->c≠x:=λc y r z=>by subst z;rw[r]at l;exact l
 have i:∀c j,H c=some (.tup j)->c≠x:=λc j r z=>by subst z;rw[r]at l;exact l
 by_cases hb:b=x;subst hb;rw[ZA]at q;cases q;exact new;rw[vA hb]at q;by_cases f:b=e;have n:H b=some (.own x):=by rcases o with z|z;exact absurd (f.trans z) hb;rw[f];exact z
 rw[q]at n;cases n;obtain⟨v,hv⟩:=m;exact⟨v,by rw[f];exact hv⟩;refine(ok b u q).stay (λc v hc r=>k c v ?_ r) (λc r=>by rw[vA (g c b r)];exact r) λc j r=>by rw[vA (i c j r)];exact r
 rcases hc with rfl|hc;exact f;rintro rfl;rcases o with z|z;exact g c b hc z;rw[hc]at z;cases z;exact hb rfl
end
structure Un(fs ex:List Addr)(H H':Hp)(h h':Heap):Prop where
 keep:∀b o,h.get? b=some o->H b=none->b∉fs->b∉ex->h'.get? b=some o
 slot:∀b o,h.get? b=some o->H b=none->b∈fs->b∉ex->∃sl,h'.get? b=some { o with slots:=sl }
 free:∀b o,h.get? b=some o->H b=none->b∉ex->H' b=none
 there:∀b o,h.get? b=some o->b∉ex->∃o',h'.get? b=some o'
 tups:∀b xs,H b=some (.tup xs)->H' b=some (.tup xs)
 frzs:∀b o u,H b=some (.frz o u)->H' b=some (.frz o u)
 tbls:∀b q,H b=some (.tbl q)->H' b=some (.tbl q)
section
variable{y w ex c:List Addr}{H d g:Hp}{h v f h':Heap}{a x e:Addr}{o:HO}
theorem Un.any(u:Un y ex H d h v){b:Addr}{ob:Obj}(q:h.get? b=some ob)(n:H b=none)(z:b∉ex):∃k,v.get? b=some { ob with slots:=k }:=by by_cases hb:b∈y;exact u.slot b ob q n hb z;exact⟨ob.slots,u.keep b ob q n hb z⟩
theorem Un.kept(k:∀b u,h.get? b=some u->h'.get? b=some u):Un y ex H H h h' :=
 ⟨λb ob q _ _ _=>k b ob q,λb ob q _ _ _=>⟨ob.slots,k b ob q⟩,λ_ _ _ n _=>n,λb ob q _=>⟨ob,k b ob q⟩,λ_ _ q=>q,λ_ _ _ q=>q,λ_ _ q=>q⟩
theorem Un.refl:Un y ex H H h h:=Un.kept λ_ _ q=>q
theorem Un.laid(k:∀b u,h.get? b=some u->h'.get? b=some u)(j:h.objs.size<=a)(z:H a=none):Un y ex H (BA H a o) h h' where
 keep:=λb u q _ _ _=>k b u q
 slot:=λb u q _ _ _=>⟨u.slots,k b u q⟩
 free:=λb u q n _=>by rw[vA (Qm (Ql (Qb q) j))];exact n
 there:=λb u q _=>⟨u,k b u q⟩
 tups:=λb i q=>by rw[vA (JA q z)];exact q
 frzs:=λb u i q=>by rw[vA (JA q z)];exact q
 tbls:=λb l q=>by rw[vA (JA q z)];exact q
theorem Un.write(j:Yk (H x))(X:e=x∨H e=some (.own x))(k:∀b u,b≠e->h.get? b=some u->h'.get? b=some u)(m:∃u,h'.get? e=some u):Un y ex H (BA H x o) h h':=by
 have p:∀b,H b=none->b≠x:=λb n z=>by subst z;rw[n]at j;exact j
 have hb:∀b,H b=none->b≠e:=λb n z=>by subst z;rcases X with r|r;exact p b n r;rw[n]at r;cases r
 have l:∀b u,H b=some u->¬ Yk (some u)->b≠x:=λb u q nm z=>by subst z;rw[q]at j;exact nm j
 refine⟨λb u q n _ _=>k b u (hb b n) q,λb u q n _ _=>⟨u.slots,k b u (hb b n) q⟩,λb u q n _=>by rw[vA (p b n)];exact n,λb u q _=>?_,
  λb s q=>by rw[vA (l b _ q λz=>z)];exact q,λb u s q=>by rw[vA (l b _ q λz=>z)];exact q,λb Y q=>by rw[vA (l b _ q λz=>z)];exact q⟩
 by_cases i:b=e;subst i;exact m;exact⟨u,k b u i q⟩
end
section
variable{h:Heap}{b:Addr}{o:Obj}
noncomputable def Cp(h:Heap)(H:Hp):List Addr:=(Qr h.objs.size).filter λa=>(H a).isSome
def KQ(h:Heap)(H:Hp):Heap:=PySem.W.hideAll h (Cp h H)
theorem rZ(h:Heap)(H:Hp):(KQ h H).objs.size=h.objs.size:=PySem.W.hideAll_size _ _
theorem u6{H:Hp}(e:h.get? b=some o)(n:H b=none):(KQ h H).get? b=some o :=
 PySem.W.hideAll_get _ e λx=>by have q:(H b).isSome=true:=(QO.mp x).2;rw[n]at q;simp at q
theorem T9{H:Hp}(e:(KQ h H).get? b=some o):h.get? b=some o/\H b=none:=by
 have y:h.get? b=some o:=PySem.W.of_hideAll (Cp h H) e;refine⟨y,?_⟩;cases q:H b with|none=>rfl|some x=>have u:b∈Cp h H:=QO.mpr ⟨Q3.mpr (Qb y),by simp[q]⟩;have z:(KQ h H).get? b=none:=PySem.W.hideAll_none (Cp h H) u;rw[z]at e;cases e
structure Mod(K:QE)(mg:Str->Option Value)(base:Heap):Prop where
 kin:K.In base
 glob:base.Ns mainGlobals mg
 blt:∃mb,base.Ns builtinsNs mb/\∀x:Str,x≠"__name__"->mb x=bootBuiltins x
 nolimit:base.NoLimit
structure Cx where
 prog:Program
 w:World
 K:QE
 mg:Str->Option Value
 base:Heap
 A:Around
 N:LS
 s₀:Shared
 H₀:Hp
 env:Env
 outer:List Env
 stack:List Env
 ex:List Addr
 fn:Str->Bool
 calm:Bool
 pn:TB
 xe:Value->Shared->Prop
def HX(l:List Env):List Addr:=l.filterMap (·.frame)
noncomputable abbrev Cx.fs(X:Cx):List Addr:=HX X.outer
def Lo(sc:Scope)(x:Str):Prop:=sc.names.lookup x=some .local∨sc.names.lookup x=some .cell∨sc.names.lookup x=some .free
def Zk(sc:Scope)(x:Str):Prop:=sc.names.lookup x=some .local∨sc.names.lookup x=some .cell
def zu(env:Env)(h:Heap)(m:Str->Option Value)(x:Str)(u:Value):Prop :=
 (env.kindOf x=some .local/\m x=some u)∨((env.kindOf x=some .cell∨env.kindOf x=some .free)/\∃c,env.cells.lookup x=some c/\h.IsCell c (some u))
def jP(mg:Str->Option Value)(x:Heap)(P:Addr)(q:Str):Prop :=
 ∃f o y c,mg "going_order"=some (.ref f)/\x.get? f=some o/\o.data=.func y/\y.code=.ref c/\PySem.W.CodeHd x c P/\q=y.qualname++".<locals>.<lambda>"
structure Cx.Ok(X:Cx):Prop where
 mod:Mod X.K X.mg X.base
 kind:X.env.scope.kind=.function
 glob:X.env.globals=mainGlobals
 blt:X.env.builtins=builtinsNs
 above:X.s₀.heap.objs.size<=X.env.locals
 inj:∀x y c,X.env.cells.lookup x=some c->X.env.cells.lookup y=some c->x=y
 has:∀x,(X.env.kindOf x=some .cell∨X.env.kindOf x=some .free)->∃c,X.env.cells.lookup x=some c
 cab:∀x c,X.fn x=true->X.env.cells.lookup x=some c->X.s₀.heap.objs.size<=c
 hd:X.calm=true->X.A.handled=none
 frames:X.A.frames=some X.stack
 stk:X.stack=X.outer∨(X.stack=X.env::X.outer/\X.env.frame=some X.env.locals)
 exf:∀b∈X.ex,b≠X.env.locals/\∀x c,X.env.cells.lookup x=some c->c≠b
 bs:∀b o,X.base.get? b=some o->X.s₀.heap.get? b=some o/\X.H₀ b=none
 bsz:X.base.objs.size<=X.s₀.heap.objs.size
 noex:∀b o,X.base.get? b=some o->b∉X.ex
 exfs:∀b∈X.ex,b∉X.fs
 funs:X.s₀.heap.FunFrames X.base X.outer
 frf:∀b∈X.fs,X.H₀ b=none
 tb:∀P q,jP X.mg X.base P q->X.H₀ P=some (.tbl q)
structure Inv(X:Cx)(pins:TB)(σ:List (Option V))(H:Hp)(s:Shared):Prop where
 ok:X.Ok
 os:s.os=X.s₀.os
 bare:AllBare s.gens
 base:Un X.fs X.ex X.H₀ H X.s₀.heap s.heap
 loc:∃m,s.heap.Ns X.env.locals m/\∀(i:Nat) (x:Str) (v:V),X.N[i]?=some x->σ[i]?=some (some v)->Lo X.env.scope x->∃u,YA v u/\zu X.env s.heap m x u
 cell:∀x c,X.env.cells.lookup x=some c->∃v,s.heap.IsCell c v
 free:H X.env.locals=none
 freeC:∀x c,X.env.cells.lookup x=some c->H c=none
 pin:∀p∈X.pn++pins,s.heap.get? p.1=some p.2/\H p.1=none/\p.1≠X.env.locals/\p.1∉X.fs/\∀v,p.2.data≠.cell v
 hok:iN X.prog X.w H s.heap
 len:σ.length=X.N.length
end
section
variable{X:Cx}{f:TB}{σ:List (Option V)}{H g:Hp}{s:Shared}{h':Heap}
section
variable{a:Addr}{g':Array GenState}{ch:List Addr}{i:Nat}{x:Str}{M:Model}{A:Around}{E:YC}{u:Value}{Q:Unit->Shared->Prop}
theorem Cx.Ok.nofr(ok:X.Ok){b:Addr}{o:Obj}(e:X.base.get? b=some o):b∉X.fs:=λhb=>by have:=(ok.funs.mem hb).1;rw[e]at this;cases this
theorem Inv.bs(I:Inv X f σ H s):∀b o,X.base.get? b=some o->s.heap.get? b=some o/\H b=none:=λb o e =>
 ⟨I.base.keep b o (I.ok.bs b o e).1 (I.ok.bs b o e).2 (I.ok.nofr e) (I.ok.noex b o e),I.base.free b o (I.ok.bs b o e).1 (I.ok.bs b o e).2 (I.ok.noex b o e)⟩
theorem Inv.bk(I:Inv X f σ H s):∀b o,X.base.get? b=some o->s.heap.get? b=some o:=λb o e=>(I.bs b o e).1
theorem Inv.tb(I:Inv X f σ H s):∀P q,jP X.mg X.base P q->H P=some (.tbl q):=λP q h=>I.base.tbls P q (I.ok.tb P q h)
theorem Inv.mod(I:Inv X f σ H s):Mod X.K X.mg X.base:=I.ok.mod
theorem Inv.kIn(I:Inv X f σ H s):X.K.In s.heap:=I.ok.mod.kin.keeps I.bk
theorem Inv.nolimit(I:Inv X f σ H s):s.heap.NoLimit:=I.ok.mod.nolimit.keeps I.bk
theorem Inv.lt(I:Inv X f σ H s):X.env.locals<s.heap.objs.size:=let⟨_,h,_⟩:=I.loc;h.lt
theorem Inv.sz(I:Inv X f σ H s):X.s₀.heap.objs.size<=s.heap.objs.size:=QX I.ok.above (QAp I.lt)
theorem Inv.nofs(I:Inv X f σ H s)(h:s.heap.objs.size<=a):a∉X.fs:=λhb=>by obtain⟨_,o,y,_⟩:=I.ok.funs.mem hb;exact absurd (Ql (Qb y) (QX I.sz h)) (qw _)
theorem Inv.cne(I:Inv X f σ H s):∀x c,X.env.cells.lookup x=some c->c≠X.env.locals:=λx c e z=>by obtain⟨v,o,w,k⟩:=I.cell x c e;obtain⟨m,⟨b,j,l,h,y,_⟩,_⟩:=I.loc;rw[z,h]at w;cases w;rw[y]at k;cases k
theorem Inv.funs(I:Inv X f σ H s):s.heap.FunFrames X.base X.outer:=by
 have all:∀(l:List Env),(∀b∈HX l,b∈X.fs)->X.s₀.heap.FunFrames X.base l->s.heap.FunFrames X.base l:=by
  intro l;induction l with|nil=>intro _ _;trivial|cons p r w=>intro v hl;obtain⟨hk,⟨L,o,h,m,j,n⟩,k⟩:=hl;have y:L∈X.fs:=v L (by unfold HX;rw[WB,h];exact QD);obtain⟨q,e⟩:=I.base.slot L o j (I.ok.frf L y) y λz=>I.ok.exfs L z y;exact⟨hk,⟨L,_,h,m,e,n⟩,w (λb hb=>v b (by unfold HX;rw[WB,h];exact QC _ hb)) k⟩
 exact all X.outer (λ_ hb=>hb) I.ok.funs
theorem Inv.stack(I:Inv X f σ H s):s.heap.FunFrames X.base X.stack:=by
 rcases I.ok.stk with e|⟨e,y⟩
 rw[e];exact I.funs;rw[e];obtain⟨m,h,_⟩:=I.loc;refine .cons (by rw[I.ok.kind];decide) y h ?_ I.funs;exact Heap.get?_none_of_le (QX I.ok.bsz I.ok.above)
theorem Inv.stkSub(I:Inv X f σ H s):∀b∈HX X.stack,b∈X.env.locals::X.fs:=λb hb=>by
 rcases I.ok.stk with e|⟨e,h⟩
 rw[e]at hb;exact QC _ hb;rw[e]at hb;unfold HX at hb;rw[WB,h]at hb;exact hb
theorem Inv.stkFree(I:Inv X f σ H s):∀b∈HX X.stack,H b=none:=λb hb=>by rcases QM.mp (I.stkSub b hb) with e|hb;rw[e];exact I.free;obtain⟨_,o,h,_⟩:=I.ok.funs.mem hb;exact I.base.free b o h (I.ok.frf b hb) λz=>I.ok.exfs b z hb
theorem Inv.step{t':Nat}{d':Drawn}(I:Inv X f σ H s)
  (j:∀b∈ch,(b∈X.ex∨X.s₀.heap.objs.size<=b)/\b≠X.env.locals/\(∀x c,X.env.cells.lookup x=some c->c≠b)/\∀p∈X.pn++f,p.1≠b)
  (keep:∀b o,b≠X.env.locals->b∉X.fs->b∉ch->s.heap.get? b=some o->H b=none->h'.get? b=some o)
  (W:∀b o,b≠X.env.locals->b∈X.fs->b∉ch->s.heap.get? b=some o->H b=none->∃R,h'.get? b=some { o with slots:=R }) (free:∀b o,b∉ch->s.heap.get? b=some o->H b=none->g b=none)
  (K:∀b o,b∉ch->s.heap.get? b=some o->∃J,h'.get? b=some J)
  (F:∀b xs,H b=some (.tup xs)->g b=some (.tup xs)) (N:∀b o u,H b=some (.frz o u)->g b=some (.frz o u)) (G:∀b O,H b=some (.tbl O)->g b=some (.tbl O))
  (ns:∀m,s.heap.Ns X.env.locals m->h'.Ns X.env.locals m) (S:iN X.prog X.w g h') (hg:AllBare g') :
  Inv X f σ g { s with heap:=h',gens:=g',drawn:=d',toks:=t' }:=by
 have L:∀b o,X.s₀.heap.get? b=some o->b≠X.env.locals:=λb o e=>Qm (Ql (Qb e) I.ok.above);have Z:∀b o,X.s₀.heap.get? b=some o->b∉X.ex->b∉ch:=λb o e h hb=>by rcases(j b hb).1 with z|z;exact h z;exact absurd (Ql (Qb e) z) (qw _)
 have Y:∀x c,X.env.cells.lookup x=some c->∀v,s.heap.IsCell c v->h'.IsCell c v:=λx c e v ⟨o,C,hd⟩=>by have y:c∉ch:=λz=>(j c z).2.2.1 x c e rfl;by_cases hc:c∈X.fs;obtain⟨R,q⟩:=W c o (I.cne x c e) hc y C (I.freeC x c e);exact⟨_,q,hd⟩;exact⟨o,keep c o (I.cne x c e) hc y C (I.freeC x c e),hd⟩
 refine⟨I.ok,I.os,hg,⟨λb o e n hb h=>?_,λb o e n hb h=>?_,λb o e n h=>?_,λb o e h=>?_,λb xs e=>F b xs (I.base.tups b xs e),λb o xs e=>N b o xs (I.base.frzs b o xs e),λb O e=>?_⟩,?_,λx c e=>?_,?_,λx c e=>?_,λp hp=>?_,S,I.len⟩;exact keep b o (L b o e) hb (Z b o e h) (I.base.keep b o e n hb h) (I.base.free b o e n h);obtain⟨R,B⟩:=I.base.slot b o e n hb h;obtain⟨P,e2⟩:=W b _ (L b o e) hb (Z b o e h) B (I.base.free b o e n h);exact⟨P,e2⟩;obtain⟨J,B⟩:=I.base.there b o e h;exact free b J (Z b o e h) B (I.base.free b o e n h);obtain⟨J,B⟩:=I.base.there b o e h;exact K b J (Z b o e h) B;exact G b _ (I.base.tbls b O e);obtain⟨m,hn,hl⟩:=I.loc;refine⟨m,ns m hn,λi x v B e2 e3=>?_⟩;obtain⟨u,r,l⟩:=hl i x v B e2 e3;refine⟨u,r,?_⟩;rcases l with l|⟨k,c,e,z⟩
 exact .inl l;exact .inr ⟨k,c,e,Y x c e _ z⟩;obtain⟨v,z⟩:=I.cell x c e;exact⟨v,Y x c e v z⟩;obtain⟨m,⟨o,_,_,C,_⟩,_⟩:=I.loc;exact free _ o (λz=>(j _ z).2.1 rfl) C I.free;obtain⟨v,o,C,hd⟩:=I.cell x c e;exact free c o (λz=>(j c z).2.2.1 x c e rfl) C (I.freeC x c e);obtain⟨e,n,ne,nf,d⟩:=I.pin p hp;have y:p.1∉ch:=λz=>(j p.1 z).2.2.2 p hp rfl;exact⟨keep p.1 p.2 ne nf y e n,free p.1 p.2 y e n,ne,nf,d⟩
theorem Inv.un{t':Nat}(I:Inv X f σ H s)(u:Un X.fs [] H g s.heap h')(y:iN X.prog X.w g h'):Inv X f σ g { s with heap:=h',toks:=t' }:=by obtain⟨m,⟨o,K,B,j,r⟩,_⟩:=id I.loc;obtain⟨Y,q⟩:=u.any j I.free (by simp);exact I.step (g':=s.gens) (d':=s.drawn) (ch:=[]) (λ_ z=>nomatch z) (λb o _ hb _ e n=>u.keep b o e n hb (by simp)) (λb o _ hb _ e n=>u.slot b o e n hb (by simp)) (λb o _ e n=>u.free b o e n (by simp)) (λb o _ e=>u.there b o e (by simp)) u.tups u.frzs u.tbls (λW p=>by obtain⟨Z,v,k,h,l⟩:=p;rw[j]at h;cases h;exact⟨_,v,k,q,l⟩) y I.bare
theorem Inv.call{t':Nat}{d':Drawn}(I:Inv X f σ H s)(u:Un (HX X.stack) ch H g s.heap h')(v:iN X.prog X.w g h')(W:AllBare g')
  (y:∀b∈ch,(b∈X.ex∨X.s₀.heap.objs.size<=b)/\b≠X.env.locals/\(∀x c,X.env.cells.lookup x=some c->c≠b)/\∀p∈X.pn++f,p.1≠b) :
  Inv X f σ g { s with heap:=h',gens:=g',drawn:=d',toks:=t' }:=by
 obtain⟨m,⟨o,F,G,q,r⟩,_⟩:=id I.loc;obtain⟨K,k⟩:=u.any q I.free λz=>(y _ z).2.1 rfl;exact I.step (ch:=ch) y (λb o k hb hc e n=>u.keep b o e n (λz=>(QM.mp (I.stkSub b z)).elim k hb) hc) (λb o _ _ hc e n=>u.any e n hc) (λb o hc e n=>u.free b o e n hc) (λb o hc e=>u.there b o e hc) u.tups u.frzs u.tbls (λC Z=>by obtain⟨B,j,l,h,Y⟩:=Z;rw[q]at h;cases h;exact⟨_,j,l,k,Y⟩) v W
theorem Inv.turned{t':Nat}{it:Addr}(I:Inv X f σ H s)(k:∀b o,b≠it->s.heap.get? b=some o->h'.get? b=some o)(j:H it=none)(y:it≠X.env.locals)
  (W:it∈X.ex∨X.s₀.heap.objs.size<=it) (Z:∀x c,X.env.cells.lookup x=some c->c≠it) (Y:∀p∈X.pn++f,p.1≠it):Inv X f σ H { s with heap:=h',toks:=t' }:=by
 have h:∀b u,H b=some u->b≠it:=λb u e z=>by rw[z,j]at e;cases e
 refine I.step (g':=s.gens) (d':=s.drawn) (ch:=[it]) (λb hb=>?_) (λb o _ _ hc e _=>k b o (λz=>hc (by simp[z])) e) (λb o _ _ hc e _=>⟨o.slots,k b o (λz=>hc (by simp[z])) e⟩) (λ_ _ _ _ n=>n)
  (λb o hc e=>⟨o,k b o (λz=>hc (by simp[z])) e⟩) (λ_ _ e=>e) (λ_ _ _ e=>e) (λ_ _ e=>e) (λm l=>?_) (λb u e=>?_) I.bare
 have e:b=it:=by simpa using hb
 subst e;exact⟨W,y,Z,Y⟩;obtain⟨o,K,B,w,r⟩:=l;exact⟨o,K,B,k _ o (qD y) w,r⟩;refine(I.hok b u e).stay (λc v hc q=>k c v ?_ q) (λ_ q=>q) λ_ _ q=>q;rcases hc with z|z;rw[z];exact h b u e;exact h c _ z
theorem Inv.tok(I:Inv X f σ H s)(t:Nat):Inv X f σ H { s with toks:=t }:=I.un (h':=s.heap) (t':=t) Un.refl I.hok
theorem Inv.kept{t':Nat}(I:Inv X f σ H s)(k:∀b u,s.heap.get? b=some u->h'.get? b=some u):Inv X f σ H { s with heap:=h',toks:=t' }:=I.un (Un.kept k) (I.hok.kept k)
theorem Inv.laid{o:HO}{t':Nat}(I:Inv X f σ H s)(k:∀b u,s.heap.get? b=some u->h'.get? b=some u)(h:s.heap.objs.size<=a)(new:zB X.prog X.w (BA H a o) h' a o) :
  Inv X f σ (BA H a o) { s with heap:=h',toks:=t' }:=I.un (Un.laid k h (I.hok.fresh h)) (I.hok.laid k h new)
theorem Inv.write{x e:Addr}{o:HO}{t':Nat}(I:Inv X f σ H s)(y:Yk (H x))(z:e=x∨H e=some (.own x))(k:∀b u,b≠e->s.heap.get? b=some u->h'.get? b=some u)(h:∃u,h'.get? e=some u)
  (new:zB X.prog X.w (BA H x o) h' x o):Inv X f σ (BA H x o) { s with heap:=h',toks:=t' }:=I.un (Un.write y z k h) (I.hok.write y z k h new)
theorem Inv.pins_of{y:TB}(I:Inv X f σ H s)(h:∀p∈y,s.heap.get? p.1=some p.2/\H p.1=none/\p.1≠X.env.locals/\p.1∉X.fs/\∀v,p.2.data≠.cell v):Inv X y σ H s :=
 ⟨I.ok,I.os,I.bare,I.base,I.loc,I.cell,I.free,I.freeC,λp w=>(QT.mp w).elim (λz=>I.pin p (Qf _ z)) (h p),I.hok,I.len⟩
theorem gS{N:LS}(h:N.Nodup){j:Nat}(a:N[i]?=some x)(b:N[j]?=some x):i=j:=by obtain⟨w,z⟩:=Qh.mp a;obtain⟨v,y⟩:=Qh.mp b;exact(List.getElem_inj h).mp (z.trans y.symm)
theorem bO{v:V}(I:Inv X f σ H s)(hN:X.N.Nodup)(O:X.N[i]?=some x)(W:Zk X.env.scope x)(r:YA v u)
  (h:∀s',Inv X f (σ.set i (some v)) H s'->(∃a,qW a s.heap s'.heap/\(a=X.env.locals∨X.env.cells.lookup x=some a))->Q () s') (hf:X.fn x=true∨X.env.scope.names.lookup x=some .local):wpAny M A (storeName X.env x u) Q E s:=by
 obtain⟨m,hn,hl⟩:=id I.loc;have P:(X.env.scope.kind==.class||(X.env.scope.kind==.module&&X.env.locals != X.env.globals))=false:=by rw[I.ok.kind];rfl
 have C:i<σ.length:=by rw[I.len];exact(Qh.mp O).1
 have cne:=I.cne;have Y:∀{a:Addr}{h':Heap},(∃o,s.heap.get? a=some o/\H a=none)->qW a s.heap h'->iN X.prog X.w H h':=λ{a h'} ha l b ob e=>by obtain⟨_,_,K⟩:=ha;refine(I.hok b ob e).stay (λc w' hc q=>(l.2 c ?_).trans q) (λ_ q=>q) λ_ _ q=>q;rintro rfl;rcases hc with rfl|hc;rw[K]at e;cases e;rw[K]at hc;cases hc
 rcases W with hk|hk;refine wpAny_storeName_local hk hn (λh' hn' l=>?_) P;obtain⟨oL,_,_,hoL,_⟩:=id hn;refine h _ ⟨I.ok,I.os,I.bare,⟨λb o e n hb W=>?_,λb o e n hb W=>?_,I.base.free,λb o e W=>?_,I.base.tups,I.base.frzs,I.base.tbls⟩,⟨_,hn',λj y v' Z B e3=>?_⟩,λy c e=>?_,I.free,I.freeC,λp hp=>?_,Y ⟨oL,hoL,I.free⟩ l,by simpa using I.len⟩ ⟨_,l,.inl rfl⟩;exact(l.2 b (Qm (Ql (Qb e) I.ok.above))).trans (I.base.keep b o e n hb W);obtain⟨sl,Z⟩:=I.base.slot b o e n hb W;exact⟨sl,(l.2 b (Qm (Ql (Qb e) I.ok.above))).trans Z⟩;obtain⟨o',Z⟩:=I.base.there b o e W;exact⟨o',(l.2 b (Qm (Ql (Qb e) I.ok.above))).trans Z⟩;by_cases F:j=i
 ·subst F
  rw[O]at Z;cases Z;rw[qe C]at B;cases B;exact⟨u,r,.inl ⟨hk,by simp⟩⟩
 rw[qS (qD F)]at B;obtain⟨u',r',q⟩:=hl j y v' Z B e3;refine⟨u',r',?_⟩;rcases q with⟨k,e⟩| ⟨k,c,e,z⟩
 refine .inl ⟨k,?_⟩;have:y≠x:=λe=>F (gS hN Z (e▸O));simp[this,e];exact .inr ⟨k,c,e,z.sameBut l (cne y c e)⟩;obtain⟨w',z⟩:=I.cell y c e;exact⟨w',z.sameBut l (cne y c e)⟩;obtain⟨e,n,ne,nf,d⟩:=I.pin p hp;exact⟨(l.2 p.1 ne).trans e,n,ne,nf,d⟩;have G:X.fn x=true:=by rcases hf with z|z;exact z;rw[z]at hk;cases hk
 obtain⟨c,hc⟩:=I.ok.has x (.inl hk);obtain⟨w',z⟩:=I.cell x c hc;refine wpAny_storeName_cell I.ok.kind hk hc z (λh' S l=>?_);obtain⟨oc,L,J⟩:=id z;refine h { s with heap:=h' } ⟨I.ok,I.os,I.bare,⟨λb o e n hb W=>?_,λb o e n hb W=>?_,I.base.free,λb o e W=>?_,I.base.tups,I.base.frzs,I.base.tbls⟩,⟨m,hn.sameBut l (qD (cne x c hc)),λj y v' Z B e3=>?_⟩,λy c' e=>?_,I.free,I.freeC,λp hp=>?_,Y ⟨oc,L,I.freeC x c hc⟩ l,by simpa using I.len⟩ ⟨c,l,.inr hc⟩;exact(l.2 b (Qm (Ql (Qb e) (I.ok.cab x c G hc)))).trans (I.base.keep b o e n hb W);obtain⟨sl,Z⟩:=I.base.slot b o e n hb W;exact⟨sl,(l.2 b (Qm (Ql (Qb e) (I.ok.cab x c G hc)))).trans Z⟩;obtain⟨o',Z⟩:=I.base.there b o e W;exact⟨o',(l.2 b (Qm (Ql (Qb e) (I.ok.cab x c G hc)))).trans Z⟩;by_cases F:j=i
 ·subst F
  rw[O]at Z;cases Z;rw[qe C]at B;cases B;exact⟨u,r,.inr ⟨.inl hk,c,hc,S⟩⟩
 rw[qS (qD F)]at B;obtain⟨u',r',q⟩:=hl j y v' Z B e3;refine⟨u',r',?_⟩;rcases q with q|⟨k,c',e,z'⟩
 exact .inl q;refine .inr ⟨k,c',e,z'.sameBut l ?_⟩;rintro rfl;exact F (gS hN Z (I.ok.inj _ _ _ e hc▸O));by_cases R:c'=c
 ·subst R;exact⟨_,S⟩
 obtain⟨w2,z2⟩:=I.cell y c' e;exact⟨w2,z2.sameBut l R⟩;obtain⟨e,n,ne,nf,d⟩:=I.pin p hp;refine⟨(l.2 p.1 ?_).trans e,n,ne,nf,d⟩;intro q;rw[q,L]at e;have q':oc=p.2:=Qv e;exact d w' (by rw[<- q'];exact J)
theorem YR{v:V}(I:Inv X f σ H s)(k:X.N.Nodup)(z:X.N[i]?=some x)(y:Zk X.env.scope x)(r:YA v u)
  (h:∀s',Inv X f (σ.set i (some v)) H s'->Q () s') (w:X.fn x=true∨X.env.scope.names.lookup x=some .local):wpAny M A (storeName X.env x u) Q E s :=
 bO I k z y r (λs' b _=>h s' b) w
theorem Inv.call'{s':Shared}(I:Inv X f σ H s)(v:s'.os=s.os)(u:Un (HX X.stack) ch H g s.heap s'.heap)(h:iN X.prog X.w g s'.heap)(k:AllBare s'.gens)
  (y:∀b∈ch,(b∈X.ex∨X.s₀.heap.objs.size<=b)/\b≠X.env.locals/\(∀x c,X.env.cells.lookup x=some c->c≠b)/\∀p∈X.pn++f,p.1≠b):Inv X f σ g s':=by
 obtain⟨h',g',d',t',z⟩:=s';have e:z=s.os:=v;subst e;exact I.call (g':=g') (t':=t') (d':=d') u h k y
end
end
noncomputable abbrev XK:=Value->Option Addr->Hp->Prop
noncomputable abbrev St:=List (Option V)
noncomputable abbrev VK:=V->Hp->Prop
noncomputable abbrev TE:=St->Hp->VK->Prop
noncomputable abbrev TT:=St->Hp->(Bool->Hp->Prop)->Prop
noncomputable abbrev TA:=St->Hp->(LV->Hp->Prop)->Prop
structure Ends where
 nx:St->Hp->Prop
 rt:VK
 bk:St->Hp->Prop:=λ_ _=>False
 ct:St->Hp->Prop:=λ_ _=>False
noncomputable abbrev TS:=Ends->St->Hp->Prop
def EP(X:Cx)(h:TB)(σ:St)(Q:VK)(u:Value)(s':Shared):Prop:=∃v x,Inv X h σ x s'/\YA v u/\Q v x
def TP(X:Cx)(h:TB)(σ:St)(Q:Bool->Hp->Prop)(b:Bool)(s':Shared):Prop:=∃x,Inv X h σ x s'/\Q b x
def AP(X:Cx)(h:TB)(σ:St)(Q:LV->Hp->Prop)(us:LW)(s':Shared):Prop:=∃x y,Inv X h σ y s'/\nA x us/\Q x y
def SP(X:Cx)(x:TB)(D:Ends)(f:Flow)(s':Shared):Prop :=
 match f with
 | .next=>∃h y,Inv X x h y s'/\D.nx h y|.brk=>∃h y,Inv X x h y s'/\D.bk h y|.cont=>∃h y,Inv X x h y s'/\D.ct h y|.ret u=>∃v h y,Inv X x h y s'/\YA v u/\D.rt v y
def PE(X:Cx)(e:Expr)(t:TE):Prop :=
 ∀(h:TB) (s:Shared) (x:St) (H:Hp) (Q:VK),Inv X h x H s->t x H Q->wpAny (model X.prog X.w) X.A (eval e X.env) (EP X h x Q) X.xe s
def PT(X:Cx)(e:Expr)(t:TT):Prop :=
 ∀(h:TB) (s:Shared) (x:St) (H:Hp) (Q:Bool->Hp->Prop),Inv X h x H s->t x H Q->wpAny (model X.prog X.w) X.A (isTrue e X.env (eval e X.env)) (TP X h x Q) X.xe s
def PW(X:Cx)(e:Expr)(t:TT):Prop :=
 ∀(x:Sem Value) (h:TB) (s:Shared) (y:St) (H:Hp) (Q:Bool->Hp->Prop),Inv X h y H s->t y H Q->wpAny (model X.prog X.w) X.A (isTrue e X.env x) (TP X h y Q) X.xe s
theorem PW.pt{X:Cx}{e:Expr}{t:TT}(h:PW X e t):PT X e t:=h _
def PA(X:Cx)(es:List Expr)(t:TA):Prop :=
 ∀(y:Pos) (h:TB) (s:Shared) (x:St) (H:Hp) (Q:LV->Hp->Prop),Inv X h x H s->t x H Q->wpAny (model X.prog X.w) X.A (spliced (backTo y (starEach es X.env))) (AP X h x Q) X.xe s
def PS(X:Cx)(st:Stmt)(t:TS):Prop :=
 ∀(h:TB) (s:Shared) (x:St) (H:Hp) (D:Ends),Inv X h x H s->t D x H->wpAny (model X.prog X.w) X.A (exec st X.env) (SP X h D) X.xe s
def mW(X:Cx)(st:List Stmt)(t:TS):Prop :=
 ∀(h:TB) (s:Shared) (x:St) (H:Hp) (D:Ends),Inv X h x H s->t D x H->wpAny (model X.prog X.w) X.A (execs st X.env) (SP X h D) X.xe s
theorem AB{α:Type}{t:Sem α}{Q y:α->Shared->Prop}{M:Model}{A:Around}{E:YC}{s:Shared}(h:wpAny M A t Q E s)(z:∀a s,Q a s->y a s):wpAny M A t y E s:=qq h z λ_ _ x=>x
section
variable{X:Cx}
section
variable{z:TB}{s:Shared}{σ:St}{H:Hp}{x:Str}{pos:Pos}{E Q:YC}{u:Value}
theorem bin{a b:Expr}{ta d:TE}(r:PE X a ta)(hb:PE X b d){R:V->V->Hp->Prop}(I:Inv X z σ H s)(h:ta σ H λx j=>d σ j λy k=>R x y k)
  {α:Type}{Q:α->Shared->Prop}{f:Value->Value->Sem α}
  (q:∀v u i x y k,Inv X z σ k i->YA x v->YA y u->R x y k->wpAny (model X.prog X.w) X.A (f v u) Q X.xe i) :
  wpAny (model X.prog X.w) X.A (eval a X.env) (λv g=>wpAny (model X.prog X.w) X.A (eval b X.env) (λu e=>wpAny (model X.prog X.w) X.A (f v u) Q X.xe e) X.xe g) X.xe s:=by
 refine AB (r z s σ H _ I h) λv l ⟨x,j,Z,n,p⟩=>?_;refine AB (hb z l σ j _ Z p) λu i ⟨y,k,Y,m,o⟩=>?_;exact q v u i x y k Y n m o
def Yq(i:Nat):TE:=λσ H Q=>∃v,σ[i]?=some (some v)/\Q v H
def tC(v:V):TE:=λ_ H Q=>Q v H
theorem O3{i:Nat}(f:X.N[i]?=some x)(hv:Lo X.env.scope x)(w:(x==("__debug__":Str))=false:=by decide)(k:(x==("__classdict__":Str))=false:=by decide):PE X (.Name x pos) (Yq i):=by
 intro z s σ H Q I h;obtain⟨v,e,h⟩:=h;obtain⟨m,a,hl⟩:=I.loc;obtain⟨u,r,l⟩:=hl i x v f e hv;have fin:EP X z σ Q u s:=⟨v,H,I,r,h⟩
 rcases l with⟨hk,b⟩| ⟨hk,c,hc,y⟩
 exact QAz (QA1 I.ok.kind hk a b fin) w;rcases hk with hk|hk
 ·exact QAz (wpAny_loadName_cell I.ok.kind hk hc y fin) w
 exact QAz (QBC I.ok.kind hk hc y fin k) w
theorem GU{i j pos}:PE X (.Constant (.int i) j pos) (tC (.int i)):=λ_ _ _ H _ I h=>QBR ⟨.int i,H,I.tok _,⟨_,rfl⟩,h⟩
theorem Fc{b j pos}:PE X (.Constant (.bool b) j pos) (tC (.bl b)):=λ_ _ _ H _ I h=>Constant_bool ⟨.bl b,H,I,rfl,h⟩
theorem T3{j pos}:PE X (.Constant .none j pos) (tC .non):=λ_ _ _ H _ I h=>Constant_none ⟨.non,H,I,rfl,h⟩
theorem Dg{x j pos}:PE X (.Constant (.str x) j pos) (tC (.str x)):=λ_ _ _ H _ I h=>Calls.Constant_str ⟨.str x,H,I.tok _,⟨_,rfl⟩,h⟩
def Gl(X:Cx)(x:Str):Prop:=X.env.kindOf x=some .globalImplicit
theorem pQ(I:Inv X z σ H s)(v:Gl X x)(y:X.mg x=some u)(h:Q u s)
  (k:(x==("__debug__":Str))=false:=by decide):wpAny (model X.prog X.w) X.A (eval (.Name x pos) X.env) Q E s :=
 W8 I.ok.kind v (Calls.loadGlobal_global (by rw[I.ok.glob];exact I.mod.glob.keeps I.bk) y h) k
theorem XJ(I:Inv X z σ H s)(k:Gl X x)(v:X.mg x=none)(hv:bootBuiltins x=some u)(h:Q u s)
  (y:x≠"__name__":=by decide) (a:(x==("__debug__":Str))=false:=by decide):wpAny (model X.prog X.w) X.A (eval (.Name x pos) X.env) Q E s:=by
 obtain⟨f,e,b⟩:=I.mod.blt;exact W8 I.ok.kind k (Calls.loadGlobal_builtin (by rw[I.ok.glob];exact I.mod.glob.keeps I.bk) v (by rw[I.ok.blt];exact e.keeps I.bk) ((b x y).trans hv) h) a
theorem b9{v:V}(w:Gl X x)(y:X.mg x=some u)(r:YA v u)(k:(x==("__debug__":Str))=false:=by decide):PE X (.Name x pos) (tC v) :=
 λ_ _ _ H _ I h=>pQ I w y ⟨v,H,I,r,h⟩ k
end
variable{a b:Expr}{ta d:TE}{pos:Pos}
variable{g n:TT}{k:List Expr}
noncomputable def Gq(t u:TT):TT:=λh H Q=>t h H λc x=>if c=true then u h x Q else Q false x
noncomputable def Iv(t u:TT):TT:=λh H Q=>t h H λc x=>if c=true then Q true x else u h x Q
def Uq(t:TT):TT:=λh H Q=>t h H λc x=>Q (!c) x
theorem P8(z:PT X a g):PW X (.BoolOp .And [a] pos) g:=by
 intro u x s y H Q I h;refine isTrue_and (AB (z x s y H Q I h) λc v e=>?_);cases c with|true=>exact isTrue_and_nil e|false=>exact e
theorem rg(z:PT X a g):PW X (.BoolOp .Or [a] pos) g:=by
 intro u x s y H Q I h;refine isTrue_or (AB (z x s y H Q I h) λc v e=>?_);cases c with|false=>exact isTrue_or_nil e|true=>exact e
theorem Y3(f:PT X a g)(hb:PW X (.BoolOp .And (b::k) pos) n):PW X (.BoolOp .And (a::b::k) pos) (Gq g n):=by
 intro w x s y H Q I h;refine isTrue_and (AB (f x s y H _ I h) λc e ⟨v,u,z⟩=>?_);cases c with|true=>exact hb w x e y v Q u z|false=>exact⟨v,u,z⟩
theorem Uc(f:PT X a g)(hb:PW X (.BoolOp .Or (b::k) pos) n):PW X (.BoolOp .Or (a::b::k) pos) (Iv g n):=by
 intro w x s y H Q I h;refine isTrue_or (AB (f x s y H _ I h) λc e ⟨v,u,z⟩=>?_);cases c with|true=>exact⟨v,u,z⟩|false=>exact hb w x e y v Q u z
theorem eg(z:PT X a g):PT X (.UnaryOp .Not a pos) (Uq g):=by intro x s y H Q I h;exact isTrue_not (z x s y H (λc u=>Q (!c) u) I h)
noncomputable def Kl(ta d:TE):TE:=λh H Q=>ta h H λx y=>∃c,x=.bl c/\if c=true then d h y Q else Q (.bl false) y
noncomputable def Xq(ta d:TE):TE:=λh H Q=>ta h H λx y=>∃c,x=.bl c/\if c=true then Q (.bl true) y else d h y Q
theorem R3{op}{t:TE}(h:PE X a t):PE X (.BoolOp op [a] pos) t:=λx s y H Q I z=>BoolOp_one (h x s y H Q I z)
theorem j4(j:PE X a ta)(hb:PE X (.BoolOp .And (b::k) pos) d):PE X (.BoolOp .And (a::b::k) pos) (Kl ta d):=by
 intro y s u H Q I h;refine BoolOp_and (AB (j y s u H _ I h) λv f ⟨x,e,w,i,z⟩=>?_);obtain⟨c,rfl,z⟩:=z;cases i;refine wP ?_;cases c with|true=>exact hb y f u e Q w z|false=>exact⟨.bl false,e,w,rfl,z⟩
theorem Dc(j:PE X a ta)(hb:PE X (.BoolOp .Or (b::k) pos) d):PE X (.BoolOp .Or (a::b::k) pos) (Xq ta d):=by
 intro y s u H Q I h;refine BoolOp_or (AB (j y s u H _ I h) λv f ⟨x,e,w,i,z⟩=>?_);obtain⟨c,rfl,z⟩:=z;cases i;refine wP ?_;cases c with|false=>exact hb y f u e Q w z|true=>exact⟨.bl true,e,w,rfl,z⟩
end
def EC(K:QE)(H:Hp)(a:Addr)(xs:LV):Prop :=
 Rd H a (.lst xs) ∨
  ∃(o:Obj) (h:Array Value) (n:Nat),K.lookup a=some o/\o.cls=.type "list"/\o.dict=none/\o.data=.seq h n/\h.size<=sizeLine/\nA xs h.toList
def AD(K:QE)(H:Hp)(a:Addr)(xs:LV):Prop :=
 Rd H a (.tup xs) ∨
  ∃(o:Obj) (h:Array Value) (n:Nat),K.lookup a=some o/\o.cls=.type "tuple"/\o.data=.seq h n/\h.size<=sizeLine/\nA xs h.toList
noncomputable def uN:Value->Option V
 | .none=>some .non|.bool b=>some (.bl b)|.int i _=>some (.int i)|.str x _=>some (.str x)|.bytes b _=>some (.byt b)|.float b _=>some (.flt b)|.ref a=>some (.ref a)|.type n=>some (.ty n)|_=>none
theorem YA.abs{x:V}{u:Value}(r:YA x u):uN u=some x:=by
 cases x with|non=>cases r;rfl|bl _=>cases r;rfl|int _=>obtain⟨t,rfl⟩:=r;rfl|str _=>obtain⟨t,rfl⟩:=r;rfl|byt _=>obtain⟨t,rfl⟩:=r;rfl|flt _=>obtain⟨t,rfl⟩:=r;rfl|ref _=>cases r;rfl|ty _=>cases r;rfl
theorem YA.inj{x y:V}{u:Value}(r:YA x u)(q:YA y u):x=y:=Qv (r.abs.symm.trans q.abs)
theorem nA.inj:∀{xs h:LV}{us:LW},nA xs us->nA h us->xs=h
 |_,_,_,.nil,.nil=>rfl|_,_,_,.cons r t,.cons r' t'=>by rw[r.inj r',nA.inj t t']
section
variable{X:Cx}{x:TB}{σ:St}{H:Hp}{s:Shared}{a:Addr}{xs y:LV}
theorem EC.of{K:QE}(h:H a=some (.lst xs)):EC K H a xs:=.inl (.inl h)
theorem AD.of{K:QE}(h:H a=some (.tup xs)):AD K H a xs:=.inl (.inl h)
theorem Inv.list(I:Inv X x σ H s)(h:EC X.K H a xs):∃its:LW,nA xs its/\PlainL s.heap a its.toArray/\xs.length<=sizeLine:=by
 rcases h with h|⟨o,its,n,hk,hc,v,u,w,r⟩
 obtain⟨z,its,n,r,e⟩:=h.ok I.hok;exact⟨its,r,⟨_,n,e,rfl,rfl,rfl⟩,z⟩;refine⟨its.toList,r,⟨o,n,I.kIn a o hk,hc,v,by simpa using u⟩,?_⟩;have e:=r.length;simp only[Q1]at e;omega
theorem Inv.tuple(I:Inv X x σ H s)(h:AD X.K H a xs):∃its:LW,nA xs its/\IsTup s.heap a its.toArray/\xs.length<=sizeLine:=by
 rcases h with h|⟨o,its,n,hk,hc,u,v,r⟩
 obtain⟨z,its,r,p⟩:=h.ok I.hok;exact⟨its,r,p,z⟩;refine⟨its.toList,r,⟨o,I.kIn a o hk,hc,n,by simpa using u⟩,?_⟩;have e:=r.length;simp only[Q1]at e;omega
theorem Inv.list_inj(I:Inv X x σ H s)(h:EC X.K H a xs)(h':EC X.K H a y):xs=y:=by
 obtain⟨u,r,⟨o,n,e,_,_,d⟩,_⟩:=I.list h;obtain⟨z,k,⟨b,f,v,_,_,w⟩,_⟩:=I.list h';rw[e]at v;cases v;rw[d]at w;injection w with d1 _;have:u=z:=by simpa using congrArg Array.toList d1
 subst this;exact r.inj k
theorem Inv.tuple_inj(I:Inv X x σ H s)(h:AD X.K H a xs)(h':AD X.K H a y):xs=y:=by
 obtain⟨u,r,⟨o,e,_,n,d⟩,_⟩:=I.tuple h;obtain⟨z,k,⟨b,v,_,f,w⟩,_⟩:=I.tuple h';rw[e]at v;cases v;rw[d]at w;injection w with d1 _;have:u=z:=by simpa using congrArg Array.toList d1
 subst this;exact r.inj k
end
noncomputable abbrev Cx.wish(X:Cx)(E:YC):Cx:={ X with xe:=E }
noncomputable abbrev Cx.nox(X:Cx):Cx:=X.wish λ_ _=>False
theorem Cx.Ok.wish{X:Cx}(ok:X.Ok)(E:YC):(X.wish E).Ok :=
 ⟨ok.mod,ok.kind,ok.glob,ok.blt,ok.above,ok.inj,ok.has,ok.cab,ok.hd,ok.frames,ok.stk,ok.exf,ok.bs,ok.bsz,ok.noex,ok.exfs,ok.funs,ok.frf,ok.tb⟩
theorem Cx.Ok.unwish{X:Cx}{E:YC}(ok:(X.wish E).Ok):X.Ok :=
 ⟨ok.mod,ok.kind,ok.glob,ok.blt,ok.above,ok.inj,ok.has,ok.cab,ok.hd,ok.frames,ok.stk,ok.exf,ok.bs,ok.bsz,ok.noex,ok.exfs,ok.funs,ok.frf,ok.tb⟩
section
variable{X:Cx}{x:TB}{σ:St}{H:Hp}{s:Shared}{E:YC}
theorem Inv.wish(I:Inv X x σ H s)(E:YC):Inv (X.wish E) x σ H s:=⟨I.ok.wish E,I.os,I.bare,I.base,I.loc,I.cell,I.free,I.freeC,I.pin,I.hok,I.len⟩
theorem Inv.unwish(I:Inv (X.wish E) x σ H s):Inv X x σ H s:=⟨I.ok.unwish,I.os,I.bare,I.base,I.loc,I.cell,I.free,I.freeC,I.pin,I.hok,I.len⟩
theorem SP.unwish{D:Ends}{f:Flow}{s':Shared}(h:SP (X.wish E) x D f s'):SP X x D f s':=by
 cases f with|next=>obtain⟨y,z,I,q⟩:=h;exact⟨y,z,I.unwish,q⟩|brk=>obtain⟨y,z,I,q⟩:=h;exact⟨y,z,I.unwish,q⟩|cont=>obtain⟨y,z,I,q⟩:=h;exact⟨y,z,I.unwish,q⟩|ret u=>obtain⟨v,y,z,I,r,q⟩:=h;exact⟨v,y,z,I.unwish,r,q⟩
theorem mW.nox{st:List Stmt}{t:TS}(h:mW X.nox st t):mW X st t:=λx s σ H D I y =>
 qq (h x s σ H D (I.wish _) y) (λ_ _ q=>q.unwish) λ_ _ z=>Qd z
end
section
variable{X:Cx}{st:Stmt}{y:List Stmt}{t u:TS}{e:Expr}{te:TE}{pos:Pos}
def Jl:TS:=λD h H=>D.nx h H
def Kq(t u:TS):TS:=λD h H=>t { D with nx:=u D } h H
theorem S8:mW X [] Jl:=λ_ _ x H _ I h=>Wu ⟨x,H,I,h⟩
theorem K3(b:PS X st t)(a:mW X y u):mW X (st::y) (Kq t u):=by
 intro x s w H D I h;refine QBy (AB (b x s w H { D with nx:=u D } I h) λf k q=>?_);cases f with|next=>obtain⟨z,i,g,q⟩:=q;exact a x k z i D g q|ret v=>exact q|brk=>exact q|cont=>exact q
theorem jX(w:PS X st t):mW X [st] t:=by
 intro x s z H D I h;refine QBy (AB (w x s z H D I h) λf k q=>?_);cases f with|next=>exact Wu q|ret v=>exact q|brk=>exact q|cont=>exact q
theorem Inv.quiet{h:TB}{σ:St}{H:Hp}{s:Shared}(I:Inv X h σ H s):interactive X.env=false:=by simp[interactive,I.ok.kind]
def Yl(te:TE):TS:=λD h H=>te h H λ_ x=>D.nx h x
theorem zX(b:PE X e te)(a:swapsWith e none pos.line X.env=pure false:=by rfl):PS X (.Expr e pos) (Yl te):=by intro z s w H D I h;exact wpAny_Expr_any (AB (b z s w H _ I h) λv i ⟨x,g,f,j,k⟩=>⟨w,g,f,k⟩) I.quiet a
def Vq(te:TE):TS:=λD h H=>te h H D.rt
theorem U3(b:PE X e te):PS X (.Return (some e) pos) (Vq te):=by intro z s w H D I h;exact wpAny_Return_some (AB (b z s w H _ I h) λv i ⟨x,g,f,k,a⟩=>⟨x,w,g,f,k,a⟩)
noncomputable def Cq(c:TT)(t u:TS):TS:=λD h H=>c h H λb x=>if b=true then t D h x else u D h x
theorem cm{c:Expr}{a b:List Stmt}{tc:TT}(hc:PT X c tc)(g:mW X a t)(hb:mW X b u):PS X (.If c a b pos) (Cq tc t u):=by
 intro x s z H D I h;refine wpAny_If (AB (hc x s z H _ I h) λd v ⟨f,k,w⟩=>?_);cases d with|true=>exact g x v z f D k w|false=>exact hb x v z f D k w
end
noncomputable abbrev TG:=V->St->Hp->(St->Hp->Prop)->Prop
noncomputable abbrev Et:=LV->St->Hp->(St->Hp->Prop)->Prop
def PG(X:Cx)(h:Expr)(t:TG):Prop :=
 ∀(x:TB) (s:Shared) (z:St) (H:Hp) (v:V) (u:Value) (Q:St->Hp->Prop),Inv X x z H s->YA v u->t v z H Q ->
  wpAny (model X.prog X.w) X.A (assign h X.env u) (λ_ a=>∃y k,Inv X x y k a/\Q y k) X.xe s
def Su(X:Cx)(ts:List Expr)(t:Et):Prop :=
 ∀(h:TB) (s:Shared) (y:St) (H:Hp) (z:LV) (u:LW) (Q:St->Hp->Prop),Inv X h y H s->nA z u->t z y H Q ->
  wpAny (model X.prog X.w) X.A (assignInOrder ((assignEach ts X.env).map (·.2)) u) (λ_ k=>∃x v,Inv X h x v k/\Q x v) X.xe s
noncomputable abbrev Uj:=V->V->V->Hp->(Hp->Prop)->Prop
def jc(X:Cx)(t:Uj):Prop :=
 ∀(h:TB) (s:Shared) (x:St) (H:Hp) (o i v:V) (y z u:Value) (Q:Hp->Prop),Inv X h x H s->YA o y->YA i z->YA v u->t o i v H Q ->
  wpAny (model X.prog X.w) X.A (setItem y z u) (λ_ a=>∃k,Inv X h x k a/\Q k) X.xe s
section
variable{X:Cx}{pos:Pos}
section
variable{i:Nat}{x:Str}{e:Expr}{te:TE}
def BX(i:Nat):TG:=λv h H Q=>Q (h.set i (some v)) H
theorem uX(a:X.N.Nodup)(w:X.N[i]?=some x)(z:Zk X.env.scope x)(k:X.fn x=true∨X.env.scope.names.lookup x=some .local):PG X (.Name x pos) (BX i):=by intro y s f H v u Q I r h;exact QBb (YR I a w z r (λg b=>⟨_,H,b,h⟩) k)
noncomputable def Hs(K:QE)(n:Nat)(t:Et):TG:=λv y H Q=>∃a h,v=.ref a/\AD K H a h/\h.length=n/\t h y H Q
theorem Xg{es:List Expr}{k:Nat}{t:Et}{n:Nat}(hc:X.calm=true)(h:Su X es t)
  (Y:(assignEach es X.env).length=n:=by rfl) (w:(assignEach es X.env).findIdx? (·.1)=none:=by rfl):PG X (.Tuple es k pos) (Hs X.K n t):=by
 intro y s f H v u Q I r z;obtain⟨a,j,W,q,hl,z⟩:=z;subst W;cases r;obtain⟨l,g,p,B⟩:=I.tuple q;refine assign_Tuple_tuple (I.ok.hd hc) p (by simp[Y,<- hl,g.length]) w λZ m=>?_;have A:Inv X y f H { s with heap:=Z }:=I.kept (t':=s.toks) λb o e=>m b o (Qm (Qb e)) e;exact h y _ f H j _ Q A (by simpa using g) z
noncomputable def Ls(y z:TE)(t:Uj):TG:=λv h H Q=>y h H λo k=>z h k λi w=>t o i v w λu=>Q h u
theorem Ug{o i:Expr}{b f:TE}{t:Uj}(Z:PE X o b)(W:PE X i f)(Y:jc X t)
  (K:∀v,assign (.Subscript o i pos) X.env v=(do
   let w <- holding [v] (eval o X.env)
   let k <- holding [v,w] (eval i X.env)
   standAt pos
   holding [v,w,k] (setItem w k v)
   release [v,w,k] []):=by intro _;rfl):PG X (.Subscript o i pos) (Ls b f t):=by
 intro z s a H v u Q I r h;rw[K];refine QF (qy (AB (Z z s a H _ I h) λw j ⟨x,G,C,m,q⟩=>?_));refine QF (qy (AB (W z j a G _ C q) λk g ⟨y,F,B,l,p⟩=>?_));refine QF (QBS (QF (qy (AB (Y z g a F x y v w k u _ B m l r p) λ_ J ⟨E,A,n⟩=>?_))));exact wpAny_release ⟨a,E,A,n⟩
def Pf(te:TE)(g:TG):TS:=λD h H=>te h H λx y=>g x h y D.nx
theorem C3{z:Expr}{g:TG}(l:PE X e te)(j:PG X z g)(f:swapsWithSole [z] e pos.line X.env=pure false:=by rfl)(b:swappedStores [z] e X.env=pure none:=by rfl)
  (m:(assignEach [z] X.env).map (·.2)=[assign z X.env]:=by rfl):PS X (.Assign [z] e pos) (Pf te g):=by
 intro y s u H D I h;refine wpAny_Assign_stores (AB (l y s u H _ I h) λv w ⟨x,o,n,k,a⟩=>?_) f b;rw[m];exact AB (j y w u o x v _ n k a) λ_ p q=>q
theorem ig{pos':Pos}(l:X.N.Nodup)(f:X.N[i]?=some x)(a:Zk X.env.scope x)(j:PE X e te)(b:swapsWith e (some (.Name x pos')) pos.line X.env=pure false:=by rfl)(g:X.fn x=true∨X.env.scope.names.lookup x=some .local) :
  PS X (.Assign [.Name x pos'] e pos) (Pf te (BX i)):=by
 intro z s u H D I h;refine wpAny_Assign_Name (AB (j z s u H _ I h) λv q ⟨y,o,n,w,k⟩=>?_) b;exact YR n l f a w (λp m=>⟨_,o,m,k⟩) g
end
end
section
variable{X:Cx}{pos:Pos}
noncomputable def M1(c:TT)(tb:TS):TS:=λD h H=>∃W:Nat->St->Hp->Prop,(∃m,W m h H)/\∀m h H,W m h H ->
 c h H λb z=>if b=true then ∃N:St->Hp->Prop,(∀x u,N x u->∃y,y < m/\W y x u)/\tb { D with nx:=N,ct:=N,bk:=D.nx } h z else D.nx h z
theorem V3{c:Expr}{body:List Stmt}{tc:TT}{tb:TS}(p:PassesOwn (model X.prog X.w) X.A X.env X.xe)(hc:PT X c tc)(hb:mW X body tb):PS X (.While c body [] pos) (M1 tc tb):=by
 intro y s B H D I h;obtain⟨W,⟨L,E⟩,k⟩:=h;refine wpAny_While (codeAny_whileLoop (λn J=>∃u K,Inv X y u K J/\W n u K) ?_ L ⟨B,H,I,E⟩);rintro n G ⟨z,Z,M,C⟩;refine wQ p (AB (hc y G z Z _ M (k n z Z C)) λb F ⟨Y,r,g⟩=>?_);cases b with
 |true =>
  obtain⟨N,q,g⟩:=g;rw[if_pos rfl];refine wQ p (AB (hb y F z Y _ r g) λf O e=>?_);cases f with|next=>obtain⟨x,a,o,j⟩:=e;obtain⟨l,m,i⟩:=q x a j;exact⟨l,m,x,a,o,i⟩|cont=>obtain⟨x,a,o,j⟩:=e;obtain⟨l,m,i⟩:=q x a j;exact⟨l,m,x,a,o,i⟩|brk=>exact e|ret v=>exact e
 |false=>rw[if_neg QG];exact Wu ⟨z,Y,r,g⟩
end
section
variable{s:Shared}{y:Expr}{P:Program}{w:World}{K:QE}
structure It where
 go:Nat->Hp->Prop
 yld:Nat->Hp->V->Hp->Prop
 stop:Nat->Hp->Prop
def dJ(X:Cx)(h:TB)(H:Hp)(b:Addr):Prop :=
 H b=none/\b≠X.env.locals/\b∉X.fs/\(b∈X.ex∨X.s₀.heap.objs.size<=b)/\(∀x c,X.env.cells.lookup x=some c->c≠b)/\∀p∈X.pn++h,p.1≠b
theorem Inv.fpOk{X:Cx}{h:TB}{σ:St}{H u:Hp}{b:Addr}(I:Inv X h σ H s)(hb:s.heap.objs.size<=b)(a:u b=none):dJ X h u b:=by refine⟨a,wk (Ql I.lt hb),I.nofs hb,.inr (QX I.sz hb),λx c e z=>?_,λp k z=>?_⟩;obtain⟨v,q⟩:=I.cell x c e;exact absurd (Ql q.lt (by rw[z];exact hb)) (qw _);exact absurd (Ql (Qb (I.pin p k).1) (by rw[z];exact hb)) (qw _)
structure Turn0(P:Program)(w:World)(K:QE)(y:Expr)(J:It)(fp:List Addr)(it:Addr)(tn:Nat->Heap->Prop):Prop where
 mem:it∈fp
 obj:∀i h,tn i h->∀b∈fp,∃o,h.get? b=some o/\∀v,o.data≠.cell v
 keep:∀i h h',tn i h->(∀b∈fp,∀o,h.get? b=some o->h'.get? b=some o)->tn i h'
 item:∀(X:Cx),X.prog=P->X.w=w->X.K=K->X.calm=true->∀(i:Nat) (pins:TB) (s:Shared) (σ:St) (H:Hp) (E:YC),Inv X pins σ H s->(∀b∈fp,dJ X pins H b)->tn i s.heap->J.go i H ->
  wpAny (model P w) X.A (pyNext (.ref it)) (λr s1=>∃u,r=some u /\
   wpAny (model P w) X.A (letOwnedTupleGo y (.ref it) u) (λ_ s2=>∃x H',Inv X pins σ H' s2/\YA x u/\J.yld i H x H'/\tn (i+1) s2.heap/\∀b∈fp,H' b=none) E s1) E s
 done:∀(X:Cx),X.prog=P->X.w=w->X.K=K->X.calm=true->∀(i:Nat) (pins:TB) (s:Shared) (σ:St) (H:Hp) (E:YC),Inv X pins σ H s->(∀b∈fp,dJ X pins H b)->tn i s.heap->J.stop i H ->
  wpAny (model P w) X.A (pyNext (.ref it)) (λr s1=>r=none/\Inv X pins σ H s1) E s
structure Turn(P:Program)(w:World)(K:QE)(y:Expr)(J:It)(fp:List Addr)(it:Addr)(tn:Nat->Heap->Prop):Prop extends Turn0 P w K y J fp it tn where
 self:∀(A:Around) (i:Nat) (s:Shared) (Q:YC) (E:YC),tn i s.heap->Q (.ref it) s->wpAny (model P w) A (pyIter (.ref it)) Q E s
noncomputable abbrev TI:=St->Hp->(It->Hp->Prop)->Prop
def yu(X:Cx)(h:TB)(σ:St)(y:Expr)(R:It->Hp->Prop)(x:Value)(u:Shared):Prop :=
 ∃(it:Addr) (v:List Addr) (tn:Nat->Heap->Prop) (J:It) (z:Hp),x=.ref it/\Inv X h σ z u/\Turn X.prog X.w X.K y J v it tn/\tn 0 u.heap/\(∀b∈v,dJ X h z b)/\R J z
def PI(X:Cx)(y x:Expr)(u:TI):Prop :=
 ∀(h:TB) (s:Shared) (z:St) (H:Hp) (R:It->Hp->Prop),Inv X h z H s->u z H R ->
  wpAny (model X.prog X.w) X.A (eval x X.env) (λv k=>wpAny (model X.prog X.w) X.A (pyIter v) (yu X h z y R) X.xe k) X.xe s
def ju(X:Cx)(h:TB)(σ:St)(y:Expr)(R:It->Hp->Prop)(x:Value)(u:Shared):Prop :=
 ∃(it:Addr) (v:List Addr) (tn:Nat->Heap->Prop) (J:It) (z:Hp),x=.ref it/\Inv X h σ z u/\Turn0 X.prog X.w X.K y J v it tn/\tn 0 u.heap/\(∀b∈v,dJ X h z b)/\R J z
def Ap(X:Cx)(y x:Expr)(u:TI):Prop :=
 ∀(h:TB) (s:Shared) (z:St) (H:Hp) (R:It->Hp->Prop),Inv X h z H s->u z H R ->
  wpAny (model X.prog X.w) X.A (eval x X.env) (λv k=>wpAny (model X.prog X.w) X.A (pyIter v) (ju X h z y R) X.xe k) X.xe s
theorem PI.to0{X:Cx}{z:Expr}{k:TI}(h:PI X y z k):Ap X y z k:=λu s a H R I q =>
 qq (h u s a H R I q) (λv m f=>qq f (λb l ⟨it,g,tn,J,j,e,i,T,r⟩=>⟨it,g,tn,J,j,e,i,T.toTurn0,r⟩) λ_ _ x=>x) λ_ _ x=>x
theorem go_of{M:Model}{A:Around}{E:YC}{it:Addr}{u:Value}{o:Obj}{n:String}{vs:Array Value}{Q:Unit->Shared->Prop}(z:s.heap.get? it=some o)(hc:o.cls=.type n)(k:o.data=.fields vs)
    (v:["enumerate","zip","dict_itemiterator","dict_reverseitemiterator","odict_iterator","itertools.zip_longest","itertools.pairwise"].contains n=false) (x:Q () s):wpAny M A (letOwnedTupleGo y (.ref it) u) Q E s:=by
  unfold letOwnedTupleGo;cases y<;>first
    |exact QN x
    | (cases u<;>first
        |exact QN x
        | (refine QF (wpAny_load z ?_)
           rw[hc,k];show wpAny M A (if(["enumerate","zip","dict_itemiterator","dict_reverseitemiterator","odict_iterator","itertools.zip_longest","itertools.pairwise"].contains n&&vs[0]?==some (rawInt _))=true then _ else _) Q E s;rw[if_neg (by intro h;rw[v,Wa]at h;cases h)];exact QN x))
noncomputable def Uv(K:QE)(a:Addr):It :=
 ⟨λi H=>∃h x,EC K H a h/\h[i]?=some x,λi H x z=>z=H/\∀h,EC K H a h->h[i]?=some x,λi H=>∃h,EC K H a h/\h.length<=i⟩
noncomputable def Vv(K:QE)(a:Addr):It :=
 ⟨λi H=>∃h x,AD K H a h/\h[i]?=some x,λi H x z=>z=H/\∀h,AD K H a h->h[i]?=some x,λi H=>∃h,AD K H a h/\h.length<=i⟩
noncomputable def gu(h:Int)(n:Nat):It:=⟨λi _=>i<n,λi H x z=>z=H/\x=.int (h+i),λi _=>n<=i⟩
theorem oY(a it:Addr):Turn P w K y (Uv K a) [it] it (λi h=>h.IsListIter it a i) where
 mem:=by simp
 obj:=λi h st b hb=>by
  have e:b=it:=by simpa using hb
  subst e;obtain⟨o,e,c,d⟩:=st;exact⟨o,e,λv z=>by rw[d]at z;cases z⟩
 keep:=λi h m st k=>st.at λo e=>k it (by simp) o e
 item:=by intro X W Y A hc i f s L H E I l st Z;subst W Y A;obtain⟨M,x,j,r⟩:=Z;obtain⟨q,n,p,Q⟩:=I.list j;obtain⟨u,S,O⟩:=n.get r;obtain⟨J,G,f2,F,C,B⟩:=l it (by simp);refine wpAny_pyNext_list_item st p.isList (x:=u) (by simpa using S) λm g N=>?_;have I1:Inv X f L H { s with heap:=m }:=I.turned (t':=s.toks) (λb o hb e=>(N.2 b hb).trans e) J G F C B;obtain⟨o,e,c,d⟩:=id g;exact⟨u,rfl,go_of (s:={ s with heap:=m }) e c d (by decide) ⟨x,H,I1,O,⟨rfl,λys R=>by rw[I.list_inj R j];exact r⟩,g,λb hb=>(l b hb).1⟩⟩
 done:=by intro X W Y A hc i f s L H E I l st Z;subst W Y A;obtain⟨M,j,r⟩:=Z;obtain⟨q,n,p,Q⟩:=I.list j;obtain⟨J,G,f2,F,C,B⟩:=l it (by simp);have hl:=n.length;exact wpAny_pyNext_list_end (I.ok.hd hc) st p.isList (by simp;omega) λm eb=>⟨rfl,I.turned (t':=s.toks) (λb o hb e=>eb b o hb e) J G F C B⟩
 self:=λ_ _ _ _ _ st h=>wpAny_pyIter_listiter st h
theorem sU(a it:Addr):Turn P w K y (Vv K a) [it] it (λi h=>h.IsTupleIter it a i) where
 mem:=by simp
 obj:=λi h st b hb=>by
  have e:b=it:=by simpa using hb
  subst e;obtain⟨o,e,c,d⟩:=st;exact⟨o,e,λv z=>by rw[d]at z;cases z⟩
 keep:=λi h n st k=>st.at λo e=>k it (by simp) o e
 item:=by intro X W Y A hc i f s L H E I m st Z;subst W Y A;obtain⟨M,x,l,r⟩:=Z;obtain⟨g,q,p,Q⟩:=I.tuple l;obtain⟨u,S,O⟩:=q.get r;obtain⟨J,G,f2,F,C,B⟩:=m it (by simp);refine wpAny_pyNext_tuple_item st (show s.heap.IsTuple a g.toArray from p) (x:=u) (by simpa using S) λn j N=>?_;have I1:Inv X f L H { s with heap:=n }:=I.turned (t':=s.toks) (λb o hb e=>(N.2 b hb).trans e) J G F C B;obtain⟨o,e,c,d⟩:=id j;exact⟨u,rfl,go_of (s:={ s with heap:=n }) e c d (by decide) ⟨x,H,I1,O,⟨rfl,λys R=>by rw[I.tuple_inj R l];exact r⟩,j,λb hb=>(m b hb).1⟩⟩
 done:=by intro X W Y A hc i f s L H E I m st Z;subst W Y A;obtain⟨M,l,r⟩:=Z;obtain⟨g,q,p,Q⟩:=I.tuple l;obtain⟨J,G,f2,F,C,B⟩:=m it (by simp);have hl:=q.length;exact wpAny_pyNext_tuple_end (I.ok.hd hc) st (show s.heap.IsTuple a g.toArray from p) (by simp;omega) λn eb=>⟨rfl,I.turned (t':=s.toks) (λb o hb e=>eb b o hb e) J G F C B⟩
 self:=λ_ _ _ _ _ st h=>wpAny_pyIter_tupleiter st h
theorem tU(it:Addr)(a:Int)(n:Nat):Turn P w K y (gu a n) [it] it (λi h=>IsRangeIter h it (a+(i:Nat) * 1) ((n:Int) - (i:Nat)) 1) where
 mem:=by simp
 obj:=λi h st b hb=>by
  have e:b=it:=by simpa using hb
  subst e;exact⟨_,st,λv z=>by have F:Data.fields _=Data.cell v:=z;cases F⟩
 keep:=λi h g st k=>k it (by simp) _ st
 item:=by intro X m j p hc i x s B H E I f st l;subst m j p;obtain⟨A,Z,J,Y,r,q⟩:=f it (by simp);have W:=Walks.range (prog:=X.prog) (w:=X.w) (I.ok.hd hc) it a 1 n;refine W.item i s _ _ l st λv g C hv u G=>?_;obtain⟨t,rfl⟩:=hv;have M:Inv X x B H { s with heap:=g,toks:=C }:=I.turned (λb o hb e=>G b o (by simpa using hb) e) A Z Y r q;refine⟨_,rfl,go_of (s:={ s with heap:=g,toks:=C }) (n:="range_iterator") u rfl rfl (by decide) ⟨.int (a+i),H,M,⟨t,?_⟩,⟨rfl,rfl⟩,u,λb hb=>(f b hb).1⟩⟩;rw[Int.mul_one]
 done:=by intro X m j p hc i x s B H E I f st l;subst m j p;obtain⟨A,Z,J,Y,r,q⟩:=f it (by simp);exact wpAny_pyNext_range_end (I.ok.hd hc) st (by have:n<=i:=l;omega) λg L=>⟨rfl,I.turned (t':=s.toks) (λb o hb e=>L b o hb e) A Z Y r q⟩
 self:=λ_ _ _ _ _ st h=>wpAny_pyIter_rangeiter st h
end
section
variable{X:Cx}{a:Expr}
section
variable{y:TB}{σ:St}{H:Hp}{s:Shared}{k:List Addr}{h:Heap}
theorem u3{R:It->Hp->Prop}{E:YC}{x z:Int}{t u v:Tok}{f:Nat}(I:Inv X y σ H s)(m:-(2 ^ 62)<=x)(l:x<2 ^ 62)(j:-(2 ^ 62)<=z)(i:z<2 ^ 62)
  (q:R (gu x (z - x).toNat) H):wpAny (model X.prog X.w) X.A (pyIter (.ref s.heap.objs.size)) (yu X y σ a R) E { s with heap:=s.heap.push { cls:=.type "range",data:=.fields #[.int x t,.int z u,.int 1 v] },toks:=f }:=by
 refine wpAny_pyIter_range (IsRange.new ..) (small_one m l j i) ?_;have g:Inv X y σ H { s with heap:=s.heap.push { cls:=.type "range",data:=.fields #[.int x t,.int z u,.int 1 v] },toks:=f }:=I.kept λb o e=>QK _ e;refine⟨(s.heap.push { cls:=.type "range",data:=.fields #[.int x t,.int z u,.int 1 v] }).objs.size,[(s.heap.push { cls:=.type "range",data:=.fields #[.int x t,.int z u,.int 1 v] }).objs.size],_,_,H,rfl,
  g.kept (t':=f) λb o e=>QK _ e,tU _ x (z - x).toNat,?_,λb hb=>?_,q⟩
 have p:x+((0:Nat):Int) * 1=x:=by simp
 have n:(((z - x).toNat:Nat):Int) - ((0:Nat):Int)=WG x z 1:=by rw[rangeSize_one];split<;>omega
 show IsRangeIter _ _ (x+((0:Nat):Int) * 1) ((((z - x).toNat:Nat):Int) - ((0:Nat):Int)) 1;rw[p,n];exact QZ _ rfl;have e:b=(s.heap.push { cls:=.type "range",data:=.fields #[.int x t,.int z u,.int 1 v] }).objs.size:=by simpa using hb
 subst e;exact g.fpOk (Qa _) (g.hok.fresh (Qa _))
noncomputable def Dq(b:TI)(g:TG)(tb:TS):TS:=λD σ H=>b σ H λJ f=>∃W:Nat->Nat->St->Hp->Prop,(∃m,W 0 m σ f)/\∀i m σ H,W i m σ H ->
 (J.stop i H/\D.nx σ H)∨(J.go i H/\∃N:St->Hp->Prop,(∀z u,N z u->∃w,w < m/\W (i+1) w z u)/\∀x u,J.yld i H x u->g x σ u λv e=>tb { D with nx:=N,ct:=N,bk:=D.nx } v e)
noncomputable def uM(k:List Addr)(h:Heap):TB:=k.filterMap λb=>(h.get? b).map λo=>(b,o)
theorem OE{b:Addr}{o:Obj}(hb:b∈k)(e:h.get? b=some o):(b,o)∈uM k h:=QBT.mpr ⟨b,hb,by rw[e];rfl⟩
theorem OY{p:Addr×Obj}(x:p∈uM k h):p.1∈k/\h.get? p.1=some p.2:=by
 obtain⟨b,hb,e⟩:=QBT.mp x;cases q:h.get? b with|none=>rw[q]at e;cases e|some o=>rw[q]at e;have z:(b,o)=p:=Qv e;subst z;exact⟨hb,q⟩
theorem Inv.pinned(I:Inv X y σ H s)(f:∀b∈k,dJ X y H b)(w:∀b∈k,∃o,s.heap.get? b=some o/\∀v,o.data≠.cell v):Inv X (y++uM k s.heap) σ H s :=
 I.pins_of λp u=>(QT.mp u).elim (λz=>I.pin p (QU _ z)) λz=>by obtain⟨hb,e⟩:=OY z;obtain⟨j,i,g,_⟩:=f p.1 hb;obtain⟨o,x,d⟩:=w p.1 hb;rw[e]at x;cases x;exact⟨e,j,i,g,d⟩
theorem Inv.unpinned{x:TB}(I:Inv X (y++x) σ H s):Inv X y σ H s:=I.pins_of λp z=>I.pin p (QU _ (Qf _ z))
theorem Jg{q:Expr}{body:List Stmt}{wi:TI}{g:TG}{tb:TS}{pos:Pos}(O:PassesOwn (model X.prog X.w) X.A X.env X.xe)(hc:X.calm=true)(hi:Ap X a q wi)(hg:PG X a g)(hb:mW X body tb)
  (hs:∀x,foldedSetIterable q X.env x=pure x:=by intro _;rfl):PS X (.For a q body [] pos) (Dq wi g tb):=by
 intro y s σ H D I h;refine wpAny_For (AB (hi y s σ H _ I h) λv s1 h1=>AB h1 λitv s2 h2=>?_) hs;obtain⟨it,k,tn,J,H2,e,I2,T,S,f2,W,⟨m0,w0⟩,F⟩:=h2;subst e;have p:∀{B:Hp},(∀b∈k,B b=none)->∀b∈k,dJ X y B b:=λhn b hb=>⟨hn b hb,(f2 b hb).2⟩
 refine codeAny_forLoop_any (λn s'=>∃i l B,Inv X y l B s'/\tn i s'.heap/\(∀b∈k,B b=none)/\W i n l B) ?_ m0 ⟨0,σ,H2,I2,S,λb hb=>(f2 b hb).1,w0⟩;rintro n s3 ⟨i,j,Q,I3,L,P,w3⟩;rcases F i n j Q w3 with⟨G,qn⟩| ⟨go,N,hN,step⟩
 refine wQ O (AB (T.done X rfl rfl rfl hc i y s3 j Q X.xe I3 (p P) L G) λr s4 ⟨hr,I4⟩=>?_);subst hr;exact Wu ⟨j,Q,I4,qn⟩;refine wQ O (AB (T.item X rfl rfl rfl hc i y s3 j Q X.xe I3 (p P) L go) λr s4 ⟨u,hr,h4⟩=>?_);subst hr;refine wQ O (AB h4 λ_ s5 ⟨x,H5,I5,r5,y5,E,fr5⟩=>?_);have I5':=I5.pinned (p fr5) (T.obj _ _ E);refine wQ O (AB (hg _ s5 j H5 x u _ I5' r5 (step x H5 y5)) λ_ s6 ⟨R,H6,I6,q6⟩=>?_);refine wQ O (AB (hb _ s6 R H6 _ I6 q6) λf s7 C=>?_);have Y:∀{z:St}{K:Hp},Inv X (y++uM k s5.heap) z K s7->N z K->∃m,m<n/\∃i l B,Inv X y l B s7/\tn i s7.heap/\(∀b∈k,B b=none)/\W i m l B:=λ{z K} Z M=>by obtain⟨m',hm,w7⟩:=hN z K M;refine⟨m',hm,i+1,z,K,Z.unpinned,T.keep _ _ _ E λb hb o e=>(Z.pin (b,o) (QU _ (QU _ (OE hb e)))).1,λb hb=>?_,w7⟩;obtain⟨o,e,d⟩:=T.obj _ _ E b hb;exact(Z.pin (b,o) (QU _ (QU _ (OE hb e)))).2.1
 cases f with|next=>obtain⟨z,K,Z,M⟩:=C;exact Y Z M|cont=>obtain⟨z,K,Z,M⟩:=C;exact Y Z M|brk=>obtain⟨z,K,Z,C⟩:=C;exact⟨z,K,Z.unpinned,C⟩|ret v=>obtain⟨x7,z,K,Z,r7,C⟩:=C;exact⟨x7,z,K,Z.unpinned,r7,C⟩
end
end
noncomputable abbrev R2:=V->V->Hp->VK->Prop
def ZE(X:Cx)(f:Value->Value->Sem Value)(r:R2):Prop :=
 ∀(h:TB) (s:Shared) (z:St) (H:Hp) (x y:V) (v u:Value) (Q:VK),Inv X h z H s->YA x v->YA y u->r x y H Q ->
  wpAny (model X.prog X.w) X.A (f v u) (EP X h z Q) X.xe s
def Tt(X:Cx)(f:Value->Sem Value)(r:V->Hp->VK->Prop):Prop :=
 ∀(h:TB) (s:Shared) (y:St) (H:Hp) (x:V) (v:Value) (Q:VK),Inv X h y H s->YA x v->r x H Q ->
  wpAny (model X.prog X.w) X.A (f v) (EP X h y Q) X.xe s
def iC(X:Cx)(f:Value)(r:LV->Hp->VK->Prop):Prop :=
 ∀(h:TB) (s:Shared) (x:St) (H:Hp) (y:LV) (z:LW) (Q:VK),Inv X h x H s->nA y z->r y H Q ->
  wpAny (model X.prog X.w) X.A (call f z) (EP X h x Q) X.xe s
def At(X:Cx)(r:V->Hp->(Bool->Hp->Prop)->Prop):Prop :=
 ∀(h:TB) (s:Shared) (y:St) (H:Hp) (x:V) (v:Value) (Q:Bool->Hp->Prop),Inv X h y H s->YA x v->r x H Q ->
  wpAny (model X.prog X.w) X.A (truthy v) (TP X h y Q) X.xe s
noncomputable def xl(r:R2)(ta tb:TE):TE:=λh H Q=>ta h H λx u=>tb h u λy z=>r x y z Q
noncomputable def Tv(r:V->Hp->VK->Prop)(ta:TE):TE:=λh H Q=>ta h H λx y=>r x y Q
noncomputable def rI(C:Int->Int->Prop)(g:Int->Int->V):R2:=λx y H Q=>∃i j,x=.int i/\y=.int j/\C i j/\Q (g i j) H
noncomputable def N8(g:Int->Int->V):R2:=λx y H Q=>∃i j,x=.int i/\y=.int j/\Q (g i j) H
def rU(g:Int->V):V->Hp->VK->Prop:=λx H Q=>∃i,x=.int i/\Q (g i) H
section
variable{X:Cx}{a b c:Expr}{ta z tc:TE}{pos:Pos}
section
variable{f:Value->Value->Sem Value}{g:Int->Int->Int}
theorem binT(Z:PE X a ta)(hb:PE X b z){k:TB}{s:Shared}{σ:St}{H:Hp}{R:V->V->Hp->Prop}(I:Inv X k σ H s)
  (h:ta σ H λx m=>z σ m λy e=>R x y e) {Q:YC}
  (Y:∀v u l x y e,Inv X k σ e l->YA x v->YA y u->R x y e->wpAny (model X.prog X.w) X.A (f v u) Q X.xe l) :
  wpAny (model X.prog X.w) X.A (eval a X.env) (λv j=>wpAny (model X.prog X.w) X.A (eval b X.env) (λu i=>wpAny (model X.prog X.w) X.A (f v u) Q X.xe i) X.xe j) X.xe s:=by
 refine AB (Z k s σ H _ I h) λv n ⟨x,m,K,p,r⟩=>?_;refine AB (hb k n σ m _ K r) λu l ⟨y,e,W,o,q⟩=>?_;exact Y v u l x y e W p o q
theorem lm{k:Operator}{r:R2}(m:ZE X (binaryOp k) r)(n:PE X a ta)(hb:PE X b z):PE X (.BinOp a k b pos) (xl r ta z):=by intro w s e H Q I h;exact wpAny_BinOp (binT n hb I h λv u i x y p o l j q=>m w i e p x y v u Q o l j q)
theorem gm{w:UnaryOp}{r:V->Hp->VK->Prop}(j:Tt X (unaryOp w) r)(l:PE X a ta):PE X (.UnaryOp w a pos) (Tv r ta):=by intro y s u H Q I h;exact UnaryOp_ (AB (l y s u H _ I h) λv k ⟨x,n,m,e,i⟩=>j y k u n x v Q m e i)
theorem xw{C:Int->Int->Prop}
  (k:∀(i j:Int) (t u:Tok) (s:Shared) (Q:YC) (E:YC),C i j->Q (.int (g i j) s.toks) { s with toks:=s.toks+1 }->wpAny (model X.prog X.w) X.A (f (.int i t) (.int j u)) Q E s) :
  ZE X f (rI C λi j=>.int (g i j)):=by
 intro e s o H x y v u Q I n m h;obtain⟨i,j,rfl,rfl,hc,q⟩:=h;obtain⟨t,rfl⟩:=n;obtain⟨l,rfl⟩:=m;exact k i j t l s _ _ hc ⟨.int (g i j),H,I.tok _,⟨_,rfl⟩,q⟩
theorem Km
  (k:∀(i j:Int) (t u:Tok) (s:Shared) (Q:YC) (E:YC),Q (.int (g i j) s.toks) { s with toks:=s.toks+1 }->wpAny (model X.prog X.w) X.A (f (.int i t) (.int j u)) Q E s) :
  ZE X f (N8 λi j=>.int (g i j)):=by
 intro e s o H x y v u Q I n m h;obtain⟨i,j,rfl,rfl,q⟩:=h;obtain⟨t,rfl⟩:=n;obtain⟨l,rfl⟩:=m;exact k i j t l s _ _ ⟨.int (g i j),H,I.tok _,⟨_,rfl⟩,q⟩
theorem e9{g:Int->Int->Bool}
  (k:∀(i j:Int) (t u:Tok) (s:Shared) (Q:YC) (E:YC),Q (.bool (g i j)) s->wpAny (model X.prog X.w) X.A (f (.int i t) (.int j u)) Q E s) :
  ZE X f (N8 λi j=>.bl (g i j)):=by
 intro e s o H x y v u Q I n m h;obtain⟨i,j,rfl,rfl,q⟩:=h;obtain⟨t,rfl⟩:=n;obtain⟨l,rfl⟩:=m;exact k i j t l s _ _ ⟨.bl (g i j),H,I,rfl,q⟩
def cK(i j:Int):Prop:=(-(2 ^ 64)<i/\i<2 ^ 64)∨(-(2 ^ 64)<j/\j<2 ^ 64)
theorem cK.ok{i j:Int}(h:cK i j):IntMulOk i j:=by
 rcases h with⟨y,x⟩| ⟨y,x⟩
 exact .of_left (intBits_le_64 y x);exact .of_right (intBits_le_64 y x)
theorem op_add:ZE X (binaryOp .Add) (N8 λi j=>.int (i+j)):=Km λ_ _ _ _ _ _ _ q=>add_int q
theorem op_sub:ZE X (binaryOp .Sub) (N8 λi j=>.int (i - j)):=Km λ_ _ _ _ _ _ _ q=>sub_int q
theorem op_mod:ZE X (binaryOp .Mod) (rI (λ_ j=>0<j) λi j=>.int (i % j)):=xw λi j _ _ _ _ _ hc q=>by have h:(0:Int)<j:=hc;exact mod_int' (by omega) (by rw[Int.fmod_eq_emod_of_nonneg i (by omega)];exact q)
theorem Sv{f:Value->Sem Value}{g:Int->Int}
  (y:∀(i:Int) (t:Tok) (s:Shared) (Q:YC) (E:YC),Q (.int (g i) s.toks) { s with toks:=s.toks+1 }->wpAny (model X.prog X.w) X.A (f (.int i t)) Q E s) :
  Tt X f (rU λi=>.int (g i)):=by
 intro u s e H x v Q I k h;obtain⟨i,rfl,q⟩:=h;obtain⟨t,rfl⟩:=k;exact y i t s _ _ ⟨.int (g i),H,I.tok _,⟨_,rfl⟩,q⟩
theorem Mf:Tt X (unaryOp .USub) (rU λi=>.int (-i)):=Sv λ_ _ _ _ _ q=>neg_int q
end
end
noncomputable def F8:V->V->Bool
 | .non,.non=>true | .non,.int _=>true | .int _,.non=>true | .non,.bl _=>true | .bl _,.non=>true | .non,.str _=>true | .str _,.non=>true
 | .int _,.int _=>true | .bl _,.bl _=>true | .str _,.str _=>true | .byt _,.byt _=>true
 | .int _,.str _=>true | .str _,.int _=>true | .bl _,.str _=>true | .str _,.bl _=>true
 |_,_=>false
def rEq:R2:=λx y H Q=>F8 x y=true/\Q (.bl (decide (x=y))) H
def zw:R2:=λx y H Q=>F8 x y=true/\Q (.bl (!decide (x=y))) H
theorem TX{i j:Int}:decide (V.int i=V.int j)=(i==j):=by rw[Q7];simp
theorem L6{i j:Bool}:decide (V.bl i=V.bl j)=(i==j):=by rw[Q7];simp
theorem SX{i j:Str}:decide (V.str i=V.str j)=(i==j):=by rw[Q7];simp
theorem AX{i j:Array UInt8}:decide (V.byt i=V.byt j)=(i.toList==j.toList):=by rw[Q7];cases i;cases j;simp
section
variable{X:Cx}{a b c:Expr}{ta g tc:TE}{pos:Pos}
section
variable{r:R2}{d:CmpOp}{us:LW}
theorem iA{h:TB}{σ:St}{H:Hp}{s:Shared}{Q:VK}{k x:Bool}(I:Inv X h σ H s)(q:Q (.bl k) H)(e:k=x):EP X h σ Q (.bool x) s:=by subst e;exact⟨.bl k,H,I,rfl,q⟩
theorem op_eq:ZE X (compareOp .Eq) rEq:=by
 intro f s l H x y v u Q I e z h;obtain⟨k,q⟩:=h;cases x with
 |non =>
  cases e;cases y with|non=>cases z;exact PySem.EqNone.eq_none_none (iA I q (by simp))|bl j=>cases z;exact PySem.EqNone.eq_none_bool (iA I q (by simp))|int j=>obtain⟨w,rfl⟩:=z;exact PySem.EqNone.eq_none_int (iA I q (by simp))|str j=>obtain⟨w,rfl⟩:=z;exact PySem.EqNone.eq_none_str (iA I q (by simp))|_=>exact absurd (show false=true from k) QG
 |bl i =>
  cases e;cases y with|non=>cases z;exact PySem.EqNone.eq_bool_none (iA I q (by simp))|bl j=>cases z;exact eq_bool (iA I q L6)|str j=>obtain⟨w,rfl⟩:=z;exact PySem.EqMixed.eq_bool_str (iA I q (by simp))|_=>exact absurd (show false=true from k) QG
 |int i =>
  obtain⟨t,rfl⟩:=e;cases y with|non=>cases z;exact PySem.EqNone.eq_int_none (iA I q (by simp))|int j=>obtain⟨w,rfl⟩:=z;exact eq_int (iA I q TX)|str j=>obtain⟨w,rfl⟩:=z;exact PySem.EqMixed.eq_int_str (iA I q (by simp))|_=>exact absurd (show false=true from k) QG
 |str i =>
  obtain⟨t,rfl⟩:=e;cases y with|non=>cases z;exact PySem.EqNone.eq_str_none (iA I q (by simp))|bl j=>cases z;exact PySem.EqMixed.eq_str_bool (iA I q (by simp))|int j=>obtain⟨w,rfl⟩:=z;exact PySem.EqMixed.eq_str_int (iA I q (by simp))|str j=>obtain⟨w,rfl⟩:=z;exact eq_str (iA I q SX)|_=>exact absurd (show false=true from k) QG
 |byt i =>
  obtain⟨t,rfl⟩:=e;cases y with|byt j=>obtain⟨w,rfl⟩:=z;exact PySem.W.eq_bytes (iA I q AX)|_=>exact absurd (show false=true from k) QG
 |_=>cases y<;>exact absurd (show false=true from k) QG
theorem op_ne:ZE X (compareOp .NotEq) zw:=by
 intro f s l H x y v u Q I e z h;obtain⟨k,q⟩:=h;cases x with
 |non =>
  cases e;cases y with|non=>cases z;exact PySem.EqNone.ne_none_none (iA I q (by simp))|bl j=>cases z;exact PySem.EqNone.ne_none_bool (iA I q (by simp))|int j=>obtain⟨w,rfl⟩:=z;exact PySem.EqNone.ne_none_int (iA I q (by simp))|str j=>obtain⟨w,rfl⟩:=z;exact PySem.EqNone.ne_none_str (iA I q (by simp))|_=>exact absurd (show false=true from k) QG
 |bl i =>
  cases e;cases y with|non=>cases z;exact PySem.EqNone.ne_bool_none (iA I q (by simp))|bl j=>cases z;exact ne_bool (iA I q (congrArg not L6))|str j=>obtain⟨w,rfl⟩:=z;exact PySem.EqMixed.ne_bool_str (iA I q (by simp))|_=>exact absurd (show false=true from k) QG
 |int i =>
  obtain⟨t,rfl⟩:=e;cases y with|non=>cases z;exact PySem.EqNone.ne_int_none (iA I q (by simp))|int j=>obtain⟨w,rfl⟩:=z;exact ne_int (iA I q (congrArg not TX))|str j=>obtain⟨w,rfl⟩:=z;exact PySem.EqMixed.ne_int_str (iA I q (by simp))|_=>exact absurd (show false=true from k) QG
 |str i =>
  obtain⟨t,rfl⟩:=e;cases y with|non=>cases z;exact PySem.EqNone.ne_str_none (iA I q (by simp))|bl j=>cases z;exact PySem.EqMixed.ne_str_bool (iA I q (by simp))|int j=>obtain⟨w,rfl⟩:=z;exact PySem.EqMixed.ne_str_int (iA I q (by simp))|str j=>obtain⟨w,rfl⟩:=z;exact ne_str (iA I q (congrArg not SX))|_=>exact absurd (show false=true from k) QG
 |byt i =>
  obtain⟨t,rfl⟩:=e;cases y with|byt j=>obtain⟨w,rfl⟩:=z;exact PySem.W.ne_bytes (iA I q (congrArg not AX))|_=>exact absurd (show false=true from k) QG
 |_=>cases y<;>exact absurd (show false=true from k) QG
theorem op_lt:ZE X (compareOp .Lt) (N8 λi j=>.bl (decide (i<j))):=e9 λ_ _ _ _ _ _ _ q=>lt_int q
theorem op_le:ZE X (compareOp .LtE) (N8 λi j=>.bl (decide (i<=j))):=e9 λ_ _ _ _ _ _ _ q=>le_int q
theorem op_gt:ZE X (compareOp .Gt) (N8 λi j=>.bl (decide (j<i))):=e9 λ_ _ _ _ _ _ _ q=>gt_int q
theorem op_ge:ZE X (compareOp .GtE) (N8 λi j=>.bl (decide (j<=i))):=e9 λ_ _ _ _ _ _ _ q=>ge_int q
theorem FY:ZE X (compareOp .In) (λx y H Q=>∃i j,x=.str i/\y=.str j/\Q (.bl (!(wW j i 0 j.length 1).isEmpty)) H):=by intro z s e H x y v u Q I k w h;obtain⟨i,j,rfl,rfl,q⟩:=h;obtain⟨t,rfl⟩:=k;obtain⟨f,rfl⟩:=w;exact in_str (iA I q rfl)
theorem Og:ZE X (compareOp .Is) (λx y H Q=>y=.non/\Q (.bl (decide (x=.non))) H):=by
 intro w s e H x y v u Q I z k h;obtain⟨rfl,q⟩:=h;cases k;refine is_none_gen (iA I q ?_);cases x<;>first
  | (cases z;rfl)
  | (obtain⟨t,rfl⟩:=z;rfl)
theorem r9:ZE X (compareOp .IsNot) (λx y H Q=>y=.non/\Q (.bl (!decide (x=.non))) H):=by
 intro w s e H x y v u Q I z k h;obtain⟨rfl,q⟩:=h;cases k;refine isnot_none_gen (iA I q ?_);cases x<;>first
  | (cases z;rfl)
  | (obtain⟨t,rfl⟩:=z;rfl)
theorem OP:ZE X (compareOp .NotIn) (λx y H Q=>∃i j,x=.str i/\y=.str j/\Q (.bl (!(!(wW j i 0 j.length 1).isEmpty))) H):=by intro z s e H x y v u Q I k w h;obtain⟨i,j,rfl,rfl,q⟩:=h;obtain⟨t,rfl⟩:=k;obtain⟨f,rfl⟩:=w;exact notIn_str (iA I q rfl)
theorem ZE.or{f:Value->Value->Sem Value}{i:R2}(h:ZE X f r)(h':ZE X f i):ZE X f (λx y H Q=>r x y H Q∨i x y H Q):=by intro z s w H x y v u Q I e k q;rcases q with q|q;exact h z s w H x y v u Q I e k q;exact h' z s w H x y v u Q I e k q
theorem g9(i:ZE X (compareOp d) r)(l:PE X a ta)(hb:PE X b g)(j:behindInMarks d b=false):PE X (.Compare a [d] [b] pos) (xl r ta g):=by intro z s w H Q I h;exact wpAny_Compare1 (binT l hb I h λv u k x y n m f e q=>i z k w n x y v u Q m f e q) j
def yl(t:TE):TT:=λh H Q=>t h H λx y=>∃k,x=.bl k/\Q k y
theorem R8(Y:ZE X (compareOp d) r)(W:PE X a ta)(hb:PE X b g)(Z:behindInMarks d b=false):PT X (.Compare a [d] [b] pos) (yl (xl r ta g)):=by
 intro w s f H Q I h;refine wpAny_isTrue_Compare1 (AB (W w s f H _ I h) λv j ⟨x,F,B,n,q⟩=>AB (hb w j f F _ B q) λu i ⟨y,E,A,m,p⟩ =>
  AB (Y w i f E x y v u _ A n m p) λc G ⟨z,C,K,l,k,e,o⟩=>?_) Z
 subst e;cases l;exact wP ⟨C,K,o⟩
def Vj(K:QE)(x:V)(H:Hp)(k:Bool):Prop :=
 match x with
 | .non=>k=false|.bl b=>k=b|.int i=>k=(i != 0)|.str y=>y.length<=sizeLine/\k=((y.length:Int) != 0)|.byt y=>y.size<=sizeLine/\k=((y.size:Int) != 0)|.ref p=>(∃h,EC K H p h/\k=!h.isEmpty)∨(∃h,AD K H p h/\k=!h.isEmpty)∨∃z,H p=some (.dK z)/\k=!z.isEmpty|_=>False
theorem tV{h:Type}{kvs:List (h×V)}{vs:List (h×Value)}(r:KV kvs vs):(!vs.isEmpty)=!kvs.isEmpty:=by cases r<;>rfl
theorem ZM{xs:LV}{its:LW}(r:nA xs its):(!its.toArray.isEmpty)=!xs.isEmpty:=by cases r<;>simp
theorem BH:(sizeLine:Nat)<2 ^ 63:=by rw[Q0];decide
theorem G1:At X (λx H Q=>∃k,Vj X.K x H k/\Q k H):=by
 intro A s F H x v Q I l h;obtain⟨k,e,q⟩:=h;have hl:=BH;have G:sizeLine=16777216:=Q0;cases x with
 |non=>cases l;have z:k=false:=e;subst z;exact truthy_none ⟨H,I,q⟩|bl b=>cases l;have z:k=b:=e;subst z;exact wP ⟨H,I,q⟩|int i=>obtain⟨t,rfl⟩:=l;have z:k=(i != 0):=e;subst z;exact PySem.P.truthy_int ⟨H,I,q⟩|str y=>obtain⟨t,rfl⟩:=l;obtain⟨C,z⟩:y.length<=sizeLine/\k=((y.length:Int) != 0):=e;subst z;exact PySem.P.truthy_str (by omega) ⟨H,I.tok _,q⟩|byt y=>obtain⟨t,rfl⟩:=l;obtain⟨C,z⟩:y.size<=sizeLine/\k=((y.size:Int) != 0):=e;subst z;exact PySem.W.truthy_bytes (by omega) ⟨H,I.tok _,q⟩|ref p =>
  cases l;have z:(∃j,EC X.K H p j/\k=!j.isEmpty)∨(∃j,AD X.K H p j/\k=!j.isEmpty)∨∃u,H p=some (.dK u)/\k=!u.isEmpty:=e;rcases z with⟨j,n,z⟩| ⟨j,n,z⟩| ⟨u,n,z⟩
  subst z;obtain⟨Z,r,Y,B⟩:=I.list n;have f:=r.length;exact wpAny_truthy_list Y.isList (by simp only[QR];omega) ⟨H,I.tok _,by rw[ZM r];exact q⟩;subst z;obtain⟨Z,r,Y,B⟩:=I.tuple n;have f:=r.length;exact truthy_tuple Y (by simp only[QR];omega) ⟨H,I.tok _,by rw[ZM r];exact q⟩;subst z;obtain⟨B,E,o,r,m⟩:u.length<=sizeLine/\(p==sysModules)=false/\∃o,KV u o/\s.heap.DictOf (ND X.prog X.w) p o:=I.hok p _ n;have f:u.length=o.length:=qK r;exact wpAny_truthy_dict E m (by omega) ⟨H,I.tok _,by rw[tV r];exact q⟩
 |_=>exact(show False from e).elim
theorem MU:ZE X (binaryOp .Add) (λx y H Q=>∃i j,x=.str i/\y=.str j/\i.length+j.length<=sizeLine/\Q (.str (i++j)) H):=by intro z s l H x y v u Q I e k h;obtain⟨i,j,rfl,rfl,f,q⟩:=h;obtain⟨t,rfl⟩:=e;obtain⟨w,rfl⟩:=k;exact add_str (λw m=>⟨.str (i++j),H,I.tok _,⟨_,rfl⟩,q⟩) f
theorem xH{x:V}(r:nA [x] us):∃u,us=[u]/\YA x u:=by
 cases r with|cons y h=>cases h;exact⟨_,rfl,y⟩
theorem bc{x y:V}(r:nA [x,y] us):∃u h,us=[u,h]/\YA x u/\YA y h:=by
 cases r with
 |cons k w =>
  cases w with|cons v z=>cases z;exact⟨_,_,rfl,k,v⟩
theorem DZ(hc:X.calm=true):iC X (.builtin "max") (λxs H Q=>∃i j,xs=[.int i,.int j]/\Q (.int (if j > i then j else i)) H):=by
 intro y s z H xs us Q I r h;obtain⟨i,j,rfl,q⟩:=h;obtain⟨u,v,rfl,⟨t,rfl⟩,⟨e,rfl⟩⟩:=bc r;refine max_two_ints (I.ok.hd hc) λf w k=>⟨_,H,I.kept k,?_,q⟩
 by_cases x:j > i;rw[if_pos x,if_pos x];exact⟨_,rfl⟩;rw[if_neg x,if_neg x];exact⟨_,rfl⟩
theorem GZ:iC X (.type "int") (λxs H Q=>(∃i,xs=[.int i]/\Q (.int i) H)∨∃k,xs=[.bl k]/\Q (.int (if k then 1 else 0)) H):=by
 intro x s z H xs us Q I r h;rcases h with⟨i,rfl,q⟩| ⟨k,rfl,q⟩
 obtain⟨u,rfl,t,rfl⟩:=xH r;exact call_int_int ⟨.int i,H,I,⟨_,rfl⟩,q⟩;obtain⟨u,rfl,y⟩:=xH r;cases y;exact call_int_bool ⟨.int (if k then 1 else 0),H,I.tok _,⟨_,rfl⟩,q⟩
end
end
section
variable{k:Nat}{A:Around}
structure Room(k:Nat)(A:Around):Prop where
 hd:A.handled=none
 dp:A.depth+3 * k+5<recursionLimit
 un:A.units+16 * k+200<cLine
theorem Room.mono{j:Nat}(r:Room k A)(h:j<=k):Room j A:=⟨r.hd,by have:=r.dp;omega,by have:=r.un;omega⟩
theorem Room.deeper(r:Room (k+1) A)(env:Env):Room k (A.deeper env) :=
 ⟨r.hd,by have:=r.dp;show A.depth+1+3 * k+5<_;omega,by have:=r.un;show A.units+3+16 * k+200<_;omega⟩
theorem Room.depth(r:Room k A):A.depth<recursionLimit:=by have:=r.dp;omega
def ul:TA:=λ_ H Q=>Q [] H
noncomputable def Zl(ta:TE)(z:TA):TA:=λh H Q=>ta h H λx v=>z h v λy u=>Q (x::y) u
end
section
variable{X:Cx}{e:Expr}{es:List Expr}{te:TE}{t:TA}{pos:Pos}
theorem HU:PA X [] ul:=λ_ _ _ _ H Q I h=>QAO ⟨[],H,I,.nil,h⟩
theorem LP(j:PE X e te)(i:PA X es t)(g:starEach (e::es) X.env=(false,eval e X.env)::starEach es X.env:=by rfl):PA X (e::es) (Zl te t):=by intro pos y s z H Q I h;rw[g];show wpAny _ _ (spliced ((false,eval e X.env)::backTo pos (starEach es X.env))) _ _ s;refine WH (AB (j y s z H _ I h) λu w ⟨x,o,m,a,f⟩=>?_);exact AB (i pos y w z o _ m f) λp q ⟨v,n,l,k,b⟩=>⟨x::v,n,l,.cons a k,b⟩
noncomputable def Zq(t:TA):TE:=λy H Q=>t y H λh x=>h.length<=sizeLine/\∀p,x p=none->Q (.ref p) (BA x p (.tup h))
noncomputable def Bq(t:TA):TE:=λy H Q=>t y H λh x=>h.length<=sizeLine/\∀p,x p=none->Q (.ref p) (BA x p (.lst h))
theorem Cg{x1}(h:PA X es t):PE X (.Tuple es x1 pos) (Zq t):=by intro x s k H Q I g;refine QBD (AB (h pos x s k H _ I g) λf y ⟨a,w,v,r,z,q⟩=>⟨by rw[<- r.length];exact z,?_⟩);have i:w y.heap.objs.size=none:=v.hok.fresh (Qa _);refine⟨.ref y.heap.objs.size,BA w y.heap.objs.size (.tup a),v.laid (t':=y.toks) (λb u e=>QK _ e) (Qa _) ?_,rfl,q _ i⟩;exact⟨z,f,r,⟨_,QZ _ rfl,rfl,_,rfl⟩⟩
theorem Fg(h:PA X es t):PE X (.List es pos) (Bq t):=by intro x s k H Q I g;refine wpAny_List_spliced (AB (h pos x s k H _ I g) λf y ⟨a,w,v,r,z,q⟩=>⟨by rw[<- r.length];exact z,?_⟩);have i:w y.heap.objs.size=none:=v.hok.fresh (Qa _);refine⟨.ref y.heap.objs.size,BA w y.heap.objs.size (.lst a),v.laid (t':=y.toks) (λb u e=>QK _ e) (Qa _) ?_,rfl,q _ i⟩;exact⟨z,f,0,r,QZ _ rfl⟩
end
noncomputable abbrev Sp:=LV->Hp->VK->XK->Prop
noncomputable abbrev M7:=List Env->Hp->Shared->XK->Value->Shared->Prop
structure Env0(P:Program)(w:World)(K:QE)(mg:Str->Option Value)(base:Heap)(A:Around)(outer:List Env)(s:Shared)(H:Hp):Prop where
 frames:A.frames=some outer
 mod:Mod K mg base
 bs:∀b o,base.get? b=some o->s.heap.get? b=some o/\H b=none
 bsz:base.objs.size<=s.heap.objs.size
 funs:s.heap.FunFrames base outer
 frf:∀b∈HX outer,H b=none
 tb:∀P q,jP mg base P q->H P=some (.tbl q)
 hok:iN P w H s.heap
 bare:AllBare s.gens
def CE(outer:List Env)(P:Program)(w:World)(H:Hp)(s:Shared)(Q:VK)(u:Value)(s':Shared):Prop :=
 ∃v h,s'.os=s.os/\AllBare s'.gens/\Un (HX outer) [] H h s.heap s'.heap/\iN P w h s'.heap/\YA v u/\Q v h
def CR(h:M7)(outer:List Env)(P:Program)(w:World)(H:Hp)(s:Shared)(Q:VK)(E:XK)(r:Result)(s':Shared):Prop :=
 match r with
 | .ok (.ret u)=>CE outer P w H s Q u s'|.ok _=>False|.error e=>h outer H s E e s'
structure FnOk(P:Program)(w:World)(K:QE)(mg:Str->Option Value)(base:Heap)(CX:M7)(k:Nat)(f:Addr)(fd:FuncData)(ps:LS)(sp:Sp):Prop where
 len:∀vs H Q E,sp vs H Q E->vs.length=ps.length
 run:∀(A:Around) (outer:List Env) (s:Shared) (H:Hp) (args:Args) (us:LW) (vs:LV) (Q:VK) (E:XK),Room k A->Env0 P w K mg base A outer s H->BindsTo s fd args (ps.zip us)->nA vs us->sp vs H Q E ->
  codeAny (model P w) A (.call (.ref f) args) (CR CX outer P w H s Q E) s
theorem FnOk.mono{P:Program}{w:World}{K:QE}{mg:Str->Option Value}{x:Heap}{a:M7}{j k:Nat}{f:Addr}{v:FuncData}{u:LS}{z:Sp}(F:FnOk P w K mg x a j f v u z)(h:j<=k) :
  FnOk P w K mg x a k f v u z:=⟨F.len,λA y s H args e b Q E g=>F.run A y s H args e b Q E (g.mono h)⟩
section
variable{X:Cx}{x:TB}{σ:St}{H:Hp}{s s':Shared}
theorem Inv.env0(I:Inv X x σ H s):Env0 X.prog X.w X.K X.mg X.base X.A X.stack s H :=
 ⟨I.ok.frames,I.ok.mod,I.bs,QX I.ok.bsz I.sz,I.stack,I.stkFree,I.tb,I.hok,I.bare⟩
theorem Inv.after{Q:VK}{u:Value}(I:Inv X x σ H s)(h:CE X.stack X.prog X.w H s Q u s'):EP X x σ Q u s':=by obtain⟨v,f,a,bare,un,k,r,q⟩:=h;obtain⟨e,g,d,t,y⟩:=s';obtain rfl:y=s.os:=a;exact⟨v,f,I.call (h':=e) (g':=g) (d':=d) (t':=t) (ch:=[]) un k bare (λb z=>absurd z (by simp)),r,q⟩
end
noncomputable def rc(z:Sp)(h:LV)(E:XK)(t:TA):TE:=λx H Q=>t x H λy u=>z (y++h) u Q E
def fJ(K:QE)(y:FuncData)(x:LS)(ds:LW):Prop :=
 ∀(s:Shared) (h:LW),K.In s.heap->(h++ds).length=x.length->BindsTo s y ⟨h,[]⟩ (x.zip (h++ds))
theorem fJ.all{K:QE}{y:FuncData}{x:LS}(h:∀us:LW,us.length=x.length->bindArgs y ⟨us,[]⟩=pure (x.zip us)):fJ K y x []:=λs us _ hl=>by rw[Qu]at hl ⊢;exact .of_eq (h us hl)
def cN(z:M7)(X:Cx)(E:XK):Prop:=∀(h:TB) (y:St) (H:Hp) (s:Shared) (e:Value) (x:Shared),Inv X h y H s->z X.stack H s E e x->X.xe e x
section
variable{X:Cx}{b:M7}{k:Nat}{f C:Addr}{a:FuncData}{z:LS}{v:Sp}{y:LV}{ds:LW}{E:XK}{x m:Str}{p pos apos:Pos}{e o:Expr}{es:List Expr}{ta:TE}{t:TA}
theorem A2{g:TB}{σ:St}{H:Hp}{s:Shared}{Q:VK}{us:LW}{vs:LV}(F:FnOk X.prog X.w X.K X.mg X.base b k f a z v)(q:Room k X.A)(hb:fJ X.K a z ds)(Y:nA y ds)(n:cN b X E)
  (I:Inv X g σ H s) (r:nA vs us) (h:v (vs++y) H Q E):wpAny (model X.prog X.w) X.A (call (.ref f) us) (EP X g σ Q) X.xe s:=by
 have j:nA (vs++y) (us++ds):=r.append Y;have hl:(us++ds).length=z.length:=by rw[<- j.length];exact F.len _ _ _ _ h
 refine wpAny_call (QBp (F.run X.A X.stack s H ⟨us,[]⟩ (us++ds) (vs++y) Q E q I.env0 (hb s us I.kIn hl) j h) λr l i=>?_);cases r with
 |error e=>exact n g σ H s e l I i|ok fl =>
  cases fl with|ret u=>exact I.after i|next=>exact Qd i|brk=>exact Qd i|cont=>exact Qd i
theorem l9(F:FnOk X.prog X.w X.K X.mg X.base b k f a z v)(Y:Room k X.A)(B:Gl X x)(Z:X.mg x=some (.ref f))(hk:wM X.K (.ref f)=true)(hb:fJ X.K a z ds)(J:nA y ds)(n:cN b X E)
  (L:PA X (e::es) t) (i:(x==("__debug__":Str))=false:=by decide) (G:starEach (e::es) X.env=(false,eval e X.env)::starEach es X.env:=by rfl) (g:(backTo pos (starEach es X.env)).any (·.1)=false:=by rfl) :
  PE X (.Call (.Name x p) (e::es) [] pos) (rc v y E t):=by
 intro u s l H Q I h;refine wj (pQ I B Z ?_ i);refine PySem.W.callWith_K (h₀:=X.base) I.ok.mod.kin hk (AB (L pos u s l H _ I h) λN O ⟨M,P,j,r,q⟩=>⟨j.kIn,?_⟩) G g;exact A2 F Y hb J n j r q
theorem E3(F:FnOk X.prog X.w X.K X.mg X.base b k f a z v)(j:Room k X.A)(n:Gl X x)(l:X.mg x=some (.ref f))(hk:wM X.K (.ref f)=true)(hb:fJ X.K a z ds)(q:nA y ds)(i:cN b X E)
  (u:(x==("__debug__":Str))=false:=by decide):PE X (.Call (.Name x p) [] [] pos) (rc v y E ul):=by
 intro g s r H Q I h;refine wj (pQ I n l ?_ u);exact PySem.W.callWith_K0 I.kIn hk (A2 (us:=[]) F j hb q i I .nil h)
end
section
variable{X:Cx}{c:M7}{k:Nat}{f C:Addr}{b:FuncData}{v ks:LS}{u:Sp}{E:XK}{x m:Str}{p pos apos h:Pos}{e o:Expr}{es:List Expr}{y:List Keyword}{te ta:TE}{t z:TA}{w:Option Str}
variable{g:LW->LW->LW}{a:LV->LV->LV}
end
section
variable{l:M7}{P:Program}{w:World}{mg:Str->Option Value}{base:Heap}{j:LS}{g:Str}{d:Scope}{f:Addr}
structure FnScope(N P:LS)(sc:Scope):Prop where
 kind:sc.kind=.function
 co:sc.isCoroutine=false
 gen:sc.isGenerator=false
 nd:N.Nodup
 pre:N.take P.length=P
 par:∀x∈P,sc.names.lookup x=some .local∨sc.names.lookup x=some .cell
 nofree:∀y∈sc.names,y.2≠.free
theorem NO{y:Str->Option NameKind}{x:Str}:∀{binds:List (Str×Value)}{m:Str->Option Value},(∀v,(x,v)∉binds)->bindL y binds m x=m x
 |[],_,_=>rfl|(n,v)::r,m,h=>by
  unfold bindL;rw[NO λw z=>h w (QC _ z)];split;have:x≠n:=by rintro rfl;exact h v QD
  simp[this];rfl
theorem RO{y:Str->Option NameKind}{x:Str}:∀{binds:List (Str×Value)}{m:Str->Option Value},(∀v,(x,v)∉binds)->bindC y binds m x=m x
 |[],_,_=>rfl|(n,v)::r,m,h=>by
  unfold bindC;rw[RO λw z=>h w (QC _ z)];split;rfl;have:x≠n:=by rintro rfl;exact h v QD
  simp[this]
theorem OO{y:Str->Option NameKind}{x:Str}{v:Value}:∀{P:LS}{vs:LW}{i:Nat}{m:Str->Option Value},P.Nodup->P[i]?=some x->vs[i]?=some v->y x=some .local ->
  bindL y (P.zip vs) m x=some v
 |[],_,_,_,_,h,_,_=>by simp at h|_::_,[],_,_,_,_,h,_=>by simp at h|p::P,w::vs,0,m,nd,h1,h2,hk=>by simp at h1 h2;subst h1;subst h2;show bindL y ((p,w)::P.zip vs) m p=_;unfold bindL;rw[NO λv hv=>(Qi.mp nd).1 (QAq hv).1,if_pos hk];simp|p::P,w::vs,i+1,m,nd,h1,h2,hk=>by show bindL y ((p,w)::P.zip vs) m x=_;unfold bindL;exact OO (i:=i) (Qi.mp nd).2 (by simpa using h1) (by simpa using h2) hk
theorem SO{y:Str->Option NameKind}{x:Str}{v:Value}:∀{P:LS}{vs:LW}{i:Nat}{m:Str->Option Value},P.Nodup->P[i]?=some x->vs[i]?=some v->y x≠some .local ->
  bindC y (P.zip vs) m x=some v
 |[],_,_,_,_,h,_,_=>by simp at h|_::_,[],_,_,_,_,h,_=>by simp at h|p::P,w::vs,0,m,nd,h1,h2,hk=>by simp at h1 h2;subst h1;subst h2;show bindC y ((p,w)::P.zip vs) m p=_;unfold bindC;rw[RO λv hv=>(Qi.mp nd).1 (QAq hv).1,if_neg hk];simp|p::P,w::vs,i+1,m,nd,h1,h2,hk=>by show bindC y ((p,w)::P.zip vs) m x=_;unfold bindC;exact SO (i:=i) (Qi.mp nd).2 (by simpa using h1) (by simpa using h2) hk
noncomputable def rD(N:LS)(vs:LV):St:=vs.map some++QAF (N.length - vs.length) none
noncomputable def MV(l:M7)(P:Program)(w:World)(K:QE)(mg:Str->Option Value)(base:Heap)(N:LS)(g:Str)(d:Scope)(f:Addr)(x:Value)(A:Around)(outer:List Env)(s:Shared)(H:Hp)(E:XK):Cx where
 prog:=P
 w:=w
 K:=K
 mg:=mg
 base:=base
 A:=A.deeper (envOfC g d s.heap.objs.size f x)
 N:=N
 s₀:=s
 H₀:=H
 env:=envOfC g d s.heap.objs.size f x
 outer:=outer
 stack:=envOfC g d s.heap.objs.size f x::outer
 ex:=[]
 calm:=true
 fn:=λ_=>true
 pn:=[]
 xe:=λe y=>wpAny (model P w) (A.deeper (envOfC g d s.heap.objs.size f x)) (leaving (envOfC g d s.heap.objs.size f x) e) (λ_ h=>l outer H s E e h) (λz h=>l outer H s E z h) y
theorem pT{sc:Scope}{n:Nat}{x:Str}(h:sc.names.lookup x=some .cell):∃c,(cellsFrom n sc.names []).lookup x=some c:=by have q:=QAi sc.names n [] (.inl h);exact Option.isSome_iff_exists.mp q
theorem nZ{K:QE}{N:LS}{C:Value}{A:Around}{outer:List Env}{s F:Shared}{H:Hp}{E:XK}{us:LW}{vs:LV}
  (S:FnScope N j d) (L:A.handled=none) (o:Env0 P w K mg base A outer s H) (hl:vs.length=j.length) (r:nA vs us)
  (x:InCallC s s.heap.objs.size (bindL (envOfC g d s.heap.objs.size f C).kindOf (j.zip us) λ_=>none) (cellsFrom (s.heap.objs.size+1) d.names []) (bindC (envOfC g d s.heap.objs.size f C).kindOf (j.zip us) λ_=>none) F) :
  Inv (MV l P w K mg base N g d f C A outer s H E) [] (rD N vs) H F:=by
 have J:j.length<=N.length:=by have:=congrArg wN S.pre;rw[wb]at this;omega
 obtain⟨B,O,rfl,hk⟩:=x.done;have X:∀b:Addr,b∉(MV l P w K mg base N g d f C A outer s H E).ex:=λb z=>absurd (show b∈([]:List Addr) from z) (by simp);refine⟨⟨o.mod,S.kind,rfl,rfl,Qa _,λy z c B m=>?_,λy Y=>?_,λy c _ h=>?_,λ_=>L,Around.frames_deeper o.frames,.inr ⟨rfl,rfl⟩,λb z=>absurd z (X b),o.bs,o.bsz,λb _ _=>X b,λb z=>absurd z (X b),o.funs,o.frf,o.tb⟩,
  rfl,o.bare,Un.kept hk,⟨_,x.toInCall.ns,λi y v B m Q=>?_⟩,λy c h=>⟨_,x.cell y c h⟩,o.hok.fresh (Qa _),λy c h=>?_,λp Z=>absurd (show p∈([]:TB) from Z) (by simp),o.hok.kept hk,?_⟩
 exact name_of_addr x.apart (qN B) (qN m);have Y:d.names.lookup y=some .cell∨d.names.lookup y=some .free:=Y;rcases Y with Y|Y;exact pT Y;exact absurd rfl (S.nofree _ (qN Y));exact QAp (x.above y c (qN h));have W:i<vs.length:=by unfold rD at m;by_cases W:i<vs.length;exact W;rw[qJ (by simpa using W)]at m;rw[wX]at m;split at m<;>cases m
 have M:vs[i]?=some v:=by
  unfold rD at m;rw[qF (by simpa using W),Qe]at m;cases e:vs[i]? with|none=>rw[e]at m;cases m|some a=>rw[e]at m;cases m;rfl
 obtain⟨u,G,I⟩:=r.get M;have Z:j[i]?=some y:=by rw[<- S.pre,List.getElem?_take_of_lt (by omega)];exact B
 have ndP:j.Nodup:=by rw[<- S.pre];exact S.nd.sublist (QBc _ _)
 refine⟨u,I,?_⟩;rcases S.par y (qT Z) with k|k;exact .inl ⟨k,OO ndP Z G k⟩;obtain⟨c,e⟩:=pT (n:=s.heap.objs.size+1) k;refine .inr ⟨.inl k,c,e,?_⟩;have q:=x.cell y c e;rw[SO ndP Z G (by show d.names.lookup y≠_;rw[k];decide)]at q;exact q;exact o.hok.fresh (QAp (x.above y c (qN h)));unfold rD;show _=N.length;rw[QH,QA,qm];omega
theorem Kd{K:QE}{k:Nat}{name:Str}{z:Arguments}{body:List Stmt}{dV kV B pm h ct oc:Value}{an od:Option Addr}
  {L:Array (Option Value)}{N:LS}{C:Sp}(lk:K.lookup f=some ⟨oc,od,.func (ql name g z body d dV kV B pm an h ct),L⟩) (R:Wb K h g=true) (S:FnScope N j d)
  (len:∀vs H Q E,C vs H Q E->vs.length=j.length)
  (p:∀(A:Around) (outer:List Env) (s:Shared) (H:Hp) (vs:LV) (Q:VK) (E:XK),Room k (A.deeper (envOfC g d s.heap.objs.size f h))->C vs H Q E ->
   ∃t,mW (MV l P w K mg base N g d f h A outer s H E) body t/\t { nx:=λ_ i=>Q .non i,rt:=Q } (rD N vs) H) :
  FnOk P w K mg base l (k+1) f (ql name g z body d dV kV B pm an h ct) j C:=by
 refine⟨len,λA outer s H args us vs Q E O Z hb r Y=>?_⟩;have hl:=len _ _ _ _ Y;have KX:K.In s.heap:=Z.mod.kin.keeps λb o e=>(Z.bs b o e).1;have M:s.heap.NoLimit:=Z.mod.nolimit.keeps λb o e=>(Z.bs b o e).1;have m:∀y∈j.zip us,d.names.lookup y.1=some .local∨(d.names.lookup y.1=some .cell/\((cellsFrom (s.heap.objs.size+1) d.names []).lookup y.1).isSome=true):=λ⟨n,v⟩ hy=>by rcases S.par n (QAq hy).1 with q|q;exact .inl q;exact .inr ⟨q,QAi _ _ _ (.inl q)⟩
 refine codeAny_call_function O.depth (KX _ _ lk) rfl S.co S.gen rfl (PySem.W.codeRec_of KX R) (hb _ _ _ _ ?_);refine wpAny_newFunctionEnv_cells S.kind m λenv he s1 x=>?_;subst he;refine⟨M.keeps x.toInCall.keep,codeAny_func ?_⟩;obtain⟨t,ht,hq⟩:=p A outer s H vs Q E (O.deeper _) Y;have I:Inv (MV l P w K mg base N g d f h A outer s H E) [] (rD N vs) H s1:=nZ S O.hd Z hl r x;refine qq (ht [] s1 (rD N vs) H _ I hq) (λfl F X=>?_) λe F X=>X;have fin:∀{a:St}{i:Hp}{v:V}{u:Value},Inv (MV l P w K mg base N g d f h A outer s H E) [] a i F->YA v u->Q v i->CE outer P w H s Q u F :=
  λ{a i v u} J G q=>⟨v,i,J.os,J.bare,J.base,J.hok,G,q⟩
 cases fl with|ret u=>obtain⟨v,a,i,J,G,q⟩:=X;exact fin J G q|next=>obtain⟨a,i,J,q⟩:=X;exact fin (v:=V.non) (u:=Jz) J rfl q|brk=>obtain⟨_,_,_,q⟩:=X;exact Qd q|cont=>obtain⟨_,_,_,q⟩:=X;exact Qd q
end
section
variable{X:Cx}{x:Str}{p pos:Pos}{e:Expr}{es:List Expr}{t:TA}{y T:String}{r:LV->Hp->VK->Prop}
noncomputable def Ku(r:LV->Hp->VK->Prop)(t:TA):TE:=λh H Q=>t h H λz u=>r z u Q
theorem IR(hc:iC X (.builtin y) r)(l:Gl X x)(j:X.mg x=none)(hv:bootBuiltins x=some (.builtin y))(n:PA X (e::es) t)(i:x≠"__name__":=by decide)(v:(x==("__debug__":Str))=false:=by decide)
  (m:starEach (e::es) X.env=(false,eval e X.env)::starEach es X.env:=by rfl) (u:(backTo pos (starEach es X.env)).any (·.1)=false:=by rfl):PE X (.Call (.Name x p) (e::es) [] pos) (Ku r t):=by
 intro z s w H Q I h;refine wj (XJ I l j hv ?_ i v);exact PyProof.Rows.callWith_builtin1 (AB (n pos z s w H _ I h) λa b ⟨k,q,o,f,g⟩=>hc z b w q k a Q o f g) m u
theorem CY(hc:iC X (.type T) r)(l:Gl X x)(j:X.mg x=none)(hv:bootBuiltins x=some (.type T))(n:PA X (e::es) t)(i:x≠"__name__":=by decide)(v:(x==("__debug__":Str))=false:=by decide)
  (m:starEach (e::es) X.env=(false,eval e X.env)::starEach es X.env:=by rfl) (u:(backTo pos (starEach es X.env)).any (·.1)=false:=by rfl):PE X (.Call (.Name x p) (e::es) [] pos) (Ku r t):=by
 intro z s w H Q I h;refine wj (XJ I l j hv ?_ i v);exact wm (AB (n pos z s w H _ I h) λa b ⟨k,q,o,f,g⟩=>hc z b w q k a Q o f g) m u
end
end L2
namespace HT
open PySem PyProof.Rows
section
open PySem.SeqAt
open PySem.AutoSeq1 (wpAny_loadPart')
open PySem.MeetsSeq PySem.MeetsSeq2 PySem.MeetsSeq3
end
section
variable{prog:Program}{w:World}{A:Around}{E:YC}{s:Shared}
noncomputable def sIx(n d:Nat):Option Int->Nat
 |none=>d|some v=>if v<0 then(v+(n:Int)).toNat else min v.toNat n
theorem sIx_none(n d:Nat):sIx n d none=d:=rfl
theorem sIx_nat(n d k:Nat):sIx n d (some (k:Int))=min k n:=by show(if(k:Int)<0 then((k:Int)+(n:Int)).toNat else min (k:Int).toNat n)=min k n;rw[if_neg (by omega),qP]
end
end HT
namespace L2
open PySem PySem.Spec PyProof.Rows
noncomputable abbrev TO:=St->Hp->(Option Int->Hp->Prop)->Prop
def PO(X:Cx)(e:Option Expr)(t:TO):Prop :=
 ∀(h:TB) (s:Shared) (x:St) (H:Hp) (Q:Option Int->Hp->Prop),Inv X h x H s->t x H Q ->
  wpAny (model X.prog X.w) X.A (evalPart e X.env) (λu z=>∃o y,Inv X h x y z/\IsPart u o/\Q o y) X.xe s
def e8:TO:=λ_ H Q=>Q none H
noncomputable def zl(t:TE):TO:=λh H Q=>t h H λx y=>∃i,x=.int i/\Q (some i) y
theorem aV{ns:LJ}:∀{us:LW},nA (ns.map V.int) us->IntsAre us ns:=by
 induction ns with
 |nil=>intro us r;rw[wJ]at r;cases r;exact .nil|cons n ns y =>
  intro us r;rw[QV]at r;cases r with|cons x h=>obtain⟨t,e⟩:=x;subst e;exact .cons n t (y h)
section
variable{X:Cx}{e:Expr}{te:TE}{y z:Option Expr}{k a:TO}{pos p2:Pos}
theorem j9:PO X none e8:=by intro x s u H Q I h;rw[evalPart_none];exact QN ⟨none,H,I,.none,h⟩
theorem E8(h:PE X e te):PO X (some e) (zl te):=by intro v s w H Q I g;rw[evalPart_some];refine AB (h v s w H _ I g) λu m ⟨x,l,j,b,f⟩=>?_;obtain⟨i,rfl,q⟩:=f;obtain⟨t,rfl⟩:=b;exact⟨some i,l,j,.int i t,q⟩
def Bj(X:Cx)(r:V->Option Int->Option Int->Hp->VK->Prop):Prop :=
 ∀(h:TB) (s:Shared) (u:St) (H:Hp) (x:V) (v f b:Value) (y z:Option Int) (g:Addr) (Q:VK),Inv X h u H s->YA x v->s.heap.IsSliceOf g f b .none->IsPart f y->IsPart b z->r x y z H Q ->
  ∃T id,typeLookup (.type T) "__getitem__"=pure (some (.builtin id))/\s.TypeIs v T/\wpAny (model X.prog X.w) X.A (getItem v (.ref g)) (EP X h u Q) X.xe s
theorem Bj.or{r j:V->Option Int->Option Int->Hp->VK->Prop}(h:Bj X r)(h':Bj X j):Bj X (λx y z H Q=>r x y z H Q∨j x y z H Q):=by intro u s w H x v f b y z g Q I i n m l q;rcases q with q|q;exact h u s w H x v f b y z g Q I i n m l q;exact h' u s w H x v f b y z g Q I i n m l q
noncomputable def Av(r:V->Option Int->Option Int->Hp->VK->Prop)(te:TE)(k a:TO):TE:=λh H Q=>te h H λx b=>k h b λl w=>a h w λu v=>r x l u v Q
theorem P3{r:V->Option Int->Option Int->Hp->VK->Prop}(G:Bj X r)(L:PE X e te)(hl:PO X y k)(E:PO X z a):PE X (.Subscript e (.Slice y z none p2) pos) (Av r te k a):=by intro f s i H Q I h;refine QBd (AB (L f s i H _ I h) λv p ⟨x,H1,R,Y,K⟩=>?_);refine wpAny_Slice (AB (hl f p i H1 _ R K) λm o ⟨l,S,P,C,W⟩=>AB (E f o i S _ P W) λj g ⟨u,n,O,B,Z⟩=>?_);rw[evalPart_none];refine QN ?_;have N:Inv X f i n { g with heap:=g.heap.push { cls:=.type "slice",data:=.fields #[m,j,.none] } }:=O.kept (t':=g.toks) λb ob q=>QK _ q;obtain⟨T,id,M,F,J⟩:=G f { g with heap:=g.heap.push { cls:=.type "slice",data:=.fields #[m,j,.none] } } i n x v m j l u g.heap.objs.size Q N Y (Heap.IsSliceOf.new ..) C B Z;show wpAny (model X.prog X.w) X.A (subscriptTail e (.Slice y z none p2) v (.ref g.heap.objs.size)) (EP X f i Q) X.xe { g with heap:=g.heap.push { cls:=.type "slice",data:=.fields #[m,j,.none] } };exact tail_any (ops:=[.ref g.heap.objs.size,v]) F M J (by with_unfolding_all rfl)
noncomputable def XZ(xs:LV)(y z:Option Int):LV:=(xs.drop (HT.sIx xs.length 0 y)).take (HT.sIx xs.length xs.length z - HT.sIx xs.length 0 y)
theorem gT(xs:LV)(y z:Option Int):(XZ xs y z).length<=xs.length:=by unfold XZ;rw[wb,QAf];omega
end
noncomputable def UO(n:Nat)(i:Int):Option Nat:=if 0<=i then(if i<n then some i.toNat else none) else if -(n:Int)<=i then some (i+n).toNat else none
noncomputable def pD{α:Type}(xs:List α)(i:Int):Option α:=(UO xs.length i).bind λj=>xs[j]?
theorem aQ{n:Nat}{i:Int}{j:Nat}(h:UO n i=some j):seqIndex? i n=some j/\j<n/\-(n:Int)<=i/\i<n:=by unfold UO at h;by_cases y:0<=i;rw[if_pos y]at h;by_cases x:i<n;rw[if_pos x]at h;have e:i.toNat=j:=Qv h;exact⟨by rw[QAV y x,e],by omega,by omega,x⟩;rw[if_neg x]at h;cases h;rw[if_neg y]at h;by_cases x:-(n:Int)<=i;rw[if_pos x]at h;have e:(i+n).toNat=j:=Qv h;exact⟨by rw[QBq (by omega) x,e],by omega,x,by omega⟩;rw[if_neg x]at h;cases h
theorem IQ{α:Type}{xs:List α}{i:Int}{v:α}(h:pD xs i=some v):∃j,seqIndex? i xs.length=some j/\xs[j]?=some v/\j<xs.length/\-(xs.length:Int)<=i/\i<xs.length:=by
 unfold pD at h;cases e:UO xs.length i with|none=>rw[e]at h;cases h|some j=>rw[e]at h;obtain⟨u,z,y,x⟩:=aQ e;exact⟨j,u,h,z,y,x⟩
theorem gD{α:Type}{xs:List α}{j:Nat}{v:α}(h:xs[j]?=some v):pD xs (j:Int)=some v:=by
 have x:j<xs.length:=(Qh.mp h).1;have e:UO xs.length (j:Int)=some j:=by unfold UO;rw[if_pos (by omega),if_pos (by omega)];simp
 unfold pD;rw[e];exact h
def cY(b:Expr):Prop:=∀o i,subscripted b false o i=operate [o,i] (getItem o i)
def F7(X:Cx)(r:R2):Prop :=
 ∀(k h:Expr) (z:TB) (s:Shared) (a:St) (H:Hp) (x y:V) (v u:Value) (Q:VK),Inv X z a H s->YA x v->YA y u->r x y H Q ->
  subscripted h false v u=operate [v,u] (getItem v u)->wpAny (model X.prog X.w) X.A (subscriptTail k h v u) (EP X z a Q) X.xe s
def y8(X:Cx)(id:String)(r:V->LV->Hp->VK->Prop):Prop :=
 ∀(h:TB) (s:Shared) (y:St) (H:Hp) (x:V) (z:LV) (v:Value) (u:LW) (Q:VK),Inv X h y H s->YA x v->nA z u->r x z H Q ->
  wpAny (model X.prog X.w) X.A (call (.builtin id) (v::u)) (EP X h y Q) X.xe s
section
variable{X:Cx}{a b:Expr}{ta Y:TE}{pos:Pos}
section
variable{d:TB}{s:Shared}{x:V}{u v:Value}
theorem F7.or{r g:R2}(h:F7 X r)(h':F7 X g):F7 X (λx y H Q=>r x y H Q∨g x y H Q):=by intro z w d s k H x y v u Q I f e q i;rcases q with q|q;exact h z w d s k H x y v u Q I f e q i;exact h' z w d s k H x y v u Q I f e q i
theorem y8.or{g:String}{r e:V->LV->Hp->VK->Prop}(h:y8 X g r)(h':y8 X g e):y8 X g (λx xs H Q=>r x xs H Q∨e x xs H Q):=by intro d s y H x xs v z Q I w k q;rcases q with q|q;exact h d s y H x xs v z Q I w k q;exact h' d s y H x xs v z Q I w k q
theorem om{r:R2}(g:F7 X r)(i:PE X a ta)(hb:PE X b Y)(f:cY b):PE X (.Subscript a b pos) (xl r ta Y):=by intro d s z H Q I h;exact QBd (binT i hb I h λv u w x y l j e k q=>g a b d w z l x y v u Q j e k q (f _ _))
noncomputable def vm(K:QE):R2:=λx y H Q=>∃p h i v,x=.ref p/\y=.int i/\EC K H p h/\pD h i=some v/\Q v H
noncomputable def zm(K:QE):R2:=λx y H Q=>∃p h i v,x=.ref p/\y=.int i/\AD K H p h/\pD h i=some v/\Q v H
noncomputable def km:R2:=λx y H Q=>∃z i c,x=.str z/\y=.int i/\z.length<=sizeLine/\pD z.cps.toList i=some c/\Q (.str ⟨#[c]⟩) H
theorem Ma:F7 X (vm X.K):=by
 intro e f d s o H x y v u Q I E C h Z;obtain⟨p,N,i,z,rfl,rfl,F,G,q⟩:=h;cases E;obtain⟨t,rfl⟩:=C;obtain⟨m,r,l,O⟩:=I.list F;obtain⟨j,k,M,R,L,J⟩:=IQ G;obtain⟨w,A,g⟩:=r.get M;have hl:=r.length;have P:=BH;have fin:EP X d o Q w s:=⟨z,H,I,g,q⟩
 by_cases W:0<=i;have n:i.toNat=j:=by rw[QAV W J]at k;exact Qv k
 exact item_listR l.isList W (by omega) (by rw[n];simpa using A) fin Z;have n:(i+(m.toArray.size:Int)).toNat=j:=by rw[QBq (by omega) L]at k;rw[QR,<- hl];exact Qv k
 exact qf (x:=w) l.isList.typeIs QBe.lookup
  (wpAny_getItem_list_neg (Q:=λr B=>r=w/\EP X d o Q r B) l.isList (by omega) (by rw[QR]<;>omega) (by omega) (by rw[n];simpa using A) ⟨rfl,fin⟩) Z
theorem Th:F7 X (zm X.K):=by
 intro k e d s g H x y v u Q I o n h W;obtain⟨p,G,i,z,rfl,rfl,A,B,q⟩:=h;cases o;obtain⟨t,rfl⟩:=n;obtain⟨Z,r,l,J⟩:=I.tuple A;obtain⟨j,E,C,O,N,M⟩:=IQ B;obtain⟨w,F,f⟩:=r.get C;have hl:=r.length;have L:=BH;have fin:EP X d g Q w s:=⟨z,H,I,f,q⟩
 exact qf (x:=w) l.typeIs QAA.lookup
  (QBU (j:=j) (Q:=λr m=>r=w/\EP X d g Q r m) l (by omega) (by omega) (by rw[QR,<- hl];exact E) (by simpa using F) ⟨rfl,fin⟩) W
theorem Ah:F7 X km:=by
 intro w k d s W H x y v u Q I g f h l;obtain⟨z,i,c,rfl,rfl,A,m,q⟩:=h;obtain⟨t,rfl⟩:=g;obtain⟨K,rfl⟩:=f;obtain⟨j,e,p,C,o,n⟩:=IQ m;have hl:z.cps.toList.length=z.length:=by simp[Str.length]
 rw[hl]at e o n;have B:=BH;exact tail_any (QCF s z t) slot_str_getitem.lookup (getItem_str (c:=c) (by have Z:decide (i < -(2 ^ 63:Int))=false:=dF (by omega);have r:decide (i ≥ 2 ^ 63)=false:=dF (by omega);rw[Z,r,QBN]) (by rw[e];simpa using p) ⟨.str ⟨#[c]⟩,H,I.tok _,⟨_,rfl⟩,q⟩) l
noncomputable def kw(K:QE):R2:=λx y H Q=>vm K x y H Q∨zm K x y H Q∨km x y H Q
theorem Eh:F7 X (kw X.K):=Ma.or (Th.or Ah)
theorem nV(its:LW)(n j:Nat)(u:Value):qA (·.setIfInBounds j u) { cls:=.type "list",data:=.seq its.toArray n }={ cls:=.type "list",data:=.seq (its.set j u).toArray n }:=by simp[qA]
theorem Inv.lst{d:TB}{σ:St}{H:Hp}{s:Shared}{p:Addr}{xs:LV}(I:Inv X d σ H s)(h:H p=some (.lst xs)) :
  ∃(its:LW) (n:Nat),nA xs its/\s.heap.get? p=some { cls:=.type "list",data:=.seq its.toArray n }/\xs.length<=sizeLine:=by
 obtain⟨z,its,n,r,e⟩:=I.hok p _ h;exact⟨its,n,r,e,z⟩
theorem Inv.lstUpd{σ:St}{H:Hp}{p:Addr}{xs y:LV}{its its':LW}{n z:Nat}{f:Obj->Obj}(I:Inv X d σ H s)(h:H p=some (.lst xs))
  (g:s.heap.get? p=some { cls:=.type "list",data:=.seq its.toArray n }) (w:f { cls:=.type "list",data:=.seq its.toArray n }={ cls:=.type "list",data:=.seq its'.toArray z }) (r:nA y its') (k:y.length<=sizeLine) (t:Nat) :
  Inv X d σ (BA H p (.lst y)) { s with heap:=s.heap.update p f,toks:=t }:=by
 have e:(s.heap.update p f).get? p=some { cls:=.type "list",data:=.seq its'.toArray z }:=by rw[wn f g (by rw[w]<;>rfl),w]
 refine I.write (x:=p) (e:=p) (by rw[h];trivial) (.inl rfl) (λb u hb q=>(QAj _ _ (qD hb)).trans q) ⟨_,e⟩ ?_;exact⟨k,its',z,r,e⟩
def El:V->V->V->Hp->(Hp->Prop)->Prop:=λo i v H Q=>∃p h k j,o=.ref p/\i=.int k/\H p=some (.lst h)/\UO h.length k=some j/\Q (BA H p (.lst (h.set j v)))
theorem B2:jc X El:=by
 intro d s Z H o i v G J u Q I B C A h;obtain⟨p,K,k,j,rfl,rfl,e,F,q⟩:=h;cases B;obtain⟨t,rfl⟩:=C;obtain⟨y,n,r,w,E⟩:=I.lst e;obtain⟨z,M,g,f⟩:=aQ F;have hl:=r.length;have L:=BH;have m:Inv X d Z (BA H p (.lst (K.set j v))) { s with heap:=s.heap.update p (qA (·.setIfInBounds j u)) } :=
  I.lstUpd e w (nV y n j u) (r.set A j) (by rw[qa];exact E) s.toks
 by_cases l:0<=k;have hk:k.toNat=j:=by rw[QAV l f]at z;exact Qv z
 exact PySem.W.ki_setAt w l (by omega) (by rw[QR,<- hl];exact f) (by rw[hk];exact⟨_,m,q⟩);have hk:(k+(y.toArray.size:Int)).toNat=j:=by rw[QBq (by omega) g]at z;rw[QR,<- hl];exact Qv z
 exact PySem.W.ki_setBack w (by omega) (by rw[QR,<- hl];exact g) (by omega) (by rw[hk];exact⟨_,m,q⟩)
theorem KP(y z:Option Int)(n:Nat):(sliceBounds y z none n).1=((HT.sIx n 0 y:Nat):Int)/\(sliceBounds y z none n).2.1=((HT.sIx n n z:Nat):Int)/\(sliceBounds y z none n).2.2=1:=by
 refine⟨?_,?_,rfl⟩;cases y with|none=>simp[sliceBounds,HT.sIx]|some i=>simp only[sliceBounds,HT.sIx,QBz,show(1:Int) > 0 by decide,if_true];by_cases h:i<0;simp only[h,if_true]<;>omega;simp only[h,if_false]<;>omega
 cases z with|none=>simp[sliceBounds,HT.sIx]|some i=>simp only[sliceBounds,HT.sIx,QBz,show(1:Int) > 0 by decide,if_true];by_cases h:i<0;simp only[h,if_true]<;>omega;simp only[h,if_false]<;>omega
theorem KN(its:LW)(h y:Option Int):slicePick its.toArray h y none=((its.drop (HT.sIx its.length 0 h)).take (HT.sIx its.length its.length y - HT.sIx its.length 0 h)).toArray:=by obtain⟨k,w,z⟩:=KP h y its.toArray.size;unfold slicePick;rw[k,w,z];simp only[sliceRange_one,pick_run,QR]<;>rfl
def Al(K:QE):V->Option Int->Option Int->Hp->VK->Prop:=λx y z H Q=>∃a h,x=.ref a/\EC K H a h/\∀p,H p=none->Q (.ref p) (BA H p (.lst (XZ h y z)))
theorem U8:Bj X (Al X.K):=by intro d s p H x v W Z w k A Q I f n i g h;obtain⟨a,y,rfl,m,q⟩:=h;cases f;obtain⟨j,r,e,l⟩:=I.list m;have z:=r.length;refine⟨"list",_,QBe.lookup,e.isList.typeIs,?_⟩;refine wpAny_getItem_list_slice e.isList n i g .none (by simp) ?_ (by rw[QR]<;>omega);rw[KN,<- z];refine⟨.ref s.heap.objs.size,_,I.laid (t':=s.toks) (o:=.lst (XZ y w k)) (λb ob q=>QK _ q) (Qa _) ?_,rfl,q _ (I.hok.fresh (Qa _))⟩;exact⟨QX (gT y w k) l,_,0,(r.drop (HT.sIx y.length 0 w)).take (HT.sIx y.length y.length k - HT.sIx y.length 0 w),QZ _ rfl⟩
noncomputable def kG:V->Bool
 | .non=>true|.bl _=>true|.int _=>true|.str _=>true|_=>false
noncomputable def Jb:V->V->Bool
 | .non,.non=>true|.bl a,.bl b=>a==b|.bl a,.int b=>(if a then 1 else 0)==b|.int a,.bl b=>a==(if b then 1 else 0)|.int a,.int b=>a==b|.str a,.str b=>a==b|_,_=>false
theorem Zi{A:Around}{y:V}(w:YA y u)(h:YA x v)(k:kG y=true)(fx:kG x=true):qi A s u v (Jb y x):=by
 cases y with
 |non =>
  cases w;cases x with|non=>cases h;exact qi.same _|bl b=>cases h;exact qi.none_bool b|int b=>obtain⟨t,rfl⟩:=h;exact qi.none_int b t|str b=>obtain⟨t,rfl⟩:=h;exact qi.none_str b t|_=>exact absurd (show false=true from fx) QG
 |bl a =>
  cases w;cases x with|non=>cases h;exact qi.bool_none a|bl b=>cases h;exact qi.bool_bool a b|int b=>obtain⟨t,rfl⟩:=h;exact qi.bool_int a b t|str b=>obtain⟨t,rfl⟩:=h;exact qi.bool_str a b t|_=>exact absurd (show false=true from fx) QG
 |int a =>
  obtain⟨z,rfl⟩:=w;cases x with|non=>cases h;exact qi.int_none a z|bl b=>cases h;exact qi.int_bool a z b|int b=>obtain⟨t,rfl⟩:=h;exact qi.int_int a z b t|str b=>obtain⟨t,rfl⟩:=h;exact QBP a z b t|_=>exact absurd (show false=true from fx) QG
 |str a =>
  obtain⟨z,rfl⟩:=w;cases x with|non=>cases h;exact qi.str_none a z|bl b=>cases h;exact qi.str_bool a z b|int b=>obtain⟨t,rfl⟩:=h;exact QBQ a z b t|str b=>obtain⟨t,rfl⟩:=h;exact qi.str_str a z b t|_=>exact absurd (show false=true from fx) QG
 |_=>exact absurd (show false=true from k) QG
noncomputable def HV(x:V)(u:Value):Bool:=match u with
 | .none=>Jb .non x|.bool b=>Jb (.bl b) x|.int i _=>Jb (.int i) x|.str z _=>Jb (.str z) x|_=>false
theorem U6{y:V}(r:YA y u)(f:kG y=true):HV x u=Jb y x:=by
 cases y with|non=>cases r;rfl|bl b=>cases r;rfl|int i=>obtain⟨t,rfl⟩:=r;rfl|str z=>obtain⟨t,rfl⟩:=r;rfl|_=>exact absurd (show false=true from f) QG
theorem II{x:V}:∀{xs:LV}{us:LW},nA xs us->xs.all kG=true->us.any (HV x)=xs.any λy=>Jb y x
 |_,_,.nil,_=>rfl|y::xs,u::us,.cons r t,f=>by rw[qj,Qg]at f;rw[wy,wy,U6 r f.1,II t f.2]
theorem AF{A:Around}{s:Shared}{x:V}{v:Value}(z:YA x v)(fx:kG x=true):∀{xs:LV}{us:LW},nA xs us->xs.all kG=true->∀u∈us,qi A s u v (HV x u)
 |_,_,.nil,_=>λu h=>by cases h|y::xs,u::us,.cons r t,f=>λw h=>by rw[qj,Qg]at f;rcases QM.mp h with rfl|h;rw[U6 r f.1];exact Zi r z f.1 fx;exact AF z fx t f.2 w h
def inV(x:V)(xs:LV):Bool:=xs.any λy=>Jb y x
noncomputable def vr(K:QE)(neg:Bool):R2:=λx y H Q=>∃p h,y=.ref p/\(EC K H p h∨AD K H p h)/\kG x=true/\h.all kG=true/\Q (.bl (if neg then !inV x h else inV x h)) H
theorem GY:ZE X (compareOp .In) (vr X.K false):=by intro d s l H x y v u Q I g i h;obtain⟨p,m,rfl,k,fx,fs,q⟩:=h;cases i;rcases k with k|k;obtain⟨z,r,e,j⟩:=I.list k;refine SeqAt.in_listAt (HV x) e.isList (λw f=>AF g fx r fs w (by simpa using f)) ⟨.bl _,H,I,rfl,?_⟩;rw[show z.toArray.any (HV x)=z.any (HV x) by simp,II r fs];exact q;obtain⟨z,r,e,j⟩:=I.tuple k;refine SeqAt.in_tupleAt (HV x) e (λw f=>AF g fx r fs w (by simpa using f)) ⟨.bl _,H,I,rfl,?_⟩;rw[show z.toArray.any (HV x)=z.any (HV x) by simp,II r fs];exact q
theorem PP:ZE X (compareOp .NotIn) (vr X.K true):=by intro d s l H x y v u Q I g i h;obtain⟨p,m,rfl,k,fx,fs,q⟩:=h;cases i;rcases k with k|k;obtain⟨z,r,e,j⟩:=I.list k;refine SeqAt.notIn_listAt (HV x) e.isList (λw f=>AF g fx r fs w (by simpa using f)) ⟨.bl _,H,I,rfl,?_⟩;rw[show z.toArray.any (HV x)=z.any (HV x) by simp,II r fs];exact q;obtain⟨z,r,e,j⟩:=I.tuple k;refine SeqAt.notIn_tupleAt (HV x) e (λw f=>AF g fx r fs w (by simpa using f)) ⟨.bl _,H,I,rfl,?_⟩;rw[show z.toArray.any (HV x)=z.any (HV x) by simp,II r fs];exact q
theorem NI:iC X (.builtin "len") (λxs H Q=>∃p z,xs=[.ref p]/\(EC X.K H p z∨AD X.K H p z)/\Q (.int z.length) H):=by intro d s j H xs l Q I r h;obtain⟨p,z,rfl,w,q⟩:=h;obtain⟨u,rfl,g⟩:=xH r;cases g;have m:=BH;rcases w with w|w;obtain⟨f,k,e,i⟩:=I.list w;have y:=k.length;exact Calls.call_len_list e.isList (by simp only[QR]<;>omega) ⟨.int z.length,H,I.tok _,⟨s.toks+1,by rw[QR,y]⟩,q⟩;obtain⟨f,k,e,i⟩:=I.tuple w;have y:=k.length;exact len_tuple e (by simp only[QR]<;>omega) ⟨.int z.length,H,I.tok _,⟨s.toks+1,by rw[QR,y]⟩,q⟩
theorem RQ:iC X (.builtin "len") (λxs H Q=>∃z,xs=[.str z]/\z.length<=sizeLine/\Q (.int z.length) H):=by intro d s y H xs w Q I r h;obtain⟨z,rfl,k,q⟩:=h;obtain⟨u,rfl,t,rfl⟩:=xH r;have e:=BH;exact len_str (by omega) ⟨.int z.length,H,I.tok _,⟨_,rfl⟩,q⟩
theorem iC.or{f:Value}{r k:LV->Hp->VK->Prop}(h:iC X f r)(h':iC X f k):iC X f (λxs H Q=>r xs H Q∨k xs H Q):=by intro d s y H xs z Q I w q;rcases q with q|q;exact h d s y H xs z Q I w q;exact h' d s y H xs z Q I w q
theorem PQ:iC X (.type "list") (λxs H Q=>∃p k,xs=[.ref p]/\(EC X.K H p k∨AD X.K H p k)/\∀l,H l=none->Q (.ref l) (BA H l (.lst k))):=by
 intro d s E H xs G Q I r h;obtain⟨p,k,rfl,m,q⟩:=h;obtain⟨u,rfl,F⟩:=xH r;cases F;have fin:∀(y:LW),nA k y->k.length<=sizeLine->∀(z:Heap) (g:Nat),(∀b C,s.heap.get? b=some C->z.get? b=some C) ->
   z.get? s.heap.objs.size=some { cls:=.type "list",dict:=none,data:=.seq y.toArray g,slots:=#[] }->EP X d E Q (.ref s.heap.objs.size) { s with heap:=z }:=λy f j z g i e =>
  ⟨.ref s.heap.objs.size,_,I.laid (t':=s.toks) i (Qa _) (show zB X.prog X.w _ z _ (.lst k) from⟨j,y,g,f,e⟩),rfl,q _ (I.hok.fresh (Qa _))⟩
 rcases m with m|m;obtain⟨y,f,W,j⟩:=I.list m;have Z:=f.length;obtain⟨o,A,hc,n,B⟩:=W.isList;exact call_list_seq p (.inl rfl) A hc B (λz g i e=>fin y f j z g i e) (by simp only[QR]<;>omega);obtain⟨y,f,W,j⟩:=I.tuple m;have Z:=f.length;obtain⟨o,A,hc,n,B⟩:=W;exact call_list_seq p (.inr rfl) A hc B (λz g i e=>fin y f j z g i e) (by simp only[QR]<;>omega)
theorem IN:iC X (.type "tuple") (λxs H Q=>∃p z,xs=[.ref p]/\((EC X.K H p z/\∀l,H l=none->Q (.ref l) (BA H l (.tup z)))∨(AD X.K H p z/\Q (.ref p) H))):=by
 intro d s j H xs C Q I r h;obtain⟨p,z,rfl,h⟩:=h;obtain⟨u,rfl,W⟩:=xH r;cases W;rcases h with⟨i,q⟩| ⟨i,q⟩
 obtain⟨y,f,g,m⟩:=I.list i;have n:=f.length;refine call_tuple_list g.isList (λk A=>?_) (by simp only[QR]<;>omega);have Z:Inv X d j H { s with heap:=k }:=I.kept (t':=s.toks) A;have B:Inv X d j (BA H k.objs.size (.tup z)) { s with heap:=k.push { cls:=.type "tuple",data:=.seq y.toArray } } :=
  Z.laid (t':=s.toks) (λb o e=>QK _ e) (Qa _) (show zB X.prog X.w _ _ _ (.tup z) from⟨m,y,f,IsTup.new _ _⟩)
 exact⟨.ref k.objs.size,_,B,rfl,q _ (Z.hok.fresh (Qa _))⟩;obtain⟨y,f,g,m⟩:=I.tuple i;exact call_tuple_same g ⟨.ref p,H,I,rfl,q⟩
def EZ(K:QE)(T:String)(x:V)(H:Hp):Prop:=match x with
 | .str _=>T="str"|.int _=>T="int"|.ref p=>(T="list"/\∃y,EC K H p y)∨(T="tuple"/\∃o,K.lookup p=some o/\o.cls=.type "tuple"/\o.dict=none) ∨
   (T="dict"/\((∃h,H p=some (.dK h))∨∃z h,H p=some (.dT z h)))∨(T="set"/\∃S n,H p=some (.set S n))
 |_=>False
theorem B1{σ:St}{H:Hp}{T:String}(I:Inv X d σ H s)(r:YA x v)(ty:EZ X.K T x H) :
  s.TypeIs v T/\∀a,v=.ref a->∃ob,s.heap.get? a=some ob/\ob.dict=none:=by
 cases x with
 |str z=>obtain⟨t,rfl⟩:=r;cases(show T="str" from ty);exact⟨QCF s z t,λ_ e=>nomatch e⟩
 |int i=>obtain⟨t,rfl⟩:=r;cases(show T="int" from ty);exact⟨typeIs_int s i t,λ_ e=>nomatch e⟩
 |ref p =>
  cases r;rcases ty with⟨rfl,l,j⟩| ⟨rfl,o,hk,hc,w⟩| ⟨rfl,hk⟩| ⟨rfl,S,n,hk⟩
  obtain⟨g,_,f,_⟩:=I.list j;refine⟨f.isList.typeIs,λa e=>?_⟩;cases e;obtain⟨o,n,e,c,w,_⟩:=f;exact⟨o,e,w⟩;refine⟨⟨o,I.kIn p o hk,hc⟩,λa e=>?_⟩;cases e;exact⟨o,I.kIn _ o hk,w⟩;have z:∃o,s.heap.get? p=some o/\o.ExactDict:=by
   rcases hk with⟨y,hk⟩| ⟨m,y,hk⟩
   obtain⟨_,_,_,_,o,_,_,e,h,_⟩:=I.hok p _ hk;exact⟨o,e,h⟩;obtain⟨_,_,_,_,o,_,e,h,_⟩:=I.hok p _ hk;exact⟨o,e,h⟩
  obtain⟨o,e,h⟩:=z;refine⟨⟨o,e,h.1⟩,λa k=>?_⟩;cases k;exact⟨o,e,h.2.1⟩;obtain⟨o,_,_,_,e,h,_⟩:=I.hok p _ hk;refine⟨⟨o,e,h.1⟩,λa k=>?_⟩;cases k;exact⟨o,e,h.2.1⟩
 |_=>exact Qd ty
noncomputable def Fq(K:QE)(T:String)(r:V->LV->Hp->VK->Prop)(m:TE):TE:=λy H Q=>m y H λx h=>EZ K T x h/\r x [] h Q
noncomputable def jw(K:QE)(T:String)(r:V->LV->Hp->VK->Prop)(m:TE)(t:TA):TE:=λh H Q=>m h H λx y=>EZ K T x y/\t h y λz w=>r x z w Q
end
variable{o e:Expr}{es:List Expr}{m:TE}{t:TA}{name:Str}{apos cpos:Pos}{T g:String}{r:V->LV->Hp->VK->Prop}
theorem Hg(p:PlainAttrs T)(w:Slot T name g)(k:typeOf (.builtin g)=pure (.type "method_descriptor"))(Z:y8 X g r)(q:PE X o m)
  (u:attributeBase o name X.env (eval o X.env)=eval o X.env:=by rfl) (z:(apos.endLine==cpos.line)=true:=by rfl):PE X (.Call (.Attribute o name apos) [] [] cpos) (Fq X.K T r m):=by
 intro y s f H Q I h;refine QAW u z (AB (q y s f H _ I h) λv l ⟨x,B,j,i,ty,n⟩=>?_);obtain⟨A,W⟩:=B1 j i ty;exact⟨T,g,p,w,k,A,W,WR rfl (QBE (Z y l f B x [] v [] Q j i .nil n))⟩
theorem am(F:PlainAttrs T)(k:Slot T name g)(j:typeOf (.builtin g)=pure (.type "method_descriptor"))(L:y8 X g r)(J:PE X o m)(M:PA X (e::es) t)
  (w:attributeBase o name X.env (eval o X.env)=eval o X.env:=by rfl)
  (f:((backTo cpos (starEach (e::es) X.env)).all (λx=>!x.1)&&(backToKw cpos (keywordEach [] X.env)).all (λx=>x.1.isSome)
   && decide ((e::es).length+([]:List Keyword).length+(if([]:List Keyword).isEmpty then 0 else 1)<30))=true:=by rfl)
  (u:(apos.endLine==cpos.line)=true:=by rfl) (G:starEach (e::es) X.env=(false,eval e X.env)::starEach es X.env:=by rfl) (z:(backTo cpos (starEach es X.env)).any (·.1)=false:=by rfl) :
  PE X (.Call (.Attribute o name apos) (e::es) [] cpos) (jw X.K T r m t):=by
 intro y s i H Q I h;refine wpAny_Call_method_late w f u rfl (AB (J y s i H _ I h) λv A ⟨x,S,p,l,ty,E⟩=>?_);obtain⟨O,N⟩:=B1 p l ty;refine⟨T,g,F,k,j,O,N,?_⟩;have n:=M cpos y A i S _ p E;rw[G]at n ⊢;refine WR (by show(false||(backTo cpos (starEach es X.env)).any (·.1))=false;rw[z]<;>rfl) (Calls.evalArgs_plain ?_);exact AB n λZ W ⟨q,R,P,B,C⟩=>L y W i R x q v Z Q P l B C
end
def Ep(X:Cx)(id:String)(r:V->LV->Hp->VK->Prop):Prop :=
 ∀(h:TB) (s:Shared) (y:St) (H:Hp) (x:V) (z:LV) (v:Value) (u:LW) (Q:VK),Inv X h y H s->YA x v->nA z u->r x z H Q ->
  wpAny (model X.prog X.w) X.A (call (.builtin id) (v::u)) (EP X h y Q) X.xe s
theorem nA.one:∀{x:V}{us:LW},nA [x] us->∃u,us=[u]/\YA x u
 |_,_,.cons r .nil=>⟨_,rfl,r⟩
theorem nA.zero:∀{us:LW},nA [] us->us=[]
 |_,.nil=>rfl
theorem nA.dropLast{xs:LV}{us:LW}(h:nA xs us):nA xs.dropLast us.dropLast:=by
 induction h with
 |nil=>exact .nil|cons r t x =>
  cases t with|nil=>exact .nil|cons q y=>exact .cons r x
theorem nA.eraseIdx:∀{xs:LV}{us:LW}(i:Nat),nA xs us->nA (xs.eraseIdx i) (us.eraseIdx i)
 |_,_,_,.nil=>.nil|_,_,0,.cons _ t=>t|_,_,i+1,.cons r t=>.cons r (nA.eraseIdx i t)
theorem FV{α:Type}(l:List α):l.eraseIdx (l.length - 1)=l.dropLast:=by
 induction l with
 |nil=>rfl|cons a r h =>
  cases r with
  |nil=>rfl|cons b r =>
   have e:(a::b::r).length - 1=((b::r).length - 1)+1:=by have y:(a::b::r).length=r.length+2:=rfl;have x:(b::r).length=r.length+1:=rfl;omega
   rw[e,List.eraseIdx_cons_succ,h]
   all_goals rfl
theorem VO{α:Type}:∀(l:List α) (i:Nat),(l.eraseIdx i).length<=l.length
 |[],_=>Qa _|_::_,0=>wC _|_::r,i+1=>QAg (VO r i)
section
variable{X:Cx}{y:TB}{σ:St}{H:Hp}{s:Shared}{l b:Addr}{xs v w:LV}
theorem Inv.lset{its its':LW}{n:Nat}{f:Array Value->Array Value}{t':Nat}(I:Inv X y σ H s)(a:H l=some (.lst xs))
  (e:s.heap.get? l=some { cls:=.type "list",data:=.seq its.toArray n }) (k:f its.toArray=its'.toArray) (hv:nA v its') (h:v.length<=sizeLine) :
  Inv X y σ (BA H l (.lst v)) { s with heap:=s.heap.update l (qA f),toks:=t' }:=by
 have q:=PySem.IsL.update e f;rw[k]at q;refine I.write (x:=l) (e:=l) (by rw[a];exact trivial) (.inl rfl) (λg u hb z=>(QAj s.heap (qA f) (qD hb)).trans z) ⟨_,q⟩ ?_;exact⟨h,its',_,hv,q⟩
theorem Inv.lnew{its:LW}{t':Nat}(I:Inv X y σ H s)(hv:nA v its)(h:v.length<=sizeLine) :
  Inv X y σ (BA H s.heap.objs.size (.lst v)) { s with heap:=s.heap.push { cls:=.type "list",data:=.seq its.toArray },toks:=t' } :=
 I.laid (λ_ _ q=>QK _ q) (Qa _) ⟨h,its,0,hv,QZ _ rfl⟩
theorem Inv.fresh(I:Inv X y σ H s):H s.heap.objs.size=none:=I.hok.fresh (Qa _)
theorem Inv.lstM(I:Inv X y σ H s)(h:H l=some (.lst xs)):xs.length<=sizeLine/\∃(its:LW) (n:Nat),nA xs its/\xs.length=its.length/\s.heap.get? l=some { cls:=.type "list",data:=.seq its.toArray n }:=by obtain⟨z,its,n,r,e⟩:=I.hok l _ h;exact⟨z,its,n,r,r.length,e⟩
theorem A4{n:Nat}(h:n<=sizeLine):WD n=false:=by unfold WD;exact dF (by omega)
end
section
variable{X:Cx}
def EW:V->LV->Hp->VK->Prop:=λx z H Q=>∃l h y,x=.ref l/\z=[y]/\H l=some (.lst h)/\h.length<sizeLine/\Q .non (BA H l (.lst (h++[y])))
theorem kZ:Ep X "list.append" EW:=by intro k s i H x m v o Q I b f h;obtain⟨l,j,y,rfl,rfl,a,p,q⟩:=h;cases b;obtain⟨u,rfl,g⟩:=f.one;obtain⟨z,w,n,r,hl,e⟩:=I.lstM a;refine QA0 F.slot_list_append ⟨_,e,rfl⟩ F.entry_list_append (F.args_list_append_2 _ _) (PySem.list_append l w.toArray n u (by rw[QR];omega)) ⟨e,?_⟩;refine⟨.non,_,I.lset (its':=w++[u]) a e (by simp) (r.append (.cons g .nil)) ?_,rfl,q⟩;rw[QH,QY];omega
def O8:V->LV->Hp->VK->Prop:=λx z H Q=>∃l b y h,x=.ref l/\z=[.ref b]/\H l=some (.lst y)/\H b=some (.lst h)/\y.length+h.length<=sizeLine/\Q .non (BA H l (.lst (y++h)))
theorem zZ:Ep X "list.extend" O8:=by
 intro f s K H x E v G Q I i j h;obtain⟨l,b,C,A,rfl,rfl,g,Z,J,q⟩:=h;cases i;obtain⟨u,rfl,m⟩:=j.one;cases m;obtain⟨z,w,n,r,hl,e⟩:=I.lstM g;obtain⟨B,y,p,o,Y,W⟩:=I.lstM Z;have a:w.toArray.size+y.toArray.size<=sizeLine:=by rw[QR,QR];omega
 have k:¬ (!w.toArray.isEmpty&&WD (w.toArray.size+y.toArray.size))=true:=by rw[A4 a,QA6];exact QG
 refine QA0 F.slot_list_extend ⟨_,e,rfl⟩ F.entry_list_extend (F.args_list_extend_2 _ _)
  (AutoSeq1.list_extend_list_list_0 l w.toArray n b y.toArray p k (by rw[QR];omega) (by omega)) ⟨e,W,?_⟩
 refine⟨.non,_,I.lset (its':=w++y) g e (by simp) (r.append o) ?_,rfl,q⟩;rw[QH];omega
def kr:V->LV->Hp->VK->Prop:=λx z H Q=>∃l h y,x=.ref l/\z=[]/\H l=some (.lst h)/\h[h.length - 1]?=some y/\Q y (BA H l (.lst h.dropLast))
theorem Kh:Ep X "list.pop" kr:=by
 intro b s p H x Z v W Q I g i h;obtain⟨l,Y,y,rfl,rfl,f,m,q⟩:=h;cases g;have a:=i.zero;subst a;obtain⟨z,w,n,r,hl,e⟩:=I.lstM f;obtain⟨u,o,j⟩:=r.get m;have k:w.toArray[w.toArray.size - 1]?=some u:=by show w.toArray[w.length - 1]?=some u;rw[<- wo,<- hl];exact o
 refine QA0 QB5 ⟨_,e,rfl⟩ QB0 (F.args_list_pop_1 _) (MeetsSeq.list_pop_last l w.toArray n u k (by rw[QR];omega)) ⟨e,?_⟩;refine⟨y,_,I.lset (its':=w.dropLast) f e ?_ r.dropLast ?_,j,q⟩;show w.toArray.eraseIdxIfInBounds (w.toArray.size - 1)=w.dropLast.toArray;rw[QR,WV,FV];rw[List.length_dropLast];omega
def og:V->LV->Hp->VK->Prop:=λx z H Q=>∃l h i k y,x=.ref l/\z=[.int i]/\H l=some (.lst h)/\-(2 ^ 63)<=i/\i<2 ^ 63/\seqIndex? i h.length=some k/\h[k]?=some y/\Q y (BA H l (.lst (h.eraseIdx k)))
theorem Y5:Ep X "list.pop" og:=by
 intro f s A H x B v C Q I m o h;obtain⟨l,j,i,k,y,rfl,rfl,g,K,W,hk,Y,q⟩:=h;cases m;obtain⟨u,rfl,p⟩:=o.one;obtain⟨t,rfl⟩:=p;obtain⟨z,a,n,r,hl,e⟩:=I.lstM g;obtain⟨w,Z,b⟩:=r.get Y;refine QA0 QB5 ⟨_,e,rfl⟩ QB0 (F.args_list_pop_2 _ _)
  (MeetsSeq.list_pop_at l a.toArray n i t k w (fitsIndex_both K W) (by rw[QR,<- hl];exact hk) (by rw[<- wo];exact Z) (by rw[QR];omega)) ⟨e,?_⟩
 refine⟨y,_,I.lset (its':=a.eraseIdx k) g e ?_ (r.eraseIdx k) ?_,b,q⟩;show a.toArray.eraseIdxIfInBounds k=(a.eraseIdx k).toArray;rw[WV];have:=VO j k;omega
end
end L2
namespace Att
open PySem PySem.W PySem.Calls PyProof.Rows
theorem SK{P:Params}{h:Heap}:∀(ns:LJ) (vs:LW),WellAll P h vs (ns.map WData.int)->IntsAre vs ns:=by
 intro ns;induction ns with
 |nil=>intro vs w;rw[wJ]at w;cases w;exact .nil|cons n ns x =>
  intro vs w;rw[QV]at w;cases w with|cons a b=>cases a;exact .cons _ _ (x _ b)
theorem script_of{l:OpenLaw}{n:Nat}(j:l.most=some n){P:Params}{h:Heap}{args:List WData}{x:LW}
  (y:l.row.toRowW.claim.pre args=true) (k:WellAll P h x args) :
  ∃a vs ns,x=[jx a]/\args=[WData.list (ns.map WData.int)]/\h.get? a=some { cls:=.type "list",data:=.seq vs.toArray }/\IntsAre vs ns/\ns.length<=n:=by
 have b:WShape.hasAll [] args [.list .int]=true:=(pre_splitW y).1;have hc:l.pre.holds [] { args:=args }=true:=(pre_splitW y).2;obtain⟨d,r,rfl,p,o⟩:=hasAllW_cons b;obtain rfl:=hasAllW_nil o;obtain⟨s,rfl,m⟩:=hasW_list p;obtain⟨ns,rfl⟩:=items_int m;have z:ns.length<=n:=by
  unfold OpenLaw.pre at hc;have w:(WTm.not (.lt (.lit (.int (n:Int))) (.len (.arg 0)))).holds [] { args:=[.list (ns.map .int)] }=true:=by have w:=(holds_andW hc).1;rw[j]at w;exact w
  have v:=condW_of w (w_not (w_lt w_lit (w_len_list (w_arg rfl))));rw[QA]at v;refine Nat.le_of_not_lt λq=>?_;have g:(n:Int)<((ns.length:Nat):Int):=by omega
  first
   | (rw[dT g]at v;exact absurd v (by decide))
   | (simp at v;omega)
 cases k with
 |cons f e =>
  cases e;cases f with|list i u=>exact⟨_,_,ns,rfl,rfl,i,SK ns _ u,z⟩
theorem post_true(l:OpenLaw)(args:List WData):l.row.toRowW.claim.post args (.bool true) args=true :=
 postW_of (r:=l.row.toRowW) (X:=(true==true))
  (show WShape.has [] (.bool true) .bool=true by first|rfl|decide|simp[WShape.has,WShape.arms,WShape.armsAll])
  (show(WTm.eq .res (.lit (.bool true))).value [] { args:=args,res:=some (.bool true),after:=args }=some (.bool (true==true)) from w_eq_bool (w_res rfl) w_lit) rfl
end Att
namespace L2
open PySem PySem.Spec PyProof.Rows
theorem xO:∀{vs:LW}{ns:LJ},IntsAre vs ns->nA (ns.map V.int) vs
 |_,_,.nil=>.nil|_,_,.cons n t h=>.cons ⟨t,rfl⟩ (xO h)
def To(H:Hp):Prop:=∀b,H b=none∨(∃o h,H b=some (.frz o (.lst h)))∨∃q,H b=some (.tbl q)
theorem D5{P:Program}{w:World}{K:QE}{mg mb:Str->Option Value}{CX:M7}{k:Nat}{fa a:Addr}{fd:FuncData}{x:Str}{sp:Sp}{y:Shared}{vs:LW}{ns:LJ}{T c:Addr}{X:Str}(hT:∀f:Heap,K.In f->∀P q,jP mg f P q->P=T/\q=X)(j:y.heap.TableAt c T #[])(hKT:K.lookup T=none)
  (KX:K.In y.heap) (Q:y.heap.Ns mainGlobals mg) (hb:y.heap.Ns builtinsNs mb) (hbb:∀x:Str,x≠"__name__"->mb x=bootBuiltins x) (R:y.heap.NoLimit) (hg:y.gens=#[])
  (J:y.heap.get? a=some { cls:=.type "list",data:=.seq vs.toArray }) (hi:IntsAre vs ns) (hl:ns.length<=sizeLine) (hr:Room k callerA)
  (F:∀f:Heap,K.In f->f.Ns mainGlobals mg->FnOk P w K mg f CX k fa fd [x] sp) (B:∀(s:Shared) (u:Value),BindsTo s fd ⟨[u],[]⟩ [(x,u)])
  (hsp:∀H:Hp,To H->EC K H a (ns.map V.int)->sp [.ref a] H (λv _=>v=.bl true) λ_ _ _=>False)
  (hCX:∀H e s',CX [] H y (λ_ _ _=>False) e s'->False) :
  codeAny (model P w) callerA (.call (.ref fa) ⟨[.ref a],[]⟩) (λr s'=>r=.ok (.ret (.bool true))/\OldK y.heap s'.heap/\s'.os=y.os/\AllBare s'.gens) y:=by
 have rv:=xO hi;have O:=hi.length;have W:∀H:Hp,To H->EC K H a (ns.map V.int)->iN P w H y.heap->(∀b,H b≠none->b=a∨b=T)->(H a≠none->K.lookup a=none)->H T=some (.tbl X) ->
   codeAny (model P w) callerA (.call (.ref fa) ⟨[.ref a],[]⟩) (λr s'=>r=.ok (.ret (.bool true))/\OldK y.heap s'.heap/\s'.os=y.os/\AllBare s'.gens) y:=by
  intro H hO hS A hA hK hP;have l:∀{b:Addr}{o:Obj},y.heap.get? b=some o->H b=none->(KQ y.heap H).get? b=some o:=λe n=>u6 e n;have noA:∀{b:Addr}{o:Obj}{L:Array DictEntry}{M:Nat},y.heap.get? b=some o->o.data=.dict L M->H b=none:=λ{b o L M} e d=>by
   cases q:H b with|none=>rfl|some u=>rcases hA b (by rw[q];simp) with e'|e';subst e';rw[J]at e;cases e;have d':Data.seq vs.toArray _=Data.dict L M:=d;cases d';subst e';rw[j.2]at e;cases e;have d':Data.fields #[]=Data.dict L M:=d;cases d'
  have Y:∀{b:Addr}{m:Str->Option Value},y.heap.Ns b m->(KQ y.heap H).Ns b m:=λ{b m} ⟨o,L,M,e,d,r⟩=>⟨o,L,M,l e (noA e d),d,r⟩
  have G:K.In (KQ y.heap H):=λb o e=>l (KX b o e) (by
   cases q:H b with|none=>rfl|some u=>rcases hA b (by rw[q];simp) with e'|e';subst e';rw[hK (by rw[q];simp)]at e;cases e;subst e';rw[hKT]at e;cases e)
  have hM:Mod K mg (KQ y.heap H):=⟨G,Y Q,⟨mb,Y hb,hbb⟩,let⟨mc,h1,h2⟩:=R;⟨mc,Y h1,h2⟩⟩
  have e0:Env0 P w K mg (KQ y.heap H) callerA [] y H:=⟨rfl,hM,λb o e=>T9 e,wq (rZ _ _),trivial,λb hb=>absurd (show b∈([]:List Addr) from hb) (by simp),λP q t=>(by obtain⟨rfl,rfl⟩:=hT _ G P q t;exact hP),A,.of_eq hg⟩
  refine QBp ((F _ G (Y Q)).run callerA [] y H ⟨[.ref a],[]⟩ [.ref a] [.ref a] _ _ hr e0 (B y (.ref a)) (.cons rfl .nil) (hsp H hO hS)) λr s' h=>?_;cases r with
  |error e=>exact(hCX H e s' h).elim|ok fl =>
   cases fl with
   |next=>exact Qd h|brk=>exact Qd h|cont=>exact Qd h|ret u =>
    obtain⟨v,H',os,bare,un,Z,r',q⟩:=h;have q':v=.bl true:=q;subst q';obtain rfl:u=Value.bool true:=r';have nx:∀b,b∉HX []:=λb z=>absurd (show b∈([]:List Addr) from z) (by simp);refine⟨rfl,⟨λb o e=>?_,λb o e=>un.there b o e (by simp)⟩,os,bare⟩;rcases hO b with z|⟨ob,xs,z⟩| ⟨tq',z⟩
    exact .inl (un.keep b o e z (nx b) (by simp));obtain⟨S,_⟩:=A b _ z;obtain⟨e2,_⟩:=Z b _ (un.frzs b ob _ z);rw[e]at S;cases S;exact .inl e2;have hb:b=T:=by rcases hA b (by rw[z];simp) with rfl|h;obtain⟨ps,S,_⟩:=A b _ z;rw[J]at S;cases S;exact h
    subst hb;obtain⟨ps,e2,_⟩:=Z b _ (un.tbls b _ z);have e0:=e.symm.trans j.2;cases e0;exact .inr (.inl ⟨j.isCodeTable,rfl,#[],ps,rfl,by simpa using e2⟩)
 have aT:a≠T:=λz=>by have e:=j.2;rw[<- z,J]at e;cases e
 have N:∀H:Hp,zB P w H y.heap T (.tbl X):=λH=>⟨#[],j.2,trivial,λpos cv g=>by cases g⟩
 cases hk:K.lookup a with
 |some o =>
  have e:=KX a o hk;rw[J]at e;cases e;refine W (λb=>if b=T then some (.tbl X) else none) (λb=>?_) (.inr ⟨_,vs.toArray,_,hk,rfl,rfl,rfl,by rw[QR,O];exact hl,by simpa using rv⟩) (λb u z=>?_) (λb z=>?_) (λz=>absurd (if_neg aT) z) (if_pos rfl);by_cases hb:b=T
  ·exact .inr (.inr ⟨_,if_pos hb⟩)
  exact .inl (if_neg hb);by_cases hb:b=T
  ·have p:=(if_pos hb).symm.trans z
   cases p;subst hb;exact N _
  have p:=(if_neg hb).symm.trans z;cases p;by_cases hb:b=T
  ·exact .inr hb
  exact absurd (if_neg hb) z
 |none =>
  have C:∀b,b=T->(if b=T then some (.tbl X) else if b=a then some (.frz { cls:=.type "list",data:=.seq vs.toArray } (.lst (ns.map V.int))) else none:Option HO)=some (.tbl X):=λb h=>if_pos h;have I:∀b,b=a->(if b=T then some (.tbl X) else if b=a then some (.frz { cls:=.type "list",data:=.seq vs.toArray } (.lst (ns.map V.int))) else none:Option HO)=some (.frz { cls:=.type "list",data:=.seq vs.toArray } (.lst (ns.map V.int))):=λb h=>(if_neg (h▸aT)).trans (if_pos h);have E:∀b,b≠T->b≠a->(if b=T then some (.tbl X) else if b=a then some (.frz { cls:=.type "list",data:=.seq vs.toArray } (.lst (ns.map V.int))) else none:Option HO)=none:=λb h h2=>(if_neg h).trans (if_neg h2);refine W (λb=>if b=T then some (.tbl X) else if b=a then some (.frz { cls:=.type "list",data:=.seq vs.toArray } (.lst (ns.map V.int))) else none) (λb=>?_) (.inl (.inr ⟨{ cls:=.type "list",data:=.seq vs.toArray },I a rfl⟩)) (λb u z=>?_) (λb z=>?_) (λ_=>hk) (C T rfl);by_cases hb:b=T
  ·exact .inr (.inr ⟨_,C b hb⟩)
  by_cases i:b=a
  ·exact .inr (.inl ⟨_,_,I b i⟩)
  exact .inl (E b hb i);by_cases hb:b=T
  ·have p:=(C b hb).symm.trans z
   cases p;subst hb;exact N _
  by_cases i:b=a
  ·have p:=(I b i).symm.trans z
   cases p;subst i;exact⟨J,by rw[QA];exact hl,vs,_,rv,J⟩
  have p:=(E b hb i).symm.trans z;cases p;by_cases hb:b=T
  ·exact .inr hb
  by_cases i:b=a
  ·exact .inl i
  exact absurd (E b hb i) z
noncomputable def dD(s:Stmt):Arguments:=match s with
 | .FunctionDef _ a _ _ _ _ _ _ _ _=>a|_=>{ posonlyargs:=[],args:=[],vararg:=none,kwonlyargs:=[],kw_defaults:=[],kwarg:=none,defaults:=[] }
noncomputable def sC(s:Stmt):List Stmt:=match s with
 | .FunctionDef _ _ b _ _ _ _ _ _ _=>b|_=>[]
noncomputable def MA(s:Stmt):Scope:=match s with
 | .FunctionDef _ _ _ _ _ _ sc _ _ _=>sc|_=>{ kind:=.function,names:=[],isGenerator:=false,isCoroutine:=false }
noncomputable abbrev B0:M7:=λ_ _ _ _ _ _=>False
noncomputable abbrev E0:XK:=λ_ _ _=>False
theorem im{X:Cx}:cN B0 X E0:=λ_ _ _ _ _ _ _ h=>h.elim
structure Fun(K:QE)(x qual:Str)(st:Stmt)(f:Addr)(fd:FuncData):Prop where
 ex:∃(oc:Value) (od:Option Addr) (kV doc pm:Value) (an:Option Addr) (cdv ct:Value) (osl:Array (Option Value)),
  fd=ql x qual (dD st) (sC st) (MA st) .none kV doc pm an cdv ct/\K.lookup f=some ⟨oc,od,.func fd,osl⟩/\Wb K cdv qual=true
 kp:wM K (.ref f)=true
section
variable{P:Program}{w:World}{K:QE}{mg:Str->Option Value}{base:Heap}
section
variable{x y:Str}{st:Stmt}{f:Addr}{u:FuncData}{z:LS}
theorem Fun.ok{N:LS}{k:Nat}{b:Sp}(F:Fun K x y st f u)(S:FnScope N z (MA st))(len:∀vs H Q E,b vs H Q E->vs.length=z.length)
  (a:∀(v:Value) (A:Around) (outer:List Env) (s:Shared) (H:Hp) (vs:LV) (Q:VK) (E:XK),Room k (A.deeper (envOfC y (MA st) s.heap.objs.size f v))->b vs H Q E ->
   ∃t,mW (MV B0 P w K mg base N y (MA st) f v A outer s H E).nox (sC st) t/\t { nx:=λ_ m=>Q .non m,rt:=Q } (rD N vs) H):FnOk P w K mg base B0 (k+1) f u z b:=by
 obtain⟨p,o,kV,l,n,X,v,r,i,rfl,lk,g⟩:=F.ex;refine Kd lk g S len λA outer s H vs Q E j e=>?_;obtain⟨t,h,q⟩:=a v A outer s H vs Q E j e;exact⟨t,h.nox,q⟩
theorem Fun.binds(F:Fun K x y st f u)
  (h:∀(kV v a:Value) (b:Option Addr) (k ct:Value) (us:LW),us.length=z.length->bindArgs (ql x y (dD st) (sC st) (MA st) .none kV v a b k ct) ⟨us,[]⟩=pure (z.zip us)):fJ K u z []:=by
 obtain⟨j,i,kV,v,a,b,k,ct,e,rfl,lk,g⟩:=F.ex;exact .all (h kV v a b k ct)
theorem ui{i:Value}{g e:Option Addr}{a:Array (Option Value)}{kV v b h ct:Value}(l:K.lookup f=some ⟨i,g,.func (ql x y (dD st) (sC st) (MA st) .none kV v b e h ct),a⟩)
  (c:Wb K h y=true) (k:wM K (.ref f)=true):Fun K x y st f (ql x y (dD st) (sC st) (MA st) .none kV v b e h ct):=⟨⟨i,g,kV,v,b,e,h,ct,a,rfl,l,c⟩,k⟩
end
end
def Same(H h:Hp):Prop:=∀b o,H b=some o->h b=some o
theorem Same.refl(H:Hp):Same H H:=λ_ _ h=>h
theorem Same.trans{H y x:Hp}(a:Same H y)(b:Same y x):Same H x:=λc o h=>b c o (a c o h)
theorem Same.free{H x:Hp}(e:Same H x){l:Addr}(h:x l=Option.none):H l=Option.none:=by
 cases q:H l with|none=>rfl|some o=>rw[e l o q]at h;cases h
theorem Same.seq{K:QE}{H x:Hp}{a:Addr}{xs:LV}(e:Same H x)(h:EC K H a xs):EC K x a xs:=by rcases h with(h|⟨o,h⟩)|h;exact .inl (.inl (e _ _ h));exact .inl (.inr ⟨o,e _ _ h⟩);exact .inr h
noncomputable def ON(env:Env):List (Str×NameKind)->List (Str×Addr)->List (Str×Addr)
 |[],cs=>cs|(n,k)::r,cs=>ON env r (if k==.free then(n,(env.cells.lookup n).getD 0)::cs else cs)
theorem SV{u:Scope}{env:Env}(h:∀y∈u.names,y.2=.free->∃c,env.cells.lookup y.1=some c):closureFor u env=pure (ON env u.names []):=by
 have key:∀(l:List (Str×NameKind)) (v:List (Str×Addr)),(∀y∈l,y.2=.free->∃c,env.cells.lookup y.1=some c) ->
   (forIn l v λ(x:Str×NameKind) (r:List (Str×Addr))=>(if(x.2==NameKind.free)=true then(do let c <- cellOf env x.1;pure (ForInStep.yield ((x.1,c)::r))) else pure (ForInStep.yield r):Sem (ForInStep (List (Str×Addr)))))=pure (ON env l v):=by
  intro l;induction l with
  |nil=>intro v _;rfl|cons y l a =>
   intro v hl;obtain⟨n,k⟩:=y;rw[Wt];by_cases hk:k=.free;subst hk;obtain⟨c,hc⟩:=hl (n,.free) QD rfl;have hc:env.cells.lookup n=some c:=hc;simp only[beq_self_eq_true,if_true,cellOf,hc,pure_bind,ON,QB1];exact a _ λz w=>hl z (QC _ w);have hb:(k==NameKind.free)=false:=by simpa using hk
   simp only[hb,Qo,if_false,pure_bind,ON];exact a _ λz w=>hl z (QC _ w)
 have e:=key u.names [] h;unfold closureFor;exact(congrArg (· >>= pure) e).trans (pure_bind _ _)
theorem GO{env:Env}{x:Str}{c:Addr}:∀(l:List (Str×NameKind)) (cs:List (Str×Addr)),(∀y∈l,y.2=.free->∃c,env.cells.lookup y.1=some c)->(∀c,cs.lookup x=some c->env.cells.lookup x=some c) ->
  (ON env l cs).lookup x=some c->env.cells.lookup x=some c
 |[],cs,_,hc,h=>hc c h|(n,k)::r,cs,hl,hc,h=>by
  refine GO r _ (λz a=>hl z (QC _ a)) (λd u=>?_) h;by_cases hk:k=.free;subst hk;obtain⟨e,v⟩:=hl (n,.free) QD rfl;have v:env.cells.lookup n=some e:=v;simp only[beq_self_eq_true,if_true,v,QB1,wc]at u;cases w:x==n with|true=>rw[w]at u;cases u;rw[qg w];exact v|false=>rw[w]at u;exact hc d u
  have hb:(k==NameKind.free)=false:=by simpa using hk
  simp only[hb,Qo,if_false]at u;exact hc d u
theorem RM{env:Env}{x:Str}:∀(l:List (Str×NameKind)) (cs:List (Str×Addr)),((∃c,cs.lookup x=some c)∨(x,NameKind.free)∈l)->∃c,(ON env l cs).lookup x=some c
 |[],cs,h=>by rcases h with h|h;exact h;cases h
 | (n,k)::r,cs,h=>by
  refine RM r _ ?_;rcases h with⟨c,h⟩| h;refine .inl ?_;split;rw[wc];split;exact⟨_,rfl⟩;exact⟨c,h⟩;exact⟨c,h⟩;rcases QM.mp h with h|h
  ·cases h
   refine .inl ?_;simp
  exact .inr h
noncomputable def XB:List Bool->Nat->LS->LS
 |b::m,j,x::N=>(if b then⟨#[46,j]⟩ else x)::XB m (j+1) N|_,_,N=>N
noncomputable def NC:List Bool->St->St
 |b::m,v::σ=>(if b then none else v)::NC m σ|_,σ=>σ
theorem VJ:∀(m:List Bool) (σ:St),(NC m σ).length=σ.length
 |[],σ=>by unfold NC;rfl|_::_,[]=>by unfold NC;rfl|b::m,v::σ=>by unfold NC;rw[QL,QL,VJ m σ]
theorem CO:∀(m:List Bool) (j:Nat) (N:LS),(XB m j N).length=N.length
 |[],_,N=>by unfold XB;rfl|_::_,_,[]=>by unfold XB;rfl|b::m,j,x::N=>by unfold XB;rw[QL,QL,CO m (j+1) N]
theorem aM:∀(m:List Bool) (j:Nat) (N:LS) (σ:St) (i:Nat) (v:V),(NC m σ)[i]?=some (some v)->σ[i]?=some (some v)/\(XB m j N)[i]?=N[i]?
 |[],_,N,σ,i,v,h=>by unfold NC at h;unfold XB;exact⟨h,rfl⟩|_::_,_,N,[],i,v,h=>by unfold NC at h;simp at h|b::m,j,[],w::σ,i,v,h=>by
  unfold NC at h;cases i with
  |zero =>
   cases b with|true=>simp at h|false=>simp at h;subst h;exact⟨by simp,by unfold XB;rfl⟩
  |succ i=>have q:=(aM m (j+1) [] σ i v (by simpa using h)).1;exact⟨by simpa using q,by unfold XB;rfl⟩
 |b::m,j,x::N,w::σ,0,v,h=>by
  unfold NC at h;cases b with|true=>simp at h|false=>simp at h;subst h;exact⟨by simp,by unfold XB;simp⟩
 |b::m,j,x::N,w::σ,i+1,v,h=>by unfold NC at h;have q:=aM m (j+1) N σ i v (by simpa using h);unfold XB;exact⟨by simpa using q.1,by simpa using q.2⟩
noncomputable def PL(h sc:Scope):Scope :=
  { h with names:=h.names.map λ(n,k)=>if(k==.free&&sc.kind==.function&&sc.names.lookup n==some .cell) then(n,.cell) else(n,k) }
theorem HC(sc:Scope)(x:Str):∀(l:List (Str×NameKind)),
  (l.map λ(n,k)=>if(k==NameKind.free&&sc.kind==.function&&sc.names.lookup n==some .cell) then(n,NameKind.cell) else(n,k)).lookup x =
   (l.lookup x).map λk=>if(k==NameKind.free&&sc.kind==.function&&sc.names.lookup x==some .cell) then NameKind.cell else k
 |[]=>rfl|(n,k)::r=>by
  rw[QV];have e:(if(k==NameKind.free&&sc.kind==.function&&sc.names.lookup n==some .cell)=true then(n,NameKind.cell) else(n,k)) =
    (n,if(k==NameKind.free&&sc.kind==.function&&sc.names.lookup n==some .cell)=true then NameKind.cell else k):=by split<;>rfl
  show QB6 x ((if(k==NameKind.free&&sc.kind==.function&&sc.names.lookup n==some .cell)=true then(n,NameKind.cell) else(n,k))::_)=_;rw[e,wc,wc];cases h:x==n with|true=>rw[qg h];simp|false=>exact HC sc x r
structure CompSt(N:LS)(sc scope:Scope)(tgs:LS)(mask:List Bool):Prop where
 kind:scope.kind=.function
 nocell:∀y∈scope.names,y.2≠.cell
 names:∀y∈scope.names,y.2=.local->scope.names.lookup y.1=some .local
 free:∀y∈scope.names,y.2=.free->sc.names.lookup y.1=some .cell∨sc.names.lookup y.1=some .free
 loc:∀y∈scope.names,y.2=.local->y.1∈tgs∨y.1=(".0":Str)
 nd:(tgs++XB mask 0 N).Nodup
 no0:(".0":Str)∉tgs++XB mask 0 N
noncomputable def NA(X:Cx)(h:Scope)(y:LS)(x:List Bool)(s:Shared)(H:Hp)(ex:List Addr):Cx :=
  { X with N:=y++XB x 0 X.N,s₀:=s,H₀:=H,env:=compEnvC h (ON X.env h.names []) s.heap.objs.size X.env,outer:=X.stack,stack:=X.stack,ex:=ex,fn:=λ_=>false,pn:=[],xe:=λ_ _=>False }
def DI(k:Nat)(h:List Bool)(σ:St):St:=QAF k none++NC h σ
section
variable{X:Cx}{f:TB}{σ:St}{H:Hp}{s:Shared}{w:Scope}{d:LS}{a:List Bool}{ex:List Addr}
theorem CompSt.cells(C:CompSt X.N X.env.scope w d a)(ok:X.Ok):∀y∈w.names,y.2=.free->∃c,X.env.cells.lookup y.1=some c:=λy h x =>
 ok.has y.1 (C.free y h x)
theorem CompSt.kindCF(C:CompSt X.N X.env.scope w d a){x:Str}(h:(relabel w X.env).names.lookup x=some .cell∨(relabel w X.env).names.lookup x=some .free):(x,NameKind.free)∈w.names:=by
 have e:=HC X.env.scope x w.names;have u:(relabel w X.env).names.lookup x=(w.names.lookup x).map λk=>if(k==NameKind.free&&X.env.scope.kind==.function&&X.env.scope.names.lookup x==some .cell) then NameKind.cell else k:=e
 rw[u]at h;cases q:w.names.lookup x with
 |none=>rw[q]at h;simp at h|some k =>
  have y:=qN q;have z:=C.nocell _ y;cases k with|free=>exact y|cell=>exact absurd rfl z|«local»=>rw[q]at h;simp at h|_=>rw[q]at h;simp at h
theorem NV(I:Inv X f σ H s)(C:CompSt X.N X.env.scope w d a)(n:∀b∈ex,dJ X f H b/\b<s.heap.objs.size){h':Heap}{t':Nat}
  (hn:h'.Ns s.heap.objs.size (λ_=>none)) (hs:qW s.heap.objs.size (s.heap.push { cls:=.type "dict",data:=.dict #[] }) h') :
  Inv (NA X w d a s H ex) [] (DI d.length a σ) H { s with heap:=h',toks:=t' }:=by
 have kept:∀b u,s.heap.get? b=some u->h'.get? b=some u:=λb u e=>hs.extBut b u (Qm (Qb e)) (QK _ e);have look:∀x c,(ON X.env w.names []).lookup x=some c->X.env.cells.lookup x=some c:=λx c e=>GO w.names [] (C.cells I.ok) (λc z=>by simp at z) e;have nofs:∀b∈ex,b∉HX X.stack:=λb hb z=>by obtain⟨⟨_,f1,f2,_⟩,_⟩:=n b hb;rcases QM.mp (I.stkSub b z) with e|e;exact f1 e;exact f2 e
 refine⟨⟨I.ok.mod,C.kind,I.ok.glob,I.ok.blt,Qa _,λx y c E j=>I.ok.inj x y c (look x c E) (look y c j),λx hx=>?_,λx c hf _=>absurd (show false=true from hf) QG,I.ok.hd,I.ok.frames,.inl rfl,λb hb=>?_,I.bs,QX I.ok.bsz I.sz,λb o e hb=>?_,nofs,I.stack,I.stkFree,I.tb⟩,
  rfl,I.bare,Un.kept kept,⟨_,hn,λi x v E j h3=>?_⟩,λx c h=>?_,I.hok.fresh (Qa _),λx c h=>I.freeC x c (look x c h),λp hp=>absurd (show p∈([]:TB) from hp) (by simp),I.hok.kept kept,?_⟩
 exact RM w.names [] (.inr (C.kindCF hx));obtain⟨⟨_,_,_,_,f4,_⟩,lt⟩:=n b hb;exact⟨Qm lt,λx c e=>f4 x c (look x c e)⟩;obtain⟨⟨_,_,_,f3,_⟩,_⟩:=n b hb;rcases f3 with z|z;exact I.ok.noex b o e z;exact absurd (Ql (Qb (I.ok.bs b o e).1) z) (qw _)
 ·
  have hi:d.length<=i:=by rcases QAr i d.length with z|z;unfold DI at j;rw[qF (by simpa using z),wX]at j;split at j<;>cases j;exact z
  have Z:(XB a 0 X.N)[i - d.length]?=some x:=by have:(d++XB a 0 X.N)[i]?=some x:=E;rw[qJ hi]at this;exact this
  have O:(NC a σ)[i - d.length]?=some (some v):=by unfold DI at j;rw[qJ (by simpa using hi)]at j;simpa using j
  obtain⟨g1,g2⟩:=aM a 0 X.N σ _ v O;rw[g2]at Z;have A:x∈d++XB a 0 X.N:=qT (show(d++XB a 0 X.N)[i]?=some x from E);have K:x∉d:=λz=>by have nd:=C.nd;rw[qH]at nd;exact nd.2.2 x z x (qT (by rw[g2];exact Z)) rfl
  have g:(x,NameKind.free)∈w.names:=by
   rcases h3 with z|z|z;exfalso;have e:(relabel w X.env).names.lookup x=some .local:=z;have Q:=HC X.env.scope x w.names;have P:(relabel w X.env).names.lookup x=(w.names.lookup x).map λk=>if(k==NameKind.free&&X.env.scope.kind==.function&&X.env.scope.names.lookup x==some .cell) then NameKind.cell else k:=Q
   rw[P]at e;cases q:w.names.lookup x with
   |none=>rw[q]at e;cases e|some k =>
    rw[q]at e;have L:=qN q;have G:k=.local:=by
     cases k with|«local»=>rfl|free=>simp at e;split at e<;>cases e|_=>simp at e
    subst G;rcases C.loc _ L rfl with z|z;exact K z;exact C.no0 (z▸A)
   exact C.kindCF (.inl z);exact C.kindCF (.inr z)
  obtain⟨m,hnm,hl⟩:=I.loc;have F:Lo X.env.scope x:=.inr (C.free _ g rfl);obtain⟨u,r,l⟩:=hl _ x v Z g1 F;refine⟨u,r,?_⟩;rcases l with⟨k,_⟩| ⟨_,c,hc,Y⟩
  exfalso;have S:X.env.scope.names.lookup x=some .local:=k;rcases C.free _ g rfl with z|z;have W:X.env.scope.names.lookup x=some .cell:=z;rw[S]at W;cases W;have W:X.env.scope.names.lookup x=some .free:=z;rw[S]at W;cases W;obtain⟨R,B⟩:=RM (env:=X.env) w.names [] (.inr g);have:R=c:=by have:=look x R B;rw[hc]at this;exact(Qv this).symm
  subst this;refine .inr ⟨?_,R,B,?_⟩;rcases h3 with z|z|z
  ·exfalso
   have e:(relabel w X.env).names.lookup x=some .local:=z;have Q:=HC X.env.scope x w.names;have P:(relabel w X.env).names.lookup x=(w.names.lookup x).map λk=>if(k==NameKind.free&&X.env.scope.kind==.function&&X.env.scope.names.lookup x==some .cell) then NameKind.cell else k:=Q
   rw[P]at e;cases q:w.names.lookup x with
   |none=>rw[q]at e;cases e|some k =>
    rw[q]at e;have L:=qN q;have G:k=.local:=by
     cases k with|«local»=>rfl|free=>simp at e;split at e<;>cases e|_=>simp at e
    subst G;rcases C.loc _ L rfl with z|z;exact K z;exact C.no0 (z▸A)
  exact .inl z;exact .inr z;obtain⟨o,J,M⟩:=Y;exact⟨o,kept _ _ J,M⟩
 obtain⟨v,o,J,M⟩:=I.cell x c (look x c h);exact⟨v,o,kept _ _ J,M⟩;show(DI d.length a σ).length=(d++XB a 0 X.N).length;unfold DI;rw[QH,QH,qm,VJ,CO,I.len]
end
section
variable{X:Cx}{h:TB}{σ a:St}{H k:Hp}{s s':Shared}{x:Scope}{d:LS}{w:List Bool}{ex:List Addr}{D:Addr}{y:LV}{its:LW}
theorem OV(I:Inv X h σ H s)(l:∀b∈ex,dJ X h H b/\b<s.heap.objs.size)(W:D∈ex)(J:Inv (NA X x d w s H ex) [] a k s')(f:k D=none)(hv:nA y its)(B:y.length<=sizeLine)
  (hl:s'.heap.PlainList D its.toArray) {g:Heap}(C:qW s.heap.objs.size s'.heap g):Inv X h σ (BA k D (.lst y)) { s' with heap:=g }:=by
 have un:Un (HX X.stack) ex H k s.heap s'.heap:=J.base;have j:∀b o,s.heap.get? b=some o->b≠s.heap.objs.size:=λb o e=>Qm (Qb e);have E:=l D W;have Z:k s.heap.objs.size=none:=J.free;have N:D≠s.heap.objs.size:=Qm E.2;have m:∀b u,b≠s.heap.objs.size->s'.heap.get? b=some u->g.get? b=some u:=λb u A e=>C.extBut b u A e;refine I.call' (s':={ s' with heap:=g }) (ch:=ex) J.os ⟨λb o e n hb i=>?_,λb o e n hb i=>?_,λb o e n i=>?_,λb o e i=>?_,λb p e=>?_,λb o u e=>?_,λb r e=>?_⟩ ?_ J.bare λb hb=>?_;exact m b o (j b o e) (un.keep b o e n hb i);obtain⟨K,q⟩:=un.slot b o e n hb i;exact⟨K,m b _ (j b o e) q⟩;have q:=un.free b o e n i;rw[vA (λ(z:b=D)=>i (by rw[z];exact W))];exact q;obtain⟨Y,q⟩:=un.there b o e i;exact⟨Y,m b Y (j b o e) q⟩;rw[vA (JA (un.tups b p e) f)];exact un.tups b p e;rw[vA (JA (un.frzs b o u e) f)];exact un.frzs b o u e;rw[vA (JA (un.tbls b r e) f)];exact un.tbls b r e;intro b u e;by_cases hb:b=D;subst hb;rw[ZA]at e;cases e;obtain⟨n,q⟩:=hl;exact⟨B,its,n,hv,m _ _ N q⟩;rw[vA hb]at e;refine(J.hok b u e).stay (λc v hc q=>m c v ?_ q) (λc q=>?_) λc p q=>?_;rintro rfl;rcases hc with z|z;subst z;rw[Z]at e;cases e;rw[Z]at z;cases z;rw[vA (JA q f)];exact q;rw[vA (JA q f)];exact q;obtain⟨⟨P,M,O,L,G,F⟩,_⟩:=l b hb;exact⟨L,M,G,F⟩
end
section
variable{X:Cx}{s:Shared}{V Z K:Expr}{U:List Expr}{d:Scope}{pos:Pos}{B:TI}{g:TG}{tc:TT}{te:TE}{Y:LS}{j:List Bool}{l:TB}
def So(X:Cx)(U:List Expr)(t:TT):Prop:=∀(l:TB) (s:Shared) (h:St) (H:Hp) (Q:Bool->Hp->Prop),Inv X l h H s->t h H Q ->
 wpAny (model X.prog X.w) X.A (forIn U true λc r=>if r=true then do let ok <- isTrue c X.env (eval c X.env);pure (ForInStep.yield ok) else pure (ForInStep.yield r)) (TP X l h Q) X.xe s
theorem vX:So X [] (λ_ H Q=>Q true H):=λl s x H Q I h=>by rw[QA8];exact QN ⟨H,I,h⟩
theorem kX{c:Expr}{t:TT}(hc:PT X c t):So X [c] t:=λl s x H Q I h=>by rw[Wt];simp only[if_true];refine QF (QF (AB (hc l s x H Q I h) λb y q=>QN ?_));dsimp only;rw[QA8];exact QN q
theorem kH{prog:Program}{w:World}{A:Around}{R:Result->Shared->Prop}{y:Expr}{it q:Value}{env:Env}(I:Nat->Shared->Prop)
  (W:∀n s,I n s->wpAny (model prog w) A (pyNext it) (λr k=>match r with
   |none=>R (.ok .next) k|some v=>wpAny (model prog w) A (letOwnedTupleGo y it v) (λ_ u=>wpAny (model prog w) A (assign y env v) (λ_ f =>
     wpAny (model prog w) A (forIn U true λc r=>if r=true then do let ok <- isTrue c env (eval c env);pure (ForInStep.yield ok) else pure (ForInStep.yield r)) (λok z =>
      if ok=true then wpAny (model prog w) A (eval V env) (λx e =>
       wpAny (model prog w) A (call (.builtin "list.append") [q,x]) (λ_ b=>∃m,m<n/\I m b) (λ_ _=>False) e) (λ_ _=>False) z
      else ∃m,m<n/\I m z) (λ_ _=>False) f) (λ_ _=>False) u) (λ_ _=>False) k) (λ_ _=>False) s)
  (n:Nat) (h:I n s) :
  codeAny (model prog w) A (.compLoop (.ListComp V [⟨y,Z,U,0⟩] d pos) 0 it q env) R s:=by
 refine codeAny_loop rfl I (λn s G=>?_) n h;show wpAny _ A ((compTurn (.ListComp V [⟨y,Z,U,0⟩] d pos) 0 it q env).onRaise (λx=>do noteFrame x env;theTreesLotGoes x)) _ _ s;refine wpAny_noted ?_;rw[compTurn_list];refine QF (QBS (QF (qq (W n s G) (λr k o=>?_) λ_ _ a=>a.elim)));cases r with
 |none=>exact QN o|some v =>
  refine QF (qq o (λ_ u p=>?_) λ_ _ a=>a.elim);refine QF (qq p (λ_ f F=>QF (qq F (λok z i=>?_) λ_ _ a=>a.elim)) λ_ _ a=>a.elim);cases ok with|false=>exact QN ⟨rfl,i⟩|true=>exact QF (QF (qq i (λx e E=>QF (qq E (λ_ b C=>QN (QN ⟨rfl,C⟩)) λ_ _ a=>a.elim)) λ_ _ a=>a.elim))
noncomputable def N1(B:TI)(g:TG)(tc:TT)(te:TE)(k:Nat)(j:List Bool):TE:=λa H Q=>B a H λJ q=>∃W:Nat->Nat->LV->St->Hp->Prop,(∃m,W 0 m [] (DI k j a) q) /\
 ∀i m h v u,W i m h v u->(J.stop i u/\h.length<=sizeLine/\∀p,u p=none->Q (.ref p) (BA u p (.lst h))) ∨
  (J.go i u/\∀x f,J.yld i u x f->g x v f λz o=>tc z o λb e=>if b=true then te z e λy n=>h.length<sizeLine/\∃w,w < m/\W (i+1) w (h++[y]) z n else ∃w,w < m/\W (i+1) w h z e)
def Yp(X:Cx)(l:TB)(H:Hp)(s:Shared)(C:Addr):Prop :=
 H C=none/\C≠X.env.locals/\X.s₀.heap.objs.size<=C/\(∀x c,X.env.cells.lookup x=some c->c≠C)/\(∀p∈X.pn++l,p.1≠C)/\∃m,s.heap.Ns C m
theorem lT{pos':Pos}{use:Option (Value->Sem Unit)}(hc:X.calm=true)(hi:PI X K Z B)(C:CompSt X.N X.env.scope d Y j)
  (inner:∀s H ex,PG (NA X d Y j s H ex) K g/\So (NA X d Y j s H ex) U tc/\PE (NA X d Y j s H ex) V te)
  (hs:∀x,foldedSetIterable Z X.env x=pure x) {σ:St}{H:Hp}{Q:VK}{QQ:YC}(I:Inv X l σ H s) (h:N1 B g tc te Y.length j σ H Q)
  (fin:∀(D:Addr) (f:Hp) (s6:Shared) (F:Addr),Inv X l σ f s6->Yp X l f s6 F->Q (.ref D) f->compPost (model X.prog X.w) X.A X.xe use QQ (.ref D) F (.ok .next) s6) :
  wpAny (model X.prog X.w) X.A (comprehension (.ListComp V [⟨K,Z,U,0⟩] d pos) d X.env pos' (newList []) false (eval Z X.env) use) QQ X.xe s:=by
 refine wpAny_comprehension_free (use:=use) rfl hs (SV (C.cells I.ok)) C.kind C.names (AB (hi l s σ H _ I h) λv s1 h1=>AB h1 λitv s2 h2=>?_);obtain⟨it,a,tn,J,E,e,I2,T,st2,f2,W,⟨m0,w0⟩,turn⟩:=h2;subst e;refine qL ?_;have I3:Inv X l σ E { s2 with heap:=s2.heap.push { cls:=.type "list",data:=.seq ([]:LW).toArray } }:=I2.kept (t':=s2.toks) λb o e=>QK _ e;generalize hS:({ s2 with heap:=s2.heap.push { cls:=.type "list",data:=.seq ([]:LW).toArray } }:Shared)=s3 at I3;have sz3:s3.heap.objs.size=s2.heap.objs.size+1:=by rw[<- hS];exact QAG ..
 have lst3:s3.heap.PlainList s2.heap.objs.size ([]:LW).toArray:=⟨0,by rw[<- hS];exact QZ _ rfl⟩
 have old3:∀b o,s2.heap.get? b=some o->s3.heap.get? b=some o:=λb o e=>by rw[<- hS];exact QK _ e
 generalize hDd:s2.heap.objs.size=D at sz3 lst3;have fD:dJ X l E D:=by rw[<- hDd];exact I2.fpOk (Qa _) (I2.hok.fresh (Qa _))
 have fpl:∀b∈a,b<D:=λb hb=>by obtain⟨o,e,_⟩:=T.obj _ _ st2 b hb;rw[<- hDd];exact Qb e
 have hex:∀b∈D::a,dJ X l E b/\b<s3.heap.objs.size:=λb hb=>by rcases QM.mp hb with z|z;subst z;exact⟨fD,by rw[sz3];exact Nat.lt_succ_self _⟩;exact⟨f2 b z,by rw[sz3];exact wz (fpl b z)⟩
 refine QA2 C.nocell (by intro y hy;simp at hy) (λh' hn hsb=>?_) C.kind;have J0:Inv (NA X d Y j s3 E (D::a)) [] (DI Y.length j σ) E { s3 with heap:=h',toks:=s3.toks+([]:List (Str×Value)).length }:=NV I3 C hex hn hsb;have kept:∀b u,s3.heap.get? b=some u->h'.get? b=some u:=λb u e=>hsb.extBut b u (Qm (Qb e)) (QK _ e);obtain⟨pg,pf,pl⟩:=inner s3 E (D::a);have loop:∀s4:Shared,s4={ s3 with heap:=h',toks:=s3.toks+([]:List (Str×Value)).length } ->
   codeAny (model X.prog X.w) X.A (.compLoop (.ListComp V [⟨K,Z,U,0⟩] d pos) 0 (.ref it) (.ref D) (compEnvC d (ON X.env d.names []) s3.heap.objs.size X.env))
    (compPost (model X.prog X.w) X.A X.xe use QQ (.ref D) s3.heap.objs.size) s4:=by
  rintro s4 rfl;have exok:∀{f:Hp},(∀b∈D::a,f b=none)->∀(pp:TB),(∀p∈pp,p.1∉a)->∀b∈a,dJ (NA X d Y j s3 E (D::a)) pp f b:=λ{f} hn pp hpp b hb=>by have g:=J0.ok.exf b (QC _ hb);exact⟨hn b (QC _ hb),g.1,J0.ok.exfs b (QC _ hb),.inl (QC _ hb),g.2,λp G z=>hpp p (by simpa[NA]using G) (z▸hb)⟩
  have DX:=J0.ok.exf D QD;have Dfp:D∉a:=λz=>qw _ (fpl D z);refine kH (λn M=>∃i m f L k,Inv (NA X d Y j s3 E (D::a)) [] m f M/\tn i M.heap/\(∀b∈D::a,f b=none)/\nA L k/\M.heap.PlainList D k.toArray/\W i n L m f) ?_ m0
   ⟨0,_,E,[],[],J0,T.keep _ _ _ (T.keep _ _ _ st2 λb hb o e=>old3 b o e) λb hb o e=>kept b o e,λb hb=>((hex b hb).1).1,.nil,lst3.at λo e=>kept _ _ e,w0⟩
  rintro n s5 ⟨i,P,H5,L,k,I5,st5,fr5,va5,ls5,w5⟩;obtain⟨R,lo⟩:=id ls5;have pinD:∀{m:St}{f:Hp}{M:Shared},Inv (NA X d Y j s3 E (D::a)) [] m f M->(∀b∈D::a,f b=none)->M.heap.get? D=some { cls:=.type "list",dict:=none,data:=.seq k.toArray R } ->
    Inv (NA X d Y j s3 E (D::a)) [(D,{ cls:=.type "list",dict:=none,data:=.seq k.toArray R })] m f M:=λ{m f M} I' fr' e' =>
   I'.pins_of λp G=>by
    have e:p=(D,{ cls:=.type "list",dict:=none,data:=.seq k.toArray R }):=by simpa using G
    subst e;exact⟨e',fr' D QD,DX.1,J0.ok.exfs D QD,λv z=>by cases z⟩
  have S:∀p∈[(D,({ cls:=.type "list",dict:=none,data:=.seq k.toArray R }:Obj))],p.1∉a:=λp G=>by
   have e:p=(D,{ cls:=.type "list",dict:=none,data:=.seq k.toArray R }):=by simpa using G
   subst e;exact Dfp
  have I5':=pinD I5 fr5 lo;rcases turn i n L P H5 w5 with⟨stop,hz,qn⟩| ⟨go,step⟩
  refine AB (T.done (NA X d Y j s3 E (D::a)) rfl rfl rfl hc i _ s5 P H5 (λ_ _=>False) I5' (exok fr5 _ S) st5 stop) λr s6 ⟨hr,I6⟩=>?_;subst hr;obtain⟨m6,hn6,_⟩:=I6.loc;have l6:s6.heap.PlainList D k.toArray:=⟨R,(I6.pin _ (QU _ (QI.mpr rfl))).1⟩
  have I6':Inv (NA X d Y j s3 E (D::a)) [] P H5 s6:=I6.pins_of λp G=>by simp at G
  have Iout:Inv X l σ (BA H5 D (.lst L)) s6:=OV I3 hex QD I6' (fr5 D QD) va5 hz l6 (qW.refl _ _);have lC:H5 s3.heap.objs.size=none:=I6'.free;refine fin D _ s6 s3.heap.objs.size Iout ⟨?_,wk I3.lt,I3.sz,λx c e z=>?_,λp G z=>?_,m6,hn6⟩ (qn D (fr5 D QD));rw[vA (λ(z:s3.heap.objs.size=D)=>absurd (hex D QD).2 (by rw[z];exact qw _))];exact lC;obtain⟨v,q⟩:=I3.cell x c e;exact absurd q.lt (by rw[z];exact qw _);exact absurd (Qb (I3.pin p G).1) (by rw[z];exact qw _);refine AB (T.item (NA X d Y j s3 E (D::a)) rfl rfl rfl hc i _ s5 P H5 (λ_ _=>False) I5' (exok fr5 _ S) st5 go) λr s6 ⟨u,hr,h6⟩=>?_;subst hr;refine AB h6 λ_ s7 ⟨x,H7,I7,r7,y7,st7,fr7⟩=>?_;have hD7:=(I7.pin _ (QU _ (QI.mpr rfl)))
  have fr7':∀b∈D::a,H7 b=none:=λb hb=>by rcases QM.mp hb with z|z;subst z;exact hD7.2.1;exact fr7 b z
  have I7':=I7.pinned (exok fr7' _ S) (T.obj _ _ st7);have bk:∀{m:St}{f:Hp}{M:Shared},Inv (NA X d Y j s3 E (D::a)) ([(D,{ cls:=.type "list",dict:=none,data:=.seq k.toArray R })]++uM a s7.heap) m f M ->
    M.heap.get? D=some { cls:=.type "list",dict:=none,data:=.seq k.toArray R }/\tn (i+1) M.heap/\(∀b∈D::a,f b=none):=λ{m f M} I'=>by
   have hD:=I'.pin (D,{ cls:=.type "list",dict:=none,data:=.seq k.toArray R }) (QU _ (Qf _ (QI.mpr rfl)));refine⟨hD.1,T.keep _ _ _ st7 λb hb o e=>(I'.pin (b,o) (QU _ (QU _ (OE hb e)))).1,λb hb=>?_⟩;rcases QM.mp hb with z|z;subst z;exact hD.2.1;obtain⟨o,e,_⟩:=T.obj _ _ st7 b z;exact(I'.pin (b,o) (QU _ (QU _ (OE z e)))).2.1
  refine AB (pg _ s7 P H7 x u _ I7' r7 (step x H7 y7)) λ_ s8 ⟨O,H8,I8,q8⟩=>?_;refine AB (pf _ s8 O H8 _ I8 q8) λok s9 ⟨H9,I9,q9⟩=>?_;cases ok with
  |false=>obtain⟨m',hm,w'⟩:=q9;obtain⟨b1,b2,b3⟩:=bk I9;exact⟨m',hm,i+1,O,H9,L,k,I9.pins_of λp G=>by simp at G,b2,b3,va5,⟨R,b1⟩,w'⟩|true =>
   refine AB (pl _ s9 O H9 _ I9 q9) λy s10 ⟨yv,H10,I10,r10,hz,m',hm,w'⟩=>?_;obtain⟨b1,b2,b3⟩:=bk I10;have hlen:=va5.length;refine wpAny_list_append_plain (hsz:=by rw[QR];omega) (show s10.heap.PlainList D k.toArray from⟨R,b1⟩) λh11 hl11 hs11=>?_;refine⟨m',hm,i+1,O,H10,L++[yv],k++[y],?_,T.keep _ _ _ b2 λb hb o e=>(hs11.2 b (λz=>Dfp (z▸hb))).trans e,b3,va5.append (.cons r10 .nil),by simpa using hl11,w'⟩;have I10':Inv (NA X d Y j s3 E (D::a)) [] O H10 s10:=I10.pins_of λp G=>by simp at G
   exact I10'.turned (t':=s10.toks) (λb o hb e=>(hs11.2 b hb).trans e) (b3 D QD) DX.1 (.inl QD) DX.2 λp G=>by simp[NA]at G
 refine codeAny_compStart_list (loop _ rfl) (T.self X.A 0 _ _ _ (T.keep _ _ _ (T.keep _ _ _ st2 λb hb o e=>old3 b o e) λb hb o e=>kept b o e) (loop _ rfl))
theorem UM{σ:St}{H:Hp}{F:Addr}(I:Inv X l σ H s)(f:Yp X l H s F){h':Heap}(h:qW F s.heap h'):Inv X l σ H { s with heap:=h' }:=by obtain⟨v,u,z,y,x,_⟩:=f;exact I.turned (t':=s.toks) (λb o hb e=>(h.2 b hb).trans e) v u (.inr z) y x
theorem f9(hc:X.calm=true)(w:PI X K Z B)(C:CompSt X.N X.env.scope d Y j)
  (y:∀s H ex,PG (NA X d Y j s H ex) K g/\So (NA X d Y j s H ex) U tc/\PE (NA X d Y j s H ex) V te)
  (u:∀x,foldedSetIterable Z X.env x=pure x:=by intro _;rfl):PE X (.ListComp V [⟨K,Z,U,0⟩] d pos) (N1 B g tc te Y.length j):=by
 intro l s b H Q I h;rw[eval_ListComp];refine lT hc w C y u I h λD a e F k f q=>?_;obtain⟨m,v⟩:=f.2.2.2.2.2;exact⟨m,v,λi z=>⟨.ref D,a,UM k f z,rfl,q⟩⟩
theorem T8{cpos u:Pos}{i:Nat}{x:Str}(hc:X.calm=true)(S:X.N.Nodup)(n:X.N[i]?=some x)(p:X.env.scope.names.lookup x=some .local)
  (Q:PI X K Z B) (C:CompSt X.N X.env.scope d Y j)
  (y:∀s H ex,PG (NA X d Y j s H ex) K g/\So (NA X d Y j s H ex) U tc/\PE (NA X d Y j s H ex) V te)
  (M:∀x,foldedSetIterable Z X.env x=pure x) (k:swapsWith (.ListComp V [⟨K,Z,U,0⟩] d cpos) (some (.Name x u)) pos.line X.env=pure true) :
  PS X (.Assign [.Name x u] (.ListComp V [⟨K,Z,U,0⟩] d cpos) pos) (Pf (N1 B g tc te Y.length j) (BX i)):=by
 intro l s σ H D0 I h;rw[exec_Assign_Name_used _ _ _ _ k];refine QF (QBS (QF ?_));show wpAny _ X.A (do let _ <- comprehension (.ListComp V [⟨K,Z,U,0⟩] d cpos) d X.env _ (newList []) false (eval Z X.env) (some (assign (.Name x u) X.env))) _ _ s;refine QF (qq (lT (use:=some (assign (.Name x u) X.env)) (QQ:=λ_ o=>SP X l D0 .next o) hc Q C y M I h λD H' J F I6 f q=>?_) (λ_ o O=>QN (QN O)) λ_ _ e=>e);show wpAny _ X.A (assign (.Name x u) X.env (.ref D)) _ _ J;refine QBb (bO I6 S n (.inl p) (v:=.ref D) rfl (λG I7 ⟨a,E,R⟩=>?_) (.inr p));obtain⟨f0,W,f2,r,f4,m,P⟩:=f;have L:F≠a:=by rcases R with z|z;rw[z];exact W;exact λe=>r x a z e.symm
 have w:G.heap.Ns F m:=P.sameBut E L;exact⟨m,w,λh' b=>⟨_,H',UM I7 ⟨f0,W,f2,r,f4,m,w⟩ b,q⟩⟩
end
end L2
namespace L2.L3
open PySem PySem.Spec PyProof.Rows
noncomputable def um(K:QE):R2:=λx y H Q=>match x,y with
 | .int i,.int j=>Q (.int (i+j)) H|.str a,.str b=>a.length+b.length<=sizeLine/\Q (.str (a++b)) H|.ref a,.ref b=>∃z h,EC K H a z/\EC K H b h/\z.length+h.length<=sizeLine/\∀p,H p=none->Q (.ref p) (BA H p (.lst (z++h)))|_,_=>False
noncomputable def Tl:R2:=λx y H Q=>match x,y with
 | .int i,.int j=>Q (.int (i - j)) H|_,_=>False
def aJ(x:Str)(n:Int):Str:=Txt.mul x n
noncomputable def Il(K:QE):R2:=λx y H Q=>match x,y with
 | .int i,.int j=>IntMulOk i j/\Q (.int (i * j)) H|.str a,.int k=>(-(2 ^ 31)<=k/\k<2 ^ 31/\a.length * k.toNat<=sizeLine)/\Q (.str (aJ a k)) H|_,_=>False
noncomputable def Vc:R2:=λx y H Q=>match x,y with
 | .int i,.int j=>(0<j/\j<2 ^ 200)/\Q (.int (i / j)) H|_,_=>False
noncomputable def jm:R2:=λx y H Q=>match x,y with
 | .int i,.int j=>0<j/\Q (.int (i % j)) H|_,_=>False
section
variable{X:Cx}
theorem op_add:ZE X (binaryOp .Add) (um X.K):=by
 intro w s n H x y v u Q I g f h;cases x with
 |int i =>
  cases y with|int j=>exact _root_.L2.op_add w s n H _ _ v u Q I g f ⟨i,j,rfl,rfl,h⟩|_=>exact Qd h
 |str a =>
  cases y with|str b=>exact MU w s n H _ _ v u Q I g f ⟨a,b,rfl,rfl,h.1,h.2⟩|_=>exact Qd h
 |ref a =>
  cases y with
  |ref b =>
   obtain⟨xs,ys,N,M,hz,q⟩:=h;cases g;cases f;obtain⟨k,r,⟨⟨S,R,A,G⟩,L,W,E,d1,p⟩,z1⟩:=I.list N;obtain⟨z,Y,⟨⟨B,l,m,e⟩,J,Z,C,d2,o⟩,z2⟩:=I.list M;simp only at E p C o;subst E p C o;have hl:=r.length;have O:=Y.length;refine concat_meets ⟨_,W,rfl⟩ ⟨_,Z,rfl⟩ noFill_list_add seq_list_add PySem.F.slot_list_add PySem.F.entry_list_add (PySem.F.args_list_add_2 _ _) (list_addW a b k.toArray z.toArray L J R l G e (by simp;omega)) ⟨W,Z,?_⟩;have P:k.toArray++z.toArray=(k++z).toArray:=by simp
   rw[P];exact⟨.ref _,_,I.lnew (t':=s.toks) (r.append Y) (by rw[QH];omega),rfl,q _ I.fresh⟩
  |_=>exact Qd h
 |_=>exact Qd h
theorem op_sub:ZE X (binaryOp .Sub) Tl:=by
 intro z s w H x y v u Q I a k h;cases x with
 |int i =>
  cases y with|int j=>exact _root_.L2.op_sub z s w H _ _ v u Q I a k ⟨i,j,rfl,rfl,h⟩|_=>exact Qd h
 |_=>exact Qd h
theorem t9:ZE X (binaryOp .FloorDiv) Vc:=by
 intro z s a H x y v u Q I k w h;cases x with
 |int i =>
  cases y with
  |int j =>
   obtain⟨t,rfl⟩:=k;obtain⟨b,rfl⟩:=w;obtain⟨⟨f,e⟩,q⟩:=h;refine floordiv_int (by omega) ?_ (.inl (PyProof.noPylong_of_log2 ?_));rw[Int.fdiv_eq_ediv_of_nonneg i (by omega)];exact⟨.int _,H,I.tok _,⟨_,rfl⟩,q⟩;have:j.natAbs<2 ^ 200:=by omega
   have:=(Nat.log2_lt (show j.natAbs≠0 by omega)).mpr this;omega
  |_=>exact Qd h
 |_=>exact Qd h
theorem op_mod:ZE X (binaryOp .Mod) jm:=by
 intro z s w H x y v u Q I a k h;cases x with
 |int i =>
  cases y with|int j=>exact _root_.L2.op_mod z s w H _ _ v u Q I a k ⟨i,j,rfl,rfl,h.1,h.2⟩|_=>exact Qd h
 |_=>exact Qd h
theorem Ng:ZE X (binaryOp .Mult) (Il X.K):=by
 intro g s n H x y v u Q I f w h;cases x with
 |int i =>
  cases y with|int j=>obtain⟨t,rfl⟩:=f;obtain⟨z,rfl⟩:=w;exact mul_int ⟨.int _,H,I.tok _,⟨_,rfl⟩,h.2⟩ h.1|_=>exact Qd h
 |str a =>
  cases y with
  |int k =>
   obtain⟨t,rfl⟩:=f;obtain⟨z,rfl⟩:=w;obtain⟨⟨Y,r,p⟩,q⟩:=h;refine SB.mul ⟨?_,λ_ _=>?_,λ_ _=>?_⟩ λz o=>⟨.str (aJ a k),H,I.tok _,⟨_,rfl⟩,q⟩
   have m:decide (k < -(2 ^ 63:Int))=false:=dF (by omega);have l:decide (k ≥ 2 ^ 63)=false:=dF (by omega);rw[m,l];rfl;have e:(a.length:Int) * k=((a.length * k.toNat:Nat):Int):=by rw[Int.natCast_mul,Int.toNat_of_nonneg (by omega)]
   have:=Int.le_ediv_of_mul_le (a:=(a.length:Int)) (b:=2 ^ 63 - 1) (c:=k) (by omega) (by rw[e];omega);omega;unfold Builtin.Str.tooLong;exact dF (by omega)
  |_=>exact Qd h
 |_=>exact Qd h
end
end L2.L3
namespace L2
open PySem PySem.Spec PyProof.Rows
section
variable{x:Type}[DecidableEq x]
section
variable{p:x×V}{r kvs:List (x×V)}{vs:List (x×Value)}{u:Value}
noncomputable def KL(kvs:List (x×V))(k:x):Option V:=(kvs.find? λh=>decide (h.1=k)).map (·.2)
noncomputable def CU(kvs:List (x×V))(k:x)(v:V):List (x×V) :=
 if(kvs.any λh=>decide (h.1=k))=true then kvs.map (λh=>if h.1=k then(h.1,v) else h) else kvs++[(k,v)]
theorem YL{k:x}(e:p.1=k):KL (p::r) k=some p.2:=by simp[KL,wE,e]
theorem ZL{k:x}(e:¬ p.1=k):KL (p::r) k=KL r k:=by simp[KL,wE,e]
theorem sR(k:x):∀kvs:List (x×V),(kvs.any λh=>decide (h.1=k))=(KL kvs k).isSome
 |[]=>rfl|p::r=>by rw[wy];by_cases e:p.1=k;simp only[YL e,dT e,QBo,Option.isSome_some];rw[ZL e,dF e,QAU];exact sR k r
theorem KS(kvs:List (x×V))(k:x)(v:V):(CU kvs k v).length<=kvs.length+1:=by unfold CU;split;rw[QA];omega;rw[QH,QL,Qt];omega
theorem lW.isSome_eq{o:Option V}{u:Option Value}(r:lW o u):o.isSome=u.isSome:=by
 cases o with
 |none=>cases u with|none=>rfl|some _=>exact(show False from r).elim
 |some _=>cases u with|none=>exact(show False from r).elim|some _=>rfl
theorem KV.val(r:KV kvs vs)(k:x):lW (KL kvs k) (valueAt vs k):=by
 unfold KV at r;induction r with
 |nil=>exact True.intro|@cons p q g y h t a =>
  obtain⟨w,f⟩:=h;by_cases e:p.1=k;have v:q.1=k:=w.symm.trans e;have b:valueAt (q::y) k=some q.2:=by simp[valueAt,wE,v]
  rw[YL e,b];exact f;have v:¬ q.1=k:=λz=>e (w.trans z);have b:valueAt (q::y) k=valueAt y k:=by simp[valueAt,wE,v]
  rw[ZL e,b];exact a
theorem KV.any(r:KV kvs vs)(k:x):(kvs.any λy=>decide (y.1=k))=vs.any λy=>decide (y.1=k):=by
 unfold KV at r;induction r with|nil=>rfl|cons h t z=>rw[wy,wy,z,h.1]
theorem KV.repl(r:KV kvs vs)(k:x){y:V}(a:YA y u) :
  KV (kvs.map λv=>if v.1=k then(v.1,y) else v) (vs.map λv=>if v.1=k then(v.1,u) else v):=by
 unfold KV at r ⊢;induction r with|nil=>exact .nil|@cons p q i g h t b=>rw[QV,QV];refine .cons ?_ b;obtain⟨w,f⟩:=h;by_cases e:p.1=k;rw[if_pos e,if_pos (w.symm.trans e)];exact⟨w,a⟩;rw[if_neg e,if_neg (λz=>e (w.trans z))];exact⟨w,f⟩
theorem KV.put(r:KV kvs vs)(k:x){y:V}(h:YA y u):KV (CU kvs k y) (stored vs k u):=by unfold CU stored;rw[r.any k];by_cases e:(vs.any λz=>decide (z.1=k))=true;rw[if_pos e,if_pos e];exact r.repl k h;rw[if_neg e,if_neg e];exact Paired.snoc r ⟨rfl,h⟩
theorem KV.length(r:KV kvs vs):kvs.length=vs.length:=qK r
end
end
theorem YM{P:Program}{w:World}{k:Key}{u:Value}(r:YA (kV k) u):(ND P w).is k u=true:=by
 cases k with|inl i=>obtain⟨t,e⟩:=(show ∃t,u=Value.int i t from r);subst e;exact aS P w i t|inr x=>obtain⟨t,e⟩:=(show ∃t,u=Value.str x t from r);subst e;exact tS P w x t
end L2
namespace L2.L3
open PySem PySem.Spec PyProof.Rows
section
variable{r kvs:List KE}{xs:List (NK×Addr×Value)}
noncomputable abbrev KE:=NK×Addr×V
noncomputable def EG(kvs:List KE)(k:NK):Option V:=(kvs.find? λp=>decide (p.1=k)).map (·.2.2)
noncomputable def SL(kvs:List KE)(k:NK)(b:Addr)(v:V):List KE :=
 if(EG kvs k).isSome=true then kvs.map (λp=>if p.1=k then(p.1,p.2.1,v) else p) else kvs++[(k,b,v)]
noncomputable abbrev KD:List KE->List (NK×Addr×Value)->Prop:=Paired λ(p:NK×Addr×V) (q:NK×Addr×Value)=>p.1=q.1/\p.2.1=q.2.1/\YA p.2.2 q.2.2
theorem tR{p:KE}{k:NK}(e:p.1=k):EG (p::r) k=some p.2.2:=by simp[EG,wE,e]
theorem aR{p:KE}{k:NK}(e:¬ p.1=k):EG (p::r) k=EG r k:=by simp[EG,wE,e]
theorem KD.val(r:KD kvs xs)(k:NK):lW (EG kvs k) ((atKey xs k).map (·.2)):=by
 induction r with
 |nil=>exact True.intro|@cons p q a x h t v =>
  obtain⟨u,_,w⟩:=h;by_cases e:p.1=k;have y:q.1=k:=u.symm.trans e;have b:atKey (q::x) k=some q.2:=by simp[atKey,wE,y]
  rw[tR e,b];exact w;have y:¬ q.1=k:=λz=>e (u.trans z);have b:atKey (q::x) k=atKey x k:=by simp[atKey,wE,y]
  rw[aR e,b];exact v
theorem KD.put(r:KD kvs xs)(k:NK)(b:Addr){y:V}{u:Value}(v:YA y u):KD (SL kvs k b y) (storedH xs k b u):=by
 have e:(EG kvs k).isSome=(atKey xs k).isSome:=by rw[(r.val k).isSome_eq,QAP]
 unfold SL storedH;rw[e];by_cases q:(atKey xs k).isSome=true;rw[if_pos q,if_pos q];clear e q;induction r with|nil=>exact .nil|@cons p q i g h t a=>rw[QV,QV];refine .cons ?_ a;obtain⟨x,w,f⟩:=h;unfold putAt;by_cases e:p.1=k;rw[if_pos e,if_pos (x.symm.trans e)];exact⟨x,w,v⟩;rw[if_neg e,if_neg (λz=>e (x.trans z))];exact⟨x,w,f⟩
 rw[if_neg q,if_neg q];exact Paired.snoc r ⟨rfl,rfl,v⟩
theorem VS(kvs:List KE)(k:NK)(b:Addr)(v:V):(SL kvs k b v).length<=kvs.length+1:=by unfold SL;split;rw[QA];omega;rw[QH,QL,Qt];omega
end
mutual
def Fj(K:QE)(H:Hp):NK->V->Prop
 | .s x,v=>v=.str x|.t ks,v=>∃a h,v=.ref a/\AD K H a h/\KyVs K H ks h
def KyVs(K:QE)(H:Hp):List NK->LV->Prop
 |[],xs=>xs=[]|k::ks,xs=>∃x r,xs=x::r/\Fj K H k x/\KyVs K H ks r
end
def jO(K:QE)(H:Hp)(b:Addr)(k:NK):Prop:=Fj K H k (.ref b)/\z5 k<=6
theorem aI{P:Program}{w:World}{A:Around}(h:A.units+60<cLine):(GE P w).room A.in1:=by show A.in1.units+8<cLine;rw[QAc];omega
def YG(K:QE)(H:Hp)(kvs:List KE):Prop:=∀p∈kvs,jO K H p.2.1 p.1
theorem Inv.big{X:Cx}{x:TB}{σ:St}{H:Hp}{s:Shared}(I:Inv X x σ H s):sysModules<s.heap.objs.size:=by have h:mainGlobals<s.heap.objs.size:=(I.mod.glob.keeps I.bk).lt;exact Nat.lt_trans (by decide) h
section
variable{X:Cx}{y:TB}{σ:St}{H:Hp}{s:Shared}{a b:Addr}
mutual
theorem gn(I:Inv X y σ H s):∀{k:NK}{x:V}{u:Value},Fj X.K H k x->YA x u->Z0 s.heap k u
 | .s z,x,u,e,r=>by cases(show x=.str z from e);exact r|.t ks,x,u,⟨a,xs,e,q,p⟩,r=>by subst e;cases r;obtain⟨h,v,⟨o,g,f,n,w⟩,_⟩:=I.tuple q;exact⟨a,h.toArray,rfl,⟨o,g,f,n,w⟩,by simpa using ky_vs I p v⟩
theorem ky_vs(I:Inv X y σ H s):∀{ks:List NK}{xs:LV}{us:LW},KyVs X.K H ks xs->nA xs us->NKvs s.heap ks us
 |[],xs,us,e,r=>by cases(show xs=[] from e);cases r;rfl|k::ks,xs,us,⟨x,r,e,p,q⟩,rv=>by
  subst e;cases rv with|cons h t=>exact⟨_,_,rfl,gn I p h,ky_vs I q t⟩
end
theorem CS{k:NK}(I:Inv X pins σ H s)(h:jO X.K H b k):(GE X.prog X.w).is s.heap k b:=⟨gn I h.1 rfl,h.2⟩
theorem CK{ep:Nat}{kvs:List KE}(I:Inv X pins σ H s)(e:H a=some (.dT ep kvs))(hk:YG X.K H kvs):kvs.length<=sizeLine/\(a==sysModules)=false/\∃xs,KD kvs xs/\s.heap.DictOfH (GE X.prog X.w) a xs:=by
 obtain⟨z,y,xs,r,o,l,j,i,g,k,v⟩:=(show zB X.prog X.w H s.heap a (.dT ep kvs) from I.hok a _ e)
 refine⟨z,y,xs,r,o,l,ep,j,i,g,k,?_,v⟩;clear k v z e;induction r with
 |nil=>intro x h;exact nomatch h
 |@cons p q n m u t b=>intro x h;rcases QM.mp h with e|h;subst e;rw[<- u.1,<- u.2.1];exact CS I (hk p QD);exact b (λp f=>hk p (QC _ f)) x h
theorem uT{kvs:List (Key×V)}(I:Inv X pins σ H s)(e:H a=some (.dK kvs)):kvs.length<=sizeLine/\(a==sysModules)=false/\∃vs,KV kvs vs/\s.heap.DictOf (ND X.prog X.w) a vs :=
 show zB X.prog X.w H s.heap a (.dK kvs) from I.hok a _ e
end
theorem M6{X:Cx}{h:TB}{σ:St}{H:Hp}{s:Shared}{a:Addr}{ep:Nat}(I:Inv X h σ H s)(e:H a=some (.dT ep [])):(a==sysModules)=false/\s.heap.DictOf (ND X.prog X.w) a []:=by
 obtain⟨z,y,g,r,o,f,b,k,v,u,i⟩:=(show zB X.prog X.w H s.heap a (.dT ep []) from I.hok a _ e)
 cases r;have x:f=#[]:=by apply w8.mp;simpa using u
 subst x;exact⟨y,o,#[],ep,b,k,v,λe x=>by simp at x,.nil,Qs⟩
def kD:Key->PyData
 | .inl i=>.int i|.inr x=>.str x
mutual
def tD:NK->PyData
 | .s x=>.str x|.t h=>.tuple (tDs h)
def tDs:List NK->List PyData
 |[]=>[]|k::ks=>tD k::tDs ks
end
theorem R5{a b:Key}(e:kD a=kD b):a=b:=by
 cases a with
 |inl i=>cases b with|inl j=>injection e with e;rw[e]|inr y=>exact nomatch (show Jy i=Jx y from e)
 |inr x=>cases b with
  |inl j=>exact nomatch (show Jx x=Jy j from e)
  |inr y=>injection e with e;rw[e]
mutual
theorem YU:∀{a b:NK},tD a=tD b->a=b
 | .s x,.s y,e=>by rw[PyData.str.inj e]|.s x,.t l,e=>QBV e|.t k,.s y,e=>QBV e|.t k,.t l,e=>by rw[tDs_inj (PyData.tuple.inj e)]
theorem tDs_inj:∀{a b:List NK},tDs a=tDs b->a=b
 |[],[],_=>rfl|[],_::_,e=>(nomatch e)
 |_::_,[],e=>(nomatch e)
 |x::xs,y::ys,e=>by have e:tD x::tDs xs=tD y::tDs ys:=e;injection e with e1 e2;rw[YU e1,tDs_inj e2]
end
def bK(K:QE)(H:Hp)(b:Bool)(o:HO)(ks:List PyData)(vs:LV):Prop:=match b with
 |true=>∃x,∃h:List KE,o=.dT x h/\ks=h.map (λp=>tD p.1)/\vs=h.map (·.2.2)/\YG K H h/\(h.map (·.1)).Nodup|false=>(∃h:List (Key×V),h≠[]/\o=.dK h/\ks=h.map (λp=>kD p.1)/\vs=h.map (·.2)/\(h.map (·.1)).Nodup)∨∃x,o=.dT x []/\ks=[]/\vs=[]
theorem bK.len{K:QE}{H:Hp}{b:Bool}{o:HO}{ks:List PyData}{vs:LV}(h:bK K H b o ks vs):ks.length=vs.length:=by
 cases b with|true=>obtain⟨y,x,_,rfl,rfl,_⟩:=h;simp|false=>rcases h with⟨x,_,_,rfl,rfl,_⟩| ⟨_,_,rfl,rfl⟩<;>simp
def uR(K:QE)(H:Hp)(a:Addr)(y:V)(r:Option V):Prop:=match y with
 | .str z=>(∃h,H a=some (.dK h)/\r=KL h (.inr z))∨∃x,H a=some (.dT x [])/\r=none|.ref b=>∃x h k,H a=some (.dT x h)/\YG K H h/\jO K H b k/\r=EG h k|_=>False
def Pj(K:QE)(H:Hp)(a:Addr)(y v:V)(Q:Hp->Prop):Prop:=match y with
 | .str z=>(∃h,H a=some (.dK h)/\h.length<sizeLine/\Q (BA H a (.dK (CU h (.inr z) v))))∨∃u,H a=some (.dT u [])/\Q (BA H a (.dK [(.inr z,v)]))|.ref b=>∃u h k,H a=some (.dT u h)/\YG K H h/\jO K H b k/\h.length<sizeLine/\∀x,Q (BA H a (.dT x (SL h k b v)))|_=>False
theorem nO{v:V}{o:Option Value}(r:lW (some v) o):∃w,o=some w/\YA v w:=by
 cases o with|none=>exact(show False from r).elim|some w=>exact⟨w,rfl,r⟩
section
variable{X:Cx}
section
variable{c:TB}{s:Shared}{σ:St}{H:Hp}{a:Addr}{u:Value}{o:Option V}{h':Heap}{pos:Pos}
theorem Na(P:X.A.units+66<cLine):F7 X (λx y H Q=>∃a v,x=.ref a/\uR X.K H a y (some v)/\Q v H):=by
 intro n Y c s σ H x y v u Q I J C h E;obtain⟨a,r,rfl,g,q⟩:=h;cases J;cases y with
 |str z =>
  rcases g with⟨W,e,l⟩| ⟨N,e,l⟩
  rotate_left
  cases l;obtain⟨_,M,G,f,m⟩:=uT I e;obtain⟨i,B,w⟩:=nO (v:=r) (o:=valueAt G (.inr z)) (by rw[l];exact f.val _);exact qf (x:=i) m.typeIs QAH.lookup
   (wpAny_getItem_of (Q:=λr Z=>r=i/\EP X c σ Q r Z) (YM (k:=.inr z) C) m.mapOf B ⟨rfl,r,H,I.tok _,w,q⟩) E
 |ref b =>
  obtain⟨N,W,k,e,hk,O,l⟩:=g;cases C;obtain⟨_,M,F,f,m⟩:=CK I e hk;obtain⟨i,B,w⟩:=nO (v:=r) (o:=(atKey F k).map (·.2)) (by rw[l];exact f.val _);obtain⟨p,L,j⟩:=Option.map_eq_some_iff.mp B;refine qf (x:=i) m.typeIs QAH.lookup
   (wpAny_getItem_heap (Q:=λr Z=>r=i/\EP X c σ Q r Z) (aI (by omega)) (CS I O) m L ?_) E
  exact⟨j,r,H,I.tok _,by rw[j];exact w,q⟩
 |_=>exact Qd g
theorem Ta(r:X.A.units+66<cLine){y:V}{Q:VK}(I:Inv X c σ H s)(f:YA y u)(g:uR X.K H a y o)(q:Q (.bl o.isSome) H) :
  wpAny (model X.prog X.w) X.A (compareOp .In u (.ref a)) (EP X c σ Q) X.xe s:=by
 cases y with
 |str z =>
  rcases g with⟨i,e,l⟩| ⟨j,e,l⟩
  rotate_left
  subst l;obtain⟨x,v⟩:=M6 I e;exact wpAny_in_of (YM (k:=.inr z) f) x v.mapOf ⟨.bl false,H,I.tok _,rfl,q⟩;obtain⟨_,x,p,h,v⟩:=uT I e;refine wpAny_in_of (YM (k:=.inr z) f) x v.mapOf ⟨.bl o.isSome,H,I.tok _,?_,q⟩;rw[<- (h.val (.inr z)).isSome_eq,<- l];rfl
 |ref b=>obtain⟨j,i,k,e,hk,m,l⟩:=g;cases f;obtain⟨_,x,n,h,v⟩:=CK I e hk;refine wpAny_in_heap (aI (by omega)) (CS I m) x v ⟨.bl o.isSome,H,I.tok _,?_,q⟩;have q:=(h.val k).isSome_eq;rw[QAP]at q;rw[<- q,<- l];rfl|_=>exact Qd g
theorem AU(r:X.A.units+66<cLine){y:V}{Q:VK}(I:Inv X c σ H s)(f:YA y u)(g:uR X.K H a y o)(q:Q (.bl (!o.isSome)) H) :
  wpAny (model X.prog X.w) X.A (compareOp .NotIn u (.ref a)) (EP X c σ Q) X.xe s:=by
 cases y with
 |str z =>
  rcases g with⟨i,e,l⟩| ⟨j,e,l⟩
  rotate_left
  subst l;obtain⟨x,v⟩:=M6 I e;exact wpAny_notIn_of (YM (k:=.inr z) f) x v.mapOf ⟨.bl true,H,I.tok _,rfl,q⟩;obtain⟨_,x,p,h,v⟩:=uT I e;refine wpAny_notIn_of (YM (k:=.inr z) f) x v.mapOf ⟨.bl (!o.isSome),H,I.tok _,?_,q⟩;rw[<- (h.val (.inr z)).isSome_eq,<- l];rfl
 |ref b=>obtain⟨j,i,k,e,hk,m,l⟩:=g;cases f;obtain⟨_,x,n,h,v⟩:=CK I e hk;refine wpAny_notIn_heap (aI (by omega)) (CS I m) x v ⟨.bl (!o.isSome),H,I.tok _,?_,q⟩;have q:=(h.val k).isSome_eq;rw[QAP]at q;rw[<- q,<- l];rfl|_=>exact Qd g
theorem HQ{t':Nat}{ob:HO}(I:Inv X c σ H s)(h:Yk (H a))(y:qW a s.heap h')(v:∃q,h'.get? a=some q)(new:zB X.prog X.w (BA H a ob) h' a ob) :
  Inv X c σ (BA H a ob) { s with heap:=h',toks:=t' } :=
 I.write (x:=a) (e:=a) h (.inl rfl) (λb q hb z=>(y.2 b hb).trans z) v new
theorem OM{t':Nat}{kvs:List KE}{xs:List (NK×Addr×Value)}(I:Inv X c σ H s)(y:Yk (H a))(k:(a==sysModules)=false)(z:kvs.length<=sizeLine)(h:KD kvs xs)
  (j:h'.DictOfH (GE X.prog X.w) a xs) (v:qW a s.heap h'):∃ep,Inv X c σ (BA H a (.dT ep kvs)) { s with heap:=h',toks:=t' }:=by
 obtain⟨q,i,ep,x,g,f,e,_,b⟩:=j;exact⟨ep,HQ I y v ⟨q,x⟩ ⟨z,k,xs,h,q,i,x,g,f,e,b⟩⟩
def setD(K:QE)(o y v:V)(H:Hp)(Q:Hp->Prop):Prop:=match o with
 | .ref a=>Pj K H a y v Q|_=>False
theorem FR(M:X.A.units+66<cLine):jc X (setD X.K):=by
 intro c s σ H o y v J L u Q I W n m h;cases o with
 |ref a =>
  cases W;cases y with
  |str z =>
   rcases h with⟨f,e,l,q⟩| ⟨B,e,q⟩
   rotate_left
   obtain⟨i,j⟩:=M6 I e;refine QBF (hsz:=Q8 _) (YM (k:=.inr z) n) j λh' x g=>⟨_,?_,q⟩
   have Y:∃q,h'.get? a=some q:=let⟨q,_,_,r,_⟩:=x;⟨q,r⟩
   exact HQ I (by rw[e];exact True.intro) g Y ⟨by simp;decide,i,_,.cons ⟨rfl,m⟩ .nil,x⟩;obtain⟨p,i,G,w,j⟩:=uT I e;have hl:(CU f (.inr z) v).length<=sizeLine:=by have:=KS f (.inr z) v;omega
   refine QBF (hsz:=by rw[<- w.length];exact p) (YM (k:=.inr z) n) j λh' x g=>⟨_,?_,q⟩
   have Y:∃q,h'.get? a=some q:=let⟨q,_,_,r,_⟩:=x;⟨q,r⟩
   exact HQ I (by rw[e];exact True.intro) g Y ⟨hl,i,_,w.put _ m,x⟩
  |ref b =>
   obtain⟨B,f,k,e,hk,C,l,q⟩:=h;cases n;obtain⟨p,i,F,w,j⟩:=CK I e hk;have hl:(SL f k b v).length<=sizeLine:=by have:=VS f k b v;omega
   refine wpAny_setItem_heap (hsz:=by rw[<- qK w];exact p) (aI (by omega)) (CS I C) j λh' x g=>?_;obtain⟨Z,E⟩:=OM (t':=_) I (by rw[e];exact True.intro) i hl (w.put k b m) x g;exact⟨_,E,q Z⟩
  |_=>exact Qd h
 |_=>exact Qd h
theorem Hd{P:Program}{w:World}(h:Heap)(hb:sysModules<h.objs.size):zB P w H (h.push { cls:=.type "dict",data:=.dict #[] }) h.objs.size (.dT 0 []) :=
 ⟨Q8 _,beq_eq_false_iff_ne.mpr (qD (Qm hb)),[],.nil,_,#[],QZ _ rfl,⟨rfl,rfl,rfl⟩,rfl,rfl,Qs⟩
theorem d9:PE X (.Dict [] [] pos) (λ_ H Q=>∀p,H p=none->Q (.ref p) (BA H p (.dT 0 []))):=λc s σ H Q I h =>
 wpAny_Dict_empty ⟨.ref s.heap.objs.size,_,I.laid (a:=s.heap.objs.size) (o:=.dT 0 []) (t':=s.toks) (λ_ _ q=>QK _ q) (Qa _) (Hd s.heap (Inv.big I)),rfl,h _ (I.hok.fresh (Qa _))⟩
theorem c9(hu:X.A.units+66<cLine){k v:Expr}{l j:TE}(hk:PE X k l)(hv:PE X v j) :
  PE X (.Dict [some k] [v] pos) (λσ H Q=>∀p,H p=none->l σ (BA H p (.dT 0 [])) λy i=>j σ i λv h=>h p=some (.dT 0 [])/\∃b ks,y=.ref b/\jO X.K h b ks/\∀ep,Q (.ref p) (BA h p (.dT ep [(ks,b,v)]))):=by
 intro c s σ H Q I q;have E:=I.hok.fresh (Qa s.heap.objs.size);have N:=I.laid (a:=s.heap.objs.size) (o:=.dT 0 []) (h':=s.heap.push { cls:=.type "dict",data:=.dict #[] }) (t':=s.toks) (λ_ _ q=>QK _ q) (Qa _) (Hd s.heap (Inv.big I));refine wpAny_Dict_any rfl rfl (by simp) (by simp) (pairTrees_cons_walk (AB (hk c _ σ _ _ N (q _ E)) λu n ⟨y,i,M,Y,W⟩=>AB (hv c n σ i _ M W) λm R ⟨z,h,g,r,e,b,ks,G,J,Z⟩=>pairTrees_nil_walk ?_));subst G;cases Y;obtain⟨S,F,P,x,L⟩:=CK g e (λp C=>nomatch C);cases x;show wpAny _ _ (forIn [(jx b,m)] PUnit.unit _) _ _ _;rw[Wt];refine QF (QF (wpAny_dictSet_heap (hsz:=Q8 _) (show X.A.units+8<cLine by omega) (CS g J) L λh' f B=>QN ?_));show wpAny _ _ (forIn ([]:List (Value×Value)) _ _) _ _ _;rw[QA8];obtain⟨w,O⟩:=OM (t':=_) (kvs:=[(ks,b,z)]) g (by rw[e];exact True.intro) F (by simp;decide) (.cons ⟨rfl,rfl,r⟩ .nil) f B;exact QN ⟨.ref _,_,O,rfl,Z w⟩
end
end
mutual
inductive Rep(K:QE)(H:Hp):V->PyData->Prop where
 |non:Rep K H .non .none
 |bl (b:Bool):Rep K H (.bl b) (.bool b)
 |int (i:Int):Rep K H (.int i) (.int i)
 |str (x:Str):Rep K H (.str x) (.str x)
 |lst {a:Addr}{xs:LV}{ds:List PyData}:EC K H a xs->Reps K H xs ds->Rep K H (.ref a) (.list ds)
 |tup {a:Addr}{xs:LV}{ds:List PyData}:AD K H a xs->Reps K H xs ds->Rep K H (.ref a) (.tuple ds)
 |dct {b:Bool}{a:Addr}{o:HO}{ks:List PyData}{xs:LV}{ds:List PyData}:H a=some o->bK K H b o ks xs->Reps K H xs ds->Rep K H (.ref a) (.dict (ks.zip ds))
inductive Reps(K:QE)(H:Hp):LV->List PyData->Prop where
 |nil:Reps K H [] []
 |cons {x:V}{d:PyData}{xs:LV}{ds:List PyData}:Rep K H x d->Reps K H xs ds->Reps K H (x::xs) (d::ds)
end
section
variable{K:QE}{H:Hp}{R:LV->List PyData->Prop}{xs:LV}{ds:List PyData}
theorem Rep.both{P:V->PyData->Prop}(z:P .non .none)(v:∀b,P (.bl b) (.bool b))(int:∀i,P (.int i) (.int i))(str:∀x,P (.str x) (.str x))
    (lst:∀{a:Addr}{xs:LV}{ds:List PyData},EC K H a xs->Reps K H xs ds->R xs ds->P (.ref a) (.list ds))
    (tup:∀{a:Addr}{xs:LV}{ds:List PyData},AD K H a xs->Reps K H xs ds->R xs ds->P (.ref a) (.tuple ds))
    (dct:∀{b:Bool}{a:Addr}{o:HO}{ks:List PyData}{xs:LV}{ds:List PyData},H a=some o->bK K H b o ks xs->Reps K H xs ds->R xs ds->P (.ref a) (.dict (ks.zip ds)))
    (u:R [] []) (y:∀{x:V}{d:PyData}{xs:LV}{ds:List PyData},Rep K H x d->Reps K H xs ds->P x d->R xs ds->R (x::xs) (d::ds)) :
    (∀{x:V}{d:PyData},Rep K H x d->P x d)/\∀{xs:LV}{ds:List PyData},Reps K H xs ds->R xs ds :=
  ⟨λh=>Rep.rec (motive_1:=λx d _=>P x d) (motive_2:=λx d _=>R x d) z v int str @lst @tup @dct u @y h,
   λh=>Reps.rec (motive_1:=λx d _=>P x d) (motive_2:=λx d _=>R x d) z v int str @lst @tup @dct u @y h⟩
theorem Reps.ind(z:R [] [])(y:∀{x:V}{d:PyData}{xs:LV}{ds:List PyData},Rep K H x d->R xs ds->R (x::xs) (d::ds))(h:Reps K H xs ds):R xs ds :=
 (Rep.both (P:=λ_ _=>True) trivial (λ_=>trivial) (λ_=>trivial) (λ_=>trivial) (λ_ _ _=>trivial) (λ_ _ _=>trivial) (λ_ _ _ _=>trivial) z λh _ _ r=>y h r).2 h
theorem Reps.length(h:Reps K H xs ds):xs.length=ds.length:=Reps.ind (R:=λxs ds=>xs.length=ds.length) rfl (λ_ e=>congrArg Nat.succ e) h
end
section
variable{X:Cx}{y:TB}{σ:St}{H:Hp}{s:Shared}
mutual
theorem nS{h:Heap}:∀{k:NK}{u:Value},Z0 h k u->∃z,Reads h u (tD k) z
 | .s x,u,⟨t,e⟩=>by subst e;exact⟨_,.str x t⟩|.t ks,u,⟨a,its,e,⟨o,e1,c,n,d⟩,q⟩=>by subst e;obtain⟨z,v⟩:=nks_reads q;exact⟨_,.tuple e1 c d v⟩
theorem nks_reads{h:Heap}:∀{ks:List NK}{us:LW},NKvs h ks us->∃x,ReadsAll h us (tDs ks) x
 |[],us,e=>by cases(show us=[] from e);exact⟨_,.nil⟩|k::ks,us,⟨v,r,e,p,q⟩=>by subst e;obtain⟨x,u⟩:=nS p;obtain⟨bs,z⟩:=nks_reads q;exact⟨_,.cons u z⟩
end
section
variable{kvs:List (Key×V)}{xs:List (NK×Addr×Value)}{vs:List (Key×Value)}
theorem x3(I:Inv X pins σ H s){kvs:List KE}(r:KD kvs xs)(hk:YG X.K H kvs):∃z,ReadsAll s.heap (xs.map λx=>.ref x.2.1) (kvs.map λp=>tD p.1) z:=by
 induction r with|nil=>exact⟨_,.nil⟩|@cons p x _ _ h t u=>obtain⟨z,q⟩:=u λp v=>hk p (QC _ v);obtain⟨bs,y⟩:=nS (CS I (hk p QD)).1;rw[h.2.1]at y;exact⟨_,.cons y q⟩
theorem PR{P:Program}{w:World}{es:List DictEntry}(hk:KV kvs vs)(u:Pairs (ND P w) es vs):(∃v,ReadsAll s.heap (es.map (·.key)) (kvs.map λp=>kD p.1) v)/\es.map (·.val)=vs.map (·.2):=by
 unfold KV at hk;induction hk generalizing es with
 |nil=>cases u;exact⟨⟨_,.nil⟩,rfl⟩|cons h t e =>
  cases u with
  |cons a b c =>
   obtain⟨⟨v,q⟩,k⟩:=e c;refine⟨?_,by rw[QV,QV,k,b]⟩;rw[QV,QV];rw[<- h.1]at a;rcases OA a with⟨i,t,z,y⟩| ⟨x,t,z,y⟩
   rw[z,y];exact⟨_,.cons (.int i t) q⟩;rw[z,y];exact⟨_,.cons (.str x t) q⟩
theorem l8{kvs:List KE}(r:KD kvs xs):nA (kvs.map (·.2.2)) (xs.map (·.2.2)):=by
 induction r with|nil=>exact .nil|cons h _ x=>exact .cons h.2.2 x
theorem g8(r:KV kvs vs):nA (kvs.map (·.2)) (vs.map (·.2)):=by
 induction r with|nil=>exact .nil|cons h _ x=>exact .cons h.2 x
theorem KZ(I:Inv X pins σ H s){b:Bool}{a:Addr}{o:HO}{ks:List PyData}{xs:LV}(h:H a=some o)(q:bK X.K H b o ks xs):∃ob es ep us,s.heap.get? a=some ob/\ob.cls=.type "dict"/\ob.dict=none/\ob.data=.dict es ep/\(a==sysModules)=false /\
  (∃j,ReadsAll s.heap (es.toList.map (·.key)) ks j)/\nA xs us/\es.toList.map (·.val)=us:=by
 cases b with
 |true=>obtain⟨e,kvs,rfl,rfl,rfl,hk,_⟩:=q;obtain⟨_,v,f,x,ob,es,ep,k,y,w,u,_⟩:=CK I h hk;refine⟨ob,es,ep,_,k,y.1,y.2.1,w,v,?_,l8 x,?_⟩;rw[u,Qc];exact x3 I x hk;rw[u,Qc];rfl|false =>
  rcases q with⟨kvs,_,rfl,rfl,rfl,_⟩| ⟨e,rfl,rfl,rfl⟩
  rotate_left
  obtain⟨_,v,f,x,ob,es,ep,k,y,w,u,_⟩:=CK I h λ_ z=>nomatch z;cases x;exact⟨ob,es,ep,[],k,y.1,y.2.1,w,v,⟨_,by rw[u];exact .nil⟩,.nil,by rw[u];rfl⟩;obtain⟨_,v,vs,x,ob,es,ep,k,y,w,_,u,_⟩:=uT I h;obtain⟨i,g⟩:=PR (s:=s) x u;exact⟨ob,es,ep,_,k,y.1,y.2.1,w,v,i,g8 x,g⟩
theorem Rep.reads2(I:Inv X pins σ H s):(∀{x:V}{d:PyData},Rep X.K H x d->∀u,YA x u->∃y,Reads s.heap u d y)/\∀{xs:LV}{ds:List PyData},Reps X.K H xs ds->∀us,nA xs us->∃y,ReadsAll s.heap us ds y:=by
 refine Rep.both (P:=λx d=>∀u,YA x u->∃y,Reads s.heap u d y) (R:=λxs ds=>∀us,nA xs us->∃y,ReadsAll s.heap us ds y) (λu r=>?_) (λb u r=>?_) (λi u r=>?_) (λx u r=>?_) (λh q v u r=>?_) (λh q v u r=>?_) (λ{b a o w xs ds} h q r v u l=>?_) (λus r=>?_) λ_ _ p m us r=>?_;cases r;exact⟨_,.none⟩;cases r;exact⟨_,.bool b⟩;obtain⟨t,rfl⟩:=r;exact⟨_,.int i t⟩;obtain⟨t,rfl⟩:=r;exact⟨_,.str x t⟩;cases r;obtain⟨g,k,⟨o,n,e,c,_,d⟩,_⟩:=I.list h;obtain⟨y,z⟩:=v _ k;exact⟨_,.list e c d (by simpa using z)⟩;cases r;obtain⟨g,k,⟨o,e,c,n,d⟩,_⟩:=I.tuple h;obtain⟨y,z⟩:=v _ k;exact⟨_,.tuple e c d (by simpa using z)⟩;cases l;obtain⟨ob,L,M,us,C,B,J,A,G,⟨y,W⟩,Z,Y⟩:=KZ I h q;obtain⟨bs,f⟩:=v _ Z;have hl:w.length=ds.length:=by rw[q.len,Reps.length r]
 have F:(w.zip ds).map (λx=>x.1)=w:=Wj (wq hl);have E:(w.zip ds).map (λx=>x.2)=ds:=w9 (wq hl.symm);exact⟨_,.dict C B A (by rw[F];exact W) (by rw[E,Y];exact f)⟩;cases r;exact⟨_,.nil⟩;cases r with|cons r j=>obtain⟨y,z⟩:=p _ r;obtain⟨bs,f⟩:=m _ j;exact⟨_,.cons z f⟩
theorem Rep.reads(I:Inv X pins σ H s){x:V}{d:PyData}{u:Value}(h:Rep X.K H x d)(r:YA x u):∃y,Reads s.heap u d y:=(Rep.reads2 I).1 h u r
def eF(d:PyData):Prop:=d.canLay0=true/\d.depth<=64
noncomputable def rEq(K:QE)(neg:Bool):R2:=λx y H Q=>match x,y with
 | .int i,.int j=>Q (.bl (if neg then !decide (i=j) else decide (i=j))) H|.str a,.str b=>Q (.bl (if neg then !decide (a=b) else decide (a=b))) H|.bl a,.bl b=>Q (.bl (if neg then !decide (a=b) else decide (a=b))) H|x,y=>∃z h,Rep K H x z/\Rep K H y h/\eF z/\eF h/\Q (.bl (if neg then !PyData.eqv z h else Qx z h)) H
theorem op_eq(C:X.A.units+64<cLine):ZE X (compareOp .Eq) (rEq X.K false):=by
 intro z s g H x y v u Q I o n h;have k:(∃f e,Rep X.K H x f/\Rep X.K H y e/\eF f/\eF e/\Q (.bl (if false=true then !PyData.eqv f e else Qx f e)) H)->wpAny (model X.prog X.w) X.A (compareOp .Eq v u) (EP X z g Q) X.xe s:=by rintro⟨f,e,m,l,⟨Z,B⟩,⟨Y,W⟩,q⟩;obtain⟨E,r⟩:=m.reads I o;obtain⟨bs,p⟩:=l.reads I n;exact SeqAt.compareEq_reads r p Z Y (by omega) ⟨.bl _,H,I,rfl,q⟩
 have sc:F8 x y=true->Q (.bl (decide (x=y))) H->wpAny (model X.prog X.w) X.A (compareOp .Eq v u) (EP X z g Q) X.xe s:=λm l=>_root_.L2.op_eq z s g H x y v u Q I o n ⟨m,l⟩;cases x with
 |int i =>
  cases y with|int j=>exact sc rfl (by simpa[rEq]using h)|_=>exact k h
 |str a =>
  cases y with|str b=>exact sc rfl (by simpa[rEq]using h)|_=>exact k h
 |bl a =>
  cases y with|bl b=>exact sc rfl (by simpa[rEq]using h)|_=>exact k h
 |_=>exact k h
theorem op_ne(C:X.A.units+64<cLine):ZE X (compareOp .NotEq) (rEq X.K true):=by
 intro z s g H x y v u Q I o n h;have k:(∃f e,Rep X.K H x f/\Rep X.K H y e/\eF f/\eF e/\Q (.bl (if true=true then !PyData.eqv f e else Qx f e)) H)->wpAny (model X.prog X.w) X.A (compareOp .NotEq v u) (EP X z g Q) X.xe s:=by rintro⟨f,e,m,l,⟨Z,B⟩,⟨Y,W⟩,q⟩;obtain⟨E,r⟩:=m.reads I o;obtain⟨bs,p⟩:=l.reads I n;exact SeqAt.compareNe_reads r p Z Y (by omega) ⟨.bl _,H,I,rfl,q⟩
 have sc:F8 x y=true->Q (.bl (!decide (x=y))) H->wpAny (model X.prog X.w) X.A (compareOp .NotEq v u) (EP X z g Q) X.xe s:=λm l=>_root_.L2.op_ne z s g H x y v u Q I o n ⟨m,l⟩;cases x with
 |int i =>
  cases y with|int j=>exact sc rfl (by simpa[rEq]using h)|_=>exact k h
 |str a =>
  cases y with|str b=>exact sc rfl (by simpa[rEq]using h)|_=>exact k h
 |bl a =>
  cases y with|bl b=>exact sc rfl (by simpa[rEq]using h)|_=>exact k h
 |_=>exact k h
noncomputable def KY(f:Int->Int->Bool):R2:=λx y H Q=>match x,y with
 | .int i,.int j=>Q (.bl (f i j)) H|_,_=>False
theorem NP{w:CmpOp}{f:Int->Int->Bool}(e:ZE X (compareOp w) (N8 λi j=>.bl (f i j))):ZE X (compareOp w) (KY f):=by
 intro z s k H x y v u Q I b a h;cases x with
 |int i =>
  cases y with|int j=>exact e z s k H _ _ v u Q I b a ⟨i,j,rfl,rfl,h⟩|_=>exact Qd h
 |_=>exact Qd h
noncomputable def inStr(b a:Str):Bool:=match a.cps.toList with
 |[c]=>decide (c∈b.cps.toList)|_=>!(wW b a 0 b.length 1).isEmpty
theorem OS(b a:Str):inStr b a=!(wW b a 0 b.length 1).isEmpty:=by
 unfold inStr;split;rename_i c e;have x:a=⟨#[c]⟩:=by
  obtain⟨h⟩:=a;have:h=#[c]:=by apply w8.mp;simpa using e
  rw[this]
 rw[x];exact(StrLaws.found_one b c).symm;rfl
noncomputable def TR(K:QE)(neg:Bool):R2:=λx y H Q=>match y with
 | .str b=>match x with
  | .str a=>Q (.bl (if neg then !inStr b a else inStr b a)) H|_=>False
 | .ref p=>vr K neg x (.ref p) H Q∨(∃d h,Rep K H x d/\(Rep K H (.ref p) (.list h)∨Rep K H (.ref p) (.tuple h))/\eF d/\eF (.list h)/\Q (.bl (if neg then !(h.any λy=>Qx y d) else h.any λy=>Qx y d)) H)∨(∃o,uR K H p x o/\Q (.bl (if neg then !o.isSome else o.isSome)) H)|_=>False
theorem eO{ds:List PyData}(h:eF (.list ds)):wR ds=true/\wt ds<=63:=by obtain⟨x,y⟩:=h;simp only[QAI]at x;simp only[QAs]at y;exact⟨x,by omega⟩
theorem Zm(Y:X.A.units+66<cLine):ZE X (compareOp .In) (TR X.K false):=by
 intro z s i H x y v u Q I e w h;cases y with
 |str b =>
  cases x with|str a=>refine FY z s i H _ _ v u Q I e w ⟨a,b,rfl,rfl,?_⟩;rw[<- OS];simpa[TR]using h|_=>exact Qd h
 |ref p =>
  rcases h with h|⟨d,Z,r,k,l,n,q⟩| ⟨o,g,q⟩
  rotate_left 2
  cases w;exact Ta Y I e g q;exact GY z s i H _ _ v u Q I e w h;obtain⟨B,j⟩:=r.reads I e;obtain⟨m,W⟩:=eO n;rcases k with k|k;obtain⟨bs,f⟩:=k.reads I w;exact SeqAt.in_list_reads f j m l.1 (by omega) ⟨.bl _,H,I,rfl,q⟩;obtain⟨bs,f⟩:=k.reads I w;exact SeqAt.in_tuple_reads f j m l.1 (by omega) ⟨.bl _,H,I,rfl,q⟩
 |_=>exact Qd h
theorem t4(Y:X.A.units+66<cLine):ZE X (compareOp .NotIn) (TR X.K true):=by
 intro z s i H x y v u Q I e w h;cases y with
 |str b =>
  cases x with|str a=>refine OP z s i H _ _ v u Q I e w ⟨a,b,rfl,rfl,?_⟩;rw[<- OS];simpa[TR]using h|_=>exact Qd h
 |ref p =>
  rcases h with h|⟨d,Z,r,k,l,n,q⟩| ⟨o,g,q⟩
  rotate_left 2
  cases w;exact AU Y I e g q;exact PP z s i H _ _ v u Q I e w h;obtain⟨B,j⟩:=r.reads I e;obtain⟨m,W⟩:=eO n;rcases k with k|k;obtain⟨bs,f⟩:=k.reads I w;exact SeqAt.notIn_list_reads f j m l.1 (by omega) ⟨.bl _,H,I,rfl,q⟩;obtain⟨bs,f⟩:=k.reads I w;exact SeqAt.notIn_tuple_reads f j m l.1 (by omega) ⟨.bl _,H,I,rfl,q⟩
 |_=>exact Qd h
end
end
section
variable{X:Cx}
theorem MT:∀{bs:List Bool}{us:LW},nA (bs.map V.bl) us->∀(i:Nat) (v:Value),us[i]?=some v->∃b,bs[i]?=some b/\v=Value.bool b
 |[],_,.nil,i,v,h=>by simp at h|b::bs,_,.cons r t,0,v,h=>by simp at h;subst h;exact⟨b,by simp,r⟩|b::bs,_,.cons r t,i+1,v,h=>by obtain⟨c,y,x⟩:=MT (bs:=bs) t i v (by simpa using h);exact⟨c,by simpa using y,x⟩
theorem ZY(bs:List Bool):(Qr bs.length).any (λi=>bs.getD i false)=bs.any id:=by
 rw[Q7,Wk,Wk];constructor;rintro⟨i,x,e⟩;have h:i<bs.length:=by simpa using x
 exact⟨bs[i],wH h,by simpa[QCJ,h]using e⟩;rintro⟨b,hb,e⟩;obtain⟨i,x,y⟩:=List.getElem_of_mem hb;exact⟨i,by simpa using x,by simp[QCJ,x,y];simpa using e⟩
def xm(K:QE):LV->Hp->VK->Prop:=λh H Q=>match h with
 |[.ref a]=>∃bs:List Bool,EC K H a (bs.map V.bl)/\Q (.bl (bs.any id)) H|_=>False
theorem z7(l:X.calm=true):iC X (.builtin "any") (xm X.K):=by
 intro k s Z H f W Q I r h
 match f,h with
 |[.ref a],⟨bs,hq,q⟩ =>
  obtain⟨u,rfl,j⟩:=xH r;cases j;obtain⟨x,w,p,C⟩:=I.list hq;have hl:=w.length;rw[QA]at hl;refine call_any_walk (QAQ p.isList ?_);have y:a<s.heap.objs.size:=by obtain⟨o,n,e,_⟩:=p;exact Qb e
  refine⟨s.heap.objs.size,_,_,_,_,_,λi=>bs.getD i false,rfl,Walks.list (A:=X.A.in1) (I.ok.hd l) s.heap.objs.size a (Qm y) x.toArray,⟨⟨_,QZ _ rfl,rfl,rfl⟩,?_⟩,?_,?_⟩;obtain⟨o,n,e,c,d,sq⟩:=p;exact⟨o,QK _ e,c,n,sq⟩;intro i v B F G m z;obtain⟨b,hb,rfl⟩:=MT w i v (by simpa using m);refine wP ?_;have:bs.getD i false=b:=by simp[QCJ,hb]
  rw[<- this];exact z;intro E g hk;have Y:(Qr x.toArray.size).any (λi=>bs.getD i false)=bs.any id:=by rw[QR,<- hl,ZY]
  rw[Y];exact⟨.bl _,H,I.kept (t':=g) (λb o e=>hk b o (by simp;exact Qm (Qb e)) (QK _ e)),rfl,q⟩
def ym(K:QE):LV->Hp->VK->Prop:=λx H Q=>(∃z,x=[.str z]/\z.length<=sizeLine/\Q (.int z.length) H)∨∃a h,x=[.ref a]/\(EC K H a h∨AD K H a h)/\Q (.int h.length) H
theorem j7:iC X (.builtin "len") (ym X.K):=λx s y H z u Q I r h=>h.elim (RQ x s y H z u Q I r) (NI x s y H z u Q I r)
def yr(K:QE):V->Option Int->Option Int->Hp->VK->Prop:=λx h y H Q=>match x with
 | .str z=>z.length<=sizeLine/\Q (.str (we z h y)) H|.ref a=>Al K (.ref a) h y H Q|_=>False
theorem xg:Bj X (yr X.K):=by
 intro y s p H x v G E W C g Q I Y B Z m h;cases x with
 |str z =>
  obtain⟨t,rfl⟩:=Y;obtain⟨J,q⟩:=h;refine⟨"str",_,F.slot_str_getitem.lookup,QCF _ _ _,?_⟩;have fin:∀l u:Option (Int×Tok),l.map (·.1)=W->u.map (·.1)=C->s.heap.IsSlice g l u none->wpAny (model X.prog X.w) X.A (getItem (.str z t) (.ref g)) (EP X y p Q) X.xe s:=λl u M L n=>by refine wpAny_getItem_str_slice n rfl ?_;subst M L;exact post_val_or_str ⟨QX (Txt.slice_le z _ _) J,λN k=>⟨.str (we z _ _),H,I.tok k,⟨_,rfl⟩,q⟩⟩
  obtain⟨o,b,hc,e⟩:=B;cases Z with
  |none =>
   cases m with|none=>exact fin none none rfl rfl ⟨o,b,hc,e⟩|int j f=>exact fin none (some (j,f)) rfl rfl ⟨o,b,hc,e⟩
  |int i r =>
   cases m with|none=>exact fin (some (i,r)) none rfl rfl ⟨o,b,hc,e⟩|int j f=>exact fin (some (i,r)) (some (j,f)) rfl rfl ⟨o,b,hc,e⟩
 |ref a=>exact U8 y s p H _ v G E W C g Q I Y B Z m h|_=>exact Qd h
end
section
variable{h h':Heap}{j:Addr}{z:Src}{k:Nat}{xs:Array Value}
inductive Src where
 |l (a:Addr)|t (a:Addr)
def Src.adr:Src->Addr
 | .l a=>a|.t a=>a
noncomputable def TD(h:Heap)(j:Addr):Src->Nat->Prop
 | .l a,k=>h.IsListIter j a k|.t a,k=>h.IsTupleIter j a k
noncomputable def NB(h:Heap):Src->Array Value->Prop
 | .l a,xs=>h.IsList a xs|.t a,xs=>h.IsTuple a xs
theorem TD.keep(x:TD h j z k)(e:∀o,h.get? j=some o->h'.get? j=some o):TD h' j z k:=by
 cases z with|l a=>obtain⟨o,u,y⟩:=x;exact⟨o,e o u,y⟩|t a=>obtain⟨o,u,y⟩:=x;exact⟨o,e o u,y⟩
theorem TD.obj(x:TD h j z k):∃o,h.get? j=some o/\∀v,o.data≠.cell v:=by
 cases z with|l a=>obtain⟨o,u,w,y⟩:=x;exact⟨o,u,λv q=>by rw[y]at q;cases q⟩|t a=>obtain⟨o,u,w,y⟩:=x;exact⟨o,u,λv q=>by rw[y]at q;cases q⟩
theorem NB.ext{b:Addr}(x:NB h z xs)(e:Wv b h h')(n:z.adr≠b):NB h' z xs:=by
 cases z with|l a=>exact QB7.extBut x e n|t a=>exact Heap.IsTuple.extBut x e n
theorem NB.lt(x:NB h z xs):z.adr<h.objs.size:=by
 cases z with|l a=>obtain⟨o,y,_⟩:=x;exact Qb y|t a=>obtain⟨o,y,_⟩:=x;exact Qb y
theorem TD.lt(x:TD h j z k):j<h.objs.size:=by obtain⟨o,y,_⟩:=x.obj;exact Qb y
end
section
variable{prog:Program}{w:World}{A:Around}{E:YC}{s:Shared}
section
variable{j t:Addr}{k:Nat}{xs:Array Value}{x:Value}{Q:YC}{z:Src}
theorem oh(p:s.heap.IsTupleIter j t k)(pt:s.heap.IsTuple t xs)(a:xs[k]?=some x)
  (q:∀h',h'.IsTupleIter j t (k+1)->qW j s.heap h'->Q x { s with heap:=h' }):wpAny (model prog w) A (qU (.ref j)) Q E s:=by
 obtain⟨ob,y,b,h⟩:=id p;obtain⟨e,v,_,f,u⟩:=pt;unfold qU;refine QF (qb (name:=QW "__next__") p.typeIs qd (qO qd p.typeIs WI ?_ (WE _)));show wpAny _ _ (field (.ref j) 0 >>= _) _ _ _;refine QF (WC y h (x:=.ref t) rfl ?_);show wpAny _ _ (if(jx t==Jz)=true then _ else _) _ _ _;rw[if_neg (show ¬ (jx t==Jz)=true from QG)];show wpAny _ _ (field (.ref j) 1 >>= _) _ _ _;refine QF (WC y h (x:=.int k 0) rfl ?_);show wpAny _ _ (seqItems? (.ref t) >>= _) _ _ _;refine QF (QA7 v u ?_);simp only[qP,a];refine QF (QAJ y h (by simp) (QN ⟨x,rfl,QN (q _ ?_ (Q9 ..))⟩));refine⟨_,wn _ y (QAt (WJ h _)),(QBf ..).trans b,?_⟩;rw[WJ h];simp[rawInt]
theorem TU(u:A.handled=none)(p:s.heap.IsTupleIter j t k)(pt:s.heap.IsTuple t xs)(f:xs[k]?=none)
  (q:∀h' e,Wv j s.heap h'->(∃o,h'.get? e=some o/\o.cls=.type "StopIteration")->E (.ref e) { s with heap:=h' }):wpAny (model prog w) A (qU (.ref j)) Q E s:=by
 obtain⟨ob,y,l,h⟩:=id p;obtain⟨g,b,_,i,v⟩:=pt;unfold qU;refine QF (qb (name:=QW "__next__") p.typeIs qd (qO qd p.typeIs WI ?_ (WE _)));show wpAny _ _ (field (.ref j) 0 >>= _) _ _ _;refine QF (WC y h (x:=.ref t) rfl ?_);show wpAny _ _ (if(jx t==Jz)=true then _ else _) _ _ _;rw[if_neg (show ¬ (jx t==Jz)=true from QG)];show wpAny _ _ (field (.ref j) 1 >>= _) _ _ _;refine QF (WC y h (x:=.int k 0) rfl ?_);show wpAny _ _ (seqItems? (.ref t) >>= _) _ _ _;refine QF (QA7 b v ?_);simp only[qP,f];refine QF (QBg (QF (QAJ y h (by simp) ?_)));refine QF (m:=newExc (.type "StopIteration") []) ?_;simp only[newExc,newTuple];refine QF (qL ?made (by size_fits));refine QF (m:=firstArgMember _ _) (QB8 (a:=Jz) (by first|rfl | (rw[firstArgMember];rfl)) ?arg);refine qL ?made2 (by size_fits);simp only[raiseNew];refine QF (QBW ?_);first|rw[show A.in1.handled=none from u]|rw[u]
 refine QF (QN (QB9 (q _ _ (((Q9 ..).extBut.push _).push _) ⟨_,QZ _ rfl,rfl⟩)))
theorem ya(p:TD s.heap j z k)(pt:NB s.heap z xs)(h:xs[k]?=some x)
  (q:∀h',TD h' j z (k+1)->qW j s.heap h'->Q x { s with heap:=h' }):wpAny (model prog w) A (qU (.ref j)) Q E s:=by
 cases z with|l a=>exact wpAny_nextOf_list_item p pt h q|t a=>exact oh p pt h q
theorem R4(y:A.handled=none)(p:TD s.heap j z k)(pt:NB s.heap z xs)(h:xs[k]?=none)
  (q:∀h' e,Wv j s.heap h'->(∃o,h'.get? e=some o/\o.cls=.type "StopIteration")->E (.ref e) { s with heap:=h' }):wpAny (model prog w) A (qU (.ref j)) Q E s:=by
 cases z with|l a=>exact wpAny_nextOf_list_end y p pt h q|t a=>exact TU y p pt h q
noncomputable def Src.it:Src->Obj
 | .l a=>{ cls:=.type "list_iterator",data:=.fields #[.ref a,.int 0 0] }|.t a=>{ cls:=.type "tuple_iterator",data:=.fields #[.ref a,.int 0 0] }
theorem KR(pt:NB s.heap z xs)(q:Q (.ref s.heap.objs.size) { s with heap:=s.heap.push z.it }):wpAny (model prog w) A (pyIter (.ref z.adr)) Q E s:=by
 cases z with|l a=>exact QAQ pt q|t a=>exact QBX pt q
theorem Z8(h:Heap)(z:Src):TD (h.push z.it) h.objs.size z 0:=by
 cases z with|l a=>exact⟨_,QZ _ rfl,rfl,rfl⟩|t a=>exact⟨_,QZ _ rfl,rfl,rfl⟩
end
end
section
variable{prog:Program}{w:World}{A:Around}{E:YC}{s:Shared}
theorem fg{h h':Heap}{b:Addr}{z:Src}{xs:Array Value}(x:NB h z xs)(e:qW b h h')(n:z.adr≠b):NB h' z xs:=x.ext e.extBut n
end
section
variable{X:Cx}{w:TB}{σ:St}{H:Hp}{s:Shared}{h':Heap}
theorem _root_.L2.Inv.turnedL{t':Nat}{ch:List Addr}(I:Inv X w σ H s)(k:∀b o,b∉ch->s.heap.get? b=some o->h'.get? b=some o)(f:∀b∈ch,dJ X w H b):Inv X w σ H { s with heap:=h',toks:=t' }:=by
 have h:∀b u,H b=some u->b∉ch:=λb u e z=>by rw[(f b z).1]at e;cases e
 have a:X.env.locals∉ch:=λz=>(f _ z).2.1 rfl;refine I.step (g':=s.gens) (d':=s.drawn) (ch:=ch) (λb hb=>?_) (λb o _ _ hc e _=>k b o hc e) (λb o _ _ hc e _=>⟨o.slots,k b o hc e⟩) (λ_ _ _ _ n=>n)
  (λb o hc e=>⟨o,k b o hc e⟩) (λ_ _ e=>e) (λ_ _ _ e=>e) (λ_ _ e=>e) (λm y=>?_) (λb u e=>?_) I.bare
 obtain⟨_,l,_,j,i,g⟩:=f b hb;exact⟨j,l,i,g⟩;obtain⟨o,p,Y,x,r⟩:=y;exact⟨o,p,Y,k _ o a x,r⟩;refine(I.hok b u e).stay (λc v hc q=>k c v ?_ q) (λ_ q=>q) λ_ _ q=>q;rcases hc with z|z;rw[z];exact h b u e;exact h c _ z
noncomputable def Y0(K:QE)(H:Hp):Src->LV->Prop
 | .l a,xs=>EC K H a xs|.t a,xs=>AD K H a xs
theorem _root_.L2.Inv.src(I:Inv X w σ H s){z:Src}{xs:LV}(h:Y0 X.K H z xs):∃its:LW,nA xs its/\NB s.heap z its.toArray/\xs.length<=sizeLine:=by
 cases z with|l a=>obtain⟨its,x,p,y⟩:=I.list h;exact⟨its,x,p.isList,y⟩|t a=>obtain⟨its,x,p,y⟩:=I.tuple h;exact⟨its,x,p,y⟩
theorem _root_.L2.Inv.src_inj(I:Inv X w σ H s){z:Src}{xs x:LV}(h:Y0 X.K H z xs)(h':Y0 X.K H z x):xs=x:=by
 cases z with|l a=>exact I.list_inj h h'|t a=>exact I.tuple_inj h h'
theorem _root_.L2.Inv.pair{p:Addr}{a b:Value}{x y:V}{t':Nat}(I:Inv X w σ H s)(k:∀b u,s.heap.get? b=some u->h'.get? b=some u)(v:s.heap.objs.size<=p)(e:h'.get? p=some { cls:=.type "tuple",data:=.seq #[a,b] })(z:YA x a)(h:YA y b) :
  Inv X w σ (BA H p (.tup [x,y])) { s with heap:=h',toks:=t' } :=
 I.laid k v ⟨by rw[Q0];show 2<=_;decide,[a,b],.cons z (.cons h .nil),_,e,rfl,_,rfl⟩
end
section
variable{prog:Program}{w:World}{A:Around}{E:YC}{s:Shared}
section
variable{it d:Addr}{z:Obj}{es:Array DictEntry}{i ep:Nat}{c u:Value}{Q:Option Value->Shared->Prop}
theorem aD:Wq "dict_itemiterator"=true:=by decide +kernel
theorem eJ(l:List String)(h:(l.contains "dict_itemiterator" || l.contains "object")=false):(l.any λt=>[Value.type "dict_itemiterator",Value.type "object"].contains (.type t))=false:=by
 rw[List.any_eq_false];intro t x;rw[Bool.or_eq_false_iff]at h;have v:t≠"dict_itemiterator":=λe=>by subst e;rw[qE.mpr x]at h;cases h.1
 have y:t≠"object":=λe=>by subst e;rw[qE.mpr x]at h;cases h.2
 simp[v,y]
theorem P4{e:DictEntry}
  (m:IsItemIter s.heap it d i es.size ep c u) (X:s.heap.get? d=some z) (B:z.data=.dict es ep) (I:es[i]?=some e)
  (q:∀h',IsItemIterOut h' it d (i+1) es.size ep e.key e.val s.heap.objs.size->h'.get? s.heap.objs.size=some { cls:=.type "tuple",data:=.seq #[e.key,e.val] } ->
   h'.objs.size=s.heap.objs.size+1->(∀b o,b≠it->s.heap.get? b=some o->h'.get? b=some o)->Q (some (.ref s.heap.objs.size)) { s with heap:=h' }) :
  wpAny (model prog w) A (pyNext (.ref it)) Q E s:=by
 have F:s.TypeIs (.ref it) "dict_itemiterator":=⟨_,m,rfl⟩
 show wpAny _ _ (bind _ _) _ _ _;refine QF (Wr (qb F qV (qO qV F We ?_ (WW _))));show wpAny _ _ (bind _ _) _ _ _;refine QF (QN (QF (QF (QF (qp F (QN (QF (QAK m rfl ?_))))))));rw[aD];show wpAny _ _ (if(jx d==Jz)=true then _ else _) _ _ _;rw[if_neg (show ¬ (jx d==Jz)=true from QG)];show wpAny _ _ (wO (.ref d) >>= _) _ _ _;refine QF (QN (QF (wA X B ?_)));rw[if_neg (show ¬ (((es.size:Nat):Int) != ((es.size:Nat):Int))=true by simp)];refine QF (QN (QF (wu X B ?_)));rw[if_neg (show ¬ (((ep:Nat):Int) != ((ep:Nat):Int))=true by simp)];refine QN ?_;have J:(if((i:Nat):Int)<0 then none else es[((i:Nat):Int).toNat]?)=some e:=by rw[if_neg (by omega),qP];exact I
 simp only[J];refine QF ?_;show wpAny _ _ (typeNameOfWhole (.ref it) >>= _) _ _ _;refine QF (qp F (QN (QF (WS F ?_))));rw[aD,if_pos rfl];rw[show(List.any _ λt=>[Value.type "dict_itemiterator",Value.type "object"].contains (.type t))=false from eJ _ (by decide +kernel),if_neg QG];refine QF (wK m (by simp) λa h r=>?_);have h:IsItemIter a it d (i+1) es.size ep c u:=h;refine QF (qy ?_);have C:({ s with heap:=a }:Shared).TypeIs (.ref it) "dict_itemiterator":=⟨_,h,rfl⟩
 show wpAny _ _ (Builtin.Dict_items.isOneOf (.ref it) _ >>= _) _ _ _;refine QF (WS C ?_);rw[eJ _ (by decide +kernel),if_neg QG];refine QF (WS C ?_);rw[eJ _ (by decide +kernel),if_neg QG];show wpAny _ _ (newTuple [e.key,e.val] >>= _) _ _ _;refine QF (QA9 ?_);have p:a.objs.size=s.heap.objs.size:=r.1;have y:IsItemIter (a.push { cls:=.type "tuple",data:=.seq #[e.key,e.val] }) it d (i+1) es.size ep c u:=QK _ h;show wpAny _ _ (Builtin.Dict_items.ownedTupleIsFree (.ref it) >>= _) _ _ _;refine QF ?_;show wpAny _ _ (field (.ref it) 0 >>= _) _ _ _;refine QF (WC y rfl (x:=.none) rfl (QN ?_));rw[if_pos rfl];show wpAny _ _ (field (.ref it) 6 >>= _) _ _ _;refine QF (WC y rfl (x:=c) rfl ?_);refine QF (WC y rfl (x:=u) rfl ?_);refine QF (wK y (by simp) λN K l=>?_);refine QF (wK K (by simp) λM W j=>?_);refine QF (wK W (by simp) λL Z g=>?_);refine QF (wK Z (by simp) λG Y f=>?_);refine QF (wpAny_letGo (QN ?_));refine QN ⟨_,rfl,QN ?_⟩;have k:it<a.objs.size:=Qb h;have pt:G.get? a.objs.size=some { cls:=.type "tuple",data:=.seq #[e.key,e.val] } :=
  f.extBut _ _ (wk k) (g.extBut _ _ (wk k) (j.extBut _ _ (wk k) (l.extBut _ _ (wk k) (QZ _ rfl))))
 have n:G.objs.size=a.objs.size+1:=by rw[f.1,g.1,j.1,l.1,QAG]
 have v:IsItemIterOut G it d (i+1) es.size ep e.key e.val a.objs.size:=Y;rw[p]at pt n v;have:=q G v pt n λb o hb x=>f.extBut _ _ hb (g.extBut _ _ hb (j.extBut _ _ hb (l.extBut _ _ hb (QK _ (r.extBut _ _ hb x)))));show Q (some (.ref a.objs.size)) _;rw[p];exact this
theorem zQ(f:A.handled=none)
  (h:IsItemIter s.heap it d i es.size ep c u) (x:s.heap.get? d=some z) (y:z.data=.dict es ep) (g:es[i]?=none)
  (q:∀h',Wv it s.heap h'->Q none { s with heap:=h' }) :
  wpAny (model prog w) A (pyNext (.ref it)) Q E s:=by
 have v:s.TypeIs (.ref it) "dict_itemiterator":=⟨_,h,rfl⟩
 show wpAny _ _ (bind _ _) _ _ _;refine QF (Wr (qb v qV (qO qV v We ?_ (WW _))));show wpAny _ _ (bind _ _) _ _ _;refine QF (QN (QF (QF (QF (qp v (QN (QF (QAK h rfl ?_))))))));rw[aD];show wpAny _ _ (if(jx d==Jz)=true then _ else _) _ _ _;rw[if_neg (show ¬ (jx d==Jz)=true from QG)];show wpAny _ _ (wO (.ref d) >>= _) _ _ _;refine QF (QN (QF (wA x y ?_)));rw[if_neg (show ¬ (((es.size:Nat):Int) != ((es.size:Nat):Int))=true by simp)];refine QF (QN (QF (wu x y ?_)));rw[if_neg (show ¬ (((ep:Nat):Int) != ((ep:Nat):Int))=true by simp)];refine QN ?_;have j:(if((i:Nat):Int)<0 then none else es[((i:Nat):Int).toNat]?)=none:=by rw[if_neg (by omega),qP];exact g
 simp only[j];refine QF ?_;show wpAny _ _ (typeNameOfWhole (.ref it) >>= _) _ _ _;refine QF (qp v (QN ?_));rw[aD,if_pos rfl];refine QF (wK h (by simp) λl e k=>?_);refine QF (m:=newExc (.type "StopIteration") []) ?_;simp only[newExc,newTuple];refine QF (qL ?made (by size_fits));refine QF (m:=firstArgMember _ _) (QB8 (a:=Jz) (by first|rfl | (rw[firstArgMember];rfl)) ?arg);refine qL ?made2 (by size_fits);simp only[raiseNew];refine QF (QBW ?_);first|rw[show A.in1.handled=none from f]|rw[f]
 refine QF (QN (QB9 ?_));refine QF (QAd (T:="StopIteration") (b:=true) ⟨_,QZ _ rfl,rfl⟩ (by kernel_rfl) ?_);rw[if_pos rfl];exact QN (q _ ((k.extBut.push _).push _))
theorem j6{v:Addr}{Q:YC}(hv:s.heap.IsItemsView v d)(h:s.heap.get? d=some z)(x:z.data=.dict es ep)
  (q:Q (.ref s.heap.objs.size) { s with heap:=s.heap.push { cls:=.type "dict_itemiterator",data:=.fields #[.none,.bool false,.ref d,.int 0 0,.int es.size 0,.int ep 0,.none,.none] } }) :
  wpAny (model prog w) A (pyIter (.ref v)) Q E s:=by
 have a:=Heap.IsItemsView.typeIs hv;obtain⟨u,y,b,k⟩:=id hv;refine QBh a QAk (qO QAk a F.entry_dict_items_iter ?_ (F.args_dict_items_iter_1 _));show wpAny _ _ (bind _ _) _ _ _;refine QF (QN (QF ?_));show wpAny _ _ (bind _ _) _ _ _;refine QF (WC y k rfl (QN (QF ?_)));show wpAny _ _ (bind _ _) _ _ _;refine QF (wA h x (QF (wu h x ?_)));simp only[aD,if_true];refine qL (QN ⟨_,rfl,"dict_itemiterator",_,⟨_,QZ _ rfl,rfl⟩,qV.lookup,q⟩) (show _<=sizeLine+2 by simp[Builtin.Dict_items.ownedTupleFields,Q0])
theorem vW{Q:YC}(h:s.heap.get? d=some z)(x:z.cls=.type "dict")(v:(d==sysModules)=false)
  (q:Q (.ref s.heap.objs.size) { s with heap:=s.heap.push { cls:=.type "dict_items",data:=.fields #[.ref d] } }):wpAny (model prog w) A (call (.builtin "dict.items") [.ref d]) Q E s:=by
 have y:s.TypeIs (.ref d) "dict":=⟨_,h,x⟩
 refine qO F.slot_dict_items y F.entry_dict_items ?_ (F.args_dict_items_1 _);show wpAny _ _ (bind _ _) _ _ _;refine QF ?_;show wpAny _ _ (bind _ _) _ _ _;refine QF (Wf y ?_);refine QN ?_;show wpAny _ _ ((if(d==sysModules)=true then _ else _) >>= _) _ _ _;rw[v,if_neg QG];exact QF (QN (QF (qL (QN ⟨_,rfl,q⟩) (show _<=sizeLine+2 by simp[Q0]))))
theorem lY{X:Type}[DecidableEq X]{h:HeapKind prog w X}{d a:Addr}{xs:List (X×Addr×Value)}{k:X}{v:Value}{Q:YC}(K:h.room A)(f:h.is s.heap k a)(C:s.heap.DictOfH h d xs)(hsz:xs.length<=sizeLine)
  (G:∀p,atKey xs k=some p->Q p.2 { s with toks:=s.toks+h.draws k })
  (F:atKey xs k=none->∀h',h'.DictOfH h d (storedH xs k a v)->qW d s.heap h'->Q v { s with heap:=h',toks:=s.toks+h.draws k }) :
  wpAny (model prog w) A (dictSetDefault d (.ref a) v) Q E s:=by
 obtain⟨o,es,ep,m,hc,l,Y,r,Z⟩:=id C;have I:es.size=xs.length:=by have:=congrArg wN Y;simpa using this
 unfold dictSetDefault;refine qy (QF (h.pyHash K f (QF (wpAny_dictFind_heap K f m l Y r Z (λq=>?_) λj p B=>?_))));have b:=atKey_none_of_get q;have n:=not_mem_keys_of_get q;refine QF (QBg (QF (wpAny_updateDictKeys m l (QN (F b _ ?_ (Q9 ..))) (by omega) (by simp))));refine⟨_,_,ep+1,wn _ m (Obj.isFreed_of_dict (QA3 l _)),Obj.ExactDict.mapDictKeys hc _,QA3 l _,?_,?_,?_⟩;rw[QCA b];simp[Y,entryOfKey];rw[QCA b];intro x g;rcases QT.mp g with g|g;exact h.keeps (r x g) m l (Q9 ..);rw[QI.mp g];exact h.keeps f m l (Q9 ..);rw[QCA b,QJ];exact qH.mpr ⟨Z,by simp,λx g y W e=>by rw[QV,wJ,QI]at W;rw[e,W]at g;exact n g⟩;have b:=atKey_of_get Z B;have J:es[j]?=some (entryOfKey h (k,p)):=by
  have:es.toList[j]?=some (entryOfKey h (k,p)):=by rw[Y,Qe,B];rfl
  simpa using this
 refine QF (wA m l ?_);rw[J];exact QF (QBg (QN (G p b)))
theorem FT{y:Type}[DecidableEq y]{h:HeapKind prog w y}{d a:Addr}{xs:List (y×Addr×Value)}{k:y}{v:Value}{Q:YC}(f:h.room A.in1)(x:h.is s.heap k a)(b:s.heap.DictOfH h d xs)(hsz:xs.length<=sizeLine)(l:(d==sysModules)=false)
  (n:∀p,atKey xs k=some p->Q p.2 { s with toks:=s.toks+h.draws k })
  (m:atKey xs k=none->∀h',h'.DictOfH h d (storedH xs k a v)->qW d s.heap h'->Q v { s with heap:=h',toks:=s.toks+h.draws k }) :
  wpAny (model prog w) A (call (.builtin "dict.setdefault") [.ref d,.ref a,v]) Q E s:=by
 have e:s.TypeIs (.ref d) "dict":=Heap.DictOfH.typeIs b;refine qO F.slot_dict_setdefault e F.entry_dict_setdefault ?_ (F.args_dict_setdefault_3 _ _ _);show wpAny _ _ (bind _ _) _ _ _;refine QF ?_;show wpAny _ _ (bind _ _) _ _ _;refine QF (Wf e ?_);refine QN ?_;show wpAny _ _ (if(d==sysModules)=true then _ else _) _ _ _;rw[l,if_neg QG];exact QF (lY f x b hsz (λp g=>QN ⟨_,rfl,n p g⟩) λj h' q o=>QN ⟨_,rfl,m j h' q o⟩)
end
end
def vL(K:QE):V->LV->Hp->VK->Prop:=λx z H Q=>∃a b v w h k,x=.ref a/\z=[.ref b,v]/\H a=some (.dT w h)/\YG K H h/\jO K H b k/\h.length<sizeLine /\
   (∀u,EG h k=some u->Q u H)/\(EG h k=none->∀y,Q v (BA H a (.dT y (SL h k b v))))
theorem yZ{X:Cx}(R:X.A.units+66<cLine):y8 X "dict.setdefault" (vL X.K):=by
 intro m s L H x N v P Q I o r h;obtain⟨a,b,y,ep,f,k,rfl,rfl,e,hk,F,l,Z,Y⟩:=h;cases o;obtain⟨u,O,rfl,q,g⟩:=bc r;cases q;obtain⟨W,n,M,w,G⟩:=CK I e hk;have hl:(SL f k b y).length<=sizeLine:=by have:=VS f k b y;omega
 refine FT (aI (by omega)) (CS I F) G (by rw[<- qK w];exact W) n (λp C=>?_) λE S j B=>?_;have z:=w.val k;rw[C]at z;cases ev:EG f k with|none=>rw[ev]at z;exact(show False from z).elim|some u=>rw[ev]at z;exact⟨u,H,I.tok _,z,Z u ev⟩
 have z:=w.val k;rw[E]at z;cases ev:EG f k with|some u=>rw[ev]at z;exact(show False from z).elim|none=>obtain⟨i,J⟩:=OM (t':=_) I (by rw[e];exact True.intro) n hl (w.put k b g) j B;exact⟨y,_,J,g,Y ev i⟩
noncomputable def Xv(ep n:Nat)(a:Addr):It :=
  ⟨λi H=>∃h p,H a=some (.dT ep h)/\h.length=n/\h[i]?=some p,
   λi H v x=>∃q p,H q=none/\v=.ref q/\x=BA H q (.tup [.ref p.2.1,p.2.2])/\∀h,H a=some (.dT ep h)->h[i]?=some p,
   λi H=>∃h,H a=some (.dT ep h)/\h.length=n/\n<=i⟩
theorem KH{α h:Type}{R:α->h->Prop}:∀{l:List α}{m:List h}{i:Nat}{x:α},Paired R l m->l[i]?=some x->∃y,m[i]?=some y/\R x y
 |_,_,i,_,.nil,e=>by simp at e|_,_,0,_,.cons r _,e=>by simp at e;subst e;exact⟨_,rfl,r⟩|_,_,i+1,x,.cons _ t,e=>by obtain⟨y,u,z⟩:=KH (i:=i) (x:=x) t (by simpa using e);exact⟨y,by simpa using u,z⟩
theorem aU{P:Program}{w:World}{K:QE}{es:List Expr}{kk:Nat}{pp:Pos}{a it:Addr}{n ep:Nat}:Turn0 P w K (.Tuple es kk pp) (Xv ep n a) [it] it (λi h=>∃ok Y,IsItemIter h it a i n ep ok Y) where
 mem:=by simp
 obj:=λi h st b hb=>by obtain⟨ok,Y,st⟩:=st;rw[QI]at hb;subst hb;exact⟨_,st,λv q=>by cases(show Data.fields _=Data.cell v from q)⟩
 keep:=λi h h' st k=>by obtain⟨ok,Y,st⟩:=st;exact⟨ok,Y,k it (by simp) _ st⟩
 item:=by
  intro X J C L hc i Z s σ H E I A st G;subst J C L;obtain⟨j,p,e,F,ep⟩:=G;obtain⟨ok,Y,st⟩:=st;obtain⟨z,y,xs,r,o,u,N,h2,M,B,h5⟩:=(show zB X.prog X.w H s.heap a (.dT _ j) from I.hok a _ e)
  have l:u.size=n:=by have:=congrArg wN B;rw[QA,Q1]at this;rw[this,<- qK r,F]
  obtain⟨q,hq,rq⟩:=KH r ep;have he:u[i]?=some (entryOfKey (GE X.prog X.w) q):=by
   have:u.toList[i]?=some (entryOfKey (GE X.prog X.w) q):=by rw[B,Qe,hq];rfl
   simpa using this
  subst l;refine P4 st N M he λh' b1 b3 b4 b5=>⟨_,rfl,wpAny_letOwnedTupleGo_items b1 λm c1 sb=>?_⟩
  have hp:=I.hok.fresh (Qa s.heap.objs.size);have W:it<s.heap.objs.size:=Qb st;have g:∀b∈[it],b<s.heap.objs.size:=λb hb=>by rw[QI]at hb;subst hb;exact W
  have kept:∀b o,b∉[it]->s.heap.get? b=some o->m.get? b=some o:=λb o hb q=>by rw[QI]at hb;exact(sb.2 b hb).trans (b5 b o hb q)
  have f:m.get? s.heap.objs.size=some { cls:=.type "tuple",data:=.seq #[.ref q.2.1,q.2.2] }:=(sb.2 _ (wk W)).trans b3;have I1:=I.pair (x:=.ref p.2.1) (y:=p.2.2) (h':=s.heap.push { cls:=.type "tuple",data:=.seq #[.ref q.2.1,q.2.2] }) (t':=s.toks) (λb o e=>QK _ e) (Qa _) (QZ _ rfl) (show jx q.2.1=jx p.2.1 by rw[rq.2.1]) rq.2.2;have I2:=I1.turnedL (h':=m) (t':=s.toks) (ch:=[it]) (λb o hb e=>by
   rcases QA4 e with⟨q1,q2⟩| q;subst q1 q2;exact f;exact kept b o hb q) λb hb=>by
   obtain⟨f0,S,f2,R,Q,O⟩:=A b hb;exact⟨by rw[vA (Qm (g b hb))];exact f0,S,f2,R,Q,O⟩
  refine⟨.ref s.heap.objs.size,_,I2,rfl,⟨s.heap.objs.size,p,hp,rfl,rfl,λkvs' g1=>?_⟩,⟨_,_,c1⟩,λb hb=>?_⟩;rw[e]at g1;cases g1;exact ep;rw[vA (Qm (g b hb))];exact(A b hb).1
 done:=by
  intro X J C L hc i Z s σ H E I A st G;subst J C L;obtain⟨j,e,F,ep⟩:=G;obtain⟨ok,Y,st⟩:=st;obtain⟨z,y,xs,r,o,u,N,h2,M,B,h5⟩:=(show zB X.prog X.w H s.heap a (.dT _ j) from I.hok a _ e)
  have l:u.size=n:=by have:=congrArg wN B;rw[QA,Q1]at this;rw[this,<- qK r,F]
  subst l;obtain⟨f0,S,f2,R,Q,O⟩:=A it (by simp);exact zQ (I.ok.hd hc) st N M (QAl ep) λh' eb=>⟨rfl,I.turned (t':=s.toks) (λb o hb e=>eb b o hb e) f0 S R Q O⟩
section
variable{prog:Program}{w:World}{A:Around}{E:YC}{s:Shared}
section
variable{d it:Addr}{h:Obj}{es:Array DictEntry}{ep i:Nat}{Q:Option Value->Shared->Prop}
theorem HG:Wq "dict_keyiterator"=false:=by decide +kernel
theorem Ra{Q:YC}(u:(d==sysModules)=false)(x:s.heap.get? d=some h)(hc:h.cls=.type "dict")(y:h.data=.dict es ep)
  (q:Q (.ref s.heap.objs.size) { s with heap:=s.heap.push { cls:=.type "dict_keyiterator",data:=.fields #[.ref d,.int 0 0,.int es.size 0,.int ep 0] } }) :
  wpAny (model prog w) A (pyIter (.ref d)) Q E s:=by
 have z:s.TypeIs (.ref d) "dict":=⟨_,x,hc⟩
 refine QBh z QB2 (qO QB2 z F.entry_dict_iter ?body (F.args_dict_iter_1 _))
 case body =>
  show wpAny _ _ (bind _ _) _ _ _;refine QF ?sl
  case sl =>
   show wpAny _ _ (bind _ _) _ _ _;refine QF (Wf z (QN ?go))
   case go =>
    have e:Wg d=pure PUnit.unit:=by unfold Wg;rw[u];rfl
    show wpAny _ _ (Wg d >>= _) _ _ _;rw[e];refine QF (QN (QF (wA x y (QF (wu x y (QF (qL (QN ⟨_,rfl,"dict_keyiterator",_,⟨_,QZ _ rfl,rfl⟩,qY.lookup,?_⟩))))))));simpa[rawInt]using q
theorem ja{e:DictEntry}
  (u:s.heap.IsKeyIter it d i es.size ep) (z:s.heap.get? d=some h) (v:h.data=.dict es ep) (f:es[i]?=some e)
  (q:∀h',h'.IsKeyIter it d (i+1) es.size ep->qW it s.heap h'->Q (some e.key) { s with heap:=h' }) :
  wpAny (model prog w) A (pyNext (.ref it)) Q E s:=by
 have k:=u.typeIs;obtain⟨j,a,b,x⟩:=id u;show wpAny _ _ (bind _ _) _ _ _;refine QF (Wr (qb k qY (qO qY k Wl ?_ (Wh _))));show wpAny _ _ (bind _ _) _ _ _;refine QF (QN (QF (QF (QF (qt k (QN (QF (QAK a x ?_))))))));rw[HG];show wpAny _ _ (if(jx d==Jz)=true then _ else _) _ _ _;rw[if_neg (show ¬ (jx d==Jz)=true from QG)];show wpAny _ _ (wO (.ref d) >>= _) _ _ _;refine QF (QN (QF (wA z v ?_)));rw[if_neg (show ¬ (((es.size:Nat):Int) != ((es.size:Nat):Int))=true by simp)];refine QF (QN (QF (wu z v ?_)));rw[if_neg (show ¬ (((ep:Nat):Int) != ((ep:Nat):Int))=true by simp)];refine QN ?_;have g:(if((i:Nat):Int)<0 then none else es[((i:Nat):Int).toNat]?)=some e:=by rw[if_neg (by omega),qP];exact f
 simp only[g];refine QF ?_;show wpAny _ _ (typeNameOfWhole (.ref it) >>= _) _ _ _;refine QF (qt k (QN (QF (QAu k ?_))));rw[HG];show wpAny _ _ (setField (.ref it) 1 _ >>= _) _ _ _;refine QF (QAJ a x (by simp) ?_);have y:(s.heap.update it (Obj.mapFields (·.setIfInBounds 1 (rawInt ((i:Int)+1))))).IsKeyIter it d (i+1) es.size ep :=
  ⟨_,wn _ a (QAt (WJ x _)),(QBf ..).trans b,by rw[WJ x];simp[rawInt]⟩
 refine QF (qy (QF (QAu (s:={ s with heap:=s.heap.update it (Obj.mapFields (·.setIfInBounds 1 (rawInt ((i:Int)+1)))) }) y.typeIs ?_)));show wpAny _ _ (pure e.key) _ _ _;exact QN (QN ⟨_,rfl,QN (q _ y (Q9 ..))⟩)
theorem cS(e:A.handled=none)
  (y:s.heap.IsKeyIter it d i es.size ep) (x:s.heap.get? d=some h) (u:h.data=.dict es ep) (f:es[i]?=none)
  (q:∀h',Wv it s.heap h'->Q none { s with heap:=h' }) :
  wpAny (model prog w) A (pyNext (.ref it)) Q E s:=by
 have v:=y.typeIs;obtain⟨l,k,g,z⟩:=id y;show wpAny _ _ (bind _ _) _ _ _;refine QF (Wr (qb v qY (qO qY v Wl ?_ (Wh _))));show wpAny _ _ (bind _ _) _ _ _;refine QF (QN (QF (QF (QF (qt v (QN (QF (QAK k z ?_))))))));rw[HG];show wpAny _ _ (if(jx d==Jz)=true then _ else _) _ _ _;rw[if_neg (show ¬ (jx d==Jz)=true from QG)];show wpAny _ _ (wO (.ref d) >>= _) _ _ _;refine QF (QN (QF (wA x u ?_)));rw[if_neg (show ¬ (((es.size:Nat):Int) != ((es.size:Nat):Int))=true by simp)];refine QF (QN (QF (wu x u ?_)));rw[if_neg (show ¬ (((ep:Nat):Int) != ((ep:Nat):Int))=true by simp)];refine QN ?_;have j:(if((i:Nat):Int)<0 then none else es[((i:Nat):Int).toNat]?)=none:=by rw[if_neg (by omega),qP];exact f
 simp only[j];refine QF ?_;show wpAny _ _ (typeNameOfWhole (.ref it) >>= _) _ _ _;refine QF (qt v (QN ?_));rw[HG];show wpAny _ _ (setField (.ref it) 0 .none >>= _) _ _ _;refine QF (QAJ k z (by simp) ?_);refine QF (m:=newExc (.type "StopIteration") []) ?_;simp only[newExc,newTuple];refine QF (qL ?made (by size_fits));refine QF (m:=firstArgMember _ _) (QB8 (a:=Jz) (by first|rfl | (rw[firstArgMember];rfl)) ?arg);refine qL ?made2 (by size_fits);simp only[raiseNew];refine QF (QBW ?_);first|rw[show A.in1.handled=none from e]|rw[e]
 refine QF (QN (QB9 ?_));refine QF (QAd (T:="StopIteration") (b:=true) ⟨_,QZ _ rfl,rfl⟩ (by kernel_rfl) ?_);rw[if_pos rfl];exact QN (q _ (((Q9 ..).extBut.push _).push _))
end
end
noncomputable def Bv(ep n:Nat)(a:Addr):It :=
  ⟨λi H=>∃h p,H a=some (.dT ep h)/\h.length=n/\h[i]?=some p,
   λi H v x=>x=H/\∀h,H a=some (.dT ep h)->∃p,h[i]?=some p/\v=.ref p.2.1,
   λi H=>∃h,H a=some (.dT ep h)/\h.length=n/\n<=i⟩
theorem pY{P:Program}{w:World}{K:QE}{S:Expr}{a it:Addr}{n ep:Nat}:Turn P w K S (Bv ep n a) [it] it (λi h=>h.IsKeyIter it a i n ep) where
 mem:=by simp
 obj:=λi h st b hb=>by obtain⟨o,e,c,d⟩:=st;rw[QI]at hb;subst hb;exact⟨o,e,λv z=>by rw[d]at z;cases z⟩
 keep:=λi h Y st k=>st.at λo e=>k it (by simp) o e
 item:=by
  intro X B Z C hc i u s Q H E I l st A;subst B Z C;obtain⟨f,p,e,W,ep⟩:=A;obtain⟨z,y,R,r,o,x,G,h2,F,m,h5⟩:=(show zB X.prog X.w H s.heap a (.dT _ f) from I.hok a _ e)
  have g:x.size=n:=by have:=congrArg wN m;rw[QA,Q1]at this;rw[this,<- qK r,W]
  obtain⟨q,hq,rq⟩:=KH r ep;have he:x[i]?=some (entryOfKey (GE X.prog X.w) q):=by
   have:x.toList[i]?=some (entryOfKey (GE X.prog X.w) q):=by rw[m,Qe,hq];rfl
   simpa using this
  subst g;obtain⟨O,N,f2,M,L,J⟩:=l it (by simp);refine ja st G F he λY j sb=>?_;have I1:Inv X u Q H { s with heap:=Y }:=I.turned (t':=s.toks) (λb o hb e=>(sb.2 b hb).trans e) O N M L J;obtain⟨oi,ei,ci,di⟩:=id j;exact⟨_,rfl,go_of (s:={ s with heap:=Y }) ei ci di (by decide) ⟨.ref p.2.1,H,I1,show jx q.2.1=jx p.2.1 by rw[rq.2.1],⟨rfl,λks hk=>by rw[e]at hk;cases hk;exact⟨p,ep,rfl⟩⟩,j,λb hb=>(l b hb).1⟩⟩
 done:=by
  intro X B Z C hc i u s Q H E I l st A;subst B Z C;obtain⟨f,e,W,ep⟩:=A;obtain⟨z,y,R,r,o,x,G,h2,F,m,h5⟩:=(show zB X.prog X.w H s.heap a (.dT _ f) from I.hok a _ e)
  have g:x.size=n:=by have:=congrArg wN m;rw[QA,Q1]at this;rw[this,<- qK r,W]
  subst g;obtain⟨O,N,f2,M,L,J⟩:=l it (by simp);exact cS (I.ok.hd hc) st G F (QAl ep) λY eb=>⟨rfl,I.turned (t':=s.toks) (λb o hb e=>eb b o hb e) O N M L J⟩
 self:=λ_ _ _ _ _ st h=>wpAny_pyIter_keyiter st h
open PySem.SeqAt
open AutoSeq1 (wpAny_loadPart')
open MeetsSeq MeetsSeq2 MeetsSeq3
noncomputable def uk:LS->LS->Bool
 |[],[]=>false|[],_::_=>true|_::_,[]=>false|x::a,y::b=>if(x==y)=true then uk a b else decide (x.cps.toList<y.cps.toList)
theorem gP{vs:LW}{z:LS}(h:StrsAre vs z):vs.length=z.length/\∀(i:Nat) (x:Str),z[i]?=some x->∃t:Tok,vs[i]?=some (Value.str x t):=by
 induction h with
 |nil=>exact⟨rfl,λi x e=>by simp at e⟩|cons y t _ u =>
  refine⟨by rw[QL,QL,u.1],λi x e=>?_⟩;cases i with|zero=>simp at e;subst e;exact⟨t,rfl⟩|succ i=>simp at e;simpa using u.2 i x e
theorem uZ(l b:Addr)(v x:Array Value)(n B:Nat)(L X:Option Addr)(W o:Array (Option Value))(a ts:LS)(I:StrsAre v.toList a)(G:StrsAre x.toList ts)(k:Nat) :
  ∀i:Nat,v.size - i=k->i<=v.size->i<=x.size->Meets (Builtin.«list.__eq__.loop» ⟨[.ref l,.ref b,rawInt i,rawInt 0],[]⟩)
   (λA R s=>s.heap.get? l=some { cls:=.type "list",dict:=L,data:=.seq v n,slots:=W }/\s.heap.get? b=some { cls:=.type "list",dict:=X,data:=.seq x B,slots:=o } /\
    R (.ok (.ret (.bool (uk (a.drop i) (ts.drop i))))) s):=by
 obtain⟨S,Q⟩:=gP I;obtain⟨O,N⟩:=gP G;rw[Q1]at S O;induction k with
 |zero =>
  intro i hk F p e w A R s h;obtain⟨E,g,d,Z,K⟩:=s;obtain⟨hl,hb,h⟩:=h;wp_walk using qG hl,qG hb;have m:v[((i:Nat):Int).toNat]?=none:=by simp;omega
  rw[m];wp_walk using qG hl,qG hb;have Y:a.drop i=[]:=by simp;omega
  rw[Y]at h;have f:uk [] (ts.drop i)=decide (v.size<x.size):=by
   cases z:ts.drop i with
   |nil =>
    have:ts.length<=i:=by simpa using z
    exact(dF (by omega)).symm
   |cons y r =>
    have:i<ts.length:=by by_cases c:i<ts.length;exact c;rw[WT (by omega)]at z;cases z
    exact(dT (by omega)).symm
  rw[f]at h;exact h
 |succ k C =>
  intro i hk F p e w A R s h;obtain⟨E,g,d,Z,K⟩:=s;obtain⟨hl,hb,h⟩:=h;wp_walk using qG hl,qG hb;have j:i<a.length:=by omega
  obtain⟨t,ev⟩:=Q i a[i] (Qn j);have m:v[((i:Nat):Int).toNat]?=some (.str a[i] t):=by simpa using ev
  rw[m];have Y:a.drop i=a[i]::a.drop (i+1):=QAL j;rw[Y]at h;by_cases c:i<ts.length;obtain⟨u,J⟩:=N i ts[i] (Qn c);have f:x[((i:Nat):Int).toNat]?=some (.str ts[i] u):=by simpa using J
  have M:ts.drop i=ts[i]::ts.drop (i+1):=QAL c;rw[M]at h;have h:R (.ok (.ret (.bool (if(a[i]==ts[i])=true then uk (a.drop (i+1)) (ts.drop (i+1)) else decide (a[i].cps.toList<ts[i].cps.toList))))) _:=h;rw[f];refine QF (EqAt.str_str a[i] t ts[i] u e w _ _ ?_);have hc:((i:Int)+1)=((i+1:Nat):Int):=by push_cast;rfl
  cases q:(a[i]==ts[i]) with|true=>rw[q,if_pos rfl]at h;wp_walk;rw[hc];exact⟨QBY plain_eq_loop _,Ww entry_eq_loop (by rw[w6 plain_eq_loop _];exact C (i+1) (by omega) (by omega) (by omega) e w A R _ ⟨hl,hb,h⟩)⟩|false=>rw[q,if_neg QG]at h;wp_walk using qG hl,qG hb;rw[m,f];show wpAny _ _ (compareOp .Lt (.str a[i] t) (.str ts[i] u) >>= _) _ _ _;refine QF (PySem.P.lt_str ?_);exact QN h
  have f:x[((i:Nat):Int).toNat]?=none:=by simp;omega
  rw[f];wp_walk using qG hl,qG hb;rw[WT (show ts.length<=i by omega)]at h;have:decide (v.size<x.size)=false:=dF (by omega);have h:R (.ok (.ret (.bool false))) _:=h;rw[<- this]at h;exact h
theorem cZ(l b:Addr)(y x:Array Value)(n e:Nat)(f v:Option Addr)(a z:Array (Option Value))(k ts:LS)(j:StrsAre y.toList k)(i:StrsAre x.toList ts) :
  Meets (Builtin.«list.__lt__» ⟨[.ref l,.ref b],[]⟩)
   (λA R s=>s.heap.get? l=some { cls:=.type "list",dict:=f,data:=.seq y n,slots:=a }/\s.heap.get? b=some { cls:=.type "list",dict:=v,data:=.seq x e,slots:=z } /\
    R (.ok (.ret (.bool (uk k ts)))) s):=by
 intro u w A R s h;obtain⟨p,g,d,m,o⟩:=s;obtain⟨hl,hb,h⟩:=h;have q:=AutoSeq1.sub_list_list;wp_walk using qG hl,qG hb;exact⟨QBY plain_eq_loop _,Ww entry_eq_loop (by rw[w6 plain_eq_loop _];exact uZ l b y x n e f v a z k ts j i _ 0 rfl (Q8 _) (Q8 _) u w A R _ ⟨hl,hb,h⟩)⟩
section
variable{prog:Program}{w:World}{A:Around}{E:YC}{s:Shared}
theorem NU{l b:Addr}{y x:Array Value}{n a:Nat}{e u:Option Addr}{k z:Array (Option Value)}{v ts:LS}{Q:Bool->Shared->Prop}(f:A.units<cLine)(hl:s.heap.get? l=some { cls:=.type "list",dict:=e,data:=.seq y n,slots:=k })(hb:s.heap.get? b=some { cls:=.type "list",dict:=u,data:=.seq x a,slots:=z })
  (i:StrsAre y.toList v) (g:StrsAre x.toList ts) (h:Q (uk v ts) s):wpAny (model prog w) A (keyLt' oneType' (.ref l) (.ref b)) Q E s:=by
 rw[keyLt'_oneType,oneLt'_eq];simp only[if_true];refine QF (wpAny_cRoomFor f (QF (wpAny_callSpecialIfBound?_slot (T:="list") ⟨_,hl,rfl⟩ F.slot_list_lt ?_)));refine QA0 F.slot_list_lt ⟨_,hl,rfl⟩ F.entry_list_lt (F.args_list_lt_2 _ _) (cZ l b y x n a e u k z v ts i g) ⟨hl,hb,?_⟩;exact wP h
end
end L2.L3
namespace L2.L3
open PySem PySem.Spec PyProof.Rows PySem.W
noncomputable def AC{α:Type}(n:Nat)(P:α->Prop):KasT α->Prop
 | .ret a=>P a|.ask i j k=>i<n/\j<n/\∀b,AC n P (k b)
theorem AC.bnd{α x:Type}{n:Nat}{P:α->Prop}{R:x->Prop}{f:α->KasT x}(y:∀a,P a->AC n R (f a)):∀{t:KasT α},AC n P t->AC n R (t.bind f)
 | .ret a,h=>y a h|.ask i j k,⟨h1,h2,h⟩=>⟨h1,h2,λb=>AC.bnd y (h b)⟩
theorem AC.wp{α:Type}{n:Nat}{P:α->Prop}{x:Nat->Nat->(Bool->Shared->Prop)->Shared->Prop}{Q:α->Shared->Prop}{s:Shared}(y:∀i j,i<n->j<n->∀C:Bool->Shared->Prop,(∀b,C b s)->x i j C s)(z:∀a,P a->Q a s):∀{t:KasT α},AC n P t->t.kasWp x Q s
 | .ret a,h=>z a h|.ask i j k,⟨h1,h2,h⟩=>y i j h1 h2 _ λb=>AC.wp y z (h b)
def Pm(n:Nat)(p:Array Nat):Prop:=p.Perm (qI (Qr n))
section
variable{n:Nat}
section
variable{p:Array Nat}
theorem Pm.lt(h:Pm n p)(x:0<n)(i:Nat):p.getD i 0<n:=by
 by_cases c:i<p.size;have e:p.getD i 0=p[i]:=by simp[Array.getD,c]
 rw[e];have m:p[i]∈p.toList:=by simp
 have:=(qR.mp h).mem_iff.mp m;simpa using this;have e:p.getD i 0=0:=by simp[Array.getD,c]
 rw[e];exact x
theorem Pm.rev(h:Pm n p)(i j:Nat):Pm n (kas_rev p i j):=(mirror_perm _ _ _ _).trans h
theorem zR{p:Array Nat}(h:Pm n p)(x:0<n):∀(f m:Nat),AC n (λ_=>True) (kas_asc p f m)
 |0,m=>trivial|f+1,m=>⟨h.lt x _,h.lt x _,λb=>by
  cases b with|true=>exact trivial|false=>exact zR h x f (m+1)⟩
theorem yJ(x:0<n):∀(f:Nat) {p:Array Nat}(h:Pm n p) (m q:Nat),AC n (λr=>Pm n r.1) (kas_desc f p m q)
 |0,p,h,m,q=>h|f+1,p,h,m,q=>⟨h.lt x _,h.lt x _,λb=>by
  cases b with
  |true=>show AC n _ (if q > 0 then _ else _);split;exact yJ x f (h.rev _ _) _ _;exact yJ x f h _ _|false =>
   refine⟨h.lt x _,h.lt x _,λb=>?_⟩;cases b with|true=>exact h|false=>exact yJ x f h _ _⟩
theorem EO(x:0<n)(h:Pm n p)(a b:Nat):AC n (λr=>Pm n r.2) (kas_tail3 a b p):=by refine AC.bnd (f:=λm=>.ret (m,kas_rev p 0 a)) (λm _=>?_) (zR (h.rev _ _) x _ _);exact h.rev _ _
theorem jJ(x:0<n)(h:Pm n p)(a b:Nat):AC n (λr=>Pm n r.2) (kas_descPart a b p):=by refine AC.bnd (λr y=>?_) (yJ x _ h _ _);split;exact EO x (Pm.rev y _ _) _ _;exact EO x y _ _
theorem PZ(x:0<n)(h:Pm n p)(b:Nat):AC n (λr=>Pm n r.2) (kas_count b p):=by
 refine AC.bnd (λm _=>?_) (zR h x _ _);split;exact h;split
 ·refine⟨h.lt x _,h.lt x _,λc=>?_⟩
  cases c with|true=>exact h|false=>exact jJ x (h.rev _ _) _ _
 exact jJ x h _ _
theorem vK(x:0<n){p:Array Nat}(h:Pm n p)(k:Nat):∀(f l r:Nat),AC n (λ_=>True) (kas_place p k f l r)
 |0,l,r=>trivial|f+1,l,r=>by
  show AC n _ (if l ≥ r then _ else _);split;exact trivial;refine⟨h.lt x _,h.lt x _,λb=>?_⟩;cases b with|true=>exact vK x h k f _ _|false=>exact vK x h k f _ _
theorem yY(x:0<n):∀(f:Nat) {p:Array Nat}(h:Pm n p) (k:Nat),AC n (Pm n) (kas_bin f p k)
 |0,p,h,k=>h|f+1,p,h,k=>AC.bnd (λl _=>yY x f ((bubble_perm _ _ _).trans h) _) (vK x h _ _ _ _)
theorem jU(x:0<n):AC n (Pm n) (kas_sort n):=by refine AC.bnd (λr h=>?_) (PZ x (QCB _) _);split;exact yY x _ h _;exact h
end
end
theorem oO{α:Type}(vs:List α)(d:α):(Qr vs.length).map (λi=>vs.getD i d)=vs:=by apply qz;intro i;rw[Qe];by_cases c:i<vs.length;rw[Wx c];simp[c];rw[qC (by simp;omega),qC (by omega)];rfl
section
variable{prog:Program}{w:World}{A:Around}{E:YC}{s:Shared}
theorem on{M:Model}{vs:LW}{Q:SortKind->Shared->Prop}(k:2<=vs.length)(z:∀v∈vs,s.TypeIs v "list")(h:Q oneType' s):wpAny M A (keyKind' vs.toArray) Q E s:=by
 cases vs with
 |nil=>simp at k|cons v r =>
  rw[keyKind'_eq,QBi,map_eq_pure_bind];refine QF (QF (kas_mapM (r:=none) _ (λu y e q=>?_) (QN ?_)));rw[kas_first_eq];exact QF (wpAny_typeOf (z u y) (QN q));rw[if_neg (by simp),if_neg (by simp),oneTypeOnly'_eq,QBi,map_eq_pure_bind];refine QF (QF (QF (kas_mapM (r:=.type "list") _ (λu y e q=>wpAny_typeOf (z u y) q) (QN ?_))));have b:((v::r).map λ_=>Value.type "list").toArray[0]?=some (.type "list"):=by simp
  have a:(((v::r).map λ_=>Value.type "list").toArray.all λx=>x==Value.type "list")=true:=by simp only[List.all_toArray,List.all_map,Qy];intro _ _;rfl
  rw[b];simp only[a,if_true];exact QN (QN h)
theorem Uh{a:Addr}{vs:LW}{n:Nat}{P:PySem.Fin->Shared->Prop}(Y:s.heap.get? a=some (seqObj "list" vs.toArray n))(K:vs.length<64)(S:∀v∈vs,∃b o,v=.ref b/\b≠a/\s.heap.get? b=some o/\o.cls=.type "list")
  (G:∀B:Heap,(∀b o,b≠a->s.heap.get? b=some o->B.get? b=some o)->∀x∈vs,∀y∈vs,∀C:Bool->Shared->Prop,(∀k,C k { s with heap:=B })->wpAny (model prog w) A (keyLt' oneType' x y) C (λ_ _=>False) { s with heap:=B })
  (k:∀out:LW,out.Perm vs->P (.done (.ret .none)) { s with heap:=sortedHeap s.heap a vs out.toArray }):wpAny (model prog w) A (Builtin.«list.sort» ⟨[.ref a],[]⟩) P E s:=by
 have ha:a<s.heap.objs.size:=Qb Y;have J:=Q9 s.heap a (qA λ_=>(#[]:Array Value));obtain⟨Z,X⟩:∃Z,(s.heap.update a (qA λ_=>(#[]:Array Value))).get? a=some (seqObj "list" #[] Z):=⟨_,Wz Y λ_=>#[]⟩
 have r:(((s.heap.update a (qA λ_=>(#[]:Array Value))).push (seqObj "tuple" vs.toArray 0)).push (seqObj "list" #[] 0)).get? a=some (seqObj "list" #[] Z):=QK _ (QK _ X);have kept:∀b o,b≠a->s.heap.get? b=some o->(((s.heap.update a (qA λ_=>(#[]:Array Value))).push (seqObj "tuple" vs.toArray 0)).push (seqObj "list" #[] 0)).get? b=some o:=λb o hb e=>QK _ (QK _ ((J.2 b hb).trans e));rw[list_sort_plain];refine QF (QBr Y rfl (QF (WK Y rfl ?_ (by rw[QR];omega) (Q8 _))));refine QF (QBG X rfl (QF (QA9 ?_ (by show vs.length<=_;omega))));refine QF (QAX (qy ?_) (Q8 _));show wpAny (model prog w) A _ P E { s with heap:=((s.heap.update a (qA λ_=>(#[]:Array Value))).push (seqObj "tuple" vs.toArray 0)).push (seqObj "list" #[] 0) };dsimp only;have fin:∀out:LW,out.Perm vs->wpAny (model prog w) A (do
   let h:=(<- seqEpoch a) != Z
   Builtin.List.listUpdate (.ref a) λ_=>out.toArray
   if h then rule "list.sort.modified";raiseError "ValueError" "list modified during sort"
   ret .none) P E { s with heap:=((s.heap.update a (qA λ_=>(#[]:Array Value))).push (seqObj "tuple" vs.toArray 0)).push (seqObj "list" #[] 0) }:=λout m=>by
  have hl:=m.length_eq;refine QF (QBG r rfl (QF (WK r rfl ?_ (Q8 _) (by rw[QR];omega))));simp only[bne_self_eq_false,Qo,if_false];exact QN (k out m)
 by_cases I:vs.length<2;have u:vs.toArray.size<2:=by rw[QR];exact I
 rw[if_pos u,if_pos u];refine QF (QN ?_);rw[QCC];refine QF (QN ?_);have e:(arrOf (QBj general' (vs.toArray.zip vs.toArray) #[] 7 none)).map (·.2)=vs.toArray:=by show(vs.toArray.zip vs.toArray).map (·.2)=_;apply w8.mp;simp[w9]
 dsimp only;rw[e];exact fin vs (QBA _);have u:¬ vs.toArray.size<2:=by rw[QR];exact I
 rw[if_neg u,if_neg u];refine QF (on (by omega) (λv hv=>?_) ?_);obtain⟨b,o,rfl,hb,e,c⟩:=S v hv;exact⟨o,kept b o hb e,c⟩;have F:QBj oneType' (vs.toArray.zip vs.toArray) #[] 7 none=kas_st oneType' (pairsOf vs) (qI (Qr vs.length)):=by have e:=kas_range (pairsOf vs);rw[pairsOf_size]at e;show QBj oneType' (pairsOf vs) #[] 7 none=QBj oneType' ((qI (Qr vs.length)).map (kas_item (pairsOf vs))) #[] 7 none;rw[e]
 have all:=jU (n:=vs.length) (by omega);have f:(kas_sort vs.length).kasWp (kas_cmp prog w A oneType' (pairsOf vs)) (λp g=>g={ s with heap:=((s.heap.update a (qA λ_=>(#[]:Array Value))).push (seqObj "tuple" vs.toArray 0)).push (seqObj "list" #[] 0) }/\Pm vs.length p) { s with heap:=((s.heap.update a (qA λ_=>(#[]:Array Value))).push (seqObj "tuple" vs.toArray 0)).push (seqObj "list" #[] 0) }:=by
  rw[<- kas_ask_eq];refine AC.wp (λi j O N C H=>?_) (λp m=>⟨rfl,m⟩) all;have gi:vs.getD i Jz∈vs:=by
   have:vs.getD i Jz=vs[i]:=by simp[O]
   rw[this];exact wH _
  have gj:vs.getD j Jz∈vs:=by
   have:vs.getD j Jz=vs[j]:=by simp[N]
   rw[this];exact wH _
  exact G _ kept _ gi _ gj C H
 have l:=kas_runs (prog:=prog) (w:=w) (A:=A) (E:=E) (Q:=λ_ z g=>∃p:Array Nat,p.size=vs.length/\arrOf z=p.map (kas_item (pairsOf vs))/\failedOf z=none/\g={ s with heap:=((s.heap.update a (qA λ_=>(#[]:Array Value))).push (seqObj "tuple" vs.toArray 0)).push (seqObj "list" #[] 0) }/\Pm vs.length p)
  (by omega) K (λM z g a1 a2 a3 a4=>⟨M,a1,a2,a3,a4⟩) f
 rw[<- F]at l;refine QF (qq l ?_ λ_ _ e=>e);rintro⟨⟨⟩,z⟩ g ⟨p,m,W,R,rfl,L⟩;dsimp only;have q:(arrOf z).map (·.2)=qI (p.toList.map λi=>vs.getD i Jz):=by apply w8.mp;rw[W,Array.map_map,Array.toList_map];exact wF λi _=>by show(kas_item (pairsOf vs) i).2=_;rw[kas_item_eq]
 rw[q,R];refine fin _ ?_;have:=(qR.mp L).map λi=>vs.getD i Jz;refine this.trans ?_;show((Qr vs.length).map λi=>vs.getD i Jz).Perm vs;rw[oO]
theorem K8{l:Addr}{vs:LW}{Q:YC}(hl:s.heap.IsList l vs.toArray)(f:vs.length<64)(r:∀v∈vs,∃b o,v=.ref b/\s.heap.get? b=some o/\o.cls=.type "list")
  (g:∀a:Heap,(∀b o,s.heap.get? b=some o->a.get? b=some o)->∀x∈vs,∀y∈vs,∀C:Bool->Shared->Prop,(∀k,C k { s with heap:=a })->wpAny (model prog w) A.in1.in1 (keyLt' oneType' x y) C (λ_ _=>False) { s with heap:=a })
  (k:∀out:LW,out.Perm vs->Q (.ref (s.heap.objs.size+1)) { s with heap:=sortedAll s.heap vs out.toArray }):wpAny (model prog w) A (call (.builtin "sorted") [.ref l]) Q E s:=by
 refine Calls.call_function_entry kind_sorted plain_sorted entry_sorted (args_sorted1 _) ?_;unfold Builtin.«sorted»;refine QF (m:=checkCount "sorted" 1 1 _) (QN (QF (collect_list hl ?_ (by omega))));refine QF (QAX ?_ (by show vs.length<=_;omega));have z:((s.heap.push (seqObj "list" #[] 0)).update s.heap.objs.size (qA (·++vs.toArray))).objs.size=s.heap.objs.size+1:=by rw[QB3,size_push']
 have u:(((s.heap.push (seqObj "list" #[] 0)).update s.heap.objs.size (qA (·++vs.toArray))).push (seqObj "list" vs.toArray 0)).get? (s.heap.objs.size+1)=some (seqObj "list" vs.toArray 0):=by rw[<- z];exact QZ _ rfl
 have old:∀b o,s.heap.get? b=some o->(((s.heap.push (seqObj "list" #[] 0)).update s.heap.objs.size (qA (·++vs.toArray))).push (seqObj "list" vs.toArray 0)).get? b=some o:=λb o q=>by have h:b<s.heap.objs.size:=Qb q;refine QK _ ?_;rw[Heap.get?_update_ne _ _ _ _ (Qm h)];exact QK _ q
 show wpAny _ _ _ _ _ { s with heap:=((s.heap.push (seqObj "list" #[] 0)).update s.heap.objs.size (qA (·++vs.toArray))).push (seqObj "list" vs.toArray 0) };rw[z];refine QF (qy (qO slot_list_sort ⟨_,u,rfl⟩ entry_list_sort ?body (args_list_sort _)))
 case body =>
  refine Uh (s:={ s with heap:=((s.heap.push (seqObj "list" #[] 0)).update s.heap.objs.size (qA (·++vs.toArray))).push (seqObj "list" vs.toArray 0) }) u f (λv hv=>?_) (λa i x n y j C X=>?_) λout p=>⟨_,rfl,QN ⟨_,rfl,k out p⟩⟩
  obtain⟨b,o,e,q,c⟩:=r v hv;have h:b<s.heap.objs.size:=Qb q;exact⟨b,o,e,Qm (wz h),old b o q,c⟩;refine g a (λb o q=>?_) x n y j C X;have h:b<s.heap.objs.size:=Qb q;exact i b o (Qm (wz h)) (old b o q)
end
section
variable{prog:Program}{w:World}{A:Around}
theorem Ui(Z:A.handled=none)(j:Addr)(z:Src)(m:z.adr≠j)(y:Array Value)(c:Nat) :
  Draws prog w A j [j,z.adr] (c+y.size) (λi v=>∃k,i=c+k/\y[k]?=some v) (λi h=>∃k,i=c+k/\TD h j z k/\NB h z y) where
 live:=λ_ _ ⟨_,_,p,_⟩=>let⟨o,e,_⟩:=p.obj;⟨o,e⟩
 frame:=λ_ h f ⟨k,e,p,q⟩ u=>⟨k,e,p.keep λo x=>u j (by simp) o x,by
  cases z with|l a=>exact QB7.at q λo x=>u a (by simp[Src.adr]) o x|t a=>obtain⟨o,Y,X⟩:=q;exact⟨o,u a (by simp[Src.adr]) o Y,X⟩⟩
 item:=λi s Q E W ⟨k,e,p,q⟩ n=>by
  have hk:k<y.size:=by omega
  exact ya p q (x:=y[k]) (by simp[hk]) λf g b=>n _ f s.toks ⟨k,e,by simp[hk]⟩ ⟨k+1,by omega,g,fg q b m⟩ b
 done:=λs Q E ⟨k,e,p,q⟩ r=>by
  have hk:k=y.size:=by omega
  exact R4 Z p q (by simp[hk]) r
theorem Ci(r:A.handled=none)(j:Addr)(z:Src)(y:Array Value)(n k:Nat)(v:y[k]?=none) :
  Draws prog w A j [j,z.adr] n (λ_ _=>False) (λi h=>i=n/\TD h j z k/\NB h z y) where
 live:=λ_ _ ⟨_,p,_⟩=>let⟨o,e,_⟩:=p.obj;⟨o,e⟩
 frame:=λ_ h Y ⟨e,p,q⟩ u=>⟨e,p.keep λo x=>u j (by simp) o x,by
  cases z with|l a=>exact QB7.at q λo x=>u a (by simp[Src.adr]) o x|t a=>obtain⟨o,m,g⟩:=q;exact⟨o,u a (by simp[Src.adr]) o m,g⟩⟩
 item:=λi s Q E b ⟨e,_,_⟩ X=>absurd b (by omega)
 done:=λs Q E ⟨_,p,q⟩ f=>R4 r p q v f
noncomputable def Cv(K:QE)(z:Src)(c:Nat):It :=
  ⟨λi H=>∃h x,Y0 K H z h/\h[i]?=some x,
   λi H v y=>∃p x,H p=none/\v=.ref p/\y=BA H p (.tup [.int ((c+i:Nat):Int),x])/\∀h,Y0 K H z h->h[i]?=some x,
   λi H=>∃h,Y0 K H z h/\h.length<=i⟩
def nW(e j:Addr)(z:Src)(c i:Nat)(h:Heap):Prop:=(∃old,IsEnum h e j ((c+i:Nat):Int) old)/\TD h j z i
theorem rY{P:Program}{K:QE}{es:List Expr}{kk:Nat}{pp:Pos}{e j:Addr}{z:Src}{c:Nat}(J:e≠j)(n2:z.adr≠e)(n3:z.adr≠j) :
  Turn P w K (.Tuple es kk pp) (Cv K z c) [e,j] e (nW e j z c) where
 mem:=by simp
 obj:=λi h st b hb=>by obtain⟨⟨old,f⟩,m⟩:=st;simp only[QM,wf,or_false]at hb;rcases hb with rfl|rfl;exact⟨_,f,λv q=>by cases(show Data.fields _=Data.cell v from q)⟩;exact m.obj
 keep:=λi h h' st k=>by obtain⟨⟨old,f⟩,m⟩:=st;exact⟨⟨old,k e (by simp) _ f⟩,m.keep λo x=>k j (by simp) o x⟩
 item:=by
  intro X N L O hc i p s σ H E I W st M;subst N L O;obtain⟨xs,x,B,ex⟩:=M;obtain⟨a,G,C,_⟩:=I.src B;obtain⟨u,hu,ru⟩:=G.get ex;obtain⟨⟨old,f⟩,m⟩:=st;have hi:i<a.toArray.size:=by have:=(Qh.mp hu).1;simpa using this
  refine wpAny_pyNext_enum_itemD (Ui (show X.A.in1.handled=none from I.ok.hd hc) j z n3 a.toArray c) f ⟨i,rfl,m,C⟩ (by omega) J (by simp[J,qD n2]) λy h' Z ⟨k,ek,hy⟩ b1 b2 b3 b4 b5=>?_;have ek:k=i:=by omega
  subst ek;have ey:y=u:=by
   have:a.toArray[k]?=some u:=by simpa using hu
   rw[this]at hy;exact(Qv hy).symm
  subst ey;refine⟨_,rfl,wpAny_letOwnedTupleGo_enum b1 λn c1 F=>?_⟩;obtain⟨k2,Y,b2,b2'⟩:=b2;have Y:k2=k+1:=by omega
  subst Y;have hp:=I.hok.fresh (Qa s.heap.objs.size);have r:e<s.heap.objs.size:=Qb f;have l:∀b∈[e,j],b<s.heap.objs.size:=λb hb=>by simp only[QM,wf,or_false]at hb;rcases hb with rfl|rfl;exact r;exact m.lt
  have kept:∀b o,b∉[e,j]->s.heap.get? b=some o->n.get? b=some o:=λb o hb q=>by simp only[QM,wf,or_false,not_or]at hb;exact(F.2 b hb.1).trans (b5 b o hb.1 hb.2 q)
  have g:n.get? s.heap.objs.size=some { cls:=.type "tuple",data:=.seq #[.int ((c+k:Nat):Int) Z,y] }:=(F.2 _ (wk r)).trans b3;have I1:=I.pair (x:=.int ((c+k:Nat):Int)) (h':=s.heap.push { cls:=.type "tuple",data:=.seq #[.int ((c+k:Nat):Int) Z,y] }) (t':=Z+1) (λb o e=>QK _ e) (Qa _) (QZ _ rfl) ⟨_,rfl⟩ ru;have I2:=I1.turnedL (h':=n) (t':=Z+1) (ch:=[e,j]) (λb o hb e=>by
   rcases QA4 e with⟨q1,q2⟩| q;subst q1 q2;exact g;exact kept b o hb q) λb hb=>by
   obtain⟨f0,f1,f2,S,R,Q⟩:=W b hb;exact⟨by rw[vA (Qm (l b hb))];exact f0,f1,f2,S,R,Q⟩
  refine⟨.ref s.heap.objs.size,_,I2,rfl,⟨s.heap.objs.size,x,hp,rfl,rfl,λxs' g1=>?_⟩,⟨⟨y,?_⟩,b2.keep λo q=>(F.2 _ (qD J)).trans q⟩,λb hb=>?_⟩;rw[I.src_inj g1 B];exact ex;have:(((c+(k+1):Nat)):Int)=((c+k:Nat):Int)+1:=by omega
  rw[this];exact c1;rw[vA (Qm (l b hb))];exact(W b hb).1
 done:=by intro X N L O hc i p s σ H E I W st M;subst N L O;obtain⟨xs,B,en⟩:=M;obtain⟨a,G,C,_⟩:=I.src B;obtain⟨⟨old,f⟩,m⟩:=st;have l1:=G.length;obtain⟨f0,f1,f2,S,R,Q⟩:=W j (by simp);exact wpAny_pyNext_enum_endD (Ci (show X.A.in1.handled=none from I.ok.hd hc) j z a.toArray 0 i (by simp;omega)) f ⟨rfl,m,C⟩ λh' eb=>⟨rfl,I.turned (t':=s.toks) (λb o hb e=>eb b o hb e) f0 f1 S R Q⟩
 self:=λ_ _ _ _ _ st h=>by obtain⟨⟨old,f⟩,_⟩:=st;exact QBk f h
end
theorem YZ(z:Src)(xs:Array Value):Meets (Builtin.«enumerate.__new__» ⟨[.type "enumerate",.ref z.adr],[]⟩) (λ_ R s=>NB s.heap z xs /\
   R (.ok (.ret (.ref (s.heap.push z.it).objs.size))) { s with heap:=(s.heap.push z.it).push { cls:=.type "enumerate",data:=.fields #[.none,.bool false,.ref s.heap.objs.size,rawInt 0,.none,.none] } }) :=
 .of_wp λy w A R s h=>by
  obtain⟨b,g,d,v,a⟩:=s;obtain⟨k,h⟩:=h;have u:=sub_enumerate;have x:NB (Shared.heap ⟨b,g,d,v,a⟩) z xs:=k;wp_walk;refine wpAny_stack_any λst=>QN ?_;split;rename_i cl _ _ _ _ _;cases(cl==Value.type "enumerate")<;>(wp_walk using KR x;exact⟨_,rfl,h⟩)
  wp_walk using KR x;exact⟨_,rfl,h⟩
section
variable{prog:Program}{w:World}{A:Around}{E:YC}{s:Shared}
theorem NX{h:Heap}{z:Src}{n:Int}:IsEnum ((h.push z.it).push { cls:=.type "enumerate",data:=.fields #[.none,.bool false,.ref h.objs.size,rawInt n,.none,.none] }) (h.objs.size+1) h.objs.size n .none:=by have:=QZ (h.push z.it) (o:={ cls:=.type "enumerate",data:=.fields #[.none,.bool false,.ref h.objs.size,rawInt n,.none,.none] }) rfl;rw[QAG]at this;exact this
theorem xW{z:Src}{xs:Array Value}{Q:YC}(y:NB s.heap z xs)
  (h:∀h',nW (s.heap.objs.size+1) s.heap.objs.size z 0 0 h'->(∀c o,s.heap.get? c=some o->h'.get? c=some o)->Q (.ref (s.heap.objs.size+1)) { s with heap:=h' }):wpAny (model prog w) A (call (.type "enumerate") [.ref z.adr]) Q E s:=by
 refine callType_new PySem.F.called_enumerate (by decide) (PySem.F.typeCall_enumerate_1 _) (PySem.F.newCall_enumerate_1 _) (λobj=>PySem.F.args_object_init_2 obj _) PySem.F.entry_enumerate_new (YZ z xs) ⟨y,?_⟩;show _/\_;rw[QAG];exact⟨⟨_,NX,rfl⟩,h _ ⟨⟨.none,NX⟩,(Z8 s.heap z).keep λo e=>QK _ e⟩ λc o x=>QK _ (QK _ x)⟩
end
theorem uw{a b:Nat}(h:a≠b):((a:Addr)≠(b:Addr)):=h
inductive Bi where
 |len|any|max|list|sorted|tuple|int
 deriving DecidableEq
inductive Mt where
 |append|pop|setd|extend
 deriving DecidableEq
inductive ItK where
 |val|rng1|enum|itm
 deriving DecidableEq
inductive Tg where
 |nm (i:Nat)|tp (is:LN)
 deriving DecidableEq
set_option genSizeOf false in
set_option genInjectivity false in
inductive PX where
 |xz (i:Nat)|int (i:Int)|str (x:Str)|bl (b:Bool)|non
 |glo (x:Str)
 |bin (op:Operator) (a b:PX)
 |cmp (op:CmpOp) (a b:PX)
 |and (a b:PX)|or (a b:PX)|not (a:PX)
 |call (f:Str) (as:PX)
 |bi (f:Bi) (as:PX)
 |mt (m:Mt) (o as:PX)
 |idx (a b:PX)|slc (a lo hi:PX)|nop
 |lst (as:PX)|tup (as:PX)|dnew (b:Bool)|dsp (a b:PX)
 |comp (mask:List Bool) (tgs:LS) (tg:Tg) (ik:ItK) (its cond elt:PX)
 |nz|ny (a as:PX)|ng (i:Int)
structure Ev where
 sp:Str->Sp
 va:Str->V
structure W3 where
 e:TE
 t:TT
 a:TA
def never:W3:=⟨λ_ _ _=>False,λ_ _ _=>False,λ_ _ _=>False⟩
def IG(K:QE)(x:V)(H:Hp)(Q:Bool->Hp->Prop):Prop:=match x with
 | .bl b=>Q b H|.int i=>Q (i != 0) H|.non=>Q false H|.str z=>z.length<=sizeLine/\Q ((z.length:Int) != 0) H|x=>∃k,Vj K x H k/\Q k H
def t7(x:V)(H:Hp)(Q:Bool->Hp->Prop):Prop:=match x with
 | .bl b=>Q b H|_=>False
noncomputable def Sb(K:QE):Operator->R2
 | .Add=>um K|.Sub=>Tl|.Mult=>Il K|.FloorDiv=>Vc|.Mod=>jm|_=>λ_ _ _ _=>False
noncomputable def YX(neg:Bool):R2:=λx y H Q=>match y with
 | .non=>Q (.bl (if neg then !decide (x=.non) else decide (x=.non))) H|.bl c=>∃b,x=.bl b/\Q (.bl (if neg then !decide (b=c) else decide (b=c))) H|_=>False
noncomputable def S6(K:QE):CmpOp->R2
 | .Eq=>rEq K false|.NotEq=>rEq K true|.Lt=>KY λi j=>decide (i<j)|.LtE=>KY λi j=>decide (i<=j)|.Gt=>KY λi j=>decide (j<i)|.GtE=>KY λi j=>decide (j<=i)|.In=>TR K false|.NotIn=>TR K true|.Is=>YX false|.IsNot=>YX true
noncomputable def VY(K:QE):R2:=λx y H Q=>match x,y with
 | .str z,.int i=>z.length<=sizeLine/\∃c,pD z.cps.toList i=some c/\Q (.str ⟨#[c]⟩) H|.ref a,.int i=>∃h v,(EC K H a h∨AD K H a h)/\pD h i=some v/\Q v H|.ref a,.str z=>∃v,uR K H a (.str z) (some v)/\Q v H|.ref a,.ref b=>∃v,uR K H a (.ref b) (some v)/\Q v H|_,_=>False
def M8(K:QE):LV->Hp->VK->Prop:=λx H Q=>∃p h,x=[.ref p]/\(EC K H p h∨AD K H p h)/\∀l,H l=none->Q (.ref l) (BA H l (.lst h))
def AW(K:QE):LV->Hp->VK->Prop:=λk H Q=>∃p,k=[.ref p]/\((∃z:LS,EC K H p (z.map V.str)/\z.length<64/\∀l h,H l=none->h.Perm z->sortedS h=true->Q (.ref l) (BA H l (.lst (h.map V.str)))) ∨
   (∃u,EC K H p u/\u.length<64/\(∀x∈u,∃a,∃z:LS,x=.ref a/\EC K H a (z.map V.str))/\∀l w,H l=none->w.Perm u->Q (.ref l) (BA H l (.lst w))) ∨
   (∃v:LJ,EC K H p (v.map V.int)/\v.length<64/\∀l (y:LJ),H l=none->y.Perm v->y.Pairwise (·<=·)->Q (.ref l) (BA H l (.lst (y.map V.int)))))
def J3(K:QE):LV->Hp->VK->Prop:=λx H Q=>∃p h,x=[.ref p]/\EC K H p h/\∀l,H l=none->Q (.ref l) (BA H l (.tup h))
def Kc:LV->Hp->VK->Prop:=λh H Q=>∃b:Bool,h=[.bl b]/\Q (.int (if b then 1 else 0)) H
noncomputable def Co(K:QE):Bi->LV->Hp->VK->Prop
 | .len=>ym K|.any=>xm K|.list=>M8 K|.sorted=>AW K|.max=>λh H Q=>∃i j,h=[.int i,.int j]/\Q (.int (if j > i then j else i)) H|.tuple=>J3 K|.int=>Kc
def Zc:V->LV->Hp->VK->Prop:=λx y H Q=>∃l i h k v,x=.ref l/\(y=[.int i]∨y=[]/\i=-1)/\H l=some (.lst h)/\UO h.length i=some k/\h[k]?=some v/\Q v (BA H l (.lst (h.eraseIdx k)))
def Xc:V->LV->Hp->VK->Prop:=λx z H Q=>∃l b y h,x=.ref l/\z=[.ref b]/\H l=some (.lst y)/\H b=some (.lst h)/\y.length+h.length<=sizeLine/\Q .non (BA H l (.lst (y++h)))
noncomputable def Ja(K:QE):Mt->V->LV->Hp->VK->Prop
 | .append=>EW|.pop=>Zc|.setd=>vL K|.extend=>Xc
noncomputable def Mt.ty:Mt->String
 | .append=>"list"|.pop=>"list"|.setd=>"dict"|.extend=>"list"
def cM(x:V)(H:Hp)(Q:Option Int->Hp->Prop):Prop:=match x with
 | .int i=>Q (some i) H|_=>False
inductive Item where
 |one (v:V)|tup (vs:LV)
noncomputable def VC(K:QE):ItK->LV->Hp->(List Item->(Hp->Prop)->Hp->Prop)->Prop
 | .val,[.ref a],H,R=>(∃x,EC K H a x/\R (x.map .one) (λH=>EC K H a x) H)∨(∃x,AD K H a x/\R (x.map .one) (λH=>AD K H a x) H)∨(∃y,∃h:List KE,H a=some (.dT y h)/\R (h.map λp=>.one (.ref p.2.1)) (λH=>H a=some (.dT y h)) H)|.rng1,[.int j],H,R=>(-(2 ^ 62)<=j/\j<2 ^ 62)/\R ((Qr j.toNat).map λ(i:Nat)=>.one (.int (i:Int))) (λ_=>True) H|.enum,[.ref a],H,R=>∃z x,Src.adr z=a/\Y0 K H z x/\R (x.zipIdx.map λp=>.tup [.int (p.2:Int),p.1]) (λH=>Y0 K H z x) H|.itm,[.ref a],H,R=>∃y,∃h:List KE,H a=some (.dT y h)/\R (h.map λp=>.tup [.ref p.2.1,p.2.2]) (λH=>H a=some (.dT y h)) H|_,_,_,_=>False
noncomputable def kB:LN->LV->St->Option St
 |[],[],σ=>some σ|i::is,v::vs,σ=>kB is vs (σ.set i (some v))|_,_,_=>none
noncomputable def tE(K:QE):Tg->TG
 | .nm i=>λv x H Q=>Q (x.set i (some v)) H|.tp z=>λv x H Q=>match v with
  | .ref p=>∃y h,AD K H p y/\kB z y x=some h/\Q h H|_=>False
noncomputable def bindI(K:QE)(z:Tg):Item->St->Hp->(St->Hp->Prop)->Prop
 | .one v=>tE K z v|.tup y=>λx H Q=>match z with
  | .tp w=>∀u,Same H u->∃h,kB w y x=some h/\Q h u|.nm i=>∀p,H p=none->Q (x.set i (some (.ref p))) (BA H p (.tup y))
def yo(K:QE)(xs:List Item)(st:Hp->Prop)(bind:Item->St->Hp->(St->Hp->Prop)->Prop)(tc:TT)(te:TE)(σ:St)(H:Hp)(Q:VK):Prop :=
 ∃W:Nat->LV->Hp->Prop,W 0 [] H/\(∀i h H,i<=xs.length->W i h H->st H) /\
  (∀i x h H,xs[i]?=some x->W i h H->bind x σ H λz u=>tc z u λb v=>if b=true then te z v λy w=>h.length<sizeLine/\W (i+1) (h++[y]) w else W (i+1) h v) /\
  ∀h u,W xs.length h u->h.length<=sizeLine/\∀p,u p=none->Q (.ref p) (BA u p (.lst h))
structure Yields(J:It)(xs:List Item)(st:Hp->Prop):Prop where
 go:∀i H,st H->i<xs.length->J.go i H
 yld:∀i H x H',st H->i<xs.length->J.yld i H x H'->∃it,xs[i]?=some it/\match it with
  | .one v=>x=v/\H'=H|.tup vs=>∃p,H p=none/\x=.ref p/\H'=BA H p (.tup vs)
 stop:∀i H,st H->xs.length<=i->J.stop i H
def zo(J:It)(g:TG)(tc:TT)(te:TE)(k:St)(l:Hp)(Q:VK):Prop:=∃W:Nat->Nat->LV->St->Hp->Prop,(∃m,W 0 m [] k l) /\
 ∀i m h v u,W i m h v u->(J.stop i u/\h.length<=sizeLine/\∀p,u p=none->Q (.ref p) (BA u p (.lst h))) ∨
  (J.go i u/\∀x e,J.yld i u x e->g x v e λz j=>tc z j λb a=>if b=true then te z a λy f=>h.length<sizeLine/\∃w,w < m/\W (i+1) w (h++[y]) z f else ∃w,w < m/\W (i+1) w h z a)
def gY(K:QE)(xs:List Item)(st:Hp->Prop)(x:Tg)(tc:TT)(te:TE)(h:St)(H:Hp)(Q:VK):Prop:=∀J,Yields J xs st->zo J (tE K x) tc te h H Q
def isNop:PX->Bool
 | .nop=>true|_=>false
noncomputable def wp(K:QE)(Γ:Ev):PX->XK->W3
 | .xz i,E=>let e:TE:=λh H Q=>match h[i]? with
   |some (some v)=>Q v H|_=>False
  ⟨e,λh H Q=>e h H λx z=>IG K x z Q,never.a⟩
 | .int i,E=>⟨λ_ H Q=>Q (.int i) H,λ_ H Q=>Q (i != 0) H,never.a⟩|.str x,E=>⟨λ_ H Q=>Q (.str x) H,never.t,never.a⟩|.bl b,E=>⟨λ_ H Q=>Q (.bl b) H,λ_ H Q=>Q b H,never.a⟩|.non,E=>⟨λ_ H Q=>Q .non H,λ_ H Q=>Q false H,never.a⟩|.glo x,E=>⟨λ_ H Q=>Q (Γ.va x) H,λ_ H Q=>IG K (Γ.va x) H Q,never.a⟩|.bin op a b,E=>let e:TE:=λh H Q=>(wp K Γ a E).e h H λx z=>(wp K Γ b E).e h z λy w=>Sb K op x y w Q
  ⟨e,λh H Q=>e h H λx z=>IG K x z Q,never.a⟩
 | .cmp op a b,E=>let e:TE:=λh H Q=>(wp K Γ a E).e h H λx z=>(wp K Γ b E).e h z λy w=>S6 K op x y w Q
  ⟨e,λh H Q=>e h H λx z=>t7 x z Q,never.a⟩
 | .and a b,E=>⟨λh H Q=>(wp K Γ a E).e h H λx z=>t7 x z λc w=>if c=true then(wp K Γ b E).e h w Q else Q (.bl false) w,
   λh H Q=>(wp K Γ a E).t h H λc z=>if c=true then(wp K Γ b E).t h z Q else Q false z,never.a⟩
 | .or a b,E=>⟨λh H Q=>(wp K Γ a E).e h H λx z=>t7 x z λc w=>if c=true then Q (.bl true) w else(wp K Γ b E).e h w Q,
   λh H Q=>(wp K Γ a E).t h H λc z=>if c=true then Q true z else(wp K Γ b E).t h z Q,never.a⟩
 | .not a,E=>⟨λh H Q=>(wp K Γ a E).e h H λx z=>IG K x z λc w=>Q (.bl (!c)) w,λh H Q=>(wp K Γ a E).t h H λc z=>Q (!c) z,never.a⟩|.call f as,E=>let e:TE:=λh H Q=>(wp K Γ as E).a h H λg z=>Γ.sp f g z Q E
  ⟨e,λh H Q=>e h H λx z=>IG K x z Q,never.a⟩
 | .bi f as,E=>let e:TE:=λh H Q=>(wp K Γ as E).a h H λg z=>Co K f g z Q
  ⟨e,λh H Q=>e h H λx z=>IG K x z Q,never.a⟩
 | .mt m o as,E=>let e:TE:=λh H Q=>(wp K Γ o E).e h H λx z=>EZ K m.ty x z/\(wp K Γ as E).a h z λg w=>Ja K m x g w Q
  ⟨e,λh H Q=>e h H λx z=>IG K x z Q,never.a⟩
 | .idx a b,E=>let e:TE:=λh H Q=>(wp K Γ a E).e h H λx z=>(wp K Γ b E).e h z λy w=>VY K x y w Q
  ⟨e,λh H Q=>e h H λx z=>IG K x z Q,never.a⟩
 | .slc a lo hi,E=>⟨λh H Q=>(wp K Γ a E).e h H λx z =>
   (if isNop lo=true then λ(R:Option Int->Hp->Prop)=>R none z else λR=>(wp K Γ lo E).e h z λl w=>cM l w R) λl w =>
   (if isNop hi=true then λ(R:Option Int->Hp->Prop)=>R none w else λR=>(wp K Γ hi E).e h w λu j=>cM u j R) λu j=>yr K x l u j Q,never.t,never.a⟩
 | .nop,E=>never|.lst as,E=>⟨λh H Q=>(wp K Γ as E).a h H λk z=>k.length<=sizeLine/\∀p,z p=none->Q (.ref p) (BA z p (.lst k)),never.t,never.a⟩|.tup as,E=>⟨λh H Q=>(wp K Γ as E).a h H λk z=>k.length<=sizeLine/\∀p,z p=none->Q (.ref p) (BA z p (.tup k)),never.t,never.a⟩|.comp mask tgs tg ik its cond elt,E=>⟨λh H Q=>(wp K Γ its E).a h H λg z=>VC K ik g z λk st w =>
   gY K k st tg (if isNop cond=true then λ_ H Q=>Q true H else(wp K Γ cond (λ_ _ _=>False)).t) (wp K Γ elt (λ_ _ _=>False)).e (DI tgs.length mask h) w Q,never.t,never.a⟩
 | .dnew b,E=>⟨λ_ H Q=>∀p,H p=none->Q (.ref p) (BA H p (.dT 0 [])),never.t,never.a⟩|.dsp a b,E=>⟨λh H Q=>∀p,H p=none->(wp K Γ a E).e h (BA H p (.dT 0 [])) λy z=>(wp K Γ b E).e h z λv w=>w p=some (.dT 0 [])/\∃b n,y=.ref b/\jO K w b n/\∀q,Q (.ref p) (BA w p (.dT q [(n,b,v)])),never.t,never.a⟩|.ng i,E=>⟨λh H Q=>Q (.int (-i)) H,never.t,never.a⟩|.nz,E=>⟨never.e,never.t,λ_ H Q=>Q [] H⟩|.ny a as,E=>⟨never.e,never.t,λh H Q=>(wp K Γ a E).e h H λx z=>(wp K Γ as E).a h z λk w=>Q (x::k) w⟩
structure Glob where
 ev:Ev
 fn:Str->Prop
 val:Str->Prop
 no:Str->Prop
noncomputable def Bi.nm:Bi->Str
 | .len=>"len"|.any=>"any"|.list=>"list"|.sorted=>"sorted"|.max=>"max"|.tuple=>"tuple"|.int=>"int"
noncomputable def Mt.nm:Mt->Str
 | .append=>"append"|.pop=>"pop"|.setd=>"setdefault"|.extend=>"extend"
noncomputable def Xn(G:Glob):ItK->Prop
 | .val=>True|.rng1=>G.no "range"|.enum=>G.no "enumerate"|.itm=>True
noncomputable def uB(G:Glob):PX->Prop
 | .glo x=>G.val x|.bin _ a b | .cmp _ a b | .and a b | .or a b | .idx a b | .ny a b | .dsp a b=>uB G a/\uB G b
 | .not a | .lst a | .tup a=>uB G a
 | .slc a b c=>uB G a/\uB G b/\uB G c|.call f y=>G.fn f/\uB G y|.bi f y=>G.no f.nm/\uB G y|.mt _ o y=>uB G o/\uB G y|.comp _ _ _ v z h u=>Xn G v/\uB G z/\uB G h/\uB G u|_=>True
structure SC where
 N:LS
 sc:Scope
def FE:Expr->Bool
 | .Starred _ _=>false|_=>true
noncomputable def Hf(S:SC)(i:Nat)(x:Str):Bool :=
 S.N[i]?==some x&&(S.sc.names.lookup x==some .local||S.sc.names.lookup x==some .cell||S.sc.names.lookup x==some .free)&&x != "__debug__" && x != "__classdict__"
noncomputable def Ch(S:SC)(i:Nat)(x:Str):Bool:=S.N[i]?==some x&&S.sc.names.lookup x==some .local
noncomputable def YV(S:SC)(x:Str):Bool:=S.sc.names.lookup x==some .globalImplicit&&x != "__debug__" && x != "__name__"
noncomputable def EX(S:SC)(h:Scope)(y:LS)(x:List Bool):SC:=⟨y++XB x 0 S.N,PL h S.sc⟩
def JJ:LS->Bool
 |[]=>true|x::r=>!r.contains x&&JJ r
noncomputable def P6(S:SC)(h:Scope)(z:LS)(x:List Bool):Bool :=
 h.kind==.function&&h.names.all (λy=>y.2 != .cell&&(y.2 != .local||(h.names.lookup y.1==some .local&&(z.contains y.1||y.1==(".0":Str)))) &&
  (y.2 != .free||S.sc.names.lookup y.1==some .cell||S.sc.names.lookup y.1==some .free))&&JJ (z++XB x 0 S.N)&&!(z++XB x 0 S.N).contains (".0":Str)
noncomputable def ck(c:Bool)(S:SC)(i:Nat)(x:Str):Bool:=S.N[i]?==some x&&(S.sc.names.lookup x==some .local||(c&&S.sc.names.lookup x==some .cell))
noncomputable def Dp(c:Bool)(S:SC):Tg->Expr->Bool
 | .nm i,.Name x _=>ck c S i x|.tp is,.Tuple es _ _=>is.length==es.length&&(is.zip es).all λp=>match p.2 with
  | .Name x _=>ck c S p.1 x|_=>false
 |_,_=>false
noncomputable def xQ:Expr->Bool
 | .Call (.Name _ _) [] [] _=>false|_=>true
def lS:Expr->Bool
 | .Set _ _ _=>false|_=>true
def uQ:Expr->Bool
 | .Slice _ _ _ _=>false|_=>true
def AE:PX->Bool
 | .nz=>true|.ny _ r=>AE r|_=>false
def eQ:Expr->Bool
 | .Tuple _ _ _=>true|_=>false
section
variable{α:Type}
section
variable{e:Expr}{l:List α}
noncomputable def iJ(e:Expr)(f:Str->Pos->Bool):Bool:=match e with | .Name x p=>f x p|_=>false
noncomputable def LG(e:Expr)(f:Const->Bool):Bool:=match e with | .Constant c _ _=>f c|_=>false
noncomputable def Oc(e:Expr)(f:Expr->Operator->Expr->Pos->Bool):Bool:=match e with | .BinOp l o r p=>f l o r p|_=>false
noncomputable def Sg(e:Expr)(f:UnaryOp->Expr->Bool):Bool:=match e with | .UnaryOp o x _=>f o x|_=>false
noncomputable def Nc(e:Expr)(f:Expr->List CmpOp->List Expr->Bool):Bool:=match e with | .Compare l x h _=>f l x h|_=>false
noncomputable def SU(e:Expr)(f:BoolOp->List Expr->Pos->Bool):Bool:=match e with | .BoolOp o h p=>f o h p|_=>false
noncomputable def RU(e:Expr)(f:Expr->List Expr->List Keyword->Pos->Bool):Bool:=match e with | .Call g x h p=>f g x h p|_=>false
noncomputable def V4(e:Expr)(f:Expr->Str->Pos->Bool):Bool:=match e with | .Attribute v n p=>f v n p|_=>false
noncomputable def dX(e:Expr)(f:Expr->Expr->Pos->Bool):Bool:=match e with | .Subscript v i p=>f v i p|_=>false
noncomputable def fX(e:Expr)(f:Option Expr->Option Expr->Option Expr->Bool):Bool:=match e with | .Slice l h s _=>f l h s|_=>false
noncomputable def jQ(e:Expr)(f:List Expr->Pos->Bool):Bool:=match e with | .List h p=>f h p|_=>false
noncomputable def Gc(e:Expr)(f:List Expr->Nat->Pos->Bool):Bool:=match e with | .Tuple h k p=>f h k p|_=>false
noncomputable def Ag(e:Expr)(f:Expr->List Comprehension->Scope->Pos->Bool):Bool:=match e with | .ListComp x h sc p=>f x h sc p|_=>false
noncomputable def PU(e:Expr)(f:List (Option Expr)->List Expr->Bool):Bool:=match e with | .Dict x h _=>f x h|_=>false
noncomputable def JN(l:List α)(f:α->Bool):Bool:=match l with | [x]=>f x|_=>false
noncomputable def V9(l:List α)(f:α->List α->Bool):Bool:=match l with|x::r=>f x r|_=>false
noncomputable def Xm(o:Option α)(n:Bool)(f:α->Bool):Bool:=match o with|none=>n|some x=>f x
theorem PF{f:Str->Pos->Bool}(h:iJ e f=true):∃x p,e=.Name x p/\f x p=true:=by
 cases e with|Name x p=>exact⟨x,p,rfl,h⟩|_=>exact(QG h).elim
theorem mE{f:Const->Bool}(h:LG e f=true):∃c k p,e=.Constant c k p/\f c=true:=by
 cases e with|Constant c k p=>exact⟨c,k,p,rfl,h⟩|_=>exact(QG h).elim
theorem X9{f:Expr->Operator->Expr->Pos->Bool}(h:Oc e f=true):∃l o r p,e=.BinOp l o r p/\f l o r p=true:=by
 cases e with|BinOp l o r p=>exact⟨l,o,r,p,rfl,h⟩|_=>exact(QG h).elim
theorem Y4{f:UnaryOp->Expr->Bool}(h:Sg e f=true):∃o x p,e=.UnaryOp o x p/\f o x=true:=by
 cases e with|UnaryOp o x p=>exact⟨o,x,p,rfl,h⟩|_=>exact(QG h).elim
theorem K9{f:Expr->List CmpOp->List Expr->Bool}(h:Nc e f=true):∃l y x p,e=.Compare l y x p/\f l y x=true:=by
 cases e with|Compare l y x p=>exact⟨l,y,x,p,rfl,h⟩|_=>exact(QG h).elim
theorem xS{f:BoolOp->List Expr->Pos->Bool}(h:SU e f=true):∃o es p,e=.BoolOp o es p/\f o es p=true:=by
 cases e with|BoolOp o es p=>exact⟨o,es,p,rfl,h⟩|_=>exact(QG h).elim
theorem vS{f:Expr->List Expr->List Keyword->Pos->Bool}(h:RU e f=true):∃g es ks p,e=.Call g es ks p/\f g es ks p=true:=by
 cases e with|Call g es ks p=>exact⟨g,es,ks,p,rfl,h⟩|_=>exact(QG h).elim
theorem K4{f:Expr->Str->Pos->Bool}(h:V4 e f=true):∃v n p,e=.Attribute v n p/\f v n p=true:=by
 cases e with|Attribute v n p=>exact⟨v,n,p,rfl,h⟩|_=>exact(QG h).elim
theorem IP{f:Expr->Expr->Pos->Bool}(h:dX e f=true):∃v i p,e=.Subscript v i p/\f v i p=true:=by
 cases e with|Subscript v i p=>exact⟨v,i,p,rfl,h⟩|_=>exact(QG h).elim
theorem HY{f:Option Expr->Option Expr->Option Expr->Bool}(h:fX e f=true):∃l u s p,e=.Slice l u s p/\f l u s=true:=by
 cases e with|Slice l u s p=>exact⟨l,u,s,p,rfl,h⟩|_=>exact(QG h).elim
theorem lM{f:List Expr->Pos->Bool}(h:jQ e f=true):∃es p,e=.List es p/\f es p=true:=by
 cases e with|List es p=>exact⟨es,p,rfl,h⟩|_=>exact(QG h).elim
theorem i9{f:List Expr->Nat->Pos->Bool}(h:Gc e f=true):∃es k p,e=.Tuple es k p/\f es k p=true:=by
 cases e with|Tuple es k p=>exact⟨es,k,p,rfl,h⟩|_=>exact(QG h).elim
theorem OU{f:Expr->List Comprehension->Scope->Pos->Bool}(h:Ag e f=true):∃x y sc p,e=.ListComp x y sc p/\f x y sc p=true:=by
 cases e with|ListComp x y sc p=>exact⟨x,y,sc,p,rfl,h⟩|_=>exact(QG h).elim
theorem zS{f:List (Option Expr)->List Expr->Bool}(h:PU e f=true):∃ks vs p,e=.Dict ks vs p/\f ks vs=true:=by
 cases e with|Dict ks vs p=>exact⟨ks,vs,p,rfl,h⟩|_=>exact(QG h).elim
theorem YK{f:α->List α->Bool}(h:V9 l f=true):∃x r,l=x::r/\f x r=true:=by
 cases l with|nil=>exact(QG h).elim|cons x r=>exact⟨x,r,rfl,h⟩
theorem EB{f:α->Bool}(h:JN l f=true):∃x,l=[x]/\f x=true:=by
 cases l with
 |nil=>exact(QG h).elim|cons x r =>
  cases r with|nil=>exact⟨x,rfl,h⟩|cons _ _=>exact(QG h).elim
end
end
section
variable{c:Const}{n:Str}{e:Expr}
noncomputable def yj(c:Const)(f:Int->Bool):Bool:=match c with | .int i=>f i|_=>false
noncomputable def Zo(c:Const)(f:Str->Bool):Bool:=match c with | .str i=>f i|_=>false
noncomputable def ze(c:Const)(f:Bool->Bool):Bool:=match c with | .bool i=>f i|_=>false
def ye(c:Const):Bool:=match c with | .none=>true|_=>false
theorem b7{f:Int->Bool}(h:yj c f=true):∃i,c=.int i/\f i=true:=by
 cases c with|int i=>exact⟨i,rfl,h⟩|_=>exact(QG h).elim
theorem jj{f:Str->Bool}(h:Zo c f=true):∃i,c=.str i/\f i=true:=by
 cases c with|str i=>exact⟨i,rfl,h⟩|_=>exact(QG h).elim
theorem Pb{f:Bool->Bool}(h:ze c f=true):∃i,c=.bool i/\f i=true:=by
 cases c with|bool i=>exact⟨i,rfl,h⟩|_=>exact(QG h).elim
theorem Ob(h:ye c=true):c=.none:=by
 cases c with|none=>rfl|_=>exact(QG h).elim
theorem zA{a b:Bool}(h:(a&&b)=true):a=true/\b=true:=by cases a<;>cases b<;>first|exact⟨rfl,rfl⟩| exact(QG h).elim
noncomputable def GT(S:SC)(n:Str)(e:Expr)(f:List Expr->List Keyword->Pos->Bool):Bool:=RU e λg y h p=>iJ g λx _=>n==x&&(YV S x&&f y h p)
theorem lL{S:SC}{f:List Expr->List Keyword->Pos->Bool}(h:GT S n e f=true):∃y es ks p,e=.Call (.Name n y) es ks p/\YV S n=true/\f es ks p=true:=by obtain⟨g,es,ks,p,rfl,w⟩:=vS h;obtain⟨x,y,rfl,v⟩:=PF w;have u:=zA v;have z:=zA u.2;have e:=qg u.1;exact⟨y,es,ks,p,by rw[e],by rw[e];exact z.1,z.2⟩
noncomputable def Z5(n:Str)(e:Expr)(f:Expr->List Expr->Pos->Pos->Bool):Bool:=RU e λg z y p=>V4 g λv x h=>n==x&&(y.isEmpty&&(h.endLine==p.line&&f v z h p))
theorem pX{f:Expr->List Expr->Pos->Pos->Bool}(h:Z5 n e f=true):∃v y es p,e=.Call (.Attribute v n y) es [] p/\(y.endLine==p.line)=true/\f v es y p=true:=by obtain⟨g,es,i,p,rfl,a⟩:=vS h;obtain⟨v,x,y,rfl,k⟩:=K4 a;have w:=zA k;have u:=zA w.2;have z:=zA u.2;have e:=qg w.1;have b:=Q5.mp u.1;exact⟨v,y,es,p,by rw[e,b],z.1,z.2⟩
noncomputable def vd(x:BoolOp)(r:Expr)(h:List Expr)(pos:Pos):Expr:=match h with
 |[]=>r|q::t=>.BoolOp x (r::q::t) pos
noncomputable def Mp(y:Bool)(S:SC)(z:ItK)(c:List Expr->Pos->Bool)(t it:Expr)(pos:Pos):Bool:=match z with
 | .val=>y&&c [it] pos|.rng1=>GT S "range" it λh x p=>x.isEmpty&&JN h λa=>c [a] p|.enum=>eQ t&&GT S "enumerate" it λh x p=>x.isEmpty&&JN h λa=>c [a] p|.itm=>eQ t&&(y&&Z5 "items" it λv h _ p=>xQ v&&(h.isEmpty&&c [v] p))
noncomputable def Nr(h:List Expr)(n:Bool)(f:Expr->Bool):Bool:=match h with
 |[]=>n|c::r=>r.isEmpty&&(!n&&f c)
def isItm:ItK->Bool
 | .itm=>true|_=>false
noncomputable def fC:PX->SC->Expr->Bool
 | .xz i,S,e=>iJ e λx _=>Hf S i x|.int i,_,e=>LG e λc=>yj c λj=>i==j|.str x,_,e=>LG e λc=>Zo c λy=>x==y|.bl b,_,e=>LG e λc=>ze c λk=>b==k|.non,_,e=>LG e ye|.glo x,S,e=>iJ e λy _=>x==y&&YV S x|.bin op a b,S,e=>Oc e λl o r _=>op==o&&(fC a S l&&fC b S r)|.cmp op a b,S,e=>Nc e λl Z Y=>JN Z λo=>JN Y λr=>op==o&&(lS r&&(fC a S l&&fC b S r))|.and a b,S,e=>SU e λo z p=>o==.And&&V9 z λl t=>V9 t λr t=>fC a S l&&fC b S (vd .And r t p)|.or a b,S,e=>SU e λo z p=>o==.Or&&V9 z λl t=>V9 t λr t=>fC a S l&&fC b S (vd .Or r t p)|.not a,S,e=>Sg e λo x=>o==.Not&&fC a S x|.call f as,S,e=>GT S f e λz w p=>w.isEmpty&&fC as S (.List z p)|.bi f as,S,e=>GT S f.nm e λz w p=>w.isEmpty&&V9 z λx t=>fC as S (.List (x::t) p)|.mt m o as,S,e=>Z5 m.nm e λv z _ p=>AE as&&(xQ v&&(decide (z.length<20)&&(fC o S v&&fC as S (.List z p))))|.idx a b,S,e=>dX e λv i _=>uQ i&&(fC a S v&&fC b S i)|.slc a lo hi,S,e=>dX e λv X _=>fX X λl h s=>s.isNone&&(fC a S v&&(Xm l (isNop lo) (λe=>!isNop lo&&fC lo S e)&&Xm h (isNop hi) λe=>!isNop hi&&fC hi S e))|.nop,_,_=>false|.lst as,S,e=>jQ e λz p=>fC as S (.List z p)|.tup as,S,e=>Gc e λz _ p=>fC as S (.List z p)|.comp mask tgs tg ik its cond elt,S,e=>Ag e λK W u p=>JN W λg=>g.is_async==0&&(!isItm ik&&(P6 S u tgs mask&&(Dp false (EX S u tgs mask) tg g.target&&(lS g.iter &&
   (Mp (AE its) S ik (λz p=>fC its S (.List z p)) g.target g.iter p&&(Nr g.ifs (isNop cond) (λc=>fC cond (EX S u tgs mask) c)&&fC elt (EX S u tgs mask) K))))))
 | .dnew _,_,e=>PU e λw q=>w.isEmpty&&q.isEmpty|.dsp a b,S,e=>PU e λw q=>JN w λk=>JN q λv=>Xm k false (fC a S)&&fC b S v|.ng i,_,e=>Sg e λo x=>o==.USub&&LG x λc=>yj c λj=>i==j|.nz,_,e=>jQ e λz _=>z.isEmpty|.ny a as,S,e=>jQ e λz p=>V9 z λx t=>FE x&&(fC a S x&&fC as S (.List t p))
end
variable{Γ:Ev}
theorem sj(x:V)(H:Hp)(Q:Bool->Hp->Prop):t7 x H Q=∃k,x=.bl k/\Q k H:=by
 apply propext;cases x with|bl b=>exact⟨λh=>⟨b,rfl,h⟩,λ⟨k,e,h⟩=>by cases e;exact h⟩|_=>exact⟨λh=>Qd h,λ⟨k,e,h⟩=>by cases e⟩
theorem y4(x:V)(H:Hp)(Q:Option Int->Hp->Prop):cM x H Q=∃i,x=.int i/\Q (some i) H:=by
 apply propext;cases x with|int b=>exact⟨λh=>⟨b,rfl,h⟩,λ⟨k,e,h⟩=>by cases e;exact h⟩|_=>exact⟨λh=>Qd h,λ⟨k,e,h⟩=>by cases e⟩
theorem VW(K:QE)(x:V)(H:Hp)(Q:Bool->Hp->Prop):IG K x H Q=∃k,Vj K x H k/\Q k H:=by
 apply propext;cases x with|bl b=>exact⟨λh=>⟨b,rfl,h⟩,λ⟨k,(e:k=b),h⟩=>by subst e;exact h⟩|int i=>exact⟨λh=>⟨i != 0,rfl,h⟩,λ⟨k,(e:k=(i != 0)),h⟩=>by subst e;exact h⟩|non=>exact⟨λh=>⟨false,rfl,h⟩,λ⟨k,(e:k=false),h⟩=>by subst e;exact h⟩|str z=>exact⟨λh=>⟨_,⟨h.1,rfl⟩,h.2⟩,λ⟨k,⟨u,y⟩,h⟩=>by subst y;exact⟨u,h⟩⟩|_=>exact wY
section
variable{X:Cx}
section
variable{e b:Expr}{es:List Expr}{env:Env}{its:LW}
theorem A3:PE X e never.e:=λ_ _ _ _ _ _ h=>Qd h
theorem AL:PT X e never.t:=λ_ _ _ _ _ _ h=>Qd h
theorem jS:PA X es never.a:=λ_ _ _ _ _ _ _ h=>Qd h
theorem ID{a:Expr}{ta:TE}(i:PE X a ta)(g:∀y,isTrue a X.env y=(do let v <- y;standAt a.pos;holding [v] (truthy v))) :
  PT X a (λσ H Q=>ta σ H λx l=>IG X.K x l Q):=by
 intro z s σ H Q I h;refine isTrue_plain (AB (i z s σ H _ I h) λv k ⟨x,w,j,f,u⟩=>?_) (g _);have u:IG X.K x w Q:=u;rw[VW]at u;exact G1 z k σ w x v Q j f u
theorem i4{f:Value->Value->Sem Value}:ZE X f (λ_ _ _ _=>False):=λ_ _ _ _ _ _ _ _ _ _ _ _ h=>h.elim
theorem Pg(h:Operator):ZE X (binaryOp h) (Sb X.K h):=by
 cases h with|Add=>exact op_add|Sub=>exact op_sub|Mult=>exact Ng|FloorDiv=>exact t9|Mod=>exact op_mod|_=>exact i4
theorem MS(neg:Bool){h:TB}{s:Shared}{σ:St}{H:Hp}{b c:Bool}{Q:VK}(I:Inv X h σ H s)(q:Q (.bl (if neg then !decide (b=c) else decide (b=c))) H):wpAny (model X.prog X.w) X.A (compareOp (if neg then .IsNot else .Is) (.bool b) (.bool c)) (EP X h σ Q) X.xe s:=by
 have e:compareOp (if neg then .IsNot else .Is) (.bool b) (.bool c)=pure (.bool (if neg then !decide (b=c) else decide (b=c))):=by cases neg<;>cases b<;>cases c<;>rfl
 rw[e];exact QN ⟨.bl _,H,I,rfl,q⟩
theorem J4(g:X.A.units+66<cLine)(f:CmpOp):ZE X (compareOp f) (S6 X.K f):=by
 cases f with
 |Eq=>exact op_eq (by omega)|NotEq=>exact op_ne (by omega)|Lt=>exact NP _root_.L2.op_lt|LtE=>exact NP _root_.L2.op_le|Gt=>exact NP _root_.L2.op_gt|GtE=>exact NP _root_.L2.op_ge|In=>exact Zm g|NotIn=>exact t4 g|Is =>
  intro z s a H x y v u Q I k w h;cases y with|non=>exact Og z s a H x _ v u Q I k w ⟨rfl,h⟩|bl c=>obtain⟨b,rfl,q⟩:=h;cases k;cases w;cases b<;>cases c<;>exact MS false I q|_=>exact Qd h
 |IsNot =>
  intro z s a H x y v u Q I k w h;cases y with|non=>exact r9 z s a H x _ v u Q I k w ⟨rfl,h⟩|bl c=>obtain⟨b,rfl,q⟩:=h;cases k;cases w;cases b<;>cases c<;>exact MS true I q|_=>exact Qd h
theorem Ih(Z:X.A.units+66<cLine):F7 X (VY X.K):=by
 intro w k f s n H x y v u Q I r p h Y;have sq:=λh=>Eh (X:=X) w k f s n H x y v u Q I r p h Y;have dc:=λh=>Na Z w k f s n H x y v u Q I r p h Y;cases x with
 |str z =>
  cases y with|int i=>obtain⟨W,c,m,q⟩:=h;exact sq (.inr (.inr ⟨z,i,c,rfl,rfl,W,m,q⟩))|_=>exact Qd h
 |ref a =>
  cases y with
  |int i=>obtain⟨o,j,l,m,q⟩:=h;rcases l with l|l;exact sq (.inl ⟨a,o,i,j,rfl,rfl,l,m,q⟩);exact sq (.inr (.inl ⟨a,o,i,j,rfl,rfl,l,m,q⟩))
  |str z=>obtain⟨j,g,q⟩:=h;exact dc ⟨a,j,rfl,g,q⟩|ref b=>obtain⟨j,g,q⟩:=h;exact dc ⟨a,j,rfl,g,q⟩|_=>exact Qd h
 |_=>exact Qd h
theorem j5{x:CmpOp}(h:lS b=true):behindInMarks x b=false:=by cases b<;>first|rfl|cases h
theorem y9(h:uQ b=true):cY b:=by intro o i;cases b<;>first|rfl|cases h
theorem PB(env:Env)(h:FE e=true):starEach (e::es) env=(false,eval e env)::starEach es env:=by cases e<;>first|rfl|cases h
theorem IU(h:lS e=true)(x:Value):foldedSetIterable e env x=pure x:=by cases e<;>first|rfl|cases h
theorem E4{o:Expr}{n:Str}(h:xQ o=true):attributeBase o n env (eval o env)=eval o env:=by unfold attributeBase;split;cases h;rfl
theorem ga:y8 X "list.pop" Zc:=by
 intro u s g H x z v j Q I m n h;obtain⟨l,i,z,k,y,rfl,hv,f,hk,a,q⟩:=h;obtain⟨r,Z,p,Y⟩:=aQ hk;rcases hv with rfl|⟨rfl,rfl⟩
 rotate_left
 have o:k=z.length - 1:=by unfold UO at hk;rw[if_neg (by decide),if_pos p]at hk;have:=Qv hk;omega
 rw[o]at a q;rw[List.eraseIdx_eq_take_drop_succ,show z.length - 1+1=z.length by omega,QB4,Qu,<- List.dropLast_eq_take]at q;exact Kh u s g H _ _ v j Q I m n ⟨l,z,y,rfl,rfl,f,a,q⟩;have hl:z.length<=sizeLine:=(show zB X.prog X.w H s.heap l (.lst z) from I.hok l _ f).1;rw[Q0]at hl;exact Y5 u s g H _ _ v j Q I m n ⟨l,z,i,k,y,rfl,rfl,f,by omega,by omega,r,a,q⟩
theorem iR{x:LS}(h:nA (x.map V.str) its):StrsAre its x:=by
 induction x generalizing its with
 |nil=>cases h;exact .nil|cons y x z =>
  cases h with|cons h t=>obtain⟨k,rfl⟩:=h;exact .cons _ _ (z t)
theorem mY{x:LS}(h:StrsAre its x):nA (x.map V.str) its:=by
 induction h with|nil=>exact .nil|cons y t _ z=>exact .cons ⟨t,rfl⟩ z
theorem BY{out:LW}(g:its.Perm out):∀{xs:LV},nA xs its->∃z,z.Perm xs/\nA z out:=by
 induction g with
 |nil=>intro xs r;cases r;exact⟨[],QBA _,.nil⟩|cons x _ k =>
  intro xs r;cases r with|cons h t=>obtain⟨z,p,v⟩:=k t;exact⟨_::z,p.cons _,.cons h v⟩
 |swap x y l =>
  intro xs r;cases r with
  |cons h t=>cases t with|cons i t=>exact⟨_::_::_,QCD.swap _ _ _,.cons i (.cons h t)⟩
 |trans _ _ f a=>intro xs r;obtain⟨z,p,v⟩:=f r;obtain⟨w,q,u⟩:=a v;exact⟨w,q.trans p,u⟩
theorem V1{xs:LV}{v:Value}(r:nA xs its)(h:v∈its):∃x∈xs,YA x v:=by
 induction r with
 |nil=>exact nomatch h
 |cons r t z=>rcases QM.mp h with e|h;subst e;exact⟨_,QD,r⟩;obtain⟨x,u,y⟩:=z h;exact⟨x,QC _ u,y⟩
theorem oZ{vs:LW}{ns:LJ}(h:IntsAre vs ns):nA (ns.map V.int) vs:=by
 induction h with|nil=>exact .nil|cons n t _ x=>exact .cons ⟨t,rfl⟩ x
theorem DT(hu:X.A.units+66<cLine):iC X (.builtin "sorted") (AW X.K):=by
 intro pins s σ H xs us Q I r h;obtain⟨p,rfl,h⟩:=h;rcases h with⟨ss,W,E,q⟩| ⟨xs,W,E,hx,q⟩| ⟨ns,W,E,q⟩
 skip;obtain⟨u,rfl,m⟩:=xH r;cases m;obtain⟨its,g,Y,hz⟩:=I.list W;have hl:=g.length;rw[QA]at hl;refine sorted_strs Y.isList (by simpa using iR g) (by omega) λout l J F a3=>?_;obtain⟨e,B⟩:=QBs s.heap its out;have hlen:=(gP J).1;have hp:=F.length_eq;refine⟨.ref (s.heap.objs.size+1),_,I.laid (t':=s.toks) (λb o z=>QBZ z) (wC _) (show zB X.prog X.w _ _ _ (.lst (l.map V.str)) from⟨by rw[QA,Q0];omega,out.toList,e,mY J,by simpa using B⟩),rfl,q _ l (I.hok.fresh (wC _)) F a3⟩;skip;obtain⟨u,rfl,m⟩:=xH r;cases m;obtain⟨its,g,Y,hz⟩:=I.list W;have hl:=g.length;have f:∀v∈its,∃b dd M n k,∃j:LS,v=.ref b/\s.heap.get? b=some { cls:=.type "list",dict:=dd,data:=.seq k n,slots:=M }/\StrsAre k.toList j:=λv hv=>by obtain⟨x,S,N⟩:=V1 g hv;obtain⟨a,j,rfl,sq⟩:=hx x S;cases N;obtain⟨i,O,⟨o,n,e,c,d,z⟩,_⟩:=I.list sq;obtain⟨oc,od,R,P⟩:=o;cases c;exact⟨a,od,P,n,i.toArray,j,rfl,by rw[e,show R=Data.seq i.toArray n from z],by simpa using iR O⟩
 refine K8 Y.isList (by omega) (λv hv=>?_) (λh3 kp x hx y hy C hC=>?_) λout hp=>?_;obtain⟨b,dd,M,n,k,j,rfl,e,_⟩:=f v hv;exact⟨b,_,rfl,e,rfl⟩;obtain⟨b,dd,M,n,k,j,rfl,e,st⟩:=f x hx;obtain⟨b2,dd2,sl2,n2,G,ts2,rfl,e2,L⟩:=f y hy;exact NU (s:={ s with heap:=h3 }) (show X.A.units+1+1<cLine by omega) (kp _ _ e) (kp _ _ e2) st L (hC _);obtain⟨e,B⟩:=QBs s.heap its out.toArray;obtain⟨ys,py,vy⟩:=BY hp.symm g;have hp2:=py.length_eq;refine⟨.ref (s.heap.objs.size+1),_,I.laid (t':=s.toks) (λb o z=>QBZ z) (wC _) (show zB X.prog X.w _ _ _ (.lst ys) from⟨by rw[Q0];omega,out,e,vy,B⟩),rfl,q _ ys (I.hok.fresh (wC _)) py⟩;obtain⟨u,rfl,m⟩:=xH r;cases m;obtain⟨its,g,Y,hz⟩:=I.list W;have hl:=g.length;rw[QA]at hl;refine sorted_ints Y.isList (aV g) (by omega) λout Z J F a3=>?_;obtain⟨e,B⟩:=QBs s.heap its out;have hp:=F.length_eq;refine⟨.ref (s.heap.objs.size+1),_,I.laid (t':=s.toks) (λb o z=>QBZ z) (wC _) (show zB X.prog X.w _ _ _ (.lst (Z.map V.int)) from⟨by rw[QA,Q0];omega,out.toList,e,oZ J,by simpa using B⟩),rfl,q _ Z (I.hok.fresh (wC _)) F a3⟩
theorem CZ:iC X (.type "tuple") (J3 X.K):=by intro x s y H k u Q I r h;obtain⟨p,z,rfl,w,v⟩:=h;exact IN x s y H _ u Q I r ⟨p,z,rfl,.inl ⟨w,v⟩⟩
theorem FZ:iC X (.type "int") Kc:=by intro x s y H u z Q I r h;obtain⟨b,rfl,q⟩:=h;exact GZ x s y H _ z Q I r (.inr ⟨b,rfl,q⟩)
theorem ma:y8 X "list.extend" Xc:=by intro y s u H x z v k Q I a f h;obtain⟨l,b,z,w,rfl,rfl,h⟩:=h;exact zZ y s u H _ _ v k Q I a f ⟨l,b,z,w,rfl,rfl,h⟩
theorem Vo(h:X.A.units+66<cLine)(hc:X.calm=true)(f:Bi):(∃id,bootBuiltins f.nm=some (.builtin id)/\iC X (.builtin id) (Co X.K f))∨∃T,bootBuiltins f.nm=some (.type T)/\iC X (.type T) (Co X.K f):=by
 cases f with|len=>exact .inl ⟨_,PySem.boot_len,j7⟩|any=>exact .inl ⟨_,PyProof.Rows.boot_any,z7 hc⟩|list=>exact .inr ⟨_,PyProof.Rows.boot_list,PQ⟩|max=>exact .inl ⟨_,PyProof.Rows.boot_max,DZ hc⟩|sorted=>exact .inl ⟨_,PyProof.Rows.boot_sorted,DT h⟩|tuple=>exact .inr ⟨_,by kernel_rfl,CZ⟩|int=>exact .inr ⟨_,PyProof.Rows.boot_int,FZ⟩
end
end
end L2.L3
namespace L2.L3
open PySem PySem.Spec PyProof.Rows
section
variable{S:SC}{i:Nat}{x:Str}
structure OkX(X:Cx)(S:SC)(G:Glob)(E:XK):Prop where
 N:X.N=S.N
 sc:X.env.scope=S.sc
 calm:X.calm=true
 un:X.A.units+66<cLine
 fn:∀f,G.fn f->∃(CX:M7) (k:Nat) (a:Addr) (fd:FuncData) (ps:LS),FnOk X.prog X.w X.K X.mg X.base CX k a fd ps (G.ev.sp f)/\Room k X.A/\X.mg f=some (.ref a)/\wM X.K (.ref a)=true/\fJ X.K fd ps [] /\
  cN CX X E/\∀l H s e s',CX l H s (λ_ _ _=>False) e s'->False
 val:∀x,G.val x->∃u,X.mg x=some u/\YA (G.ev.va x) u
 no:∀x,G.no x->X.mg x=none
noncomputable def bR(X:Cx)(Γ:Ev)(E:XK):PX->List Expr->Prop
 | .ny a as,e::es=>PE X e (wp X.K Γ a E).e/\bR X Γ E as es|_,_=>True
structure Snd(X:Cx)(Γ:Ev)(E:XK)(p:PX)(e:Expr):Prop where
 pe:PE X e (wp X.K Γ p E).e
 pt:PT X e (wp X.K Γ p E).t
 pw:∀op es pos,e=.BoolOp op es pos->PW X e (wp X.K Γ p E).t
 pa:∀es pos,e=.List es pos->PA X es (wp X.K Γ p E).a
 pas:∀es pos,e=.List es pos->bR X Γ E p es
theorem f8(h:Hf S i x=true):S.N[i]?=some x/\Lo S.sc x/\(x==("__debug__":Str))=false/\(x==("__classdict__":Str))=false:=by simp only[Hf,Qg,WL,beq_iff_eq,bne_iff_ne,ne_eq]at h;obtain⟨⟨⟨v,y⟩,u⟩,z⟩:=h;refine⟨v,?_,by simpa using u,by simpa using z⟩;rcases y with(y|y)|y;exact .inl y;exact .inr (.inl y);exact .inr (.inr y)
theorem Ca(h:Ch S i x=true):S.N[i]?=some x/\S.sc.names.lookup x=some .local:=by simp only[Ch,Qg,beq_iff_eq]at h;exact h
theorem cL(h:YV S x=true):S.sc.names.lookup x=some .globalImplicit/\(x==("__debug__":Str))=false/\x≠"__name__":=by simp only[YV,Qg,beq_iff_eq,bne_iff_ne,ne_eq]at h;exact⟨h.1.1,by simpa using h.1.2,h.2⟩
theorem oE:∀{l:LS},JJ l=true->l.Nodup
 |[],_=>Qs|x::r,h=>by simp only[JJ,Qg,qB]at h;exact Qi.mpr ⟨by simpa using h.1,oE h.2⟩
theorem mT{z:Scope}{w:LS}{u:List Bool}(h:P6 S z w u=true):CompSt S.N S.sc z w u:=by simp only[P6,Qg,Qy,beq_iff_eq,qB]at h;obtain⟨⟨⟨f,k⟩,b⟩,a⟩:=h;refine⟨f,λy v e=>?_,λy v e=>?_,λy v e=>?_,λy v e=>?_,oE b,by simpa using a⟩;have:=(k y v).1.1;rw[e]at this;exact absurd this (by decide);have:=(k y v).1.2;rw[e]at this;simp at this;exact this.1;have:=(k y v).2;rw[e]at this;simp at this;exact this;have:=(k y v).1.2;rw[e]at this;simp at this;exact this.2
theorem OkX.comp{X:Cx}{G:Glob}{E:XK}(ok:OkX X S G E)(y:Scope)(v:LS)(u:List Bool)(s:Shared)(H:Hp)(ex:List Addr):OkX (NA X y v u s H ex) (EX S y v u) G (λ_ _ _=>False) where
 N:=by show v++XB u 0 X.N=v++XB u 0 S.N;rw[ok.N]
 sc:=by show PL y X.env.scope=PL y S.sc;rw[ok.sc]
 calm:=ok.calm
 un:=ok.un
 fn:=λf h=>by obtain⟨o,k,a,n,b,m,l,j,g,e,p,w⟩:=ok.fn f h;exact⟨o,k,a,n,b,m,l,j,g,e,λ_ _ _ _ _ _ _ z=>(w _ _ _ _ _ z).elim,w⟩
 val:=ok.val
 no:=ok.no
end
section
variable{X:Cx}
theorem C5{c:Bool}{S:SC}{i:Nat}{x:Str}(k:X.N=S.N)(y:X.env.scope=S.sc)(u:c=true->∀x,X.fn x=true)(h:ck c S i x=true):X.N[i]?=some x/\Zk X.env.scope x/\(X.fn x=true∨X.env.scope.names.lookup x=some .local):=by
 simp only[ck,Qg,WL,beq_iff_eq]at h;rw[k,y];rcases h.2 with z|⟨w,v⟩
 exact⟨h.1,.inl z,.inr z⟩;exact⟨h.1,.inr v,.inl (u w x)⟩
theorem gO{c:Bool}{S:SC}(a:c=true->∀x,X.fn x=true)(j:X.N=S.N)(k:X.env.scope=S.sc)(nd:X.N.Nodup):∀(w:LN) (es:List Expr),w.length=es.length->((w.zip es).all λp=>match p.2 with | .Name x _=>ck c S p.1 x|_=>false)=true ->
  Su X es (λvs σ H Q=>∃y,kB w vs σ=some y/\Q y H)
 |[],[],_,_=>by
  intro z s σ H vs n Q I r h;obtain⟨y,e,q⟩:=h;cases vs with|nil=>cases r;simp only[kB]at e;cases e;exact assignInOrder_nil ⟨σ,H,I,q⟩|cons _ _=>simp[kB]at e
 |[],_::_,h,_=>by cases h|_::_,[],h,_=>by cases h|i::w,e::es,hl,hz=>by
  simp only[QAB,qj,Qg]at hz;obtain⟨l,W⟩:=hz;cases e with
  |Name x pos =>
   obtain⟨g,f,b⟩:=C5 j k a l;have Z:=gO a j k nd w es (by simpa using hl) W;intro z s σ H vs n Q I r h;obtain⟨y,e,q⟩:=h;cases vs with
   |nil=>simp[kB]at e|cons v vs =>
    simp only[kB]at e;cases r with|cons r Y=>show wpAny _ _ (assignInOrder (assign (.Name x pos) X.env::(assignEach es X.env).map (·.2)) _) _ _ _;refine assignInOrder_cons (AB (uX (pos:=pos) nd g f b z s σ H v _ _ I r (show BX i v σ H (λu m=>u=σ.set i (some v)/\m=H) from⟨rfl,rfl⟩)) λ_ o ⟨u,m,B,A,K⟩=>?_);subst A K;exact Z z o _ _ vs _ Q B Y ⟨y,e,q⟩
  |_=>simp at l
theorem XS{c:Bool}:∀(z:LN) (es:List Expr) (S:SC),z.length=es.length->((z.zip es).all λp=>match p.2 with | .Name x _=>ck c S p.1 x|_=>false)=true->(assignEach es X.env).length=es.length/\(assignEach es X.env).findIdx? (·.1)=none
 |[],[],_,_,_=>⟨rfl,rfl⟩|[],_::_,_,h,_=>by cases h|_::_,[],_,h,_=>by cases h|i::z,e::es,S,hl,hz=>by
  simp only[QAB,qj,Qg]at hz;obtain⟨w,v⟩:=hz;cases e with|Name x y=>have u:=XS z es S (by simpa using hl) v;have k:assignEach (.Name x y::es) X.env=(false,assign (.Name x y) X.env)::assignEach es X.env:=rfl;rw[k];refine⟨by rw[QL,QL,u.1],?_⟩;rw[List.findIdx?_cons];simp[u.2]|_=>simp at w
theorem ML:∀{y:LN}{vs:LV}{σ x:St},kB y vs σ=some x->vs.length=y.length
 |[],[],_,_,_=>rfl|[],_::_,_,_,h=>by simp[kB]at h|_::_,[],_,_,h=>by simp[kB]at h|_::y,_::vs,σ,x,h=>by simp only[kB]at h;rw[QL,QL,ML h]
theorem xX{c:Bool}{S:SC}{G:Glob}{E:XK}(ok:OkX X S G E)(z:c=true->∀x,X.fn x=true)(nd:X.N.Nodup){b:Tg}{e:Expr}(h:Dp c S b e=true):PG X e (tE X.K b):=by
 cases b with
 |nm i =>
  cases e with|Name x pos=>obtain⟨l,j,g⟩:=C5 ok.N ok.sc z h;exact uX nd l j g|_=>cases h
 |tp o =>
  cases e with
  |Tuple m k pos =>
   obtain⟨J,Z⟩:=zA h;have f:=qg J;obtain⟨C,B⟩:=XS (X:=X) o m S f Z;have w:=Xg (pos:=pos) (k:=k) (n:=m.length) ok.calm (gO z ok.N ok.sc nd o m f Z) C B;intro y s W H v u Q I r Y;refine w y s W H v u Q I r ?_;cases v with|ref p=>obtain⟨A,a,F,e,q⟩:=Y;exact⟨p,A,rfl,F,by rw[ML e,f],a,e,q⟩|_=>exact Qd Y
  |_=>cases h
end
variable{Γ:Ev}
theorem k8(K:QE)(a:Addr)(xs:LV):Yields (Uv K a) (xs.map .one) (λH=>EC K H a xs) :=
  { go:=λi H h u=>by
      have z:i<xs.length:=by simpa using u
      exact⟨xs,xs[i],h,by simp[z]⟩
    yld:=λi H x v h _ ⟨e,y⟩=>⟨.one x,by rw[Qe,y xs h];rfl,rfl,e⟩
    stop:=λi H h u=>⟨xs,h,by simpa using u⟩ }
theorem Kf(K:QE)(a:Addr)(xs:LV):Yields (Vv K a) (xs.map .one) (λH=>AD K H a xs) :=
  { go:=λi H h u=>by
      have z:i<xs.length:=by simpa using u
      exact⟨xs,xs[i],h,by simp[z]⟩
    yld:=λi H x v h _ ⟨e,y⟩=>⟨.one x,by rw[Qe,y xs h];rfl,rfl,e⟩
    stop:=λi H h u=>⟨xs,h,by simpa using u⟩ }
theorem Vf(u:Int)(n:Nat):Yields (gu u n) ((Qr n).map λ(k:Nat)=>.one (.int (u+(k:Int)))) (λ_=>True) :=
  { go:=λi H h z=>by
      have y:i<n:=by simpa using z
      exact y
    yld:=λi H x w h z ⟨e,v⟩=>by
      have y:i<n:=by simpa using z
      exact⟨.one x,by rw[Qe,Wx y,v];rfl,rfl,e⟩
    stop:=λi H h z=>by
      have y:n<=i:=by simpa using z
      exact y }
theorem x8(K:QE)(z:Src)(c:Nat)(xs:LV):Yields (Cv K z c) (xs.zipIdx.map λp=>.tup [.int ((c+p.2:Nat):Int),p.1]) (λH=>Y0 K H z xs) :=
  { go:=λi H h u=>by
      have y:i<xs.length:=by simpa using u
      exact⟨xs,xs[i],h,by simp[y]⟩
    yld:=λi H x g h u ⟨p,a,v,e,w,k⟩=>by
      have y:i<xs.length:=by simpa using u
      have f:=k xs h;refine⟨.tup [.int ((c+i:Nat):Int),a],?_,p,v,e,w⟩;have b:xs.zipIdx[i]?=some (a,i):=by rw[List.getElem?_zipIdx,f];simp
      rw[Qe,b];rfl
    stop:=λi H h u=>⟨xs,h,by simpa using u⟩ }
theorem C0(ep:Nat)(a:Addr)(kvs:List KE):Yields (Xv ep kvs.length a) (kvs.map λp=>.tup [.ref p.2.1,p.2.2]) (λH=>H a=some (.dT ep kvs)) :=
  { go:=λi H h y=>by
      have z:i<kvs.length:=by simpa using y
      exact⟨kvs,kvs[i],h,rfl,by simp[z]⟩
    yld:=λi H x w h y ⟨q,p,u,e,v,k⟩=>⟨.tup [.ref p.2.1,p.2.2],by rw[Qe,k kvs h];rfl,q,u,e,v⟩
    stop:=λi H h y=>⟨kvs,h,rfl,by simpa using y⟩ }
theorem v8(ep:Nat)(a:Addr)(kvs:List KE):Yields (Bv ep kvs.length a) (kvs.map λp=>.one (.ref p.2.1)) (λH=>H a=some (.dT ep kvs)) :=
  { go:=λi H h y=>by
      have z:i<kvs.length:=by simpa using y
      exact⟨kvs,kvs[i],h,rfl,by simp[z]⟩
    yld:=λi H x b h y ⟨u,k⟩=>by obtain⟨p,w,v⟩:=k kvs h;exact⟨.one (.ref p.2.1),by rw[Qe,w];rfl,v,u⟩
    stop:=λi H h y=>⟨kvs,h,rfl,by simpa using y⟩ }
noncomputable def lU(h:St->Hp->(List Item->(Hp->Prop)->Hp->Prop)->Prop):TI:=λx H R=>h x H λy st z=>∀J,Yields J y st->R J z
section
variable{X:Cx}{f:Expr}
section
variable{a:Expr}{ta:TA}{p pos k:Pos}{x:Str}{es:List Expr}{d:Nat}
theorem z9{l:Expr}{t:TE}(hl:PE X l t):PI X f l (lU λσ H R=>t σ H λv m=>VC X.K .val [v] m R):=by
 intro g s σ H R I h;refine AB (hl g s σ H _ I h) λv y ⟨x,m,i,F,C⟩=>?_;have j:∀b∈[y.heap.objs.size],dJ X g m b:=λb hb=>by
  have e:b=y.heap.objs.size:=by simpa using hb
  subst e;exact i.fpOk (Qa _) (i.hok.fresh (Qa _))
 cases x with
 |ref a =>
  cases F;rcases C with⟨Z,A,q⟩| ⟨Z,A,q⟩| ⟨ep,u,e,q⟩
  obtain⟨Y,E,p,G⟩:=i.list A;refine QAQ p.isList ?_;exact⟨y.heap.objs.size,[y.heap.objs.size],_,_,m,rfl,i.kept (t':=y.toks) λb o e=>QK _ e,oY a _,⟨_,QZ _ rfl,rfl,rfl⟩,j,q _ (k8 _ a Z)⟩;obtain⟨Y,E,p,G⟩:=i.tuple A;refine QBX (show y.heap.IsTuple a Y.toArray from p) ?_;exact⟨y.heap.objs.size,[y.heap.objs.size],_,_,m,rfl,i.kept (t':=y.toks) λb o e=>QK _ e,sU a _,⟨_,QZ _ rfl,rfl,rfl⟩,j,q _ (Kf _ a Z)⟩;obtain⟨z,J,Z,r,ob,B,O,N,M,L,P⟩:=(show zB X.prog X.w m y.heap a (.dT ep u) from i.hok a _ e)
  have W:B.size=u.length:=by have:=congrArg wN L;rw[QA,Q1]at this;rw[this,<- qK r]
  refine Ra J O N.1 M ?_;exact⟨y.heap.objs.size,[y.heap.objs.size],_,_,m,rfl,i.kept (t':=y.toks) λb o e=>QK _ e,pY (a:=a) (n:=u.length) (ep:=ep),⟨_,QZ _ rfl,rfl,by rw[<- W];rfl⟩,j,q _ (v8 ep a u)⟩
 |_=>exact Qd C
theorem k9(g:x="range")(m:Gl X x)(l:X.mg x=none)(n:PA X [a] ta)(i:FE a=true) :
  PI X f (.Call (.Name x p) [a] [] pos) (lU λσ H R=>ta σ H λvs v=>VC X.K .rng1 vs v R):=by
 subst g;intro z s σ H R I h;refine Call_ (XJ I m l boot_range (wm (AB (n pos z s σ H _ I h) λY Z ⟨vs,v,o,b,u⟩=>?_) (PB _ i) rfl))
 match vs,u with
 |[.int j],⟨⟨u,q2⟩,q⟩ =>
  cases b with
  |cons r w =>
   cases w;obtain⟨t,rfl⟩:=r;refine call_range_1 (u3 o (by omega) (by omega) u q2 ?_);have e:(j - 0).toNat=j.toNat:=by simp
   rw[e];have y:=Vf 0 j.toNat;refine q _ ?_;simpa using y
theorem LZ:bootBuiltins ("enumerate":Str)=some (.type "enumerate"):=by kernel_rfl
theorem B6{y:TB}{σ:St}{e:Hp}{h:Shared}{R:It->Hp->Prop}{c:Nat}{z:Src}{xs:LV}{its:Array Value}{h':Heap}(v:Inv X y σ e h)(g:NB h.heap z its)(st:nW (h.heap.objs.size+1) h.heap.objs.size z c 0 h')(i:∀c o,h.heap.get? c=some o->h'.get? c=some o)
  (q:∀J,Yields J (xs.zipIdx.map λp=>.tup [.int ((c+p.2:Nat):Int),p.1]) (λH=>Y0 X.K H z xs)->R J e):wpAny (model X.prog X.w) X.A (pyIter (.ref (h.heap.objs.size+1))) (yu X y σ (.Tuple es d k) R) X.xe { h with heap:=h' }:=by
 obtain⟨⟨old,j⟩,_⟩:=id st;refine QBk j ?_;have l:=v.kept (h':=h') (t':=h.toks) i;have lt:=g.lt;refine⟨_,[h.heap.objs.size+1,h.heap.objs.size],_,_,e,rfl,l,rY (uw (Nat.succ_ne_self _)) (Qm (wz lt)) (Qm lt),st,λb hb=>?_,q _ (x8 _ z c xs)⟩;have u:h.heap.objs.size<=b:=by simp only[QM,wf,or_false]at hb;rcases hb with rfl|rfl;exact QAh _ _;exact Qa _
 exact v.fpOk u (v.hok.fresh u)
theorem x9(l:x="enumerate")(o:Gl X x)(n:X.mg x=none)(Y:PA X [a] ta)(m:FE a=true) :
  PI X (.Tuple es d k) (.Call (.Name x p) [a] [] pos) (lU λσ H R=>ta σ H λvs w=>VC X.K .enum vs w R):=by
 subst l;intro u s σ H R I h;refine Call_ (XJ I o n LZ (wm (AB (Y pos u s σ H _ I h) λZ W ⟨vs,w,v,e,g⟩=>?_) (PB _ m) rfl))
 match vs,g with
 |[.ref l1],⟨z,xs,e1,h1,q⟩ =>
  subst e1;cases e with|cons r b=>cases b;cases r;obtain⟨j,_,y,_⟩:=v.src h1;refine xW y λA st i=>B6 (xs:=xs) v y st i ?_;simpa using q
theorem Oa{K:QE}{u:V}{H:Hp}{R:List Item->(Hp->Prop)->Hp->Prop}(h:VC K .itm [u] H R):∃a ep kvs,u=.ref a/\H a=some (.dT ep kvs)/\R (kvs.map λp=>.tup [.ref p.2.1,p.2.2]) (λH=>H a=some (.dT ep kvs)) H:=by
 cases u with|ref a=>obtain⟨ep,kvs,e,q⟩:=h;exact⟨a,ep,kvs,rfl,e,q⟩|_=>exact Qd h
theorem Vg{o:Expr}{B:TE}{apos cpos:Pos}(J:PE X o B)(i:attributeBase o "items" X.env (eval o X.env)=eval o X.env)(g:(apos.endLine==cpos.line)=true) :
  Ap X (.Tuple es d k) (.Call (.Attribute o "items" apos) [] [] cpos) (lU λσ H R=>B σ H λv l=>VC X.K .itm [v] l R):=by
 intro u s σ H R I h;refine QAW i g (AB (J u s σ H _ I h) λv j ⟨x,l,C,E,G⟩=>?_);obtain⟨a,ep,y,rfl,e,q⟩:=Oa G;cases E;obtain⟨z,L,P,r,ob,W,m,Z,N,M,Q⟩:=(show zB X.prog X.w l j.heap a (.dT ep y) from C.hok a _ e)
 refine⟨"dict",_,QAY,PySem.F.slot_dict_items,PySem.F.type_dict_items,⟨ob,m,Z.1⟩,λb O=>?_,WR rfl (QBE (vW m Z.1 L ?_))⟩;cases O;exact⟨ob,m,Z.2.1⟩;have A:Inv X u σ l { j with heap:=j.heap.push { cls:=.type "dict_items",data:=.fields #[.ref a] } }:=C.kept (t':=j.toks) λb o e=>QK _ e;refine j6 ⟨_,QZ _ rfl,rfl,rfl⟩ (QK _ m) N ?_;have Y:W.size=y.length:=by have:=congrArg wN M;rw[QA,Q1]at this;rw[this,<- qK r]
 refine⟨_,[_],_,_,l,rfl,A.kept (t':=j.toks) λb o e=>QK _ e,aU (a:=a) (n:=y.length) (ep:=ep),⟨.none,.none,?_⟩,λb hb=>?_,q _ (C0 ep a y)⟩;rw[<- Y];exact QZ _ rfl;have e:=QI.mp hb;subst e;exact A.fpOk (Qa _) (A.hok.fresh (Qa _))
end
end
section
variable{u σ:St}{K:QE}{k:Tg}{H:Hp}{Q:St->Hp->Prop}
def Tg.at:Tg->LN
 | .nm i=>[i]|.tp h=>h
def uU(k:Tg)(u σ:St):Prop:=u.length=σ.length/\∀(j:Nat),j∉k.at->u[j]?=σ[j]?
theorem eY{i:Nat}{v:Option V}(h:u.length=σ.length)(x:∀j,j≠i->u[j]?=σ[j]?):u.set i v=σ.set i v:=by apply qz;intro j;by_cases e:j=i;subst e;by_cases hl:j<σ.length;rw[qe (by omega),qe hl];rw[qC (by rw[qa];omega),qC (by rw[qa];omega)];rw[qS (qD e),qS (qD e)];exact x j e
theorem dI:∀(x:LN) (vs:LV) (u σ:St),u.length=σ.length->(∀j,j∉x->u[j]?=σ[j]?)->kB x vs u=kB x vs σ
 |[],[],u,σ,hl,h=>by have:u=σ:=qz λj=>h j (by simp);rw[this]|[],_::_,_,_,_,_=>rfl|_::_,[],_,_,_,_=>rfl|i::x,v::vs,u,σ,hl,h=>by simp only[kB];refine dI x vs _ _ (by simp[hl]) λj z=>?_;by_cases e:j=i;subst e;by_cases y:j<σ.length;rw[qe (by omega),qe y];rw[qC (by rw[qa];omega),qC (by rw[qa];omega)];rw[qS (qD e),qS (qD e)];exact h j (by simp[e,z])
theorem BE:∀(h:LN) (vs:LV) (σ u:St),kB h vs σ=some u->u.length=σ.length/\∀j,j∉h->u[j]?=σ[j]?
 |[],[],σ,u,e=>by simp only[kB]at e;cases e;exact⟨rfl,λ_ _=>rfl⟩|[],_::_,_,_,e=>by simp[kB]at e|_::_,[],_,_,e=>by simp[kB]at e|i::h,v::vs,σ,u,e=>by simp only[kB]at e;obtain⟨w,y⟩:=BE h vs _ _ e;refine⟨by rw[w,qa],λj x=>?_⟩;rw[y j (λz=>x (QC _ z)),qS (λz=>x (by simp[z]))]
theorem NT{v:V}(a:uU k u σ)(h:tE K k v σ H Q):tE K k v u H λx m=>uU k x σ/\Q x m:=by
 obtain⟨f,g⟩:=a;cases k with
 |nm i=>have e:u.set i (some v)=σ.set i (some v):=eY f λj y=>g j (by simpa[Tg.at]using y);show uU (.nm i) (u.set i (some v)) σ/\Q (u.set i (some v)) H;rw[e];exact⟨⟨by simp,λj y=>qS (λz=>y (by simp[Tg.at,z]))⟩,h⟩|tp b =>
  cases v with|ref p=>obtain⟨w,x,l,e,q⟩:=h;exact⟨w,x,l,by rw[dI b w u σ f λj y=>g j y];exact e,⟨(BE b w σ x e).1,λj y=>(BE b w σ x e).2 j y⟩,q⟩|_=>exact Qd h
theorem bW{v:V}{y:St->Hp->Prop}(m:∀σ H,Q σ H->y σ H)(h:tE K k v σ H Q):tE K k v σ H y:=by
 cases k with
 |nm i=>exact m _ _ h|tp a =>
  cases v with|ref p=>obtain⟨z,x,w,e,q⟩:=h;exact⟨z,x,w,e,m _ _ q⟩|_=>exact Qd h
theorem jN{it:Item}{x:V}{y:Hp}(w:match it with | .one v=>x=v/\y=H | .tup vs=>∃p,H p=none/\x=.ref p/\y=BA H p (.tup vs))(h:bindI K k it σ H Q):tE K k x σ y Q:=by
 cases it with
 |one v=>obtain⟨rfl,rfl⟩:=w;exact h|tup vs =>
  obtain⟨p,z,rfl,rfl⟩:=w;cases k with
  |nm i=>exact h p z|tp a =>
   obtain⟨u,e,q⟩:=h (BA H p (.tup vs)) λb o e=>by rw[vA (JA e z)];exact e
   exact⟨vs,u,AD.of ZA,e,q⟩
theorem O6{xs:List Item}{st:Hp->Prop}{tc:TT}{te:TE}{a:St}{Q:VK}(h:yo K xs st (bindI K k) tc te a H Q):gY K xs st k tc te a H Q:=by
 obtain⟨W,Z,o,j,done⟩:=h;intro J Y;refine⟨λi m v u f=>m=xs.length - i/\i<=xs.length/\uU k u a/\W i v f,⟨xs.length,by simp,Q8 _,⟨rfl,λ_ _=>rfl⟩,Z⟩,?_⟩;rintro i m v u f ⟨rfl,C,F,w⟩;have n:=o i v f C w;by_cases g:i<xs.length;refine .inr ⟨Y.go i f n g,λx G y=>?_⟩;obtain⟨it,p,B⟩:=Y.yld i f x G n g y;have b:=NT F (jN B (j i it v f p w));refine bW (λl I q=>?_) b;obtain⟨r,q⟩:=q;have E:∀(z:LV) (s:Hp),(∃X,X < xs.length - i/\X=xs.length - (i+1)/\i+1<=xs.length/\uU k l a/\W (i+1) z s)=W (i+1) z s:=λz s =>
  propext ⟨λ⟨_,_,_,_,_,w⟩=>w,λw=>⟨_,by omega,rfl,g,r,w⟩⟩
 simp only[E];exact q
 ·have e:i=xs.length:=by omega
  subst e;obtain⟨A,q⟩:=done v f w;exact .inl ⟨Y.stop _ f n (Qa _),A,q⟩
end
end L2.L3
namespace L2.L3
open PySem PySem.Spec PyProof.Rows
variable{Γ:Ev}
section
variable{X:Cx}{E:XK}{p its:PX}{es:List Expr}{e t it:Expr}{pos:Pos}{S:SC}{Q:LV->Hp->Prop}{G:Glob}{d:ItK}
def vQ:PX->Bool
 | .ny _ _=>false|_=>true
theorem ET(h:vQ p=true):bR X Γ E p es:=by cases p<;>first|trivial|cases h
theorem jR(Q:Bool->Hp->Prop):(λ(x:V) (h:Hp)=>t7 x h Q)=λ(x:V) (h:Hp)=>∃k,x=.bl k/\Q k h:=by funext x h;exact sj x h Q
theorem Snd.of(pe:PE X e (wp X.K Γ p E).e)(pt:PT X e (wp X.K Γ p E).t)(hb:∀h es pos,e≠.BoolOp h es pos)(y:(wp X.K Γ p E).a=never.a)(x:vQ p=true:=by rfl):Snd X Γ E p e :=
 ⟨pe,pt,λh es pos z=>absurd z (hb h es pos),λes pos z=>by rw[y];exact jS,λ_ _ _=>ET x⟩
theorem Snd.lit(pe:PE X e (wp X.K Γ p E).e)(x:(wp X.K Γ p E).t=never.t)(hb:∀h es pos,e≠.BoolOp h es pos)(z:(wp X.K Γ p E).a=never.a)(y:vQ p=true:=by rfl):Snd X Γ E p e :=
 Snd.of pe (by rw[x];exact AL) hb z y
theorem Snd.args(w:PA X es (wp X.K Γ p E).a)(u:bR X Γ E p es)(v:(wp X.K Γ p E).e=never.e)(y:(wp X.K Γ p E).t=never.t):Snd X Γ E p (.List es pos) :=
 ⟨by rw[v];exact A3,by rw[y];exact AL,λ_ _ _ z=>(by cases z),λx h z=>by cases z;exact w,λx h z=>by cases z;exact u⟩
theorem Gg{x:Str}{v:V}{u:Value}(y:X.env.scope=S.sc)(h:YV S x=true)(z:X.mg x=some u)(r:YA v u):PE X (.Name x pos) (λ_ H Q=>Q v H):=by obtain⟨k,w,a⟩:=cL h;exact b9 (show X.env.scope.names.lookup x=some .globalImplicit by rw[y];exact k) z r w
theorem iE:∀(p:PX) {es:List Expr},fC p S (.List es pos)=true->es.all FE=true:=by
 intro p;induction p with|nz=>intro es h;have h:es.isEmpty=true:=h;rw[Q5.mp h];rfl|ny a u _ y=>intro es h;have h:V9 es _=true:=h;obtain⟨x,t,rfl,h⟩:=YK h;have z:=zA h;rw[qj,z.1,y (zA z.2).2];rfl|lst u y=>exact λh=>y h|_=>exact λh=>(QG h).elim
theorem AT{K:QE}{σ:St}{H:Hp}:∀(p:PX),AE p=true->fC p S (.List [] pos)=true->((wp K Γ p E).a σ H Q↔Q [] H):=by
 intro p;cases p with|nz=>exact λ_ _=>wY|ny _ _=>exact λ_ h=>(QG h).elim|_=>exact λh=>(QG h).elim
theorem OZ{K:QE}{σ:St}{H:Hp}(p:PX)(h:fC p S (.List [] pos)=true)(q:(wp K Γ p E).a σ H Q):Q [] H:=by
 cases x:AE p with
 |true=>exact(AT p x h).mp q|false =>
  cases p with|nz=>exact q|ny _ _=>exact(QG h).elim|_=>exact q.elim
theorem RT{a:Expr}(p:PX)(y:AE p=true)(h:fC p S (.List [a] pos)=true):∃x,p=.ny x .nz:=by
 cases p with
 |ny x r =>
  have z:fC r S (.List [] pos)=true:=(zA (zA h).2).2;cases r with|nz=>exact⟨x,rfl⟩|ny _ _=>exact(QG z).elim|_=>exact(QG y).elim
 |nz=>exact(QG h).elim|_=>exact(QG y).elim
theorem jn(h:X.A.units+66<cLine)(m:Mt):∃id,PlainAttrs m.ty/\Slot m.ty m.nm id/\typeOf (.builtin id)=pure (.type "method_descriptor")/\y8 X id (Ja X.K m):=by
 cases m with|append=>exact⟨_,WM,PySem.F.slot_list_append,PySem.F.type_list_append,kZ⟩|pop=>exact⟨_,WM,PySem.F.slot_list_pop,PySem.F.type_list_pop,ga⟩|extend=>exact⟨_,WM,PySem.F.slot_list_extend,PySem.F.type_list_extend,ma⟩|setd=>exact⟨_,QAY,PySem.F.slot_dict_setdefault,PySem.F.type_dict_setdefault,yZ h⟩
theorem aG{env:Env}{pos:Pos}:∀{es:List Expr},es.all FE=true->(backTo pos (starEach es env)).any (·.1)=false
 |[],_=>rfl|e::es,h=>by rw[qj]at h;obtain⟨y,x⟩:=zA h;rw[PB env y];show(false||(backTo pos (starEach es env)).any (·.1))=false;rw[aG x];rfl
theorem IT{env:Env}{pos:Pos}:∀{es:List Expr},es.all FE=true->(backTo pos (starEach es env)).all (λx=>!x.1)=true
 |[],_=>rfl|e::es,h=>by rw[qj]at h;obtain⟨z,y⟩:=zA h;rw[PB env z];show(true&&(backTo pos (starEach es env)).all (λx=>!x.1))=true;rw[IT y];rfl
theorem FU(ok:OkX X S G E)(y:Mp (AE its) S d (λes p=>fC its S (.List es p)) t it pos=true)(j:Xn G d)(m:isItm d=false)
  (b:∀es p,fC its S (.List es p)=true->Snd X G.ev E its (.List es p)):PI X t it (lU λσ H R=>(wp X.K G.ev its E).a σ H λvs o=>VC X.K d vs o R):=by
 have w:∀{x:Str},YV S x=true->Gl X x:=λ{x} h=>by show X.env.scope.names.lookup x=some .globalImplicit;rw[ok.sc];exact(cL h).1
 have z:eQ t=true->∃es k p,t=.Tuple es k p:=λh=>by
  cases t with|Tuple es k p=>exact⟨es,k,p,rfl⟩|_=>exact(QG h).elim
 cases d with|val=>have i:=zA y;have f:=(b _ pos i.2).pas _ pos rfl;obtain⟨a,rfl⟩:=RT its i.1 i.2;exact z9 f.1|rng1=>obtain⟨l,es,n,p,rfl,g,h⟩:=lL y;have v:=zA h;cases Q5.mp v.1;obtain⟨a,rfl,u⟩:=EB v.2;exact k9 rfl (w g) (ok.no _ j) ((b _ p u).pa _ p rfl) (by simpa using iE its u)|enum=>have i:=zA y;obtain⟨es,k,pt,rfl⟩:=z i.1;obtain⟨l,es,n,p,rfl,g,h⟩:=lL i.2;have v:=zA h;cases Q5.mp v.1;obtain⟨a,rfl,u⟩:=EB v.2;exact x9 rfl (w g) (ok.no _ j) ((b _ p u).pa _ p rfl) (by simpa using iE its u)|itm=>cases m
theorem v9(ok:OkX X S G E)(x:Mp (AE its) S d (λes p=>fC its S (.List es p)) t it pos=true)(g:Xn G d)
  (u:∀es p,fC its S (.List es p)=true->Snd X G.ev E its (.List es p)):Ap X t it (lU λσ H R=>(wp X.K G.ev its E).a σ H λvs j=>VC X.K d vs j R):=by
 cases b:isItm d with
 |false=>exact(FU ok x g b u).to0|true =>
  cases d with
  |itm =>
   have i:=zA x;have w:=zA i.2;cases t with|Tuple es k pt=>obtain⟨v,l,es,p,rfl,hl,h⟩:=pX w.2;have f:=zA h;have z:=zA f.2;cases Q5.mp z.1;have y:=(u _ p z.2).pas _ p rfl;obtain⟨a,rfl⟩:=RT its w.1 z.2;exact Vg y.1 (E4 f.1) hl|_=>exact(QG i.1).elim
  |_=>cases b
theorem GG{te x:TE}(h:PE X e te)(q:∀σ H Q,x σ H Q->te σ H Q):PE X e x:=λy s σ H Q I z=>h y s σ H Q I (q σ H Q z)
theorem snd:∀(p:PX) {X:Cx}{S:SC}{E:XK}(ok:OkX X S G E) {e:Expr},fC p S e=true->uB G p->Snd X G.ev E p e:=by
 intro p;induction p with
 |xz i =>
  intro X S E ok e h _;obtain⟨x,pos,rfl,h⟩:=PF h;obtain⟨n,A,L,P⟩:=f8 h;have base:=O3 (pos:=pos) (show X.N[i]?=some x by rw[ok.N];exact n) (show Lo X.env.scope x by rw[ok.sc];exact A) L P;have pe:PE X (.Name x pos) (wp X.K G.ev (.xz i) E).e:=GG base λZ H Q q=>by
   have q:(match Z[i]? with|some (some v)=>Q v H|_=>False):=q;cases hs:Z[i]? with
   |none=>rw[hs]at q;exact q.elim|some o =>
    rw[hs]at q;cases o with|none=>exact q.elim|some v=>exact⟨v,hs,q⟩
  exact Snd.of pe (ID pe λ_=>rfl) (λ_ _ _ z=>by cases z) rfl
 |int i=>intro X S E ok e h _;obtain⟨c,k,pos,rfl,h⟩:=mE h;obtain⟨j,rfl,h⟩:=b7 h;cases qg h;exact Snd.of GU (ID (ta:=λ_ H Q=>Q (.int i) H) GU λ_=>rfl) (λ_ _ _ z=>by cases z) rfl|str x=>intro X S E ok e h _;obtain⟨c,k,pos,rfl,h⟩:=mE h;obtain⟨j,rfl,h⟩:=jj h;cases qg h;exact Snd.lit Dg rfl (λ_ _ _ z=>by cases z) rfl|bl b=>intro X S E ok e h _;obtain⟨c,k,pos,rfl,h⟩:=mE h;obtain⟨j,rfl,h⟩:=Pb h;cases qg h;exact Snd.of Fc (ID (ta:=λ_ H Q=>Q (.bl b) H) Fc λ_=>rfl) (λ_ _ _ z=>by cases z) rfl|non=>intro X S E ok e h _;obtain⟨c,k,pos,rfl,h⟩:=mE h;cases Ob h;exact Snd.of T3 (ID (ta:=λ_ H Q=>Q .non H) T3 λ_=>rfl) (λ_ _ _ z=>by cases z) rfl|glo x=>intro X S E ok e h nd;obtain⟨y,pos,rfl,h⟩:=PF h;have h:=zA h;cases qg h.1;obtain⟨u,hm,r⟩:=ok.val x nd;have pe:=Gg (pos:=pos) ok.sc h.2 hm r;exact Snd.of pe (ID pe λ_=>rfl) (λ_ _ _ z=>by cases z) rfl|bin op a b W J=>intro X S E ok e h nd;obtain⟨l,o,r,pos,rfl,h⟩:=X9 h;have n:=zA h;have A:=zA n.2;cases qg n.1;have pe:=lm (pos:=pos) (Pg op) (W ok A.1 nd.1).pe (J ok A.2 nd.2).pe;exact Snd.of pe (ID pe λ_=>rfl) (λ_ _ _ z=>by cases z) rfl|cmp op a b W J=>intro X S E ok e h nd;obtain⟨l,os,rs,pos,rfl,h⟩:=K9 h;obtain⟨o,rfl,h⟩:=EB h;obtain⟨r,rfl,h⟩:=EB h;have n:=zA h;have A:=zA n.2;have L:=zA A.2;cases qg n.1;have pa:=(W ok L.1 nd.1).pe;have pb:=(J ok L.2 nd.2).pe;refine Snd.of (g9 (pos:=pos) (J4 ok.un op) pa pb (j5 A.1)) (λB s Z H Q I q=>R8 (pos:=pos) (J4 ok.un op) pa pb (j5 A.1) B s Z H Q I ?_) (λ_ _ _ z=>by cases z) rfl;show xl _ _ _ Z H (λ(x:V) (Y:Hp)=>∃k,x=.bl k/\Q k Y);rw[<- jR Q];exact q|and a b W J =>
  intro X S E ok e h nd;obtain⟨o,es,pos,rfl,h⟩:=xS h;have n:=zA h;cases qg n.1;obtain⟨l,t,rfl,A⟩:=YK n.2;obtain⟨r,t,rfl,L⟩:=YK A;have P:=zA L;have O:=W ok P.1 nd.1;have sb:=J ok P.2 nd.2;have eqA:∀(Z:St) (Q:VK),(λ(x:V) (Y:Hp)=>∃c,x=.bl c/\if c=true then(wp X.K G.ev b E).e Z Y Q else Q (.bl false) Y)=λ(x:V) (Y:Hp)=>t7 x Y λc H2=>if c=true then(wp X.K G.ev b E).e Z H2 Q else Q (.bl false) H2:=λZ Q=>(jR _).symm
  have key:PW X (.BoolOp .And (l::r::t) pos) (wp X.K G.ev (.and a b) E).t/\PE X (.BoolOp .And (l::r::t) pos) (λZ H Q=>(wp X.K G.ev a E).e Z H λx Y=>∃c,x=.bl c/\if c=true then(wp X.K G.ev b E).e Z Y Q else Q (.bl false) Y):=by
   cases t with|nil=>exact⟨Y3 O.pt (P8 sb.pt),j4 (pos:=pos) O.pe (R3 sb.pe)⟩|cons q t=>exact⟨Y3 O.pt (sb.pw _ _ _ rfl),j4 (pos:=pos) O.pe sb.pe⟩
  refine⟨GG key.2 λZ H Q q=>?_,key.1.pt,λ_ _ _ _=>key.1,λ_ _ z=>(by cases z),λ_ _ z=>trivial⟩;rw[eqA];exact q
 |or a b W J =>
  intro X S E ok e h nd;obtain⟨o,es,pos,rfl,h⟩:=xS h;have n:=zA h;cases qg n.1;obtain⟨l,t,rfl,A⟩:=YK n.2;obtain⟨r,t,rfl,L⟩:=YK A;have P:=zA L;have O:=W ok P.1 nd.1;have sb:=J ok P.2 nd.2;have eqA:∀(Z:St) (Q:VK),(λ(x:V) (Y:Hp)=>∃c,x=.bl c/\if c=true then Q (.bl true) Y else(wp X.K G.ev b E).e Z Y Q)=λ(x:V) (Y:Hp)=>t7 x Y λc H2=>if c=true then Q (.bl true) H2 else(wp X.K G.ev b E).e Z H2 Q:=λZ Q=>(jR _).symm
  have key:PW X (.BoolOp .Or (l::r::t) pos) (wp X.K G.ev (.or a b) E).t/\PE X (.BoolOp .Or (l::r::t) pos) (λZ H Q=>(wp X.K G.ev a E).e Z H λx Y=>∃c,x=.bl c/\if c=true then Q (.bl true) Y else(wp X.K G.ev b E).e Z Y Q):=by
   cases t with|nil=>exact⟨Uc O.pt (rg sb.pt),Dc (pos:=pos) O.pe (R3 sb.pe)⟩|cons q t=>exact⟨Uc O.pt (sb.pw _ _ _ rfl),Dc (pos:=pos) O.pe sb.pe⟩
  refine⟨GG key.2 λZ H Q q=>?_,key.1.pt,λ_ _ _ _=>key.1,λ_ _ z=>(by cases z),λ_ _ z=>trivial⟩;rw[eqA];exact q
 |not a W=>intro X S E ok e h nd;obtain⟨o,x,pos,rfl,h⟩:=Y4 h;have n:=zA h;cases qg n.1;have O:=W ok n.2 nd;refine Snd.of (λB s Z H Q I q=>?_) (eg O.pt) (λ_ _ _ z=>by cases z) rfl;refine UnaryOp_ (AB (O.pe B s Z H _ I q) λv s1 ⟨x,Y,I1,r1,q1⟩=>?_);have q1:IG X.K x Y (λc H2=>Q (.bl (!c)) H2):=q1;rw[VW]at q1;refine not_of (AB (G1 B s1 Z Y x v _ I1 r1 q1) λc s2 ⟨H2,I2,q2⟩=>?_);exact⟨.bl (!c),H2,I2,rfl,q2⟩|call f as ih =>
  intro X S E ok e h nd;obtain⟨p,es,ks,pos,rfl,hg,h⟩:=lL h;have n:=zA h;cases Q5.mp n.1;obtain⟨g1,g2,g3⟩:=cL hg;have hg:Gl X f:=show X.env.scope.names.lookup f=some .globalImplicit by rw[ok.sc];exact g1
  obtain⟨CX,k,a,fd,ps,F,hr,hm,hk,hb,hx,_⟩:=ok.fn f nd.1;have pa:=(ih ok n.2 nd.2).pa es pos rfl;have st:=iE as n.2;have pe:PE X (.Call (.Name f p) es [] pos) (wp X.K G.ev (.call f as) E).e:=by
   cases es with|nil=>exact GG (E3 (pos:=pos) (p:=p) F hr hg hm hk hb .nil hx g2) λZ H Q q=>OZ as n.2 q|cons e1 M=>have st:=zA st;refine GG (l9 (pos:=pos) (p:=p) F hr hg hm hk hb .nil hx pa g2 (PB _ st.1) (aG st.2)) λZ H Q q=>?_;show(wp X.K G.ev as E).a Z H λvs Y=>G.ev.sp f (vs++[]) Y Q E;simp only[Qu];exact q
  exact Snd.of pe (ID pe λ_=>rfl) (λ_ _ _ z=>by cases z) rfl
 |idx a b W J=>intro X S E ok e h nd;obtain⟨v,i,pos,rfl,h⟩:=IP h;have n:=zA h;have A:=zA n.2;have pe:=om (pos:=pos) (Ih ok.un) (W ok A.1 nd.1).pe (J ok A.2 nd.2).pe (y9 n.1);exact Snd.of pe (ID pe λ_=>rfl) (λ_ _ _ z=>by cases z) rfl|nop=>intro X S E ok e h nd;exact(QG h).elim|lst as ih=>intro X S E ok e h nd;obtain⟨es,pos,rfl,h⟩:=lM h;have pa:=(ih ok h nd).pa es pos rfl;exact⟨Fg pa,AL,λ_ _ _ z=>(by cases z),λ_ _ z=>jS,λ_ _ z=>trivial⟩|tup as ih=>intro X S E ok e h nd;obtain⟨es,k,pos,rfl,h⟩:=i9 h;exact Snd.lit (Cg ((ih ok h nd).pa es pos rfl)) rfl (λ_ _ _ z=>by cases z) rfl|dnew b=>intro X S E ok e h nd;obtain⟨ks,vs,pos,rfl,h⟩:=zS h;have n:=zA h;cases Q5.mp n.1;cases Q5.mp n.2;exact Snd.lit d9 rfl (λ_ _ _ z=>by cases z) rfl|dsp a b W J =>
  intro X S E ok e h nd;obtain⟨ks,vs,pos,rfl,h⟩:=zS h;obtain⟨k,rfl,h⟩:=EB h;obtain⟨v,rfl,h⟩:=EB h;have n:=zA h;cases k with|none=>exact(QG n.1).elim|some k=>exact Snd.lit (c9 ok.un (W ok n.1 nd.1).pe (J ok n.2 nd.2).pe) rfl (λ_ _ _ z=>by cases z) rfl
 |ng i=>intro X S E ok e h nd;obtain⟨o,x,pos,rfl,h⟩:=Y4 h;have n:=zA h;cases qg n.1;obtain⟨c,k,pos2,rfl,A⟩:=mE n.2;obtain⟨j,rfl,A⟩:=b7 A;cases qg A;exact Snd.lit (λB s Z H Q I q=>gm (pos:=pos) (Mf (X:=X)) (ta:=λ_ H Q=>Q (.int i) H) GU B s Z H Q I ⟨i,rfl,q⟩) rfl (λ_ _ _ z=>by cases z) rfl|nz=>intro X S E ok e h nd;obtain⟨es,pos,rfl,h⟩:=lM h;cases Q5.mp h;exact Snd.args HU trivial rfl rfl|ny a as W ih=>intro X S E ok e h nd;obtain⟨es,pos,rfl,h⟩:=lM h;obtain⟨e1,M,rfl,h⟩:=YK h;have n:=zA h;have A:=zA n.2;have O:=(W ok A.1 nd.1).pe;have ss:=ih ok A.2 nd.2;exact Snd.args (LP O (ss.pa M pos rfl) (PB _ n.1)) ⟨O,ss.pas M pos rfl⟩ rfl rfl|bi f as ih =>
  intro X S E ok e h nd;obtain⟨p,es,ks,pos,rfl,hg,h⟩:=lL h;have n:=zA h;cases Q5.mp n.1;obtain⟨e1,M,rfl,L⟩:=YK n.2;obtain⟨g1,g2,g3⟩:=cL hg;have hg:Gl X f.nm:=show X.env.scope.names.lookup f.nm=some .globalImplicit by rw[ok.sc];exact g1
  have pa:=(ih ok L nd.2).pa _ pos rfl;have st:=zA (iE as L);have pe:PE X (.Call (.Name f.nm p) (e1::M) [] pos) (wp X.K G.ev (.bi f as) E).e:=by
   rcases Vo ok.un ok.calm f with⟨id,hb,hc⟩| ⟨T,hb,hc⟩
   exact IR (pos:=pos) (p:=p) hc hg (ok.no _ nd.1) hb pa g3 g2 (PB _ st.1) (aG st.2);exact CY (pos:=pos) (p:=p) hc hg (ok.no _ nd.1) hb pa g3 g2 (PB _ st.1) (aG st.2)
  exact Snd.of pe (ID pe λ_=>rfl) (λ_ _ _ z=>by cases z) rfl
 |mt m o as iho ih =>
  intro X S E ok e h nd;obtain⟨v,ap,es,pos,rfl,A,h⟩:=pX h;have h0:=zA h;have n:=zA h0.2;have L:=zA n.2;have P:=zA L.2;have po:=(iho ok P.1 nd.1).pe;have pa:=(ih ok P.2 nd.2).pa _ pos rfl;have st:=iE as P.2;obtain⟨id,pat,sl,ty,mr⟩:=jn (X:=X) ok.un m;have pe:PE X (.Call (.Attribute v m.nm ap) es [] pos) (wp X.K G.ev (.mt m o as) E).e:=by
   cases es with
   |nil =>
    refine GG (Hg (apos:=ap) (cpos:=pos) pat sl ty mr po (E4 n.1) A) λZ H Q q=>?_;have e:(λ(x:V) (Y:Hp)=>EZ X.K m.ty x Y/\Ja X.K m x [] Y Q)=λ(x:V) (Y:Hp)=>EZ X.K m.ty x Y/\(wp X.K G.ev as E).a Z Y λvs H2=>Ja X.K m x vs H2 Q:=by funext x Y;rw[propext (AT as h0.1 P.2)]
    show(wp X.K G.ev o E).e Z H (λ(x:V) (Y:Hp)=>EZ X.K m.ty x Y/\Ja X.K m x [] Y Q);rw[e];exact q
   |cons e1 M=>have s2:=zA st;refine am (apos:=ap) (cpos:=pos) pat sl ty mr po pa (E4 n.1) ?_ A (PB _ s2.1) (aG s2.2);rw[IT st];have hl':(e1::M).length<20:=of_decide_eq_true L.1;show(true&&true&&decide ((e1::M).length+0+0<30))=true;rw[dT (Ql hl' (by decide:20<=30):(e1::M).length+0+0<30)];rfl
  exact Snd.of pe (ID pe λ_=>rfl) (λ_ _ _ z=>by cases z) rfl
 |slc a lo hi W ihl ihh =>
  intro X S E ok e h nd;obtain⟨v,sl,pos,rfl,h⟩:=IP h;obtain⟨l,u,st,p2,rfl,h⟩:=HY h;have n:=zA h;have A:=zA n.2;have L:=zA A.2;have part:∀(q:PX) (w:Option Expr),(∀{e:Expr},fC q S e=true->PE X e (wp X.K G.ev q E).e)->Xm w (isNop q) (λe=>!isNop q&&fC q S e)=true ->
    PO X w (λZ H R=>(if isNop q=true then λ(R:Option Int->Hp->Prop)=>R none H else λR=>(wp X.K G.ev q E).e Z H λl H2=>cM l H2 R) R):=by
   intro q w ihq hq;cases w with
   |none=>have e:isNop q=true:=hq;simp only[e,if_true];exact j9|some e' =>
    have q1:=zA hq;have e:isNop q=false:=(qB _).mp q1.1;simp only[e,Qo,if_false];intro B s Z H Q I w;refine E8 (ihq q1.2) B s Z H Q I ?_;show(wp X.K G.ev q E).e Z H (λ(x:V) (Y:Hp)=>∃i,x=.int i/\Q (some i) Y);have e2:(λ(x:V) (Y:Hp)=>∃i,x=.int i/\Q (some i) Y)=λ(x:V) (Y:Hp)=>cM x Y Q:=by funext x Y;exact(y4 x Y Q).symm
    rw[e2];exact w
  cases QAM.mp n.1;exact Snd.lit (P3 (pos:=pos) (p2:=p2) xg (W ok A.1 nd.1).pe (part lo l (λhc=>(ihl ok hc nd.2.1).pe) L.1) (part hi u (λhc=>(ihh ok hc nd.2.2).pe) L.2)) rfl (λ_ _ _ z=>by cases z) rfl
 |comp mask tgs tg d its cond elt ihi ihc ihe =>
  intro X S E ok e h nd;obtain⟨e,gens,scope,pos,rfl,h⟩:=OU h;obtain⟨⟨t,it,ifs,asy⟩,rfl,h⟩:=EB h;have h0:=zA h;have hi:=zA h0.2;have n:=zA hi.2;have A:=zA n.2;have L:=zA A.2;have P:=zA L.2;have h5:=zA P.2;have ea:asy=0:=qg h0.1;cases ea;have C:CompSt X.N X.env.scope scope tgs mask:=by rw[ok.N,ok.sc];exact mT n.1
  obtain⟨n1,n2,n3,n4⟩:=nd;have pi:PI X t it (lU λZ H R=>(wp X.K G.ev its E).a Z H λvs Y=>VC X.K d vs Y R):=FU ok P.1 n1 ((qB _).mp hi.1) λes p q=>ihi ok q n2;refine Snd.lit (f9 (pos:=pos) (g:=tE X.K tg) (tc:=if isNop cond=true then λ_ H Q=>Q true H else(wp X.K G.ev cond (λ_ _ _=>False)).t) (te:=(wp X.K G.ev elt (λ_ _ _=>False)).e) ok.calm pi C (λs H ex=>?_) (λx=>IU L.1 x)) rfl (λ_ _ _ z=>by cases z) rfl;have okc:=ok.comp scope tgs mask s H ex;refine⟨xX okc (λz=>(QG z).elim) C.nd A.1,?_,(ihe okc h5.2 n4).pe⟩;have hif:=h5.1;cases ifs with|nil=>have e:isNop cond=true:=hif;simp only[e,if_true];exact vX|cons c r=>have q1:=zA hif;have q2:=zA q1.2;cases Q5.mp q1.1;have e:isNop cond=false:=(qB _).mp q2.1;simp only[e,Qo,if_false];exact kX (ihc okc q2.2 n3).pt
end
end L2.L3
namespace L2.L3
open PySem PySem.Spec PyProof.Rows
section
variable{s:Stmt}{f:Expr->List Stmt->List Stmt->Bool}
set_option genSizeOf false in
set_option genInjectivity false in
inductive PT where
 |nil|seq (s r:PT)
 |set (i:Nat) (e:PX)
 |expr (e:PX)|ret (e:PX)
 |ife (c:PX) (a b:PT)
 |for_ (tg:Tg) (ik:ItK) (its:PX) (body:PT)
 |own (i:Nat) (e:PX)|tset (is:LN) (e:PX)|six (o i e:PX)|sdf (i:Nat) (k:PX)|whl (c:PX) (body:PT)|frz (is:LN) (s:PT)
def GR(K:QE):V->V->V->Hp->(Hp->Prop)->Prop:=λo i v H Q=>match o,i with
 | .ref p,.int k=>∃h j,H p=some (.lst h)/\UO h.length k=some j/\Q (BA H p (.lst (h.set j v)))|.ref p,.str z=>Pj K H p (.str z) v Q|.ref p,.ref b=>Pj K H p (.ref b) v Q|_,_=>False
def Ol(i:Nat)(k:PX):PX:=.mt .setd (.xz i) %[k,.dnew true|1]
def Os(J:It)(g:TG)(tb:TS)(D:Ends)(σ:St)(w:Hp):Prop:=∃W:Nat->Nat->St->Hp->Prop,(∃m,W 0 m σ w)/\∀i m σ H,W i m σ H ->
 (J.stop i H/\D.nx σ H)∨(J.go i H/\∃N:St->Hp->Prop,(∀h y,N h y->∃u,u < m/\W (i+1) u h y)/\∀x y,J.yld i H x y->g x σ y λz v=>tb { D with nx:=N,ct:=N,bk:=D.nx } z v)
def Lj(K:QE)(xs:List Item)(st:Hp->Prop)(h:Tg)(tb:TS)(D:Ends)(σ:St)(H:Hp):Prop:=∀J,Yields J xs st->Os J (tE K h) tb D σ H
noncomputable def nR(K:QE)(Γ:Ev)(E:XK):PT->TS
 | .nil=>λD h H=>D.nx h H|.seq s r=>λD h H=>nR K Γ E s { D with nx:=λh H=>nR K Γ E r D h H } h H|.set i e=>λD h H=>(wp K Γ e E).e h H λx y=>D.nx (h.set i (some x)) y|.own i e=>λD h H=>(wp K Γ e E).e h H λx y=>D.nx (h.set i (some x)) y|.expr e=>λD h H=>(wp K Γ e E).e h H λ_ y=>D.nx h y|.ret e=>λD h H=>(wp K Γ e E).e h H D.rt|.ife c a b=>λD h H=>(wp K Γ c E).t h H λk y=>if k=true then nR K Γ E a D h y else nR K Γ E b D h y|.for_ l q u z=>λD h H=>(wp K Γ u E).a h H λj y=>VC K q j y λg st w=>Lj K g st l (nR K Γ E z) D h w|.tset p e=>λD h H=>(wp K Γ e E).e h H λx y=>tE K (.tp p) x h y D.nx|.six o i e=>λD h H=>(wp K Γ e E).e h H λv y=>(wp K Γ o E).e h y λm w=>(wp K Γ i E).e h w λn Y=>GR K m n v Y λX=>D.nx h X|.sdf i k=>λD h H=>(wp K Γ (Ol i k) E).e h H λ_ y=>D.nx h y|.whl c z=>M1 (wp K Γ c E).t (nR K Γ E z)|.frz _ s=>nR K Γ E s
noncomputable def ME(G:Glob):PT->Prop
 | .nil=>True|.seq s r=>ME G s/\ME G r|.set _ e=>uB G e|.own _ e=>uB G e|.tset _ e=>uB G e|.six o i e=>uB G o/\uB G i/\uB G e|.sdf i k=>uB G (Ol i k)|.whl c h=>uB G c/\ME G h|.frz _ s=>ME G s|.expr e=>uB G e|.ret e=>uB G e|.ife c a b=>uB G c/\ME G a/\ME G b|.for_ _ y x h=>Xn G y/\uB G x/\ME G h
noncomputable def RF:Expr->Bool
 | .ListComp _ _ _ _ | .SetComp _ _ _ _ | .DictComp _ _ _ _ _=>false
 |_=>true
noncomputable def lP(S:SC)(i:Nat)(x:Str):Bool:=S.N[i]?==some x&&(S.sc.names.lookup x==some .local||S.sc.names.lookup x==some .cell)
noncomputable def JX:PT->Bool
 | .nil=>false|.seq _ _=>false|.frz _ s=>JX s|_=>true
noncomputable def uS(s:Stmt)(f:List Expr->Expr->Bool):Bool:=match s with | .Assign h v _=>f h v|_=>false
noncomputable def Eg(s:Stmt)(f:Expr->Bool):Bool:=match s with | .Expr v _=>f v|_=>false
noncomputable def Hc(s:Stmt)(f:Option Expr->Bool):Bool:=match s with | .Return v _=>f v|_=>false
noncomputable def Lc(s:Stmt)(f:Expr->List Stmt->List Stmt->Bool):Bool:=match s with | .If t x y _=>f t x y|_=>false
noncomputable def Mc(s:Stmt)(f:Expr->Expr->List Stmt->List Stmt->Pos->Bool):Bool:=match s with | .For t it x y p=>f t it x y p|_=>false
noncomputable def Vm(s:Stmt)(f:Expr->List Stmt->List Stmt->Bool):Bool:=match s with | .While t x y _=>f t x y|_=>false
noncomputable def Cm:Expr->Bool
 | .Tuple _ _ _=>false|.List _ _=>false|_=>true
theorem xL{f:List Expr->Expr->Bool}(h:uS s f=true):∃ts v p,s=.Assign ts v p/\f ts v=true:=by
 cases s with|Assign ts v p=>exact⟨ts,v,p,rfl,h⟩|_=>exact(QG h).elim
theorem Z4{f:Expr->Bool}(h:Eg s f=true):∃v p,s=.Expr v p/\f v=true:=by
 cases s with|Expr v p=>exact⟨v,p,rfl,h⟩|_=>exact(QG h).elim
theorem J9{f:Option Expr->Bool}(h:Hc s f=true):∃v p,s=.Return v p/\f v=true:=by
 cases s with|Return v p=>exact⟨v,p,rfl,h⟩|_=>exact(QG h).elim
theorem Y9(h:Lc s f=true):∃t x y p,s=.If t x y p/\f t x y=true:=by
 cases s with|If t x y p=>exact⟨t,x,y,p,rfl,h⟩|_=>exact(QG h).elim
theorem Z9{f:Expr->Expr->List Stmt->List Stmt->Pos->Bool}(h:Mc s f=true):∃t it x y p,s=.For t it x y p/\f t it x y p=true:=by
 cases s with|For t it x y p=>exact⟨t,it,x,y,p,rfl,h⟩|_=>exact(QG h).elim
theorem Rg(h:Vm s f=true):∃t x y p,s=.While t x y p/\f t x y=true:=by
 cases s with|While t x y p=>exact⟨t,x,y,p,rfl,h⟩|_=>exact(QG h).elim
noncomputable def setB(S:SC)(i:Nat)(c:Expr->Bool)(l:List Stmt):Bool:=JN l λst=>uS st λh v=>JN h λt=>iJ t λx _=>lP S i x&&((RF v||S.sc.names.lookup x==some .cell)&&c v)
def Jd:PX->Bool
 | .comp _ _ _ _ _ _ _=>true|_=>false
noncomputable def HW(S:SC)(i:Nat)(e:PX)(l:List Stmt):Bool:=JN l λst=>uS st λy v=>JN y λt=>iJ t λx z=>Ag v λw u sc h=>Ch S i x&&(S.sc.kind==.function&&(z.line==h.line&&(!(sc.names.any λ(n,k)=>n==x&&(k==.local||k==.cell))&&(Jd e&&fC e S (.ListComp w u sc h)))))
noncomputable def LQ:PT->SC->List Stmt->Bool
 | .nil,_,l=>l.isEmpty|.seq s r,S,l=>V9 l λst l=>JX s&&(LQ s S [st]&&LQ r S l)|.set i e,S,l=>setB S i (fC e S) l||HW S i e l
 | .own i e,S,l=>setB S i (fC e S) l||HW S i e l
 | .frz _ s,S,l=>LQ s S l|.expr e,S,l=>JN l λst=>Eg st λv=>RF v&&fC e S v|.ret e,S,l=>JN l λst=>Hc st λv=>Xm v false (fC e S)|.ife c a b,S,l=>JN l λst=>Lc st λt x y=>fC c S t&&(LQ a S x&&LQ b S y)|.for_ tg ik its body,S,l=>JN l λst=>Mc st λt it x y z=>y.isEmpty&&(Dp true S tg t&&(lS it&&(Mp (AE its) S ik (λg p=>fC its S (.List g p)) t it z&&LQ body S x)))|.tset is e,S,l=>JN l λst=>uS st λh v=>JN h λt=>Cm v&&(RF v&&(eQ t&&(Dp true S (.tp is) t&&fC e S v)))|.six o i e,S,l=>JN l λst=>uS st λh v=>JN h λt=>dX t λw u _=>uQ u&&(RF v&&(fC e S v&&(fC o S w&&fC i S u)))|.sdf i k,S,l=>JN l λst=>Eg st λv=>RF v&&fC (Ol i k) S v|.whl c body,S,l=>JN l λst=>Vm st λt x y=>y.isEmpty&&(fC c S t&&LQ body S x)
structure OkS(X:Cx)(S:SC)(G:Glob)(E:XK):Prop extends OkX X S G E where
 po:PassesOwn (model X.prog X.w) X.A X.env X.xe
 nd:X.N.Nodup
 cel:∀x,X.fn x=true
end
section
variable{X:Cx}{S:SC}{G:Glob}{E:XK}
section
variable{i:Nat}{x:Str}{e:PX}
theorem mM{e:Expr}{t:Option Expr}{n:Nat}{env:Env}(h:RF e=true):swapsWith e t n env=pure false:=by cases e<;>first|rfl|cases h
theorem U2(n:X.A.units+66<cLine):jc X (GR X.K):=by
 intro y s w H o i v l m u Q I f g a h;cases o with
 |ref p =>
  cases i with|int k=>obtain⟨r,j,Z,Y,q⟩:=h;exact B2 y s w H _ _ v l m u Q I f g a ⟨p,r,k,j,rfl,rfl,Z,Y,q⟩|str z=>exact FR n y s w H _ _ v l m u Q I f g a h|ref b=>exact FR n y s w H _ _ v l m u Q I f g a h|_=>exact Qd h
 |_=>exact Qd h
theorem tY(ok:OkX X S G E)(h:lP S i x=true):X.N[i]?=some x/\Zk X.env.scope x:=by simp only[lP,Qg,WL,beq_iff_eq]at h;rw[ok.N,ok.sc];exact⟨h.1,h.2⟩
theorem UY(ok:OkS X S G E){v:Expr}{u pos:Pos}(g:lP S i x=true)(w:(RF v||S.sc.names.lookup x==some .cell)=true)(pe:PE X v (wp X.K G.ev e E).e) :
  PS X (.Assign [.Name x u] v pos) (nR X.K G.ev E (.set i e)):=by
 obtain⟨l,j⟩:=tY ok.toOkX g;refine ig (pos':=u) ok.nd l j pe ?_ (.inl (ok.cel x));cases z:RF v with
 |true=>exact mM z|false =>
  rw[z,QAU,beq_iff_eq,<- ok.sc]at w;have hk:X.env.kindOf x=some .cell:=w;have key:∀(b c:Bool) (y h:Nat),(pure (b&&X.env.kindOf x==some .local&&y==h&&!c):Sem Bool)=pure false:=λb c y h=>by
   rw[hk];have:(b&&(some NameKind.cell==some NameKind.local)&&y==h&&!c)=false:=by cases b<;>rfl
   rw[this]
  cases v with|ListComp m a sc f=>exact key _ _ _ _|SetComp m a sc f=>exact key _ _ _ _|DictComp k v a sc f=>exact key _ _ _ _|_=>cases z
theorem Sa(h:Jd e=true):∃a b c d f g k,e=.comp a b c d f g k:=by
 cases e with|comp a b c d f g k=>exact⟨a,b,c,d,f,g,k,rfl⟩|_=>exact(QG h).elim
theorem Yg(ok:OkS X S G E){l:List Stmt}(h:HW S i e l=true)(nd:uB G e):∃st,l=[st]/\PS X st (nR X.K G.ev E (.set i e)):=by
 obtain⟨st,e1,q1⟩:=EB h;obtain⟨ts,v,p,e2,q2⟩:=xL q1;obtain⟨t,e3,q3⟩:=EB q2;obtain⟨x,px,e4,q4⟩:=PF q3;obtain⟨el,gs,sc,cp,e5,q5⟩:=OU q4;subst e1 e2 e3 e4 e5;have L:=zA q5;have J:=zA L.2;have I:=zA J.2;have F:=zA I.2;have B:=zA F.2;obtain⟨u,a,tg,ik,o,y,j,rfl⟩:=Sa B.1;refine⟨_,rfl,?_⟩;have h6:=B.2;obtain⟨el',O,m,pos,ee,g⟩:=OU h6;cases ee;obtain⟨⟨t,it,Y,Z⟩,rfl,g⟩:=EB g;have g0:=zA g;have M:=zA g0.2;have g1:=zA M.2;have g2:=zA g1.2;have g3:=zA g2.2;have R:=zA g3.2;have P:=zA R.2;have ea:Z=0:=qg g0.1;cases ea;have C:CompSt X.N X.env.scope sc a u:=by rw[ok.N,ok.sc];exact mT g1.1
 obtain⟨n1,n2,n3,n4⟩:=nd;obtain⟨l1,l2⟩:=Ca L.1;have b:X.env.scope.names.lookup x=some .local:=by rw[ok.sc];exact l2
 refine T8 (g:=tE X.K tg) (tc:=if isNop y=true then λ_ H Q=>Q true H else(wp X.K G.ev y (λ_ _ _=>False)).t) (te:=(wp X.K G.ev j (λ_ _ _=>False)).e) ok.calm ok.nd (by rw[ok.N];exact l1) b (FU ok.toOkX (pos:=cp) R.1 n1 ((qB _).mp M.1) λes p q=>snd o ok.toOkX q n2) C (λs H ex=>?_) (λx=>IU g3.1 x) ?_;have w:=ok.toOkX.comp sc a u s H ex;refine⟨xX w (λz=>(QG z).elim) C.nd g2.1,?_,(snd j w P.2 n4).pe⟩;have f:=P.1;cases Y with|nil=>have e:isNop y=true:=f;simp only[e,if_true];exact vX|cons c r=>have A:=zA f;have W:=zA A.2;cases Q5.mp A.1;have e:isNop y=false:=(qB _).mp W.1;simp only[e,Qo,if_false];exact kX (snd y w W.2 n3).pt
 have k1:X.env.scope.kind=.function:=by rw[ok.sc];exact qg J.1
 have k2:(X.env.blockKind==.function)=true:=by simp[Env.blockKind,k1,ScopeKind.isAnnotationScope]
 have k3:(X.env.kindOf x==some .local)=true:=by show(X.env.scope.names.lookup x==some .local)=true;rw[b];rfl
 show(pure (X.env.blockKind==.function&&X.env.kindOf x==some .local&&px.line==cp.line&&!(sc.names.any λ(n,k)=>n==x&&(k==.local||k==.cell))):Sem Bool)=pure true;rw[k2,k3,I.1,F.1];rfl
theorem Lq:∀(p:PT) {l:List Stmt},OkS X S G E->LQ p S l=true->ME G p->mW X l (nR X.K G.ev E p)/\(JX p=true->∀st,l=[st]->PS X st (nR X.K G.ev E p)):=by
 intro p;have one:∀{p:PT}{st:Stmt},PS X st (nR X.K G.ev E p)->mW X [st] (nR X.K G.ev E p)/\(JX p=true->∀j,[st]=[j]->PS X j (nR X.K G.ev E p)):=λh=>⟨jX h,λ_ j e=>by cases e;exact h⟩
 have f:∀{i:Nat}{e:PX}{l:List Stmt},OkS X S G E->(setB S i (fC e S) l||HW S i e l)=true->uB G e->∃st,l=[st]/\PS X st (nR X.K G.ev E (.set i e)):=λ{i e l} ok h nd=>by
  rcases(WL _ _).mp h with h|h
  rotate_left
  exact Yg ok h nd;obtain⟨st,B,n⟩:=EB h;obtain⟨P,v,p,A,m⟩:=xL n;obtain⟨t,W,q3⟩:=EB m;obtain⟨x,px,O,F⟩:=PF q3;subst B A W O;have z:=zA F;have u:=zA z.2;exact⟨_,rfl,UY ok z.1 u.1 (snd e ok.toOkX u.2 nd).pe⟩
 induction p with
 |nil=>intro l ok h nd;cases Q5.mp h;exact⟨S8,λh=>(QG h).elim⟩|seq s r J L=>intro l ok h nd;obtain⟨st,l,rfl,h⟩:=YK h;have z:=zA h;have u:=zA z.2;exact⟨K3 ((J ok u.1 nd.1).2 z.1 st rfl) (L ok u.2 nd.2).1,λh=>(QG h).elim⟩|set i e=>intro l ok h nd;obtain⟨st,rfl,q⟩:=f ok h nd;exact one q|own i e=>intro l ok h nd;obtain⟨st,rfl,q⟩:=f ok h nd;exact one q|expr e=>intro l ok h nd;obtain⟨st,rfl,h⟩:=EB h;obtain⟨v,p,rfl,h⟩:=Z4 h;have z:=zA h;exact one (zX (snd e ok.toOkX z.2 nd).pe (mM z.1))|ret e =>
  intro l ok h nd;obtain⟨st,rfl,h⟩:=EB h;obtain⟨v,p,rfl,h⟩:=J9 h;cases v with|none=>exact(QG h).elim|some v=>exact one (U3 (snd e ok.toOkX h nd).pe)
 |ife c a b N M=>intro l ok h nd;obtain⟨st,rfl,h⟩:=EB h;obtain⟨t,x,y,p,rfl,h⟩:=Y9 h;have z:=zA h;have u:=zA z.2;exact one (cm (snd c ok.toOkX z.1 nd.1).pt (N ok u.1 nd.2.1).1 (M ok u.2 nd.2.2).1)|for_ tg ik I C Y=>intro l ok h nd;obtain⟨st,rfl,h⟩:=EB h;obtain⟨t,it,x,y,p,rfl,h⟩:=Z9 h;have H:=zA h;have z:=zA H.2;have u:=zA z.2;have g:=zA u.2;cases Q5.mp H.1;exact one (Jg ok.po ok.calm (v9 ok.toOkX g.1 nd.1 λes p q=>snd I ok.toOkX q nd.2.1) (xX ok.toOkX (λ_=>ok.cel) ok.nd z.1) (Y ok g.2 nd.2.2).1 λx=>IU u.1 x)|tset is e =>
  intro l ok h nd;obtain⟨st,B,n⟩:=EB h;obtain⟨P,v,p,A,m⟩:=xL n;obtain⟨t,W,h⟩:=EB m;subst B A W;have z:=zA h;have u:=zA z.2;have g:=zA u.2;have Z:=zA g.2;cases t with
  |Tuple es k pt =>
   refine one (C3 (snd e ok.toOkX Z.2 nd).pe (xX ok.toOkX (λ_=>ok.cel) ok.nd Z.1) ?_ ?_ ?_);show swapsWith v (some (.Tuple es k pt)) p.line X.env=pure false;exact mM u.1;cases v<;>first|rfl|exact(QG z.1).elim
   rfl
  |_=>exact(QG g.1).elim
 |six o i e =>
  intro l ok h nd;obtain⟨st,B,n⟩:=EB h;obtain⟨P,v,p,A,m⟩:=xL n;obtain⟨t,W,h⟩:=EB m;subst B A W;obtain⟨ov,R,Q,O,F⟩:=IP h;subst O;have z:=zA F;have u:=zA z.2;have g:=zA u.2;have Z:=zA g.2;refine one (C3 (snd e ok.toOkX g.1 nd.2.2).pe (Ug (pos:=Q) (snd o ok.toOkX Z.1 nd.1).pe (snd i ok.toOkX Z.2 nd.2.1).pe (U2 ok.un) ?_) ?_ ?_ ?_);intro w;cases R<;>first|rfl|exact(QG z.1).elim
  show swapsWith v (some (.Subscript ov R Q)) p.line X.env=pure false;exact mM u.1;cases v<;>rfl;rfl
 |sdf i k=>intro l ok h nd;obtain⟨st,rfl,h⟩:=EB h;obtain⟨v,p,rfl,h⟩:=Z4 h;have z:=zA h;exact one (zX (snd (Ol i k) ok.toOkX z.2 nd).pe (mM z.1))|whl c C Y=>intro l ok h nd;obtain⟨st,rfl,h⟩:=EB h;obtain⟨t,x,y,p,rfl,h⟩:=Rg h;have z:=zA h;have u:=zA z.2;cases Q5.mp z.1;exact one (V3 ok.po (snd c ok.toOkX u.1 nd.1).pt (Y ok u.2 nd.2).1)|frz is s Y=>intro l ok h nd;exact Y ok h nd
end
end
noncomputable abbrev D:=PyData
set_option genInjectivity true in
inductive T where
 |d (x:D)|lst (ts:List T)|tup (ts:List T)|dct (b:Bool) (ks:List D) (ts:List T)
abbrev LT:=List T
mutual
def T.er:T->D
 | .d x=>x|.lst h=>.list (ersT h)|.tup h=>.tuple (ersT h)|.dct _ y h=>.dict (y.zip (ersT h))
def ersT:LT->List D
 |[]=>[]|t::r=>t.er::ersT r
end
theorem IA(ds:List D):ersT (ds.map T.d)=ds:=by
 induction ds with|nil=>rfl|cons d r h=>simp only[QV,ersT,h,T.er]
theorem X6:∀(ts:LT),(ersT ts).length=ts.length
 |[]=>rfl|t::r=>by simp only[ersT,QL,X6 r]
theorem DQ:∀(ts:LT),ersT ts=ts.map T.er
 |[]=>rfl|t::r=>by simp only[ersT,QV,DQ r]
def T.isD:T->Bool
 | .d _=>true|_=>false
set_option genInjectivity true in
inductive Sl where
 |own (t:T)|ky (t:T)
noncomputable abbrev kA:=List (Option Sl)
abbrev bD(x:D):Option Sl:=some (.ky (.d x))
abbrev oW(t:T):Option Sl:=some (.own t)
def oH(t:T)(n:Bool):Bool:=n||t.isD
def rA(t:T):Bool->T
 |true=>.d t.er|false=>t
theorem oA(x:D)(n:Bool):rA (.d x) n=.d x:=by cases n<;>rfl
theorem GX(t:T)(n:Bool):(rA t n).er=t.er:=by cases n<;>rfl
noncomputable def BF:LT->Option (List D)
 |[]=>some []|.d x::r=>(BF r).map (x::·)|_::_=>none
theorem VA(ds:List D):BF (ds.map T.d)=some ds:=by
 induction ds with|nil=>rfl|cons d r h=>simp only[QV,BF,h,Q6]
theorem BL:∀{ts:LT}{ds:List D},BF ts=some ds->ts=ds.map T.d
 |[],ds,h=>by simp only[BF,Qq]at h;subst h;rfl|.d x::r,ds,h=>by
  simp only[BF]at h;cases e:BF r with|none=>rw[e]at h;cases h|some y=>rw[e]at h;cases h;rw[QV,BL e]
 | .lst _::_,_,h=>by simp[BF]at h|.tup _::_,_,h=>by simp[BF]at h|.dct _ _ _::_,_,h=>by simp[BF]at h
noncomputable def yD:List (D×D)->Option Bool
 | (.tuple _,_)::_=>some true|(.str _,_)::_=>some false|_=>none
noncomputable def FD:Bool->D->Prop
 |true,k=>∃q,k=tD (.t q)/\z5 (.t q)<=6|false,k=>∃z,k=.str z
open Classical in
noncomputable def dA:List D->D->Option Nat
 |[],_=>none|x::r,k=>if x=k then some 0 else(dA r k).map (·+1)
noncomputable def ZH(b:Bool)(ks:List D)(ts:LT)(k:D)(t:T):T:=match dA ks k with
 |some n=>.dct b ks (ts.set n t)|none=>.dct b (ks++[k]) (ts++[t])
theorem PC:∀{ks:List D}{k:D}{n:Nat},dA ks k=some n->ks[n]?=some k
 |[],_,_,h=>by cases h|x::r,k,n,h=>by
  unfold dA at h;by_cases e:x=k;rw[if_pos e]at h;cases h;rw[e];rfl;rw[if_neg e]at h;cases q:dA r k with|none=>rw[q]at h;cases h|some m=>rw[q]at h;cases h;simpa using PC q
theorem FA:∀{ks:List D}{k:D},dA ks k=none↔k∉ks
 |[],_=>by simp[dA]|x::r,k=>by unfold dA;by_cases e:x=k;simp[e];rw[if_neg e,Option.map_eq_none_iff,FA];simp[qD e]
theorem HM{ks:List D}{k:D}:(dA ks k).isSome=true↔k∈ks:=by
 cases h:dA ks k with|none=>simp[FA.mp h]|some n=>simp[qT (PC h)]
set_option genInjectivity true in
inductive Vw where
 |sc (x:D)|ls (ts:LT)|tp (ts:LT)|dc (b:Bool) (ks:List D) (ts:LT)
noncomputable def DB(kvs:List (D×D)):Vw:=match yD kvs with
 |some b=>.dc b (kvs.map (·.1)) (kvs.map λp=>T.d p.2)|none=>.sc (.dict kvs)
noncomputable def T.vw:T->Vw
 | .lst h=>.ls h|.tup h=>.tp h|.dct b u h=>.dc b u h|.d x=>match x with
  | .list z=>.ls (z.map T.d)|.tuple z=>.tp (z.map T.d)|.dict y=>DB y|.none=>.sc .none|.bool b=>.sc (.bool b)|.int i=>.sc (.int i)|.str s=>.sc (.str s)
noncomputable def iF(ts:LT):T:=match BF ts with
 |some h=>.d (.tuple h)|none=>.tup ts
noncomputable abbrev XD:=Value×List (Str×D)
noncomputable abbrev XE:=XD->Prop
noncomputable abbrev TK:=T->Bool->kA->Prop
inductive Md where
 |xx|xy|ky|chg
 deriving DecidableEq
structure PSp where
 md:List Md:=[]
 run:LT->(T->LT->Prop)->XE->Prop
 mono:∀{ts:LT}{Q Q':T->LT->Prop}{E E':XE},(∀t os,Q t os->Q' t os)->(∀x,E x->E' x)->run ts Q E->run ts Q' E':=by intro _ _ _ _ _ h _ z;(repeat obtain⟨y,z⟩:=z;refine⟨y,?_⟩);first|exact h _ _ z|(intros;apply h;apply z<;>assumption)
structure PEv where
 sp:Str->PSp
 va:Str->Option D
def binT(w:Operator)(x y:Vw)(Q:T->Bool->Prop):Prop:=match w with
 | .Add=>(∃i j,x=.sc (.int i)/\y=.sc (.int j)/\Q (.d (.int (i+j))) false)∨(∃a b,x=.sc (.str a)/\y=.sc (.str b)/\a.length+b.length<=sizeLine/\Q (.d (.str (a++b))) false) ∨
  (∃v u z h,x=.ls v/\y=.ls u/\BF v=some z/\BF u=some h/\z.length+h.length<=sizeLine/\Q (.lst ((z++h).map T.d)) true)
 | .Sub=>∃i j,x=.sc (.int i)/\y=.sc (.int j)/\Q (.d (.int (i - j))) false|.Mult=>(∃i j,x=.sc (.int i)/\y=.sc (.int j)/\IntMulOk i j/\Q (.d (.int (i * j))) false)∨(∃a k,x=.sc (.str a)/\y=.sc (.int k)/\(-(2 ^ 31)<=k/\k<2 ^ 31/\a.length * k.toNat<=sizeLine)/\Q (.d (.str (aJ a k))) false)|.FloorDiv=>∃i j,x=.sc (.int i)/\y=.sc (.int j)/\(0<j/\j<2 ^ 200)/\Q (.d (.int (i / j))) false|.Mod=>∃i j,x=.sc (.int i)/\y=.sc (.int j)/\0<j/\Q (.d (.int (i % j))) false|_=>False
section
variable{Q:T->Bool->Prop}
theorem mj(i j:Int):binT .Add (.sc (.int i)) (.sc (.int j)) Q=Q (.d (.int (i+j))) false:=by simp[binT]
theorem lj(a b:Str):binT .Add (.sc (.str a)) (.sc (.str b)) Q=(a.length+b.length<=sizeLine/\Q (.d (.str (a++b))) false):=by simp[binT]
theorem fj(xs h:LT):binT .Add (.ls xs) (.ls h) Q=∃ds es,BF xs=some ds/\BF h=some es/\ds.length+es.length<=sizeLine/\Q (.lst ((ds++es).map T.d)) true:=by simp[binT]
theorem cj(i j:Int):binT .Sub (.sc (.int i)) (.sc (.int j)) Q=Q (.d (.int (i - j))) false:=by simp[binT]
theorem bj(i j:Int):binT .Mult (.sc (.int i)) (.sc (.int j)) Q=(IntMulOk i j/\Q (.d (.int (i * j))) false):=by simp[binT]
theorem xj(a:Str)(k:Int):binT .Mult (.sc (.str a)) (.sc (.int k)) Q=((-(2 ^ 31)<=k/\k<2 ^ 31/\a.length * k.toNat<=sizeLine)/\Q (.d (.str (aJ a k))) false):=by simp[binT]
theorem vj(i j:Int):binT .FloorDiv (.sc (.int i)) (.sc (.int j)) Q=((0<j/\j<2 ^ 200)/\Q (.d (.int (i / j))) false):=by simp[binT]
theorem kj(i j:Int):binT .Mod (.sc (.int i)) (.sc (.int j)) Q=(0<j/\Q (.d (.int (i % j))) false):=by simp[binT]
end
section
variable{Q:T->Prop}
noncomputable def Tp:D->D->(Bool->Prop)->Prop
 | .int i,.int j,Q=>Q (decide (i=j))|.str x,.str y,Q=>Q (decide (x=y))|.bool x,.bool y,Q=>Q (decide (x=y))|a,b,Q=>eF a/\eF b/\Q (Qx a b)
noncomputable def EA:D->Bool
 | .none | .bool _ | .int _ | .str _=>true
 |_=>false
noncomputable def Np:D->D->(Bool->Prop)->Prop
 | .str x,.str y,Q=>Q (inStr y x)|a,.list ds,Q|a,.tuple ds,Q=>((EA a=true/\ds.all EA=true)∨(eF a/\eF (.list ds)))/\Q (ds.any λy=>Qx y a)
 |a,.dict kvs,Q=>∃b,yD kvs=some b/\FD b a/\Q (dA (kvs.map (·.1)) a).isSome|_,_,_=>False
noncomputable def DY(f:Int->Int->Bool):D->D->(Bool->Prop)->Prop
 | .int i,.int j,Q=>Q (f i j)|_,_,_=>False
def z6:D->Bool
 | .none=>true|_=>false
noncomputable def mZ:D->D->(Bool->Prop)->Prop
 |a,.none,Q=>Q (z6 a)|.bool a,.bool b,Q=>Q (decide (a=b))|_,_,_=>False
noncomputable def RV:CmpOp->D->D->(Bool->Prop)->Prop
 | .Eq,a,b,Q=>Tp a b Q|.NotEq,a,b,Q=>Tp a b λk=>Q (!k)|.Lt,a,b,Q=>DY (λi j=>decide (i<j)) a b Q|.LtE,a,b,Q=>DY (λi j=>decide (i<=j)) a b Q|.Gt,a,b,Q=>DY (λi j=>decide (j<i)) a b Q|.GtE,a,b,Q=>DY (λi j=>decide (j<=i)) a b Q|.In,a,b,Q=>Np a b Q|.NotIn,a,b,Q=>Np a b λk=>Q (!k)|.Is,a,b,Q=>mZ a b Q|.IsNot,a,b,Q=>mZ a b λk=>Q (!k)
def Bb(h:CmpOp)(x:D)(y:T)(Q:Bool->Prop):Prop:=match y with
 | .dct b u _=>FD b x/\((h=.In/\Q (dA u x).isSome)∨(h=.NotIn/\Q (!(dA u x).isSome)))|.d y=>RV h x y Q|.lst z=>RV h x (.list (ersT z)) Q|.tup z=>RV h x (.tuple (ersT z)) Q
noncomputable def IH:D->(Bool->Prop)->Prop
 | .bool b,Q=>Q b|.int i,Q=>Q (i != 0)|.none,Q=>Q false|.str z,Q=>z.length<=sizeLine/\Q ((z.length:Int) != 0)|.list ds,Q=>Q (!ds.isEmpty)|.tuple ds,Q=>Q (!ds.isEmpty)|_,_=>False
def rj:D->(Bool->Prop)->Prop
 | .bool b,Q=>Q b|_,_=>False
def xT(x:Vw)(k:D)(Q:T->Prop):Prop:=∃b y h n t,x=.dc b y h/\FD b k/\dA y k=some n/\h[n]?=some t/\Q t
def GN(x y:Vw)(Q:T->Prop):Prop:=(∃z i c,x=.sc (.str z)/\y=.sc (.int i)/\z.length<=sizeLine/\pD z.cps.toList i=some c/\Q (.d (.str ⟨#[c]⟩))) ∨
 (∃h i t,x=.ls h/\y=.sc (.int i)/\pD h i=some t/\Q t)∨(∃h i t,x=.tp h/\y=.sc (.int i)/\pD h i=some t/\Q t)
theorem zi(z:Str)(i:Int):GN (.sc (.str z)) (.sc (.int i)) Q=(z.length<=sizeLine/\∃c,pD z.cps.toList i=some c/\Q (.d (.str ⟨#[c]⟩))):=by simp[GN]
theorem x6(ts:LT)(i:Int):GN (.ls ts) (.sc (.int i)) Q=∃t,pD ts i=some t/\Q t:=by simp[GN]
theorem yi(ts:LT)(i:Int):GN (.tp ts) (.sc (.int i)) Q=∃t,pD ts i=some t/\Q t:=by simp[GN]
noncomputable def dC{α:Type}(xs:List α)(h x:Option Int):List α:=(xs.drop (HT.sIx xs.length 0 h)).take (HT.sIx xs.length xs.length x - HT.sIx xs.length 0 h)
def VN(x:Vw)(y u:Option Int)(Q:T->Bool->Prop):Prop:=(∃z,x=.sc (.str z)/\z.length<=sizeLine/\Q (.d (.str (we z y u))) false)∨(∃h v,x=.ls h/\BF h=some v/\Q (.lst ((dC v y u).map T.d)) true)
end
section
variable{Q:T->Bool->Prop}{h x:Option Int}
theorem vg(z:Str):VN (.sc (.str z)) h x Q=(z.length<=sizeLine/\Q (.d (.str (we z h x))) false):=by simp[VN]
theorem kg(ts:LT):VN (.ls ts) h x Q=∃ds,BF ts=some ds/\Q (.lst ((dC ds h x).map T.d)) true:=by simp[VN]
end
noncomputable def NF:D->(Option Int->Prop)->Prop
 | .int i,Q=>Q (some i)|_,_=>False
def HB(l:LS):D:=.list (l.map Jx)
def OT(f:Bi)(vs:List Vw)(Q:T->Bool->Prop):Prop:=match f with
 | .len=>(∃z,vs=[.sc (.str z)]/\z.length<=sizeLine/\Q (.d (.int z.length)) false)∨(∃h,vs=[.ls h]/\Q (.d (.int h.length)) false)∨(∃h,vs=[.tp h]/\Q (.d (.int h.length)) false)|.any=>∃h,∃bs:List Bool,vs=[.ls h]/\BF h=some (bs.map PyData.bool)/\Q (.d (.bool (bs.any id))) false|.list=>∃h v,vs=[.ls h]/\BF h=some v/\Q (.lst (v.map T.d)) true|.sorted=>(∃h,∃w:LS,vs=[.ls h]/\BF h=some (w.map Jx)/\w.length<64/\∀x:LS,x.Perm w->sortedS x=true->Q (.lst ((x.map Jx).map T.d)) true) ∨
  (∃h,∃ls:List (LS),vs=[.ls h]/\BF h=some (ls.map HB)/\ls.length<64/\∀u:List (LS),u.Perm ls->Q (.lst ((u.map HB).map T.d)) true) ∨
  (∃h,∃k:LJ,vs=[.ls h]/\BF h=some (k.map Jy)/\k.length<64/\∀y:LJ,y.Perm k->y.Pairwise (·<=·)->Q (.lst ((y.map Jy).map T.d)) true)
 | .max=>∃i j,vs=[.sc (.int i),.sc (.int j)]/\Q (.d (.int (if j > i then j else i))) false|.tuple=>∃h v,vs=[.ls h]/\BF h=some v/\Q (.d (.tuple v)) false|.int=>∃b:Bool,vs=[.sc (.bool b)]/\Q (.d (.int (if b then 1 else 0))) false
section
variable{Q:T->Bool->Prop}
theorem ve(ts:LT):OT .len [.ls ts] Q=Q (.d (.int ts.length)) false:=by simp[OT]
theorem Bo(ts:LT):OT .any [.ls ts] Q=∃bs:List Bool,BF ts=some (bs.map PyData.bool)/\Q (.d (.bool (bs.any id))) false:=by simp[OT]
theorem oj(i j:Int):OT .max [.sc (.int i),.sc (.int j)] Q=Q (.d (.int (if j > i then j else i))) false:=propext ⟨λ⟨_,_,e,h⟩=>by cases e;exact h,λh=>⟨_,_,rfl,h⟩⟩
theorem ke(ts:LT):OT .tuple [.ls ts] Q=∃ds,BF ts=some ds/\Q (.d (.tuple ds)) false:=by simp[OT]
theorem Xo(b:Bool):OT .int [.sc (.bool b)] Q=Q (.d (.int (if b then 1 else 0))) false:=by simp[OT]
theorem Uo(ts:LT):OT .list [.ls ts] Q=∃ds,BF ts=some ds/\Q (.lst (ds.map T.d)) true:=by simp[OT]
end
section
variable{N:T->T->Prop}
def Jr(m:Mt)(x:Vw)(vs:List Vw)(Q:T->Bool->Prop):Prop:=match m with
 |_=>False
def Vw.isS:Vw->Bool
 | .sc (.str _)=>true|_=>false
noncomputable def isMut:Mt->Bool
 | .append=>true|.pop=>true|.setd=>true|.extend=>true
def aa(m:Mt)(x:Vw):Bool:=x.isS&&!isMut m
def KJ(m:Mt)(s:T)(us:LT)(N:T->T->Prop):Prop:=match m with
 | .append=>∃h t,s=.lst h/\us=[t]/\h.length<sizeLine/\N (.d .none) (.lst (h++[t]))|.pop=>∃h i k t,s=.lst h/\(us=[.d (.int i)]∨us=[]/\i=-1)/\UO h.length i=some k/\h[k]?=some t/\N t (.lst (h.eraseIdx k))|.extend=>∃h x,s=.lst h/\us=[.lst x]/\h.length+x.length<=sizeLine/\N (.d .none) (.lst (h++x))|_=>False
theorem J5(ts:LT)(t:T):KJ .append (.lst ts) [t] N=(ts.length<sizeLine/\N (.d .none) (.lst (ts++[t]))):=by simp[KJ]
theorem t5(ts vs:LT):KJ .extend (.lst ts) [.lst vs] N=(ts.length+vs.length<=sizeLine/\N (.d .none) (.lst (ts++vs))):=by simp[KJ]
theorem Zh(ts:LT)(t:T):KJ .pop (.lst (ts++[t])) [] N=N t (.lst ts):=by
 have e:UO (ts++[t]).length (-1)=some ts.length:=by unfold UO;rw[if_neg (by decide),QH,QY,if_pos (by omega)];congr 1;omega
 refine propext ⟨λ⟨a,i,k,y,w,v,u,x,q⟩=>?_,λh=>⟨_,-1,ts.length,t,rfl,.inr ⟨rfl,rfl⟩,e,wG,by rw[WN (Qa _),QBt];simpa using h⟩⟩;cases w;rcases v with z|⟨_,rfl⟩
 cases z;rw[e]at u;cases u;rw[wG]at x;cases x;rw[WN (Qa _),QBt]at q;simpa using q
theorem i5(ts:LT)(i:Int):KJ .pop (.lst ts) [.d (.int i)] N=∃k t,UO ts.length i=some k/\ts[k]?=some t/\N t (.lst (ts.eraseIdx k)):=by simp[KJ]
noncomputable def sV:Mt->Bool
 | .append=>true|.pop=>true|.setd=>false|.extend=>true
def iI(m:Mt):T->Bool
 | .lst _=>sV m|_=>false
noncomputable def Vw.seq:Vw->Option (LT)
 | .ls h=>some h|.tp h=>some h|_=>none
def MB(u:ItK)(vs:List Vw)(R:LT->Prop):Prop:=match u with
 | .val=>(∃h,vs=[.ls h]/\R h)∨(∃h,vs=[.tp h]/\R h)∨(∃y h,vs=[.dc true y h]/\R (y.map T.d))|.rng1=>∃j,vs=[.sc (.int j)]/\(-(2 ^ 62)<=j/\j<2 ^ 62)/\R ((Qr j.toNat).map λ(i:Nat)=>.d (.int (i:Int)))|.enum=>∃x h z,vs=[x]/\x.seq=some h/\BF h=some z/\R (z.zipIdx.map λp=>.d (.tuple [.int (p.2:Int),p.1]))|.itm=>(∃y h z,vs=[.dc true y h]/\BF h=some z/\R ((y.zip z).map λp=>.d (.tuple [p.1,p.2])))∨(vs=[.sc (.dict [])]/\R [])
end
section
variable{R:LT->Prop}
theorem KI(ts:LT):MB .val [.ls ts] R=R ts:=by simp[MB]
theorem E5(ts:LT):MB .val [.tp ts] R=R ts:=by simp[MB]
theorem A5(j:Int):MB .rng1 [.sc (.int j)] R=((-(2 ^ 62)<=j/\j<2 ^ 62)/\R ((Qr j.toNat).map λ(i:Nat)=>.d (.int (i:Int)))):=by simp[MB]
theorem HS(x:Vw):MB .enum [x] R=∃ts ds,x.seq=some ts/\BF ts=some ds/\R (ds.zipIdx.map λp=>.d (.tuple [.int (p.2:Int),p.1])):=by apply propext;constructor;rintro⟨_,ts,ds,⟨⟩,h⟩;exact⟨ts,ds,h⟩;rintro⟨ts,ds,h⟩;exact⟨_,ts,ds,rfl,h⟩
theorem GS(ks:List D)(ts:LT):MB .itm [.dc true ks ts] R=∃ds,BF ts=some ds/\R ((ks.zip ds).map λp=>.d (.tuple [p.1,p.2])):=by apply propext;constructor;rintro(⟨_,_,ds,⟨⟩,h⟩| ⟨⟨⟩,_⟩);exact⟨ds,h⟩;rintro⟨ds,h⟩;exact .inl ⟨_,_,ds,rfl,h⟩
theorem FS(ks:List D)(ts:LT):MB .val [.dc true ks ts] R=R (ks.map T.d):=by simp[MB]
theorem T5:MB .itm [.sc (.dict [])] R=R []:=by apply propext;constructor;rintro(⟨_,_,x,⟨⟩,h⟩| ⟨_,h⟩);exact h;exact λh=>.inr ⟨rfl,h⟩
end
noncomputable def aB:LN->LT->kA->Option kA
 |[],[],ρ=>some ρ|i::is,t::ts,ρ=>aB is ts (ρ.set i (some (.ky t)))|_,_,_=>none
noncomputable def DK:Tg->T->kA->(kA->Prop)->Prop
 | .nm i,t,ρ,Q=>Q (ρ.set i (some (.ky t)))|.tp is,t,ρ,Q=>match t.vw with
  | .tp x=>∃h,aB is x ρ=some h/\Q h|_=>False
def Tg.ix:Tg->LN
 | .nm i=>[i]|.tp h=>h
def E2:PX->Option Nat
 | .xz i=>some i|_=>none
noncomputable def JF:Option Sl->Option Sl
 |some (.own t)=>some (.ky t)|s=>s
def lockA(ρ:kA):kA:=ρ.map JF
noncomputable def lock:LN->kA->kA
 |[],ρ=>ρ|i::is,ρ=>lock is (ρ.modify i JF)
def UV:Option Sl->Option Sl
 |some (.own t)=>bD t.er|s=>s
noncomputable def frzAt:LN->kA->kA
 |[],ρ=>ρ|i::is,ρ=>frzAt is (ρ.modify i UV)
noncomputable def nH:Option Sl->Option Sl
 |some (.ky t)=>if t.isD=true then some (.ky t) else none|s=>s
noncomputable def kill:LN->kA->kA
 |[],ρ=>ρ|i::is,ρ=>kill is (ρ.modify i nH)
noncomputable def clear:LN->kA->kA
 |[],ρ=>ρ|i::is,ρ=>clear is (ρ.set i none)
noncomputable def CA:LN->kA->Option (LT)
 |[],_=>some []|i::is,ρ=>match ρ[i]? with
  |some (some (.own t))=>(CA is ρ).map (t::·)|_=>none
noncomputable def uC:LN->LT->kA->Option kA
 |[],[],ρ=>some ρ|i::is,t::ts,ρ=>uC is ts (ρ.set i (some (.own t)))|_,_,_=>none
noncomputable def ZC:List Bool->kA->kA
 |b::m,v::ρ=>(if b then none else v)::ZC m ρ|_,ρ=>ρ
def MN(k:Nat)(h:List Bool)(ρ:kA):kA:=QAF k none++ZC h ρ
def sq{α:Type}(x:T)(ρ:kA)(b:kA->(α->kA->Prop)->Prop)(K:α->kA->Prop):Prop :=
 if x.isD=true then b ρ K else b (lockA ρ) λy _=>K y ρ
def cu(f:kA->TK->Prop):kA->(T×Bool->kA->Prop)->Prop:=λy K=>f y λx n h=>K (x,n) h
def VF:List (T×Bool)->LT
 |[]=>[]|p::r=>p.1::VF r
def HN:List (T×Bool)->LT
 |[]=>[]|p::r=>rA p.1 p.2::HN r
noncomputable def jC:List (T×Bool)->List Vw
 |[]=>[]|p::r=>(rA p.1 p.2).vw::jC r
noncomputable def sE:List (T×Bool)->Bool
 |[]=>true|p::r=>oH p.1 p.2&&sE r
noncomputable def kR:List (T×Bool)->Bool
 |[]=>true|p::r=>oH p.1 p.2&&kR r
noncomputable def gE(t:T):Option T:=match t.vw with
 | .ls h=>(BF h).map λx=>.lst (x.map T.d)|_=>if t.isD=true then some t else none
noncomputable def UA:List Md->List (T×Bool)->LT->Option (LT)
 |_,[],[]=>some []|_,[],_::_=>none|md,(x,n)::xs,os=>match md.headD .xx with
  | .xx=>match rA x n with
   | .d d=>(UA md.tail xs os).map (.d d::·)|_=>none
  | .xy=>match gE (rA x n) with
   |some t=>(UA md.tail xs os).map (t::·)|none=>none
  | .ky=>(UA md.tail xs os).map (rA x n::·)|.chg=>match os with
   |o::os=>(UA md.tail xs os).map (o::·)|[]=>none
noncomputable def LB:List Md->LT->LT
 |_,[]=>[]|md,t::ts=>match md.headD .xx with
  | .chg=>t::LB md.tail ts|_=>LB md.tail ts
noncomputable def cA:List Md->PX->LN
 | .chg::md,.ny (.xz j) as=>j::cA md as|_::md,.ny _ as=>cA md as|_,_=>[]
def Md.isMut:Md->Bool
 | .chg=>true|_=>false
structure D3 where
 e:kA->TK->Prop
 t:kA->(Bool->kA->Prop)->Prop
 a:List Md->kA->(List (T×Bool)->kA->Prop)->Prop
def HE:D3:=⟨λ_ _=>False,λ_ _=>False,λ_ _ _=>False⟩
noncomputable def JD(body:T->(Option T->Prop)->Prop):LT->LT->(LT->Prop)->Prop
 |[],acc,Q=>acc.length<=sizeLine/\Q acc|x::xs,acc,Q=>body x fun
  |some y=>acc.length<sizeLine/\JD body xs (acc++[y]) Q|none=>JD body xs acc Q
def bG(v:Tg)(u:kA)(c:kA->(Bool->kA->Prop)->Prop)(e:kA->TK->Prop)(x:T)(R:Option T->Prop):Prop :=
 DK v x u λz=>c z λb h=>if b=true then e h λy n _=>oH y n=true/\R (some y) else R none
noncomputable def Fp:Option (Option Sl)->(T->Prop)->Prop
 |some (some (.own t)),Q=>Q t|some (some (.ky t)),Q=>Q t|some none,_=>False|none,_=>False
noncomputable def uD:Option (Option Sl)->(T->Prop)->Prop
 |some (some (.own t)),Q=>Q t|some (some (.ky _)),_=>False|some none,_=>False|none,_=>False
noncomputable def Yc:Option Nat->(Nat->Prop)->Prop
 |none,_=>False|some j,Q=>Q j
def y6:PX->Bool
 | .xz _=>true|_=>false
def pe(Ψ:PEv):PX->XE->D3
 | .xz i,_=>let e:kA->TK->Prop:=λv Q=>Fp v[i]? λt=>Q t false v
  ⟨e,λv Q=>e v λt _ h=>IH t.er λb=>Q b h,HE.a⟩
 | .int i,_=>⟨λv Q=>Q (.d (.int i)) false v,λv Q=>Q (i != 0) v,HE.a⟩|.str x,_=>⟨λv Q=>Q (.d (.str x)) false v,HE.t,HE.a⟩|.bl b,_=>⟨λv Q=>Q (.d (.bool b)) false v,λv Q=>Q b v,HE.a⟩|.non,_=>⟨λv Q=>Q (.d .none) false v,λv Q=>Q false v,HE.a⟩|.glo x,_=>let e:kA->TK->Prop:=λv Q=>match Ψ.va x with
   |some d=>Q (.d d) false v|none=>False
  ⟨e,λv Q=>e v λt _ h=>IH t.er λb=>Q b h,HE.a⟩
 | .bin op a b,E=>let e:kA->TK->Prop:=λv Q=>(pe Ψ a E).e v λx n h=>sq (rA x n) h (cu (pe Ψ b E).e) λy w=>binT op (rA x n).vw (rA y.1 y.2).vw λz k=>Q z k w
  ⟨e,λv Q=>e v λt _ h=>IH t.er λb=>Q b h,HE.a⟩
 | .cmp op a b,E=>let t:kA->(Bool->kA->Prop)->Prop:=λv Q=>(pe Ψ a E).e v λx n h=>sq (rA x n) h (cu (pe Ψ b E).e) λy w=>Bb op x.er (rA y.1 y.2) λk=>Q k w
  ⟨λv Q=>t v λk h=>Q (.d (.bool k)) false h,t,HE.a⟩
 | .and a b,E=>⟨λv Q=>(pe Ψ a E).e v λx _ h=>rj x.er λc=>if c=true then(pe Ψ b E).e h Q else Q (.d (.bool false)) false h,
   λv Q=>(pe Ψ a E).t v λc h=>if c=true then(pe Ψ b E).t h Q else Q false h,HE.a⟩
 | .or a b,E=>⟨λv Q=>(pe Ψ a E).e v λx _ h=>rj x.er λc=>if c=true then Q (.d (.bool true)) false h else(pe Ψ b E).e h Q,
   λv Q=>(pe Ψ a E).t v λc h=>if c=true then Q true h else(pe Ψ b E).t h Q,HE.a⟩
 | .not a,E=>⟨λv Q=>(pe Ψ a E).e v λx _ h=>IH x.er λc=>Q (.d (.bool (!c))) false h,λv Q=>(pe Ψ a E).t v λc h=>Q (!c) h,HE.a⟩|.call f as,E=>let e:kA->TK->Prop:=λv Q=>∃Z,CA (cA (Ψ.sp f).md as) v=some Z/\(cA (Ψ.sp f).md as).Nodup/\(pe Ψ as E).a (Ψ.sp f).md (clear (cA (Ψ.sp f).md as) v) λg h=>∃Y,UA (Ψ.sp f).md g Z=some Y/\(Ψ.sp f).run Y (λr s=>∃w,uC (cA (Ψ.sp f).md as) s h=some w/\Q r true w) E
  ⟨e,λv Q=>e v λt _ h=>IH t.er λb=>Q b h,HE.a⟩
 | .bi f as,E=>let e:kA->TK->Prop:=λv Q=>(pe Ψ as E).a [] v λg h=>OT f (jC g) λz k=>Q z k h
  ⟨e,λv Q=>e v λt _ h=>IH t.er λb=>Q b h,HE.a⟩
 | .mt m o as,E=>let e:kA->TK->Prop:=λv Q=>if isMut m=true then Yc (E2 o) λj=>uD v[j]? λt=>iI m t=true/\(pe Ψ as E).a [] (v.set j (some (.ky t))) λg w=>sE g=true/\w[j]?=some (some (.ky t))/\KJ m t (VF g) λr K=>Q r true (w.set j (some (.own K))) else(pe Ψ o E).e v λx n h=>aa m (rA x n).vw=true/\sq (rA x n) h ((pe Ψ as E).a []) λg w=>Jr m (rA x n).vw (jC g) λz k=>Q z k w
  ⟨e,λv Q=>e v λt _ h=>IH t.er λb=>Q b h,HE.a⟩
 | .idx a b,E=>let e:kA->TK->Prop:=λv Q=>(pe Ψ a E).e v λx n h=>sq (rA x n) h (cu (pe Ψ b E).e) λy w=>(GN (rA x n).vw (rA y.1 y.2).vw λz=>Q z false w)∨(xT (rA x n).vw y.1.er λz=>Q z false w)
  ⟨e,λv Q=>e v λt _ h=>IH t.er λb=>Q b h,HE.a⟩
 | .slc a lo hi,E=>⟨λv Q=>(pe Ψ a E).e v λx n h =>
   sq (α:=Option Int) (rA x n) h (if isNop lo=true then λv (R:Option Int->kA->Prop)=>R none v else λv R=>(pe Ψ lo E).e v λl _ w=>NF l.er λo=>R o w) λl w =>
   sq (α:=Option Int) (rA x n) w (if isNop hi=true then λv (R:Option Int->kA->Prop)=>R none v else λv R=>(pe Ψ hi E).e v λu _ p=>NF u.er λo=>R o p) λu p=>VN (rA x n).vw l u λz k=>Q z k p,HE.t,HE.a⟩
 | .nop,_=>HE|.lst as,E=>⟨λv Q=>(pe Ψ as E).a [] v λg h=>sE g=true/\g.length<=sizeLine/\Q (.lst (VF g)) true h,HE.t,HE.a⟩|.tup as,E=>⟨λv Q=>(pe Ψ as E).a [] v λg h=>sE g=true/\g.length<=sizeLine/\Q (iF (VF g)) true h,HE.t,HE.a⟩|.comp mask tgs tg ik its cond elt,E=>⟨λv Q=>(pe Ψ its E).a [] v λg h=>MB ik (jC g) λq =>
   JD (bG tg (MN tgs.length mask (lockA h)) (if isNop cond=true then λv R=>R true v else(pe Ψ cond (λ_=>False)).t) (pe Ψ elt (λ_=>False)).e) q [] λW=>Q (.lst W) true h,HE.t,HE.a⟩
 | .dnew b,_=>⟨λv Q=>Q (.dct b [] []) true v,HE.t,HE.a⟩|.dsp a b,E=>⟨λv Q=>(pe Ψ a E).e v λy m h=>oH y m=true/\(pe Ψ b E).e h λx n w=>oH x n=true/\FD true y.er/\Q (.dct true [y.er] [x]) true w,HE.t,HE.a⟩|.ng i,_=>⟨λv Q=>Q (.d (.int (-i))) false v,HE.t,HE.a⟩|.nz,_=>⟨HE.e,HE.t,λ_ v Q=>Q [] v⟩|.ny a as,E=>⟨HE.e,HE.t,λX v Q=>if(X.headD .xx).isMut=true then y6 a=true/\(pe Ψ as E).a X.tail v λg h=>Q ((.d .none,true)::g) h
   else(pe Ψ a E).e v λx n h=>sq (α:=List (T×Bool)) (if n=true then .d .none else x) h ((pe Ψ as E).a X.tail) λg w=>Q ((x,n)::g) w⟩
structure PEnds where
 nx:kA->Prop
 rt:T->kA->Prop
 bk:kA->Prop:=λ_=>False
 ct:kA->Prop:=λ_=>False
noncomputable def AG:PX->LN
 | .xz i=>[i]|.idx a _=>AG a|.and a b | .or a b=>AG a++AG b
 | .ny a h=>AG a++AG h|_=>[]
noncomputable def gM:Option (Option Sl)->Bool
 |some (some (.own _))=>true|some (some (.ky _))=>false|some none=>false|none=>false
noncomputable def oC(ρ:kA):LN->LN
 |[]=>[]|i::is=>if gM ρ[i]?=true then i::oC ρ is else oC ρ is
noncomputable def GC:LN->kA->kA->kA
 |[],_,ρ=>ρ|i::L,ρ0,ρ=>GC L ρ0 (ρ.set i (ρ0[i]?.getD none))
def pU(J L:LN)(h:kA)(N:kA->Prop)(ρ:kA):Prop:=(∀i∈L,i∉J/\ρ[i]?=h[i]?.map JF)/\N (GC L h ρ)
noncomputable def yH(body:PEnds->kA->Prop)(z:Tg)(Z:PEnds):LT->kA->Prop
 |[],ρ=>Z.nx ρ|x::xs,ρ=>DK z x ρ λy=>body { Z with nx:=λh=>yH body z Z xs h,ct:=λh=>yH body z Z xs h,bk:=Z.nx } y
noncomputable def jr(ρ:kA)(i:Nat)(R:T->kA->Prop):Option (Option Sl)->Prop
 |some (some (.own t))=>R t (ρ.set i none)|some (some (.ky t))=>t.isD=true/\R t ρ|some none=>False|none=>False
noncomputable def PK(Ψ:PEv)(E:XE)(y:T->kA->Prop):PX->kA->Prop
 | .xz i,ρ=>jr ρ i y ρ[i]?|e,ρ=>(pe Ψ e E).e ρ λx n h=>oH x n=true/\y x h
noncomputable def Bl:T->D->D->(T->Prop)->Prop
 | .lst ts,.int i,x,Q=>∃n,UO ts.length i=some n/\Q (.lst (ts.set n (.d x)))|.dct b ks ts,k,x,Q=>FD b k/\ks.length<sizeLine/\Q (ZH b ks ts k (.d x))|_,_,_,_=>False
noncomputable def Mq:PX->Option (Nat×Option PX)
 | .xz j=>some (j,none)|.idx (.xz j) k=>some (j,some k)|_=>none
def ug(k:D)(t:T)(Q:T->Prop):Prop:=∃h x,t=.dct true h x/\FD true k/\h.length<sizeLine/\((∃n,dA h k=some n/\Q t)∨(dA h k=none/\Q (.dct true (h++[k]) (x++[.dct true [] []]))))
def Kb:T->Bool
 | .dct true _ _=>true|_=>false
def Xl(z:D)(t:T)(Q:T->(T->T)->Prop):Prop:=∃b x h n s,t=.dct b x h/\FD b z/\dA x z=some n/\h[n]?=some s/\Q s λy=>.dct b x (h.set n y)
noncomputable def cB(Ψ:PEv)(E:XE):PT->PEnds->kA->Prop
 | .nil,Z,u=>Z.nx u|.seq s r,Z,u=>cB Ψ E s { Z with nx:=λw=>cB Ψ E r Z w } u|.set i e,Z,u=>(pe Ψ e E).e u λx n h=>oH x n=true/\Z.nx (h.set i (bD x.er))|.expr e,Z,u=>(pe Ψ e E).e u λ_ _ h=>Z.nx h|.ret e,Z,u=>PK Ψ E Z.rt e u|.ife c a b,Z,u=>(pe Ψ c E).t u λk h=>if k=true then cB Ψ E a Z h else cB Ψ E b Z h|.for_ tg ik its body,Z,u=>(pe Ψ its E).a [] u λX h=>MB ik (jC X) λf =>
   if kR X=true then yH (cB Ψ E body) tg { Z with nx:=λv=>Z.nx (kill tg.ix v) } f h
   else yH (cB Ψ E body) tg { Z with nx:=λv=>pU tg.ix (oC h (AG its)) h Z.nx (kill tg.ix v) } f (lock (oC h (AG its)) h)
 | .own i e,Z,u=>(pe Ψ e E).e u λx n h=>oH x n=true/\Z.nx (h.set i (some (.own x)))|.tset is e,Z,u=>(pe Ψ e E).e u λx n h=>oH x n=true/\DK (.tp is) (.d x.er) h Z.nx|.six o i e,Z,u=>match Mq o with
  |none=>False|some (j,none)=>uD u[j]? λt=>(pe Ψ e E).e (u.set j (some (.ky t))) λx n h=>oH x n=true/\(pe Ψ i E).e h λy m v=>oH y m=true/\v[j]?=some (some (.ky t))/\Bl t y.er x.er λq=>Z.nx (v.set j (some (.own q)))|some (j,some k)=>uD u[j]? λt=>(pe Ψ e E).e (u.set j (some (.ky t))) λx n h=>oH x n=true/\(pe Ψ k E).e h λz l v=>oH z l=true/\Xl z.er t λs put=>(pe Ψ i E).e v λy m g=>oH y m=true/\g[j]?=some (some (.ky t))/\Bl s y.er x.er λY=>Z.nx (g.set j (some (.own (put Y))))
 | .sdf j k,Z,u=>uD u[j]? λt=>Kb t=true/\(pe Ψ k E).e (u.set j (some (.ky t))) λy m h=>oH y m=true/\h[j]?=some (some (.ky t))/\ug y.er t λq=>Z.nx (h.set j (some (.own q)))|.whl c body,Z,u=>∃W:Nat->kA->Prop,(∃m,W m u)/\∀m u,W m u->(pe Ψ c E).t u λb h=>if b=true then
   cB Ψ E body { Z with nx:=λw=>∃p,p < m/\W p w,ct:=λw=>∃p,p < m/\W p w,bk:=Z.nx } h else Z.nx h
 | .frz is s,Z,u=>cB Ψ E s Z (frzAt is u)
abbrev pF(Ψ:PEv):PT->PEnds->kA->Prop:=cB Ψ λ_=>False
theorem _root_.L2.Same.rd{H x:Hp}(e:Same H x){a:Addr}{u:HO}(h:Rd H a u):Rd x a u:=by
 rcases h with h|⟨o,h⟩
 exact .inl (e _ _ h);exact .inr ⟨o,e _ _ h⟩
theorem _root_.L2.Same.tupl{K:QE}{H x:Hp}{a:Addr}{xs:LV}(e:Same H x)(h:AD K H a xs):AD K x a xs:=by rcases h with h|h;exact .inl (e.rd h);exact .inr h
mutual
theorem sX{K:QE}{H x:Hp}(e:Same H x):∀{k:NK}{v:V},Fj K H k v->Fj K x k v
 | .s _,_,h=>h|.t _,_,⟨a,xs,h,q,p⟩=>⟨a,xs,h,e.tupl q,kys_mono e p⟩
theorem kys_mono{K:QE}{H y:Hp}(e:Same H y):∀{ks:List NK}{vs:LV},KyVs K H ks vs->KyVs K y ks vs
 |[],_,h=>h|_::_,_,⟨x,r,h,p,q⟩=>⟨x,r,h,sX e p,kys_mono e q⟩
end
section
variable{K:QE}{H x:Hp}{vs:LV}{ds:List D}
theorem _root_.L2.Same.key(e:Same H x){b:Addr}{k:NK}(h:jO K H b k):jO K x b k:=⟨sX e h.1,h.2⟩
theorem bK.mono(e:Same H x){b:Bool}{o:HO}{ks:List D}(h:bK K H b o ks vs):bK K x b o ks vs:=by
 cases b with|true=>obtain⟨f,y,a,k,w,v,u⟩:=h;exact⟨f,y,a,k,w,λp z=>e.key (v p z),u⟩|false=>exact h
theorem Rep.mono2(e:Same H x):(∀{v:V}{d:D},Rep K H v d->Rep K x v d)/\∀{vs:LV}{ds:List D},Reps K H vs ds->Reps K x vs ds :=
 Rep.both (P:=Rep K x) (R:=Reps K x) .non .bl .int .str (λh _ r=>.lst (e.seq h) r) (λh _ r=>.tup (e.tupl h) r) (λh q _ r=>.dct (e _ _ h) (q.mono e) r) .nil λ_ _ h r=>.cons h r
theorem Rep.mono(e:Same H x){v:V}{d:D}(h:Rep K H v d):Rep K x v d:=(Rep.mono2 e).1 h
theorem Reps.mono(e:Same H x)(h:Reps K H vs ds):Reps K x vs ds:=(Rep.mono2 e).2 h
theorem Reps.append{ws:LV}{es:List D}(h:Reps K H vs ds)(r:Reps K H ws es):Reps K H (vs++ws) (ds++es):=Reps.ind (R:=λvs ds=>Reps K H (vs++ws) (ds++es)) r (λh t=>.cons h t) h
theorem Reps.get{K:QE}{H:Hp}:∀{vs:LV}{ds:List D}{i:Nat}{d:D},Reps K H vs ds->ds[i]?=some d->∃v,vs[i]?=some v/\Rep K H v d
 |_,_,i,_,.nil,h=>by simp at h|_,_,0,_,.cons h _,e=>by simp at e;subst e;exact⟨_,rfl,h⟩|_,_,i+1,d,.cons _ t,e=>by obtain⟨v,z,y⟩:=Reps.get (i:=i) t (by simpa using e);exact⟨v,by simpa using z,y⟩
theorem Reps.drop{K:QE}{H:Hp}:∀{vs:LV}{ds:List D}(n:Nat),Reps K H vs ds->Reps K H (vs.drop n) (ds.drop n)
 |_,_,0,r=>r|_,_,_+1,.nil=>.nil|_,_,n+1,.cons _ t=>Reps.drop n t
theorem Reps.take{K:QE}{H:Hp}:∀{vs:LV}{ds:List D}(n:Nat),Reps K H vs ds->Reps K H (vs.take n) (ds.take n)
 |_,_,0,_=>.nil|_,_,_+1,.nil=>.nil|_,_,n+1,.cons h t=>.cons h (Reps.take n t)
theorem Reps.bools{K:QE}{H:Hp}:∀{vs:LV}{bs:List Bool},Reps K H vs (bs.map PyData.bool)->vs=bs.map V.bl
 |_,[],.nil=>rfl|_,b::bs,.cons h t=>by cases h;rw[QV,Reps.bools t]
theorem OB{p:Addr}{o:HO}(h:H p=none):Same H (BA H p o):=λb u q=>by rw[vA (JA q h)];exact q
end
mutual
inductive Tr(K:QE)(F H:Hp):Bool->V->T->(Addr->Prop)->Prop where
 |d {st:Bool}{v:V}{x:D}{S:oB}:Rep K F v x->(∀b,¬ S b)->Tr K F H st v (.d x) S
 |lst {st:Bool}{a:Addr}{vs:LV}{ts:LT}{S S':oB}:H a=some (.lst vs)->F a=none->Trs K F H st vs ts S'->¬ S' a->(∀b,S b↔b=a∨S' b)->Tr K F H st (.ref a) (.lst ts) S
 |tup {st:Bool}{a:Addr}{vs:LV}{ts:LT}{S S':oB}:H a=some (.tup vs)->F a=none->Trs K F H st vs ts S'->¬ S' a->(∀b,S b↔b=a∨S' b)->Tr K F H st (.ref a) (.tup ts) S
 |lstF {a:Addr}{vs:LV}{ds:List D}{S:oB}:EC K F a vs->Reps K F vs ds->(∀b,¬ S b)->Tr K F H false (.ref a) (.lst (ds.map T.d)) S
 |dct {st b:Bool}{a:Addr}{o:HO}{ks:List D}{vs:LV}{ts:LT}{S S':oB}:H a=some o->bK K F b o ks vs->F a=none->Trs K F H st vs ts S'->¬ S' a->(∀b,S b↔b=a∨S' b)->Tr K F H st (.ref a) (.dct b ks ts) S
inductive Trs(K:QE)(F H:Hp):Bool->LV->LT->(Addr->Prop)->Prop where
 |nil {st:Bool}{S:oB}:(∀b,¬ S b)->Trs K F H st [] [] S
 |cons {st:Bool}{v:V}{t:T}{vs:LV}{ts:LT}{S S1 S2:oB}:Tr K F H st v t S1->Trs K F H st vs ts S2->(∀b,S1 b->¬ S2 b)->(∀b,S b↔S1 b∨S2 b)->Trs K F H st (v::vs) (t::ts) S
end
section
variable{K:QE}{F H w c:Hp}
section
variable{R:Bool->LV->LT->(Addr->Prop)->Prop}{st b:Bool}{v:V}{t:T}{S:oB}{vs:LV}{ts:LT}{ds ks:List D}{i:Int}{kvs:List (D×D)}
theorem Tr.both{P:Bool->V->T->(Addr->Prop)->Prop}
    (d:∀{st:Bool}{v:V}{x:D}{S:oB},Rep K F v x->(∀b,¬ S b)->P st v (.d x) S)
    (lst:∀{st:Bool}{a:Addr}{vs:LV}{ts:LT}{S S':oB},H a=some (.lst vs)->F a=none->Trs K F H st vs ts S'->¬ S' a->(∀b,S b↔b=a∨S' b)->R st vs ts S'->P st (.ref a) (.lst ts) S)
    (tup:∀{st:Bool}{a:Addr}{vs:LV}{ts:LT}{S S':oB},H a=some (.tup vs)->F a=none->Trs K F H st vs ts S'->¬ S' a->(∀b,S b↔b=a∨S' b)->R st vs ts S'->P st (.ref a) (.tup ts) S)
    (y:∀{a:Addr}{vs:LV}{ds:List D}{S:oB},EC K F a vs->Reps K F vs ds->(∀b,¬ S b)->P false (.ref a) (.lst (ds.map T.d)) S)
    (dct:∀{st b:Bool}{a:Addr}{o:HO}{ks:List D}{vs:LV}{ts:LT}{S S':oB},H a=some o->bK K F b o ks vs->F a=none->Trs K F H st vs ts S'->¬ S' a->(∀b,S b↔b=a∨S' b)->R st vs ts S'->P st (.ref a) (.dct b ks ts) S)
    (u:∀{st:Bool}{S:oB},(∀b,¬ S b)->R st [] [] S)
    (z:∀{st:Bool}{v:V}{t:T}{vs:LV}{ts:LT}{S S1 k:oB},Tr K F H st v t S1->Trs K F H st vs ts k->(∀b,S1 b->¬ k b)->(∀b,S b↔S1 b∨k b)->P st v t S1->R st vs ts k->R st (v::vs) (t::ts) S) :
    (∀{st:Bool}{v:V}{t:T}{S:oB},Tr K F H st v t S->P st v t S)/\∀{st:Bool}{vs:LV}{ts:LT}{S:oB},Trs K F H st vs ts S->R st vs ts S :=
  ⟨λh=>Tr.rec (motive_1:=λst v t S _=>P st v t S) (motive_2:=λst vs ts S _=>R st vs ts S) @d @lst @tup @y @dct @u @z h,
   λh=>Trs.rec (motive_1:=λst v t S _=>P st v t S) (motive_2:=λst vs ts S _=>R st vs ts S) @d @lst @tup @y @dct @u @z h⟩
theorem Tr.mono2(e:Same F w):(∀{st:Bool}{v:V}{t:T}{S:oB},Tr K F H st v t S->(∀b,S b->c b=H b/\w b=none)->Tr K w c st v t S)/\∀{st:Bool}{vs:LV}{ts:LT}{S:oB},Trs K F H st vs ts S->(∀b,S b->c b=H b/\w b=none)->Trs K w c st vs ts S :=
 Tr.both (P:=λst v t S=>(∀b,S b->c b=H b/\w b=none)->Tr K w c st v t S) (R:=λst v t S=>(∀b,S b->c b=H b/\w b=none)->Trs K w c st v t S)
  (λr n _=>.d (r.mono e) n)
  (λ{_ a _ _ _ _} h _ _ n q x k=>.lst ((k a ((q a).mpr (.inl rfl))).1.trans h) (k a ((q a).mpr (.inl rfl))).2 (x λb hb=>k b ((q b).mpr (.inr hb))) n q)
  (λ{_ a _ _ _ _} h _ _ n q x k=>.tup ((k a ((q a).mpr (.inl rfl))).1.trans h) (k a ((q a).mpr (.inl rfl))).2 (x λb hb=>k b ((q b).mpr (.inr hb))) n q)
  (λh r n _=>.lstF (e.seq h) (r.mono e) n)
  (λ{_ _ a _ _ _ _ _ _} h dk _ _ n q x k=>.dct ((k a ((q a).mpr (.inl rfl))).1.trans h) (dk.mono e) (k a ((q a).mpr (.inl rfl))).2 (x λb hb=>k b ((q b).mpr (.inr hb))) n q)
  (λn _=>.nil n)
  (λ_ _ n q z y k=>.cons (z λb hb=>k b ((q b).mpr (.inl hb))) (y λb hb=>k b ((q b).mpr (.inr hb))) n q)
theorem Tr.mono(e:Same F w)(h:Tr K F H st v t S)(k:∀b,S b->c b=H b/\w b=none):Tr K w c st v t S:=(Tr.mono2 e).1 h k
theorem Trs.mono(e:Same F w)(h:Trs K F H st vs ts S)(k:∀b,S b->c b=H b/\w b=none):Trs K w c st vs ts S:=(Tr.mono2 e).2 h k
theorem Tr.weak2:(∀{st:Bool}{v:V}{t:T}{S:oB},Tr K F H st v t S->Tr K F H false v t S)/\∀{st:Bool}{vs:LV}{ts:LT}{S:oB},Trs K F H st vs ts S->Trs K F H false vs ts S :=
 Tr.both (P:=λ_ v t S=>Tr K F H false v t S) (R:=λ_ v t S=>Trs K F H false v t S) .d (λh f _ n q x=>.lst h f x n q) (λh f _ n q x=>.tup h f x n q) .lstF (λh dk f _ n q x=>.dct h dk f x n q) .nil λ_ _ n q z y=>.cons z y n q
theorem Tr.weak(h:Tr K F H st v t S):Tr K F H false v t S:=Tr.weak2.1 h
theorem Trs.weak(h:Trs K F H st vs ts S):Trs K F H false vs ts S:=Tr.weak2.2 h
theorem l7{C:oB}{a:Addr}{S':oB}(q:∀b,S b↔b=a∨S' b)(h:C a)(k:∀b,S' b->C b)(b:Addr)(hb:S b):C b:=((q b).mp hb).elim (λe=>e▸h) (k b)
theorem Tr.dom2:(∀{st:Bool}{v:V}{t:T}{S:oB},Tr K F H st v t S->∀b,S b->H b≠none/\F b=none)/\∀{st:Bool}{vs:LV}{ts:LT}{S:oB},Trs K F H st vs ts S->∀b,S b->H b≠none/\F b=none :=
 have y:∀{a:Addr}{o:HO},H a=some o->H a≠none:=λh z=>by rw[h]at z;cases z
 Tr.both (P:=λ_ _ _ S=>∀b,S b->H b≠none/\F b=none) (R:=λ_ _ _ S=>∀b,S b->H b≠none/\F b=none)
  (λ_ n b hb=>absurd hb (n b)) (λh f _ _ q x=>l7 q ⟨y h,f⟩ x) (λh f _ _ q x=>l7 q ⟨y h,f⟩ x) (λ_ _ n b hb=>absurd hb (n b)) (λh _ f _ _ q x=>l7 q ⟨y h,f⟩ x)
  (λn b hb=>absurd hb (n b)) λ_ _ _ q k u b hb=>((q b).mp hb).elim (k b) (u b)
theorem Tr.dom(h:Tr K F H st v t S):∀b,S b->H b≠none/\F b=none:=Tr.dom2.1 h
theorem Trs.dom(h:Trs K F H st vs ts S):∀b,S b->H b≠none/\F b=none:=Tr.dom2.2 h
theorem Tr.kept2(e:Same F w):(∀{st:Bool}{v:V}{t:T}{S:oB},Tr K F H st v t S->(∀b u,S b->H b=some u->w b=some u)->Rep K w v t.er)/\∀{st:Bool}{vs:LV}{ts:LT}{S:oB},Trs K F H st vs ts S->(∀b u,S b->H b=some u->w b=some u)->Reps K w vs (ersT ts) :=
 Tr.both (P:=λ_ v t S=>(∀b u,S b->H b=some u->w b=some u)->Rep K w v t.er) (R:=λ_ v t S=>(∀b u,S b->H b=some u->w b=some u)->Reps K w v (ersT t))
  (λr _ _=>r.mono e)
  (λ{_ a _ _ _ _} h _ _ _ q x k=>by unfold T.er;exact .lst (EC.of (k a _ ((q a).mpr (.inl rfl)) h)) (x λb u hb=>k b u ((q b).mpr (.inr hb))))
  (λ{_ a _ _ _ _} h _ _ _ q x k=>by unfold T.er;exact .tup (AD.of (k a _ ((q a).mpr (.inl rfl)) h)) (x λb u hb=>k b u ((q b).mpr (.inr hb))))
  (λh r _ _=>by unfold T.er;rw[IA];exact .lst (e.seq h) (r.mono e))
  (λ{_ _ a _ _ _ _ _ _} h dk _ _ _ q x k=>by unfold T.er;exact .dct (k a _ ((q a).mpr (.inl rfl)) h) (dk.mono e) (x λb u hb=>k b u ((q b).mpr (.inr hb))))
  (λ_ _=>.nil)
  (λ_ _ _ q z y k=>.cons (z λb u hb=>k b u ((q b).mpr (.inl hb))) (y λb u hb=>k b u ((q b).mpr (.inr hb))))
theorem Tr.kept(e:Same F w)(h:Tr K F H st v t S)(k:∀b u,S b->H b=some u->w b=some u):Rep K w v t.er:=(Tr.kept2 e).1 h k
theorem Tr.rep(f:Same F H)(h:Tr K F H st v t S):Rep K H v t.er:=h.kept f λ_ _ _ e=>e
theorem Trs.ind(z:∀{st:Bool}{S:oB},(∀b,¬ S b)->R st [] [] S)
  (x:∀{st:Bool}{v:V}{t:T}{vs:LV}{ts:LT}{S S1 y:oB},Tr K F H st v t S1->Trs K F H st vs ts y->(∀b,S1 b->¬ y b)->(∀b,S b↔S1 b∨y b)->R st vs ts y->R st (v::vs) (t::ts) S) (h:Trs K F H st vs ts S):R st vs ts S :=
 (Tr.both (P:=λ_ _ _ _=>True) (λ_ _=>trivial) (λ_ _ _ _ _ _=>trivial) (λ_ _ _ _ _ _=>trivial) (λ_ _ _=>trivial) (λ_ _ _ _ _ _ _=>trivial) z λh t n q _ r=>x h t n q r).2 h
theorem Trs.length(h:Trs K F H st vs ts S):vs.length=ts.length:=Trs.ind (R:=λ_ vs ts _=>vs.length=ts.length) (λ_=>rfl) (λ_ _ _ _ e=>congrArg Nat.succ e) h
theorem Trs.of_reps(h:Reps K F vs ds):Trs K F H st vs (ds.map T.d) (λ_=>False) :=
 Reps.ind (R:=λvs ds=>Trs K F H st vs (ds.map T.d) λ_=>False) (.nil λ_ z=>z) (λh t=>.cons (.d h λ_ z=>z) t (λ_ z=>z.elim) λb=>by simp) h
theorem Trs.un(h:Trs K F H st vs ts S)(e:BF ts=some ds):Reps K F vs ds/\∀b,¬ S b:=by
 have u:=BL e;clear e;revert ds;refine Trs.ind (R:=λ_ vs ts S=>∀{ds:List D},ts=ds.map T.d->Reps K F vs ds/\∀b,¬ S b) (λn ds e=>?_) (λh _ _ q x ds e=>?_) h;cases ds with|nil=>exact⟨.nil,n⟩|cons d r=>cases e
 cases ds with
 |nil=>cases e|cons d r =>
  injection e with e1 e2;obtain⟨z,y⟩:=x e2;subst e1;cases h with|d rep m=>exact⟨.cons rep z,λb hb=>((q b).mp hb).elim (m b) (y b)⟩
theorem Trs.get{i:Nat}(h:Trs K F H st vs ts S)(e:ts[i]?=some t):∃v S1,vs[i]?=some v/\Tr K F H st v t S1/\∀b,S1 b->S b:=by
 revert i;refine Trs.ind (R:=λst vs ts S=>∀{i:Nat},ts[i]?=some t->∃v S1,vs[i]?=some v/\Tr K F H st v t S1/\∀b,S1 b->S b) (λn i e=>by cases e) (λh _ n q x i e=>?_) h;cases i with|zero=>cases e;exact⟨_,_,rfl,h,λb hb=>(q b).mpr (.inl hb)⟩|succ i=>obtain⟨v,S1,u,z,y⟩:=x (i:=i) e;exact⟨v,S1,u,z,λb hb=>(q b).mpr (.inr (y b hb))⟩
theorem Trs.at(r:Trs K F H st vs ts S)(h:pD ts i=some t):∃v S1,pD vs i=some v/\Tr K F H st v t S1/\∀b,S1 b->S b:=by
 unfold pD at h ⊢;rw[r.length];cases e:UO ts.length i with|none=>rw[e]at h;cases h|some j=>rw[e]at h;exact r.get h
theorem Trs.append{ws:LV}{us:LT}{S1 x:oB}(h:Trs K F H st vs ts S1)(r:Trs K F H st ws us x)(k:∀b,S1 b->¬ x b):Trs K F H st (vs++ws) (ts++us) (λb=>S1 b∨x b) :=
 Trs.ind (R:=λst vs ts S1=>Trs K F H st ws us x->(∀b,S1 b->¬ x b)->Trs K F H st (vs++ws) (ts++us) λb=>S1 b∨x b)
  (λ{_ S} n r _=>by have e:(λb=>S b∨x b)=x:=funext λb=>propext ⟨λz=>z.resolve_left (n b),.inr⟩;rw[e];exact r)
  (λh _ n q y r k=>.cons h (y r λb hb=>k b ((q b).mpr (.inr hb))) (λb hb z=>z.elim (n b hb) (k b ((q b).mpr (.inl hb)))) λb=>by rw[q b,or_assoc]) h r k
theorem Trs.one(h:Tr K F H st v t S):Trs K F H st [v] [t] S:=.cons h (.nil (S:=λ_=>False) λ_ z=>z) (λ_ _ z=>z) λb=>by simp
theorem aH(e:(T.d (.dict kvs)).vw=.ls ts):False:=by
 have e:DB kvs=.ls ts:=e;unfold DB at e;cases h:yD kvs with|none=>rw[h]at e;cases e|some b=>rw[h]at e;cases e
theorem JL(e:(T.d (.dict kvs)).vw=.tp ts):False:=by
 have e:DB kvs=.tp ts:=e;unfold DB at e;cases h:yD kvs with|none=>rw[h]at e;cases e|some b=>rw[h]at e;cases e
theorem Tr.ls(f:Same F H)(h:Tr K F H st v t S)(e:t.vw=.ls ts):∃a vs S',v=.ref a/\EC K H a vs/\Trs K F H false vs ts S'/\∀b,S' b->S b:=by
 cases h with
 |d r n =>
  cases r with|lst q r=>injection e with e;subst e;exact⟨_,_,_,rfl,f.seq q,Trs.of_reps r,λb hb=>hb.elim⟩|dct _ _ _=>exact(aH e).elim|_=>cases e
 |lst h _ r n q=>injection e with e;subst e;exact⟨_,_,_,rfl,EC.of h,r.weak,λb hb=>(q b).mpr (.inr hb)⟩|tup=>cases e|dct=>cases e|lstF h r n=>injection e with e;subst e;exact⟨_,_,_,rfl,f.seq h,Trs.of_reps r,λb hb=>hb.elim⟩
theorem Tr.tp(f:Same F H)(h:Tr K F H st v t S)(e:t.vw=.tp ts):∃a vs S',v=.ref a/\AD K H a vs/\Trs K F H false vs ts S'/\∀b,S' b->S b:=by
 cases h with
 |d r n =>
  cases r with|tup q r=>injection e with e;subst e;exact⟨_,_,_,rfl,f.tupl q,Trs.of_reps r,λb hb=>hb.elim⟩|dct _ _ _=>exact(JL e).elim|_=>cases e
 |tup h _ r n q=>injection e with e;subst e;exact⟨_,_,_,rfl,AD.of h,r.weak,λb hb=>(q b).mpr (.inr hb)⟩|lst=>cases e|lstF=>cases e|dct=>cases e
theorem tX{u:Bool}{o:HO}(h:bK K H u o ks vs)(e:yD (ks.zip ds)=some b):u=b:=by
 cases ks with
 |nil=>cases e|cons k ks =>
  cases ds with
  |nil=>cases e|cons d ds =>
   cases u with
   |true =>
    obtain⟨m,kvs,_,y,_,g,_⟩:=h;cases kvs with
    |nil=>cases y|cons p r =>
     have a:=(g p QD).1;obtain⟨f,n,j⟩:=p;cases f with|s x=>cases a|t l=>rw[QV]at y;injection y with y _;subst y;injection e
   |false =>
    rcases h with⟨kvs,_,_,y,_⟩| ⟨_,_,y,_⟩
    rotate_left
    cases y;cases kvs with
    |nil=>cases y|cons p r =>
     rw[QV]at y;injection y with y _;subst y;obtain⟨k,v⟩:=p;cases k with|inl i=>cases e|inr z=>injection e
theorem Tr.dc(f:Same F H)(h:Tr K F H st v t S)(e:t.vw=.dc b ks ts):∃a o vs S',v=.ref a/\H a=some o/\bK K F b o ks vs/\Trs K F H false vs ts S'/\(∀b,S' b->S b)/\∀w c,Same F w->Same w c->(∀b,S b->c b=H b)->c a=some o:=by
 cases h with
 |d r n =>
  cases r with
  |@dct X a o y l ds h q r =>
   have hl:y.length=ds.length:=by rw[q.len,Reps.length r]
   have g:(y.zip ds).map (λx=>x.1)=y:=Wj (wq hl);have u:(y.zip ds).map (λx=>x.2)=ds:=w9 (wq hl.symm);have e:DB (y.zip ds)=.dc b ks ts:=e;unfold DB at e;cases z:yD (y.zip ds) with
   |none=>rw[z]at e;cases e|some p =>
    rw[z]at e;injection e with z1 z2 z3;subst z1;rw[g]at z2;subst z2;have m:ts=ds.map T.d:=by have j:=congrArg (List.map T.d) u;rw[Qc]at j;rw[<- z3,<- j];rfl
    subst m;cases tX q z;exact⟨_,_,_,_,rfl,f _ _ h,q,Trs.of_reps r,λb hb=>hb.elim,λw c g u _=>u _ _ (g _ _ h)⟩
  |_=>cases e
 |dct h q _ r n s=>injection e with z1 z2 z3;subst z1 z2 z3;exact⟨_,_,_,_,rfl,h,q,r.weak,λb hb=>(s b).mpr (.inr hb),λw c _ _ k=>(k _ ((s _).mpr (.inl rfl))).trans h⟩|lst=>cases e|tup=>cases e|lstF=>cases e
theorem Tr.sc{x:D}(h:Tr K F H st v t S)(e:t.vw=.sc x):t=.d x/\Rep K F v x:=by
 cases h with
 |@d _ _ y _ r n =>
  cases y with
  |list ds=>cases e|tuple ds=>cases e|dict ds =>
   have e:DB ds=.sc x:=e;unfold DB at e;cases z:yD ds with|none=>rw[z]at e;injection e with e;subst e;exact⟨rfl,r⟩|some b=>rw[z]at e;cases e
  |_=>injection e with e;subst e;exact⟨rfl,r⟩
 |tup=>cases e|lst=>cases e|lstF=>cases e|dct=>cases e
theorem Tr.int(h:Tr K F H st v t S)(e:t.vw=.sc (.int i)):v=.int i:=by obtain⟨_,r⟩:=h.sc e;cases r;rfl
theorem Tr.str{i:Str}(h:Tr K F H st v t S)(e:t.vw=.sc (.str i)):v=.str i:=by obtain⟨_,r⟩:=h.sc e;cases r;rfl
theorem Tr.bool{i:Bool}(h:Tr K F H st v t S)(e:t.vw=.sc (.bool i)):v=.bl i:=by obtain⟨_,r⟩:=h.sc e;cases r;rfl
end
end
def Sl.t:Sl->T
 | .own t=>t|.ky t=>t
def Sl.st:Sl->Bool
 | .own _=>true|.ky _=>false
noncomputable abbrev Ft:=Nat->Addr->Prop
structure Rl(K:QE)(F H:Hp)(S:Ft)(ρ:kA)(σ:St):Prop where
 fh:Same F H
 len:ρ.length=σ.length
 sl:∀(i:Nat) s,ρ[i]?=some (some s)->∃v,σ[i]?=some (some v)/\Tr K F H s.st v s.t (S i)
 dj:∀(i j:Nat) t s,i≠j->ρ[i]?=some (some (.own t))->ρ[j]?=some (some s)->∀b,S i b->¬ S j b
def U(ρ:kA)(S:Ft)(b:Addr):Prop:=∃(i:Nat) (t:T),ρ[i]?=some (some (.own t))/\S i b
structure Stp(F H:Hp)(S:Ft)(ρ:kA)(F' H':Hp)(S':Ft)(ρ':kA):Prop where
 ff:Same F F'
 hh:∀b u,H b=some u->¬ U ρ S b->H' b=some u
 dm:∀b,H' b=none->H b=none
 fn:∀b,F b=none->F' b≠none->U ρ S b∨H b=none
 uu:∀b,U ρ' S' b->U ρ S b∨H b=none
 bo:∀(j:Nat) t,ρ'[j]?=some (some (.ky t))->t.isD=false->ρ[j]?=some (some (.ky t))/\S' j=S j
structure Ste(F H:Hp)(S:Ft)(ρ:kA)(F' H':Hp)(S':Ft)(ρ':kA):Prop extends Stp F H S ρ F' H' S' ρ' where
 ow:∀(j:Nat) t,ρ'[j]?=some (some (.own t))->∃t0,ρ[j]?=some (some (.own t0))
section
variable{K:QE}{F H X m B E:Hp}{S S1 C:Ft}{ρ l A:kA}{σ:St}
section
variable{v:V}{t:T}{Z W:oB}{i:Nat}{s:Sl}{b p:Addr}{vs:LN}{g:Hp}{c:Ft}{y:kA}{n:Bool}
theorem Stp.refl:Stp F H S ρ F H S ρ:=⟨.refl _,λ_ _ h _=>h,λ_ h=>h,λb h z=>absurd h z,λ_ h=>.inl h,λ_ _ h _=>⟨h,rfl⟩⟩
theorem Ste.refl:Ste F H S ρ F H S ρ:=⟨Stp.refl,λ_ t h=>⟨t,h⟩⟩
theorem Stp.trans(a:Stp F H S ρ X m S1 l)(b:Stp X m S1 l B E C A):Stp F H S ρ B E C A where
 ff:=a.ff.trans b.ff
 hh:=λx u h n=>b.hh x u (a.hh x u h n) λz=>by rcases a.uu x z with q|q;exact n q;rw[q]at h;cases h
 dm:=λx h=>a.dm x (b.dm x h)
 fn:=λx h z=>by
  by_cases q:X x=none;rcases b.fn x q z with w|w
  ·exact a.uu x w
  exact .inr (a.dm x w);exact a.fn x h q
 uu:=λx h=>by rcases b.uu x h with w|w;exact a.uu x w;exact .inr (a.dm x w)
 bo:=λj t h n=>by obtain⟨o,f⟩:=b.bo j t h n;obtain⟨e,k⟩:=a.bo j t o n;exact⟨e,f.trans k⟩
theorem Ste.trans(a:Ste F H S ρ X m S1 l)(b:Ste X m S1 l B E C A):Ste F H S ρ B E C A:=⟨a.toStp.trans b.toStp,λj t h=>by obtain⟨x,z⟩:=b.ow j t h;exact a.ow j x z⟩
theorem Stp.keep(s:Stp F H S ρ X m S1 l){st:Bool}(h:Tr K F H st v t Z)(n:∀b,Z b->¬ U ρ S b):Tr K X m st v t Z :=
 h.mono s.ff λb hb=>by
  obtain⟨x,w⟩:=h.dom b hb;refine⟨?_,?_⟩;cases e:H b with|none=>exact absurd e x|some u=>exact s.hh b u e (n b hb)
  by_cases q:X b=none
  ·exact q
  rcases s.fn b w q with z|z
  ·exact absurd z (n b hb)
  exact absurd z x
theorem Rl.dom(I:Rl K F H S ρ σ)(h:ρ[i]?=some (some s))(hb:S i b):H b≠none/\F b=none:=by obtain⟨v,_,r⟩:=I.sl i s h;exact r.dom b hb
theorem Rl.isD(I:Rl K F H S ρ σ)(h:ρ[i]?=some (some s))(x:s.t.isD=true):¬ S i b:=by
 obtain⟨v,_,r⟩:=I.sl i s h;generalize s.t=t at r x;generalize s.st=st at r;cases r with|d r n=>exact n b|_=>cases x
structure Held(F H:Hp)(S:Ft)(ρ:kA)(Z:oB):Prop where
 dom:∀b,Z b->H b≠none/\F b=none
 nw:∀(i:Nat) s,ρ[i]?=some (some s)->∀b,Z b->¬ S i b
theorem Held.nu(h:Held F H S ρ Z):∀b,Z b->¬ U ρ S b:=λb hb ⟨i,t,z,x⟩=>h.nw i _ z b hb x
theorem Held.step(h:Held F H S ρ Z)(s:Stp F H S ρ X m S1 l)(j:Rl K X m S1 l σ):Held X m S1 l Z where
 dom:=λb hb=>by
  obtain⟨u,k⟩:=h.dom b hb;refine⟨λz=>u (s.dm b z),?_⟩;by_cases q:X b=none;exact q;rcases s.fn b k q with z|z
  ·exact absurd z (h.nu b hb)
  exact absurd z u
 nw:=λi w e b hb z=>by
  cases w with
  |own t=>rcases s.uu b ⟨i,t,e,z⟩ with q|q;exact h.nu b hb q;exact(h.dom b hb).1 q
  |ky t =>
   cases x:t.isD with|true=>exact j.isD e x z|false=>obtain⟨f,a⟩:=s.bo i t e x;rw[a]at z;exact h.nw i _ f b hb z
theorem Held.none:Held F H S ρ λ_=>False:=⟨λ_ z=>z.elim,λ_ _ _ _ z=>z.elim⟩
theorem Held.or{Y:oB}(a:Held F H S ρ Z)(b:Held F H S ρ Y):Held F H S ρ λx=>Z x∨Y x:=⟨λx h=>h.elim (a.dom x) (b.dom x),λi s e x h=>h.elim (a.nw i s e x) (b.nw i s e x)⟩
noncomputable def UI(F H:Hp)(W:oB):Hp:=open Classical in λb=>if W b then H b else F b
theorem XI(h:W b):UI F H W b=H b:=if_pos h
theorem rC(h:¬ W b):UI F H W b=F b:=if_neg h
theorem OG(h:∀b,W b->F b=none):Same F (UI F H W):=λb u e=>by rw[rC λz=>by rw[h b z]at e;cases e];exact e
theorem xb(f:Same F H):Same (UI F H W) H:=λb u e=>by by_cases hb:W b;rw[XI hb]at e;exact e;rw[rC hb]at e;exact f b u e
theorem Rl.frz(I:Rl K F H S ρ σ)(h:Held F H S ρ W):Rl K (UI F H W) H S ρ σ where
 fh:=xb I.fh
 len:=I.len
 sl:=λi s e=>by obtain⟨v,u,x⟩:=I.sl i s e;refine⟨v,u,x.mono (OG λb hb=>(h.dom b hb).2) λb hb=>⟨rfl,?_⟩⟩;rw[rC λz=>h.nw i s e b z hb];exact(x.dom b hb).2
 dj:=I.dj
theorem Stp.frz(s:Stp F H S ρ X m S1 l)(x:∀b,W b->X b=none)(fr:∀b,W b->H b=none∨U ρ S b):Stp F H S ρ (UI X m W) m S1 l :=
 ⟨s.ff.trans (OG x),s.hh,s.dm,λb h z=>by by_cases q:W b;exact(fr b q).symm;rw[rC q]at z;exact s.fn b h z,s.uu,s.bo⟩
theorem Ste.frz(s:Ste F H S ρ X m S1 l)(h:∀b,W b->X b=none)(fr:∀b,W b->H b=none∨U ρ S b):Ste F H S ρ (UI X m W) m S1 l:=⟨s.toStp.frz h fr,s.ow⟩
theorem Stp.new(s:Stp F H S ρ X m S1 l){p:Addr}(h:m p=none)(o:HO):Stp F H S ρ X (BA m p o) S1 l :=
 ⟨s.ff,λb u e n=>OB h b u (s.hh b u e n),λb e=>by by_cases hb:b=p;rw[hb,ZA]at e;cases e;rw[vA hb]at e;exact s.dm b e,s.fn,s.uu,s.bo⟩
theorem Ste.new(s:Ste F H S ρ X m S1 l){p:Addr}(h:m p=none)(o:HO):Ste F H S ρ X (BA m p o) S1 l:=⟨s.toStp.new h o,s.ow⟩
theorem Rl.same(I:Rl K F H S ρ σ)(h:Same H m):Rl K F m S ρ σ where
 fh:=I.fh.trans h
 len:=I.len
 sl:=λi s e=>by
  obtain⟨v,z,x⟩:=I.sl i s e;refine⟨v,z,x.mono (.refl _) λb hb=>⟨?_,(x.dom b hb).2⟩⟩;cases e:H b with|none=>exact absurd e (x.dom b hb).1|some u=>exact h b u e
 dj:=I.dj
theorem Rl.new(I:Rl K F H S ρ σ){p:Addr}(h:H p=none)(o:HO):Rl K F (BA H p o) S ρ σ:=I.same (OB h)
theorem Stp.newT(s:Stp F H S ρ X m S1 l)(h:m p=none)(u:X p=none)(o:HO):Stp F H S ρ (BA X p o) (BA m p o) S1 l :=
 let x:=s.new h o
 ⟨s.ff.trans (OB u),x.hh,x.dm,λb e z=>by by_cases hb:b=p;rw[hb];exact .inr (s.dm p h);rw[vA hb]at z;exact s.fn b e z,s.uu,s.bo⟩
theorem Ste.newT(s:Ste F H S ρ X m S1 l)(h:m p=none)(x:X p=none)(o:HO):Ste F H S ρ (BA X p o) (BA m p o) S1 l:=⟨s.toStp.newT h x o,s.ow⟩
theorem Rl.newT(I:Rl K F H S ρ σ)(h:H p=none)(o:HO):Rl K (BA F p o) (BA H p o) S ρ σ where
 fh:=λb u e=>by by_cases hb:b=p;rw[hb,ZA]at e ⊢;exact e;rw[vA hb]at e ⊢;exact I.fh b u e
 len:=I.len
 sl:=λi s e=>by obtain⟨v,k,x⟩:=I.sl i s e;refine⟨v,k,x.mono (OB (I.fh.free h)) λb hb=>?_⟩;have w:b≠p:=λz=>(x.dom b hb).1 (by rw[z];exact h);rw[vA w,vA w];exact⟨rfl,(x.dom b hb).2⟩
 dj:=I.dj
theorem bZ(ρ:kA)(i:Nat):(lockA ρ)[i]?=ρ[i]?.map JF:=by unfold lockA;rw[Qe]
theorem iB{ρ:kA}(h:(lockA ρ)[i]?=some (some s)):∃x,ρ[i]?=some (some x)/\s=.ky x.t:=by
 rw[bZ]at h;cases e:ρ[i]? with
 |none=>rw[e]at h;cases h|some o =>
  rw[e]at h;cases o with
  |none=>cases h|some x =>
   cases x with|own t=>injection h with h;injection h with h;subst h;exact⟨_,rfl,rfl⟩|ky t=>injection h with h;injection h with h;subst h;exact⟨_,rfl,rfl⟩
theorem cD(b:Addr):¬ U (lockA ρ) S b:=λ⟨i,t,h,_⟩=>by obtain⟨x,_,e⟩:=iB h;cases e
theorem Rl.lockA(I:Rl K F H S ρ σ):Rl K F H S (lockA ρ) σ where
 fh:=I.fh
 len:=by unfold L3.lockA;rw[QA];exact I.len
 sl:=λi s e=>by obtain⟨x,h,rfl⟩:=iB e;obtain⟨v,u,z⟩:=I.sl i x h;exact⟨v,u,z.weak⟩
 dj:=λi j t s _ h=>by obtain⟨x,_,e⟩:=iB h;cases e
theorem Stp.unlockA(s:Stp F H S (L3.lockA ρ) X m S1 l):Stp F H S ρ X m S ρ :=
 ⟨s.ff,λb u e _=>s.hh b u e (cD b),s.dm,λb h z=>(s.fn b h z).elim (λq=>absurd q (cD b)) .inr,λ_ h=>.inl h,λ_ _ h _=>⟨h,rfl⟩⟩
theorem Rl.unlockA(I:Rl K F H S ρ σ)(s:Stp F H S (L3.lockA ρ) X m S1 l)(f:Same X m):Rl K X m S ρ σ where
 fh:=f
 len:=I.len
 sl:=λi sl e=>by obtain⟨v,x,h⟩:=I.sl i sl e;exact⟨v,x,s.keep h λb _=>cD b⟩
 dj:=I.dj
structure VR(K:QE)(vs:LN)(g:Hp)(c:Ft)(y:kA)(F H:Hp)(S:Ft)(ρ:kA)(v:V)(t:T)(n:Bool)(Z:oB):Prop where
 tr:Tr K F H n v t Z
 fr:n=true->∀b,Z b->g b=none∨U y c b
 tm:n=false->∀b,Z b->∃(i:Nat) (s:Sl),i∈vs/\ρ[i]?=some (some s)/\S i b
 nw:n=true->∀(i:Nat) s,ρ[i]?=some (some s)->∀b,Z b->¬ S i b
theorem VR.d{vs:LN}{g:Hp}{c:Ft}{y:kA}{v:V}{x:D}(n:Bool)(r:Rep K F v x):VR K vs g c y F H S ρ v (.d x) n (λ_=>False) :=
 ⟨.d r λ_ z=>z,λ_ _ z=>z.elim,λ_ _ z=>z.elim,λ_ _ _ _ _ z=>z.elim⟩
theorem VR.held(h:VR K vs g c y F H S ρ v t true Z):Held F H S ρ Z:=⟨λb hb=>h.tr.dom b hb,h.nw rfl⟩
theorem VR.vars{ws:LN}(h:VR K vs g c y F H S ρ v t n Z)(k:∀i∈vs,i∈ws):VR K ws g c y F H S ρ v t n Z :=
 ⟨h.tr,h.fr,λe b hb=>let⟨i,s,z,x⟩:=h.tm e b hb;⟨i,s,k i z,x⟩,h.nw⟩
theorem VR.from(s:Stp F H S ρ X m S1 l)(h:VR K vs m S1 l B E C A v t n Z):VR K vs H S ρ B E C A v t n Z :=
 ⟨h.tr,λe b hb=>by rcases h.fr e b hb with q|q;exact .inl (s.dm b q);exact(s.uu b q).symm,h.tm,h.nw⟩
theorem VR.frz(s:Ste F H S ρ X m S1 l)(I:Rl K X m S1 l σ)(h:VR K vs H S ρ X m S1 l v t n Z) :
  ∃B o,Ste F H S ρ B m S1 l/\Rl K B m S1 l σ/\Tr K B m false v (rA t n) o/\(oH t n=true->Rep K B v t.er)/\(∀b,o b->∃(i:Nat) (s:Sl),i∈vs/\l[i]?=some (some s)/\S1 i b) /\
   ∀st a t' k,Tr K X m st a t' k->(∀b,k b->∃(i:Nat) (s:Sl),l[i]?=some (some s)/\S1 i b)->Tr K B m st a t' k:=by
 cases n with
 |true =>
  have w:=h.held;have j:=OG (H:=m) λb hb=>(w.dom b hb).2;have f:=h.tr.kept j λb u hb e=>by rw[XI hb];exact e
  refine⟨UI X m Z,λ_=>False,s.frz (λb hb=>(w.dom b hb).2) (h.fr rfl),I.frz w,.d f λ_ z=>z,λ_=>f,λb z=>z.elim,λst a t' k r G=>r.mono j λb hb=>⟨rfl,?_⟩⟩;obtain⟨i,Y,L,J⟩:=G b hb;rw[rC λz=>w.nw i Y L b z J];exact(r.dom b hb).2
 |false =>
  refine⟨X,Z,s,I,h.tr,?_,h.tm rfl,λ_ _ _ _ r _=>r⟩;intro e;have q:=h.tr;cases t with
  |d x=>cases q with|d r n=>exact r
  |_=>cases e
end
end
noncomputable abbrev vB(K:QE)(vs:LN)(F H:Hp)(S:Ft)(ρ:kA)(σ:St)(Q:TK)(R:VK):Prop :=
 ∀v z x y h t n Z,Ste F H S ρ z x y h->Rl K z x y h σ->VR K vs H S ρ z x y h v t n Z->Q t n h->R v x
noncomputable abbrev cJ(K:QE)(F H:Hp)(S:Ft)(ρ:kA)(σ:St)(Q:Bool->kA->Prop)(R:Bool->Hp->Prop):Prop :=
 ∀b z x y h,Ste F H S ρ z x y h->Rl K z x y h σ->Q b h->R b x
section
variable{K:QE}{ws:LN}{F H B A:Hp}{S S1:Ft}{ρ Y:kA}{σ:St}{v w:V}{a b:T}{J G:oB}{Q:TK}{R:VK}{E C:Bool}
section
variable{X o:Hp}{m:Ft}{u:kA}{p:Addr}{vs:LV}{ds:List D}
theorem vB.from(k:vB K ws F H S ρ σ Q R)(s:Ste F H S ρ X o m u):vB K ws X o m u σ Q R:=λv f e y h t n Z x z r q=>k v f e y h t n Z (s.trans x) z (r.from s.toStp) q
theorem cJ.from{Q:Bool->kA->Prop}{R:Bool->Hp->Prop}(k:cJ K F H S ρ σ Q R)(s:Ste F H S ρ X o m u):cJ K X o m u σ Q R:=λb f e y h x z q=>k b f e y h (s.trans x) z q
theorem vB.vars{us:LN}(k:vB K ws F H S ρ σ Q R)(h:∀i∈us,i∈ws):vB K us F H S ρ σ Q R:=λv e z y x t n Z s I r q=>k v e z y x t n Z s I (r.vars h) q
theorem vB.d(k:vB K ws F H S ρ σ Q R)(s:Ste F H S ρ B A S1 Y)(I:Rl K B A S1 Y σ){x:D}{n:Bool}(r:Rep K B v x)(q:Q (.d x) n Y):R v A:=k v B A S1 Y _ n _ s I (VR.d n r) q
theorem vB.list(k:vB K ws F H S ρ σ Q R)(s:Ste F H S ρ B A S1 Y)(I:Rl K B A S1 Y σ)(x:A p=none){ts:LT}{W:oB}(r:Trs K B A true vs ts W)
  (fr:∀b,W b->H b=none∨U ρ S b) (y:Held B A S1 Y W) (q:Q (.lst ts) true Y):R (.ref p) (BA A p (.lst vs)):=by
 have g:∀b,A b≠none->b≠p:=λb h z=>h (by rw[z];exact x);refine k _ B _ S1 Y _ true (λb=>b=p∨W b) (s.new x _) (I.new x _) ⟨.lst ZA (I.fh.free x) (r.mono (.refl _) λb hb=>⟨?_,(y.dom b hb).2⟩) (λz=>(y.dom p z).1 x) (λb=>wY),λ_ b hb=>?_,λz=>(by cases z),λ_ i f e b hb z=>?_⟩ q;rw[vA (g b (y.dom b hb).1)];rcases hb with rfl|hb
 ·exact .inl (s.dm _ x)
 exact fr b hb;rcases hb with rfl|hb
 ·exact(I.dom e z).1 x
 exact y.nw i f e b hb z
theorem vB.listD(k:vB K ws F H S ρ σ Q R)(s:Ste F H S ρ B A S1 Y)(I:Rl K B A S1 Y σ)(h:A p=none)(r:Reps K B vs ds)(q:Q (.lst (ds.map T.d)) true Y):R (.ref p) (BA A p (.lst vs)) :=
 k.list s I h (Trs.of_reps r) (λb z=>z.elim) .none q
theorem vB.tupD(k:vB K ws F H S ρ σ Q R)(s:Ste F H S ρ B A S1 Y)(I:Rl K B A S1 Y σ)(h:A p=none){n:Bool}(r:Reps K B vs ds)(q:Q (.d (.tuple ds)) n Y):R (.ref p) (BA A p (.tup vs)) :=
 vB.d k (s.newT h (I.fh.free h) _) (I.newT h _) (.tup (AD.of ZA) (r.mono (OB (I.fh.free h)))) q
theorem vB.tup(k:vB K ws F H S ρ σ Q R)(s:Ste F H S ρ B A S1 Y)(I:Rl K B A S1 Y σ){p:Addr}(x:A p=none){vs:LV}{ts:LT}{W:oB}(r:Trs K B A true vs ts W)
  (fr:∀b,W b->H b=none∨U ρ S b) (y:Held B A S1 Y W) (q:Q (iF ts) true Y):R (.ref p) (BA A p (.tup vs)):=by
 unfold iF at q;cases e:BF ts with
 |some ds=>rw[e]at q;exact k.tupD s I x (r.un e).1 q|none =>
  rw[e]at q;have g:∀b,A b≠none->b≠p:=λb h z=>h (by rw[z];exact x);refine k _ B _ S1 Y _ true (λb=>b=p∨W b) (s.new x _) (I.new x _) ⟨.tup ZA (I.fh.free x) (r.mono (.refl _) λb hb=>⟨?_,(y.dom b hb).2⟩) (λz=>(y.dom p z).1 x) (λb=>wY),λ_ b hb=>?_,λz=>(by cases z),λ_ i f e b hb z=>?_⟩ q;rw[vA (g b (y.dom b hb).1)];rcases hb with rfl|hb
  ·exact .inl (s.dm _ x)
  exact fr b hb;rcases hb with rfl|hb
  ·exact(I.dom e z).1 x
  exact y.nw i f e b hb z
theorem zj{W:Operator}(s:Ste F H S ρ B A S1 Y)(I:Rl K B A S1 Y σ)(Z:Tr K B A E v a J)(r:Tr K B A C w b G)(h:binT W a.vw b.vw λz n=>Q z n Y)(k:vB K ws F H S ρ σ Q R):Sb K W v w A R:=by
 have g:∀{i j:Int},a.vw=.sc (.int i)->b.vw=.sc (.int j)->v=.int i/\w=.int j:=λf e=>⟨Z.int f,r.int e⟩
 cases W with
 |Add =>
  rcases h with⟨i,j,f,e,h⟩| ⟨x,y,f,e,h⟩| ⟨P,N,ds,es,f,e,e1,e2,hl,q⟩
  obtain⟨rfl,rfl⟩:=g f e;exact k.d s I (.int _) h;obtain rfl:=Z.str f;obtain rfl:=r.str e;exact⟨h.1,k.d s I (.str _) h.2⟩;obtain⟨p,xs,_,rfl,hp,rp,_⟩:=Z.ls I.fh f;obtain⟨p2,O,_,rfl,hq,rq,_⟩:=r.ls I.fh e;have M:=(rp.un e1).1;have L:=(rq.un e2).1;exact⟨xs,O,hp,hq,by rw[M.length,L.length];exact hl,λl hl=>k.listD s I hl (M.append L) q⟩
 |Sub=>obtain⟨i,j,f,e,h⟩:=h;obtain⟨rfl,rfl⟩:=g f e;exact k.d s I (.int _) h|Mult =>
  rcases h with⟨i,j,f,e,h⟩| ⟨x,y,f,e,h⟩
  obtain⟨rfl,rfl⟩:=g f e;exact⟨h.1,k.d s I (.int _) h.2⟩;obtain rfl:=Z.str f;obtain rfl:=r.int e;exact⟨h.1,k.d s I (.str _) h.2⟩
 |FloorDiv=>obtain⟨i,j,f,e,h⟩:=h;obtain⟨rfl,rfl⟩:=g f e;exact⟨h.1,k.d s I (.int _) h.2⟩|Mod=>obtain⟨i,j,f,e,h⟩:=h;obtain⟨rfl,rfl⟩:=g f e;exact⟨h.1,k.d s I (.int _) h.2⟩|_=>exact h.elim
theorem Fd{x y:D}{r:Bool->Prop}(neg:Bool)(e:Rep K A v x)(z:Rep K A w y)(h:Tp x y λk=>r (if neg then !k else k))(k:∀c,r c->R (.bl c) A):rEq K neg v w A R:=by
 have n:eF x/\eF y/\r (if neg then !PyData.eqv x y else Qx x y)->(∃l f,Rep K A v l/\Rep K A w f/\eF l/\eF f/\R (.bl (if neg then !PyData.eqv l f else Qx l f)) A):=λ⟨Z,s,q⟩ =>
  ⟨x,y,e,z,Z,s,k _ q⟩
 unfold Tp at h;split at h;cases e;cases z;exact k _ h;cases e;cases z;exact k _ h;cases e;cases z;exact k _ h;have g:=n h;rename_i n1 n2 n3;cases e with
 |int i =>
  cases z with|int j=>exact absurd rfl (n1 i j rfl)|_=>exact g
 |str i =>
  cases z with|str j=>exact absurd rfl (n2 i j rfl)|_=>exact g
 |bl i =>
  cases z with|bl j=>exact absurd rfl (n3 i j rfl)|_=>exact g
 |_=>exact g
theorem J6{F:Hp}{v w:V}{a b:D}(x:Rep K F v a)(h:Rep K F w b)(z:EA a=true)(y:EA b=true):Jb v w=Qx a b:=by cases x<;>cases h<;>first|exact absurd (show false=true from z) QG|exact absurd (show false=true from y) QG | (simp only[Qx];rfl) | (simp only[Qx])
theorem DV{F:Hp}{v:V}{a:D}(h:Rep K F v a)(x:EA a=true):kG v=true:=by cases h<;>first|rfl|exact absurd (show false=true from x) QG
theorem yT{F:Hp}(h:Reps K F vs ds)(f:ds.all EA=true):vs.all kG=true :=
 Reps.ind (R:=λvs ds=>ds.all EA=true->vs.all kG=true) (λ_=>rfl) (λh x f=>by rw[qj,Qg]at f ⊢;exact⟨DV h f.1,x f.2⟩) h f
theorem GM{F:Hp}{v:V}{a:D}(x:Rep K F v a)(z:EA a=true):∀{vs:LV}{ds:List D},Reps K F vs ds->ds.all EA=true->inV v vs=ds.any λy=>Qx y a
 |_,_,.nil,_=>rfl|_,_,.cons h t,f=>by rw[qj,Qg]at f;have e:=GM x z t f.2;unfold inV at e ⊢;rw[wy,wy,J6 h x f.1 z,e]
end
mutual
theorem SW{F:Hp}:∀{k:NK}{v:V},Rep K F v (tD k)->Fj K F k v
 | .s x,v,h=>by have h:Rep K F v (.str x):=h;cases h;rfl|.t ks,v,h=>by
  have h:Rep K F v (.tuple (tDs ks)):=h;cases h with|tup z y=>exact⟨_,_,rfl,z,reps_key y⟩
theorem reps_key{F:Hp}:∀{ks:List NK}{vs:LV},Reps K F vs (tDs ks)->KyVs K F ks vs
 |[],vs,h=>by have h:Reps K F vs []:=h;cases h;rfl|k::ks,vs,h=>by
  have h:Reps K F vs (tD k::tDs ks):=h;cases h with|cons h t=>exact⟨_,_,rfl,SW h,reps_key t⟩
end
section
variable{k x y:D}{o:HO}{ks ds:List D}{vs xs:LV}{X:Bool->Prop}{U:CmpOp}{W:Bool->Hp->Prop}{Y:oB}{ts:LT}
theorem sQ{F:Hp}{v:V}(hk:FD true k)(r:Rep K F v k):∃q p,k=tD q/\v=.ref p/\jO K F p q:=by obtain⟨q,rfl,h⟩:=hk;have r:=SW r;obtain⟨p,_,rfl,_⟩:=id r;exact⟨_,p,rfl,rfl,r,h⟩
theorem XG(q:NK):∀(kvs:List KE),EG kvs q=(dA (kvs.map λp=>tD p.1) (tD q)).bind λn=>(kvs.map (·.2.2))[n]?
 |[]=>rfl|p::r=>by rw[QV,QV];unfold dA;by_cases e:p.1=q;rw[tR e,if_pos (by rw[e])];rfl;rw[aR e,if_neg λz=>e (YU z),XG q r];cases dA (r.map λp=>tD p.1) (tD q)<;>rfl
theorem mJ(q:Key):∀(kvs:List (Key×V)),KL kvs q=(dA (kvs.map λp=>kD p.1) (kD q)).bind λn=>(kvs.map (·.2))[n]?
 |[]=>rfl|p::r=>by rw[QV,QV];unfold dA;by_cases e:p.1=q;rw[YL e,if_pos (by rw[e])];rfl;rw[ZL e,if_neg λz=>e (R5 z),mJ q r];cases dA (r.map λp=>kD p.1) (kD q)<;>rfl
theorem bK.get{a:Addr}{b:Bool}(u:H1 a=some o)(q:bK K H1 b o ks vs)(e:Rep K H1 w k)(hk:FD b k):uR K H1 a w ((dA ks k).bind λn=>vs[n]?):=by
 cases b with
 |true=>obtain⟨v,h,rfl,rfl,rfl,g,_⟩:=q;obtain⟨q,p,rfl,rfl,f⟩:=sQ hk e;exact⟨v,h,q,u,g,f,(XG q h).symm⟩|false =>
  obtain⟨z,rfl⟩:=hk;cases e;rcases q with⟨h,_,rfl,rfl,rfl,_⟩| ⟨v,rfl,rfl,rfl⟩
  exact .inl ⟨h,u,(mJ (.inr z) h).symm⟩;exact .inr ⟨v,u,rfl⟩
theorem zT{b:Bool}(q:bK K H1 b o ks vs):((dA ks k).bind λn=>vs[n]?).isSome=(dA ks k).isSome:=by
 cases e:dA ks k with
 |none=>rfl|some n =>
  have z:=(Qh.mp (PC e)).1;have h:n<vs.length:=by rw[<- q.len];exact z
  simp[h]
theorem iV{b neg:Bool}{a:Addr}(u:H1 a=some o)(q:bK K H1 b o ks vs)(z:Rep K H1 v x)(hk:FD b x)(h:R (.bl (if neg then !(dA ks x).isSome else(dA ks x).isSome)) H1):TR K neg v (.ref a) H1 R :=
 .inr (.inr ⟨_,q.get u z hk,by rw[zT q];exact h⟩)
theorem Yd(neg:Bool)(z:Rep K H1 v x)(e:Rep K H1 w y)(h:Np x y λk=>X (if neg then !k else k))(k:∀c,X c->R (.bl c) H1):TR K neg v w H1 R:=by
 unfold Np at h;split at h;cases z;cases e;exact k _ h;rename_i ds;have u:=e;cases e with
 |lst l f =>
  rcases h.1 with⟨g,fs⟩| ⟨j,i⟩
  refine .inl ⟨_,_,rfl,.inl l,DV z g,yT f fs,?_⟩;rw[GM z g f fs];exact k _ h.2;exact .inr (.inl ⟨_,ds,z,.inl u,j,i,k _ h.2⟩)
 rename_i ds;have u:=e;cases e with
 |tup l f =>
  rcases h.1 with⟨g,fs⟩| ⟨j,i⟩
  refine .inl ⟨_,_,rfl,.inr l,DV z g,yT f fs,?_⟩;rw[GM z g f fs];exact k _ h.2;exact .inr (.inl ⟨_,ds,z,.inr u,j,i,k _ h.2⟩)
 obtain⟨b,m,hk,q⟩:=h;cases e with
 |@dct n a o ks vs ds h dk r =>
  have hl:ks.length=ds.length:=by rw[dk.len,Reps.length r]
  rw[Wj (wq hl)]at q;cases tX dk m;exact iV h dk z hk (k _ q)
 exact h.elim
theorem MP{g:Int->Int->Bool}(u:Rep K H1 v x)(z:Rep K H1 w y)(h:DY g x y X)(k:∀c,X c->R (.bl c) H1):KY g v w H1 R:=by unfold DY at h;split at h;cases u;cases z;exact k _ h;exact h.elim
theorem Rep.non_iff(h:Rep K H1 v x):decide (v=.non)=z6 x:=by cases h<;>rfl
theorem PV(u:Rep K H1 v x)(z:Rep K H1 w y)(h:RV U x y X)(k:∀c,X c->R (.bl c) H1):S6 K U v w H1 R:=by
 cases U with|Eq=>exact Fd false u z h k|NotEq=>exact Fd true u z h k|Lt=>exact MP u z h k|LtE=>exact MP u z h k|Gt=>exact MP u z h k|GtE=>exact MP u z h k|In=>exact Yd false u z h k|NotIn=>exact Yd true u z h k|Is=>have a:mZ x y X:=h;unfold mZ at a;split at a;cases z;have e:=u.non_iff;show R (.bl (decide (v=.non))) H1;rw[e];exact k _ a;cases z;cases u;exact⟨_,rfl,k _ a⟩;exact a.elim|IsNot=>have a:mZ x y λk=>X (!k):=h;unfold mZ at a;split at a;cases z;have e:=u.non_iff;show R (.bl (!decide (v=.non))) H1;rw[e];exact k _ a;cases z;cases u;exact⟨_,rfl,k _ a⟩;exact a.elim
theorem Ub(f:Same F1 H1)(z:Rep K H1 v x)(u:Tr K F1 H1 sb w b Zb)(h:Bb U x b X)(k:∀c,X c->R (.bl c) H1):S6 K U v w H1 R:=by
 cases b with
 |d y=>exact PV z (u.rep f) h k|lst ts=>exact PV z (u.rep f) h k|tup ts=>exact PV z (u.rep f) h k|dct b ks ts =>
  obtain⟨hk,h⟩:=h;cases u with
  |dct a dk _ _ _ _ =>
   rcases h with⟨rfl,q⟩| ⟨rfl,q⟩
   exact iV (neg:=false) a (dk.mono f) z hk (k _ q);exact iV (neg:=true) a (dk.mono f) z hk (k _ q)
theorem VI(r:Reps K F xs ds):(!ds.isEmpty)=!xs.isEmpty:=by cases r<;>rfl
theorem KW(z:Rep K H1 v x)(h:IH x X)(k:∀c,X c->W c H1):IG K v H1 W:=by
 unfold IH at h;split at h;cases z;exact k _ h;cases z;exact k _ h;cases z;exact k _ h;cases z;exact⟨h.1,k _ h.2⟩;cases z with|lst w u=>rw[VI u]at h;exact⟨_,.inl ⟨_,w,rfl⟩,k _ h⟩
 cases z with|tup w u=>rw[VI u]at h;exact⟨_,.inr (.inl ⟨_,w,rfl⟩),k _ h⟩
 exact h.elim
theorem m7(z:Rep K H1 v x)(h:rj x X)(k:∀c,X c->W c H1):t7 v H1 W:=by unfold rj at h;split at h;cases z;exact k _ h;exact h.elim
theorem ji(s:Ste F H S ρ F1 H1 S1 ρ1)(I:Rl K F1 H1 S1 ρ1 σ)(n:Tr K F1 H1 sa v a Za)(C:∀b,Za b->∃(i:Nat) (s:Sl),i∈ws/\ρ1[i]?=some (some s)/\S1 i b)(m:Tr K F1 H1 sb w b Zb)(h:GN a.vw b.vw λz=>Q z false ρ1)(k:vB K ws F H S ρ σ Q R):VY K v w H1 R:=by
 rcases h with⟨z,i,c,j,g,f,e,q⟩| ⟨ts,i,d,j,g,f,q⟩| ⟨ts,i,d,j,g,f,q⟩
 obtain rfl:=n.str j;obtain rfl:=m.int g;exact⟨f,c,e,k.d s I (.str _) q⟩;obtain⟨p,xs,E,rfl,B,l,A⟩:=n.ls I.fh j;obtain rfl:=m.int g;obtain⟨x,Z,e,r,u⟩:=l.at f;exact⟨xs,x,.inl B,e,k _ F1 H1 S1 ρ1 _ false Z s I ⟨r,λz=>(by cases z),λ_ b hb=>C b (A b (u b hb)),λz=>(by cases z)⟩ q⟩;obtain⟨p,xs,E,rfl,B,l,A⟩:=n.tp I.fh j;obtain rfl:=m.int g;obtain⟨x,Z,e,r,u⟩:=l.at f;exact⟨xs,x,.inr B,e,k _ F1 H1 S1 ρ1 _ false Z s I ⟨r,λz=>(by cases z),λ_ b hb=>C b (A b (u b hb)),λz=>(by cases z)⟩ q⟩
theorem Gi(s:Ste F H S ρ F1 H1 S1 ρ1)(I:Rl K F1 H1 S1 ρ1 σ)(l:Tr K F1 H1 sa v a Za)(e:∀b,Za b->∃(i:Nat) (s:Sl),i∈ws/\ρ1[i]?=some (some s)/\S1 i b)(j:Rep K H1 w y)(h:xT a.vw y λz=>Q z false ρ1)(k:vB K ws F H S ρ σ Q R):VY K v w H1 R:=by
 obtain⟨b,ks,ts,n,d,G,hk,C,A,q⟩:=h;obtain⟨p,o,vs,J,rfl,B,dk,f,m,_⟩:=l.dc I.fh G;obtain⟨x,Z,E,r,u⟩:=f.get A;have g:=(dk.mono I.fh).get B j hk;rw[C]at g;have g:uR K H1 p w (vs[n]?):=g;rw[E]at g;have fin:=k _ F1 H1 S1 ρ1 _ false Z s I ⟨r,λz=>(by cases z),λ_ b hb=>e b (m b (u b hb)),λz=>(by cases z)⟩ q;cases w with|str z=>exact⟨x,g,fin⟩|ref c=>exact⟨x,g,fin⟩|_=>exact g.elim
theorem Reps.cut(r:Reps K F xs ds)(h z:Option Int):Reps K F (XZ xs h z) (dC ds h z):=by unfold XZ dC;rw[r.length];exact(r.drop _).take _
theorem zg{b f:Option Int}(s:Ste F H S ρ F1 H1 S1 ρ1)(I:Rl K F1 H1 S1 ρ1 σ)(w:Tr K F1 H1 sa v a Za)(h:VN a.vw b f λz n=>Q z n ρ1)(k:vB K ws F H S ρ σ Q R):yr K v b f H1 R:=by
 rcases h with⟨z,u,h⟩| ⟨ts,ds,u,e,q⟩
 obtain rfl:=w.str u;exact⟨h.1,k.d s I (.str _) h.2⟩;obtain⟨p,xs,_,rfl,i,g,_⟩:=w.ls I.fh u;exact⟨p,xs,rfl,i,λl hl=>k.listD s I hl ((g.un e).1.cut _ _) q⟩
theorem m9{P:Option Int->Prop}{z:Option Int->Hp->Prop}(u:Rep K H1 v x)(h:NF x P)(k:∀o,P o->z o H1):cM v H1 z:=by unfold NF at h;split at h;cases u;exact k _ h;exact h.elim
inductive Tn(K:QE)(F H:Hp)(Y:oB):LV->LT->Prop where
 |nil:Tn K F H Y [] []
 |cons {v:V}{t:T}{vs:LV}{ts:LT}{Z:oB}:Tr K F H false v t Z->(∀b,Z b->Y b)->Tn K F H Y vs ts->Tn K F H Y (v::vs) (t::ts)
theorem iL(ts:LT):∀{xs:List (T×Bool)},HN xs=ts->jC xs=ts.map T.vw
 |[],h=>by subst h;rfl|p::r,h=>by subst h;simp only[jC,HN,QV,iL _ rfl]
theorem Tn.one{x:Vw}(h:Tn K F H Y vs ts)(e:ts.map T.vw=[x]):∃v t Z,vs=[v]/\ts=[t]/\t.vw=x/\Tr K F H false v t Z/\∀b,Z b->Y b:=by
 cases h with
 |nil=>cases e|cons r z t =>
  simp only[QV,WO]at e;cases t with|nil=>exact⟨_,_,_,rfl,rfl,e.1,r,z⟩|cons _ _ _=>simp at e
theorem Tn.two{x y:Vw}(h:Tn K F H Y vs ts)(e:ts.map T.vw=[x,y]):∃v w t u Z a,vs=[v,w]/\ts=[t,u]/\t.vw=x/\u.vw=y/\Tr K F H false v t Z/\Tr K F H false w u a/\(∀b,Z b->Y b)/\(∀b,a b->Y b):=by
 cases h with|nil=>cases e|cons r z t=>simp only[QV,WO]at e;obtain⟨v,u,a,rfl,rfl,i,g,f⟩:=t.one e.2;exact⟨_,_,_,_,_,_,rfl,rfl,e.1,i,r,g,z,f⟩
theorem tJ:∀{xs:LV}{z:LS},Reps K F xs (z.map Jx)->xs=z.map V.str
 |_,[],.nil=>rfl|_,y::z,.cons h t=>by cases h;rw[QV,tJ t]
theorem uO:∀(h:LS),Reps K F (h.map V.str) (h.map Jx)
 |[]=>.nil|y::h=>.cons (.str y) (uO h)
theorem NS:∀{xs:LV}{z:LJ},Reps K F xs (z.map Jy)->xs=z.map V.int
 |_,[],.nil=>rfl|_,y::z,.cons h t=>by cases h;rw[QV,NS t]
theorem BO:∀(h:LJ),Reps K F (h.map V.int) (h.map Jy)
 |[]=>.nil|y::h=>.cons (.int y) (BO h)
theorem YY{α:Type}{g:α->D}{u:LV}(s:xs.Perm u):∀{l:List α},Reps K F xs (l.map g)->∃z:List α,z.Perm l/\Reps K F u (z.map g):=by
 induction s with
 |nil=>intro l r;exact⟨l,QBA _,r⟩|cons x _ m =>
  intro l r;cases l with
  |nil=>cases r|cons a l=>cases r with|cons h t=>obtain⟨z,p,v⟩:=m t;exact⟨a::z,p.cons _,.cons h v⟩
 |swap x y B =>
  intro l r;cases l with
  |nil=>cases r|cons a l=>cases l with
   |nil=>cases r with|cons h t=>cases t
   |cons b l=>cases r with
    |cons h t=>cases t with|cons Z t=>exact⟨b::a::l,QCD.swap _ _ _,.cons Z (.cons h t)⟩
 |trans _ _ q n=>intro l r;obtain⟨A,i,e⟩:=q r;obtain⟨j,f,w⟩:=n e;exact⟨j,f.trans i,w⟩
theorem BU{ls:List (LS)}(h:Reps K F xs (ls.map HB)):∀x∈xs,∃a,∃u:LS,x=.ref a/\EC K F a (u.map V.str):=by
 induction ls generalizing xs with
 |nil=>cases h;exact λ_ z=>nomatch z
 |cons l ls v =>
  cases h with
  |cons r t =>
   intro x h;rcases QM.mp h with e|h;subst e;cases r with|lst q r=>exact⟨_,l,rfl,by rw[<- tJ r];exact q⟩
   exact v t x h
theorem nj{P:Bi}(s:Ste F H S ρ F1 H1 S1 ρ1)(I:Rl K F1 H1 S1 ρ1 σ)(m:Tn K F1 H1 Y vs ts)(h:OT P (ts.map T.vw) λz n=>Q z n ρ1)(k:vB K ws F H S ρ σ Q R):Co K P vs H1 R:=by
 cases P with
 |len =>
  rcases h with⟨z,e,h⟩| ⟨B,e,h⟩| ⟨B,e,h⟩
  obtain⟨v,t,Z,rfl,rfl,e,r,_⟩:=m.one e;obtain rfl:=r.str e;exact .inl ⟨_,rfl,h.1,k.d s I (.int _) h.2⟩;obtain⟨v,t,Z,rfl,rfl,e,r,_⟩:=m.one e;obtain⟨p,xs,_,rfl,f,g,_⟩:=r.ls I.fh e;exact .inr ⟨_,xs,rfl,.inl f,by rw[g.length];exact k.d s I (.int _) h⟩;obtain⟨v,t,Z,rfl,rfl,e,r,_⟩:=m.one e;obtain⟨p,xs,_,rfl,f,g,_⟩:=r.tp I.fh e;exact .inr ⟨_,xs,rfl,.inr f,by rw[g.length];exact k.d s I (.int _) h⟩
 |any=>obtain⟨B,bs,e,hb,q⟩:=h;obtain⟨v,t,Z,rfl,rfl,e,r,_⟩:=m.one e;obtain⟨p,xs,_,rfl,f,g,_⟩:=r.ls I.fh e;obtain rfl:=(g.un hb).1.bools;exact⟨bs,f,k.d s I (.bl _) q⟩|list=>obtain⟨B,ds,e,hb,q⟩:=h;obtain⟨v,t,Z,rfl,rfl,e,r,_⟩:=m.one e;obtain⟨p,xs,_,rfl,f,g,_⟩:=r.ls I.fh e;exact⟨_,xs,rfl,.inl f,λl hl=>k.listD s I hl (g.un hb).1 q⟩|max=>obtain⟨i,j,e,q⟩:=h;obtain⟨v,w,t,u,Z1,Z2,rfl,rfl,e1,e2,M,r2,_⟩:=m.two e;obtain rfl:=M.int e1;obtain rfl:=r2.int e2;exact⟨i,j,rfl,k.d s I (.int _) q⟩|sorted =>
  rcases h with⟨B,J,e,hb,A,q⟩| ⟨B,ls,e,hb,A,q⟩| ⟨B,ns,e,hb,A,q⟩
  obtain⟨v,t,Z,rfl,rfl,e,r,_⟩:=m.one e;obtain⟨p,xs,_,rfl,f,g,_⟩:=r.ls I.fh e;obtain rfl:=tJ (g.un hb).1;exact⟨_,rfl,.inl ⟨J,f,A,λl C hl E N=>k.listD s I hl (uO C) (q C E N)⟩⟩;obtain⟨v,t,Z,rfl,rfl,e,r,_⟩:=m.one e;obtain⟨p,xs,_,rfl,f,g,_⟩:=r.ls I.fh e;have L:=(g.un hb).1;refine⟨_,rfl,.inr (.inl ⟨xs,f,by rw[Reps.length L,QA];exact A,λx hx=>?_,λl ys hl f=>?_⟩)⟩;obtain⟨a,J,e,sq⟩:=BU L x hx;exact⟨a,J,e,I.fh.seq sq⟩;obtain⟨O,E,M⟩:=YY f.symm L;exact k.listD s I hl M (q O E);obtain⟨v,t,Z,rfl,rfl,e,r,_⟩:=m.one e;obtain⟨p,xs,_,rfl,f,g,_⟩:=r.ls I.fh e;obtain rfl:=NS (g.un hb).1;exact⟨_,rfl,.inr (.inr ⟨ns,f,A,λl G hl E N=>k.listD s I hl (BO G) (q G E N)⟩)⟩
 |tuple=>obtain⟨B,ds,e,hb,q⟩:=h;obtain⟨v,t,Z,rfl,rfl,e,r,_⟩:=m.one e;obtain⟨p,xs,_,rfl,f,g,_⟩:=r.ls I.fh e;exact⟨_,xs,rfl,f,λl hl=>k.tupD s I hl (g.un hb).1 q⟩|int=>obtain⟨b,e,q⟩:=h;obtain⟨v,t,Z,rfl,rfl,e,r,_⟩:=m.one e;obtain rfl:=r.bool e;exact⟨b,rfl,k.d s I (.int _) q⟩
theorem Vh{m:Mt}(s:Ste F H S ρ F1 H1 S1 ρ1)(I:Rl K F1 H1 S1 ρ1 σ)(u:Tr K F1 H1 sa v a Za)(w:Tn K F1 H1 Y vs ts)(h:Jr m a.vw (ts.map T.vw) λz n=>Q z n ρ1)(k:vB K ws F H S ρ σ Q R):Ja K m v vs H1 R:=by
 cases m with|_=>exact h.elim
theorem Jn{x:Vw}(h:x.isS=true):∃z,x=.sc (.str z):=by
 cases x with
 |sc d=>cases d with|str z=>exact⟨z,rfl⟩|_=>exact(QG h).elim
 |_=>exact(QG h).elim
theorem Im{m:Mt}(u:Tr K F1 H1 sa v a Za)(h:aa m a.vw=true):EZ K m.ty v H1:=by
 have h:=zA h;obtain⟨z,w⟩:=Jn h.1;obtain rfl:=u.str w;cases m with|_=>exact(QG h.2).elim
end
end
inductive AV(K:QE)(F H:Hp):List Md->LV->List (T×Bool)->(Addr->Prop)->(Addr->Prop)->Prop where
 |nil {md:List Md}{W Y:oB}:(∀b,¬ W b)->AV K F H md [] [] W Y
 |chg {md:List Md}{v:V}{vs:LV}{x:T}{xs:List (T×Bool)}{W Y:oB}:(md.headD .xx).isMut=true->AV K F H md.tail vs xs W Y->AV K F H md (v::vs) ((x,true)::xs) W Y
 |new {md:List Md}{v:V}{vs:LV}{x:T}{xs:List (T×Bool)}{Z W W' Y:oB}:(md.headD .xx).isMut=false->Tr K F H true v x Z->AV K F H md.tail vs xs W' Y->(∀b,Z b->¬ W' b)->(∀b,W b↔Z b∨W' b) ->
   AV K F H md (v::vs) ((x,true)::xs) W Y
 |tmp {md:List Md}{v:V}{vs:LV}{x:T}{xs:List (T×Bool)}{Z W Y:oB}:(md.headD .xx).isMut=false->Tr K F H false v x Z->(∀b,Z b->Y b)->AV K F H md.tail vs xs W Y ->
   AV K F H md (v::vs) ((x,false)::xs) W Y
section
variable{K:QE}{F H o l:Hp}{S S1:Ft}{ρ g:kA}{σ:St}
section
variable{Y W:oB}{md:List Md}{vs:LV}{xs:List (T×Bool)}{ws:LN}{c:Hp}{w:Ft}{y:kA}
theorem AV.sub{u:oB}(h:AV K F H md vs xs W Y)(k:∀b,Y b->u b):AV K F H md vs xs W u:=by
 induction h with|nil h=>exact .nil h|chg h t x=>exact .chg h (x k)|new h r t n q x=>exact .new h r (x k) n q|tmp h r z t x=>exact .tmp h r (λb hb=>k b (z b hb)) (x k)
theorem AV.dom(h:AV K F H md vs xs W Y):∀b,W b->H b≠none/\F b=none:=by
 induction h with|nil h=>exact λb hb=>absurd hb (h b)|chg h t x=>exact x|new h r t n q x=>exact λb hb=>((q b).mp hb).elim (r.dom b) (x b)|tmp h r z t x=>exact x
theorem AV.length(h:AV K F H md vs xs W Y):vs.length=xs.length:=by
 induction h with|nil h=>rfl|chg h t x=>simp[x]|new h r t n q x=>simp[x]|tmp h r z t x=>simp[x]
theorem AV.trs(h:AV K F H md vs xs W Y):(∀(i:Nat),(md.getD i .xx).isMut=false)->sE xs=true->Trs K F H true vs (VF xs) W:=by
 induction h with
 |nil h=>exact λ_ _=>.nil h|@chg md _ _ _ _ _ _ h t u =>
  intro m;have:=m 0;cases md with|nil=>cases h|cons a r=>exact absurd h (by simpa using this)
 |@new md v vs x xs Z W k Y h r t n q u =>
  intro m e;simp only[sE,Qg]at e;exact .cons r (u (λi=>by cases md with|nil=>exact m i|cons a md=>exact m (i+1)) e.2) n q
 |@tmp md v vs x xs Z W Y h r z t u =>
  intro m e;simp only[sE,Qg]at e;refine .cons (S1:=λ_=>False) ?_ (u (λi=>by cases md with|nil=>exact m i|cons a md=>exact m (i+1)) e.2) (λ_ z=>z.elim) λb=>by simp
  cases x with
  |d x=>cases r with|d r n=>exact .d r λ_ z=>z
  |_=>exact absurd e.1 (by simp[oH,T.isD])
theorem rh(i:Nat):((([]:List Md).getD i .xx).isMut)=false:=rfl
theorem AV.tn(h:AV K F H md vs xs W Y)(e:Same F o)(k:∀b,W b->o b=H b)(f:∀b,Y b->F b=none->o b=none)(i:md=[]):Tn K o H Y vs (HN xs):=by
 induction h with|nil h=>exact .nil|chg h t a=>subst i;cases h|@new md v vs x xs Z W m Y h r t n q a=>subst i;refine .cons (Z:=λ_=>False) ?_ (λb z=>z.elim) (a (λb hb=>k b ((q b).mpr (.inr hb))) f rfl);exact .d (r.kept e λb u hb j=>by rw[k b ((q b).mpr (.inl hb))];exact j) λ_ z=>z|@tmp md v vs x xs Z W Y h r z t a=>subst i;exact .cons (r.mono e λb hb=>⟨rfl,f b (z b hb) (r.dom b hb).2⟩) z (a k f rfl)
structure AR(K:QE)(ws:LN)(md:List Md)(c:Hp)(w:Ft)(y:kA)(F H:Hp)(S:Ft)(ρ:kA)(vs:LV)(xs:List (T×Bool))(W Y:oB):Prop where
 av:AV K F H md vs xs W Y
 fr:∀b,W b->c b=none∨U y w b
 tm:∀b,Y b->∃(i:Nat) (s:Sl),i∈ws/\ρ[i]?=some (some s)/\S i b
 nw:∀(i:Nat) s,ρ[i]?=some (some s)->∀b,W b->¬ S i b
theorem AR.held(h:AR K ws md c w y F H S ρ vs xs W Y):Held F H S ρ W:=⟨h.av.dom,h.nw⟩
theorem AR.from{v u:Hp}{z:Ft}{x:kA}(s:Stp F H S ρ o l S1 g)(h:AR K ws md l S1 g v u z x vs xs W Y):AR K ws md H S ρ v u z x vs xs W Y :=
 ⟨h.av,λb hb=>by rcases h.fr b hb with q|q;exact .inl (s.dm b q);exact(s.uu b q).symm,h.tm,h.nw⟩
theorem AR.vars{us:LN}(h:AR K ws md c w y F H S ρ vs xs W Y)(k:∀i∈ws,i∈us):AR K us md c w y F H S ρ vs xs W Y :=
 ⟨h.av,h.fr,λb hb=>let⟨i,s,z,x⟩:=h.tm b hb;⟨i,s,k i z,x⟩,h.nw⟩
theorem AR.frz(s:Ste F H S ρ o l S1 g)(I:Rl K o l S1 g σ)(h:AR K ws [] H S ρ o l S1 g vs xs W Y) :
  ∃v,Ste F H S ρ v l S1 g/\Rl K v l S1 g σ/\Tn K v l Y vs (HN xs) /\
   ∀st k t' u,Tr K o l st k t' u->(∀b,u b->∃(i:Nat) (s:Sl),g[i]?=some (some s)/\S1 i b)->Tr K v l st k t' u:=by
 have x:=h.held;have f:=OG (H:=l) λb hb=>(x.dom b hb).2;refine⟨UI o l W,s.frz (λb hb=>(x.dom b hb).2) h.fr,I.frz x,h.av.tn f (λb hb=>XI hb) (λb m n=>?_) rfl,λst k t' u r j=>r.mono f λb hb=>⟨rfl,?_⟩⟩;obtain⟨i,a,_,e,p⟩:=h.tm b m;rw[rC λz=>h.nw i a e b z p];exact n;obtain⟨i,a,q,e⟩:=j b hb;rw[rC λz=>x.nw i a q b z e];exact(r.dom b hb).2
noncomputable def lB:List Md->LV->LV
 |_,[]=>[]|md,v::vs=>match md.headD .xx with
  | .chg=>v::lB md.tail vs|_=>lB md.tail vs
noncomputable abbrev yp(K:QE)(p:PX)(md:List Md)(F H:Hp)(S:Ft)(ρ:kA)(σ:St)(Q:List (T×Bool)->kA->Prop)(R:LV->Hp->Prop):Prop :=
 ∀vs u x z h xs W Y,Ste F H S ρ u x z h->Rl K u x z h σ->AR K (AG p) md H S ρ u x z h vs xs W Y->(lB md vs).map (λv=>some (some v))=(cA md p).map (λj=>σ[j]?)->Q xs h->R vs x
def Ho(K:QE)(F H:Hp)(x:XD)(h:Option Addr):Prop:=∃a fs,h=some a/\H a=some (.xd fs)/\Paired (λ(p:Str×V) (q:Str×D)=>p.1=q.1/\Rep K F p.2 q.2) fs x.2
def nF(K:QE)(F H:Hp)(S:Ft)(ρ:kA)(E:XE)(a:XK):Prop:=∀x v u h k z,Stp F H S ρ u h k z->Same u h->Ho K u h x v->E x->a x.1 v h
theorem nF.from{E:XE}{u:XK}(h:nF K F H S ρ E u)(s:Stp F H S ρ o l S1 g):nF K o l S1 g E u:=λx k e b a z v f r q=>h x k e b a z (s.trans v) f r q
theorem nF.never:nF K F H S ρ (λ_=>False) (λ_ _ _=>False):=λ_ _ _ _ _ _ _ _ _ z=>z
inductive ArgsR(K:QE)(F H:Hp)(Y:oB):List Md->LV->LT->Prop where
 |nil {md:List Md}:ArgsR K F H Y md [] []
 |chg {md:List Md}{v:V}{vs:LV}{t:T}{ts:LT}:md.headD .xx=.chg->ArgsR K F H Y md.tail vs ts->ArgsR K F H Y md (v::vs) (t::ts)
 |rd {md:List Md}{v:V}{vs:LV}{t:T}{ts:LT}{Z:oB}:md.headD .xx≠.chg->Tr K F H false v t Z->(∀b,Z b->Y b)->ArgsR K F H Y md.tail vs ts->ArgsR K F H Y md (v::vs) (t::ts)
structure Frm(M:oB)(F H F' H':Hp):Prop where
 ff:Same F F'
 fh:Same F' H'
 hh:∀b u,H b=some u->¬ M b->H' b=some u
 dm:∀b,H' b=none->H b=none
 fn:∀b,F b=none->F' b≠none->M b∨H b=none
noncomputable def lift(K:QE)(P:PSp):Sp:=λvs H Q E=>∃(F:Hp) (u:LT) (M Y:oB),Same F H/\ArgsR K F H Y P.md vs u/\Trs K F H true (lB P.md vs) (LB P.md u) M/\(∀b,Y b->¬ M b) /\
 P.run u (λr e=>∀v z h Z k,Frm M F H z h->Tr K z h true v r Z->Trs K z h true (lB P.md vs) e k->(∀b,Z b->¬ k b)->(∀b,Z b∨k b->M b∨H b=none)->Q v h)
  (λx=>∀a z h,Frm M F H z h->Ho K z h x a->E x.1 a h)
structure GOk(K:QE)(Γ:Ev)(Ψ:PEv):Prop where
 sp:∀f vs H Q E,lift K (Ψ.sp f) vs H Q E->Γ.sp f vs H Q E
 va:∀x d,Ψ.va x=some d->∀F,Rep K F (Γ.va x) d
structure PSnd(K:QE)(Γ:Ev)(Ψ:PEv)(p:PX):Prop where
 e:∀{E:XE}{EK:XK}{F H:Hp}{S:Ft}{ρ:kA}{σ:St}{Q:TK}{R:VK},Rl K F H S ρ σ->nF K F H S ρ E EK->(pe Ψ p E).e ρ Q->vB K (AG p) F H S ρ σ Q R->(wp K Γ p EK).e σ H R
 t:∀{E:XE}{EK:XK}{F H:Hp}{S:Ft}{ρ:kA}{σ:St}{Q:Bool->kA->Prop}{R:Bool->Hp->Prop},Rl K F H S ρ σ->nF K F H S ρ E EK->(pe Ψ p E).t ρ Q->cJ K F H S ρ σ Q R->(wp K Γ p EK).t σ H R
 a:∀{E:XE}{EK:XK}{F H:Hp}{S:Ft}{ρ:kA}{σ:St}{md:List Md}{Q:List (T×Bool)->kA->Prop}{R:LV->Hp->Prop},Rl K F H S ρ σ->nF K F H S ρ E EK->(∀j∈cA md p,∃v,σ[j]?=some (some v))->(pe Ψ p E).a md ρ Q->yp K p md F H S ρ σ Q R->(wp K Γ p EK).a σ H R
end
end
section
variable{K:QE}{Γ:Ev}{Ψ:PEv}{E:XE}{c:XK}{F H A U:Hp}{S S1:Ft}{ρ o:kA}{σ:St}
section
variable{b a u:PX}{RR:LV->Hp->Prop}{P:List (T×Bool)->kA->Prop}{Y Z:oB}{t:T}{st:Bool}{ts:LT}{v:V}
theorem Fl(N:PSnd K Γ Ψ b)(I:Rl K F H S ρ σ)(X:nF K F H S ρ E c){x:T}{P:T×Bool->kA->Prop}{RR:VK}(h:sq x ρ (cu (pe Ψ b E).e) P)
  (M:∀w p g S' k y m Z,Ste F H S ρ p g S' k->Rl K p g S' k σ->(∀st v l,Tr K F H st v x l->Tr K p g st v x l)->(x.isD=false->k=ρ/\S'=S)->VR K (AG b) H S ρ p g S' k w y m Z->P (y,m) k->RR w g) :
  (wp K Γ b c).e σ H RR:=by
 unfold sq at h;cases W:x.isD with
 |true =>
  rw[W,if_pos rfl]at h;refine N.e I X h λw p g S' k y m Z s C r q=>M w p g S' k y m Z s C (λst v l B=>?_) (λz=>(by rw[W]at z;cases z)) r q;cases x with
  |d x=>cases B with|d r n=>exact .d (r.mono s.ff) n
  |_=>cases W
 |false =>
  rw[W,if_neg (by simp)]at h;have X':nF K F H S (lockA ρ) E c:=λx dx F2 H2 S2 O Q f r q=>X x dx F2 H2 S ρ Q.unlockA f r q;refine N.e I.lockA X' h λw p g S' k y m Z s C r q=>?_;have kp:∀st v t l,Tr K F H st v t l->Tr K p g st v t l:=λst v t l B=>s.keep B λb _=>cD b;refine M w p g S ρ y m Z ⟨s.unlockA,λj t h=>⟨t,h⟩⟩ (I.unlockA s.toStp C.fh) (λst v l B=>kp st v _ l B) (λ_=>⟨rfl,rfl⟩) ⟨r.tr,λe b hb=>?_,λe b hb=>?_,λe i L hi b hb z=>?_⟩ q;exact .inl ((r.fr e b hb).elim id λz=>absurd z (cD b));obtain⟨i,L,h1,J,G⟩:=r.tm e b hb;cases L with
  |own t=>obtain⟨t0,h0⟩:=s.ow i t J;obtain⟨_,_,e0⟩:=iB h0;cases e0|ky t =>
   cases W:t.isD with|true=>exact absurd G (C.isD J W)|false=>obtain⟨g1,g2⟩:=s.bo i t J W;obtain⟨R,g3,_⟩:=iB g1;rw[g2]at G;exact⟨i,R,h1,g3,G⟩
  rcases r.fr e b hb with q|q
  ·exact(I.dom hi z).1 q
  exact absurd q (cD b)
theorem Hl{md:List Md}(O:PSnd K Γ Ψ b)(I:Rl K F H S ρ σ)(X:nF K F H S ρ E c)(Q:∀j∈cA md b,∃v,σ[j]?=some (some v)){x:T}(h:sq x ρ ((pe Ψ b E).a md) P)
  (N:∀ws l e S' k L W Y,Ste F H S ρ l e S' k->Rl K l e S' k σ->(∀st v g,Tr K F H st v x g->Tr K l e st v x g)->(x.isD=false->k=ρ/\S'=S)->AR K (AG b) md H S ρ l e S' k ws L W Y->(lB md ws).map (λv=>some (some v))=(cA md b).map (λj=>σ[j]?)->P L k->RR ws e) :
  (wp K Γ b c).a σ H RR:=by
 unfold sq at h;cases m:x.isD with
 |true =>
  rw[m,if_pos rfl]at h;refine O.a I X Q h λw l e S' k y W Y s B r C q=>N w l e S' k y W Y s B (λst v g p=>?_) (λz=>(by rw[m]at z;cases z)) r C q;cases x with
  |d x=>cases p with|d r n=>exact .d (r.mono s.ff) n
  |_=>cases m
 |false =>
  rw[m,if_neg (by simp)]at h;have X':nF K F H S (lockA ρ) E c:=λx dx F2 H2 S2 R s2 f r q=>X x dx F2 H2 S ρ s2.unlockA f r q;refine O.a I.lockA X' Q h λw l e S' k y W Y s B r C q=>?_;have kp:∀st v t g,Tr K F H st v t g->Tr K l e st v t g:=λst v t g p=>s.keep p λb _=>cD b;refine N w l e S ρ y W Y ⟨s.unlockA,λj t h=>⟨t,h⟩⟩ (I.unlockA s.toStp B.fh) (λst v g p=>kp st v _ g p) (λ_=>⟨rfl,rfl⟩) ⟨r.av,λb hb=>?_,λb hb=>?_,λi M hi b hb z=>?_⟩ C q;exact .inl ((r.fr b hb).elim id λz=>absurd z (cD b));obtain⟨i,M,h1,J,G⟩:=r.tm b hb;cases M with
  |own t=>obtain⟨t0,h0⟩:=s.ow i t J;obtain⟨_,_,e0⟩:=iB h0;cases e0|ky t =>
   cases m:t.isD with|true=>exact absurd G (B.isD J m)|false=>obtain⟨g1,g2⟩:=s.bo i t J m;obtain⟨s0,g3,_⟩:=iB g1;rw[g2]at G;exact⟨i,s0,h1,g3,G⟩
  rcases r.fr b hb with q|q
  ·exact(I.dom hi z).1 q
  exact absurd q (cD b)
theorem aF(l:PSnd K Γ Ψ a)(I:Rl K F H S ρ σ)(X:nF K F H S ρ E c){P:TK}{RR:VK}(h:(pe Ψ a E).e ρ P)
  (j:∀v w z S' y x n Z,Ste F H S ρ w z S' y->Rl K w z S' y σ->nF K w z S' y E c->Tr K w z false v (rA x n) Z->(oH x n=true->Rep K w v x.er)->(∀b,Z b->∃(i:Nat) (s:Sl),i∈AG a/\y[i]?=some (some s)/\S' i b)->P x n y->RR v z) :
  (wp K Γ a c).e σ H RR:=by
 refine l.e I X h λv w z S' y x n Z s B r q=>?_;obtain⟨C,p,k,W,g,m,f,_⟩:=r.frz s B;exact j v C z S' y x n p k W (X.from k.toStp) g m f q
theorem D1(ia:PSnd K Γ Ψ a)(ib:PSnd K Γ Ψ b)(I:Rl K F H S ρ σ)(X:nF K F H S ρ E c){P:T->Bool->T->Bool->kA->Prop}{RR:V->V->Hp->Prop}
  (h:(pe Ψ a E).e ρ λx n o=>sq (rA x n) o (cu (pe Ψ b E).e) λy k=>P x n y.1 y.2 k)
  (kk:∀v w l f S' z x n y m j Zb,Ste F H S ρ l f S' z->Rl K l f S' z σ->nF K l f S' z E c->Tr K l f false v (rA x n) j->(∀b,j b->∃(i:Nat) (s:Sl),i∈AG a/\z[i]?=some (some s)/\S' i b)->Tr K l f false w (rA y m) Zb ->
   P x n y m z->RR v w f):(wp K Γ a c).e σ H λv U=>(wp K Γ b c).e σ U λw W=>RR v w W:=by
 refine aF ia I X h λv A U S1 o x n j M I1 X1 p _ G R=>?_;refine Fl ib I1 X1 R λw F2 W C k y m Z L I2 kp hs O Q=>?_;obtain⟨F3,Z3,J,I3,N,_,_,k3⟩:=O.frz L I2;have B:∀b,j b->∃(i:Nat) (s:Sl),i∈AG a/\k[i]?=some (some s)/\C i b:=by
  cases q:(rA x n).isD with
  |true =>
   intro b hb;exfalso;generalize rA x n=t at p q;cases p with|d r n=>exact n b hb|_=>cases q
  |false=>obtain⟨e1,e2⟩:=hs q;rw[e1,e2];exact G
 have g:=M.trans J;exact kk v w F3 W C k x n y m j Z3 g I3 (X.from g.toStp) (k3 _ _ _ _ (kp _ _ _ p) λb hb=>let⟨i,s,_,h2⟩:=B b hb;⟨i,s,h2⟩) B N Q
theorem dW(e:PSnd K Γ Ψ u)(I:Rl K F H S ρ σ)(X:nF K F H S ρ E c)(h:(pe Ψ u E).a [] ρ P)
  (k:∀vs z y S' x xs Y,Ste F H S ρ z y S' x->Rl K z y S' x σ->nF K z y S' x E c->Tn K z y Y vs (HN xs)->(∀b,Y b->∃(i:Nat) (s:Sl),i∈AG u/\x[i]?=some (some s)/\S' i b)->P xs x->RR vs y):(wp K Γ u c).a σ H RR:=by
 refine e.a (md:=[]) I X (λj f=>by cases u<;>cases f) h λvs z y S' x xs W Y s l r _ q=>?_;obtain⟨m,w,g,t,_⟩:=r.frz s l;exact k vs m y S' x xs Y w g (X.from w.toStp) t r.tm q
theorem Ak(ia:PSnd K Γ Ψ a)(ib:PSnd K Γ Ψ u)(I:Rl K F H S ρ σ)(X:nF K F H S ρ E c){P1:T->Bool->Prop}{P:T->Bool->List (T×Bool)->kA->Prop}{R1:V->Hp->Prop}{RR:V->LV->Hp->Prop}
  (h:(pe Ψ a E).e ρ λx n o=>P1 x n/\sq (rA x n) o ((pe Ψ u E).a []) λxs z=>P x n xs z)
  (k1:∀v f w x n k,Tr K f w false v (rA x n) k->P1 x n->R1 v w)
  (kk:∀v vs f w S' y x n xs k Y,Ste F H S ρ f w S' y->Rl K f w S' y σ->nF K f w S' y E c->Tr K f w false v (rA x n) k->(∀b,k b->∃(i:Nat) (s:Sl),i∈AG a/\y[i]?=some (some s)/\S' i b)->Tn K f w Y vs (HN xs) ->
   P x n xs y->RR v vs w):(wp K Γ a c).e σ H λv U=>R1 v U/\(wp K Γ u c).a σ U λvs p=>RR v vs p:=by
 refine aF ia I X h λv A U S1 o x n k L I1 X1 l _ C ⟨Q,O⟩=>⟨k1 v A U x n k l Q,?_⟩
 refine Hl ib I1 X1 (λj hj=>by cases u<;>cases hj) O λvs F2 p B z xs W Y J I2 R hs M _ N=>?_;obtain⟨F3,G,I3,tn,k3⟩:=M.frz J I2;have q:∀b,k b->∃(i:Nat) (s:Sl),i∈AG a/\z[i]?=some (some s)/\B i b:=by
  cases m:(rA x n).isD with
  |true =>
   intro b hb;exfalso;generalize rA x n=t at l m;cases l with|d r n=>exact n b hb|_=>cases m
  |false=>obtain⟨e1,e2⟩:=hs m;rw[e1,e2];exact C
 have g:=L.trans G;exact kk v vs F3 p B z x n xs k Y g I3 (X.from g.toStp) (k3 _ _ _ _ (R _ _ _ l) λb hb=>let⟨i,s,_,h2⟩:=q b hb;⟨i,s,h2⟩) q tn N
noncomputable def TZ(K:QE)(F H:Hp)(Y:oB):Item->T->Prop
 | .one v,t=>∃Z,Tr K F H false v t Z/\∀b,Z b->Y b|.tup vs,t=>∃h,t=.d (.tuple h)/\Reps K F vs h
theorem TZ.mono{it:Item}(h:TZ K F H Y it t)(e:Same F A)(k:∀b,Y b->U b=H b/\A b=none):TZ K A U Y it t:=by
 cases it with|one v=>obtain⟨Z,r,z⟩:=h;exact⟨Z,r.mono e λb hb=>k b (z b hb),z⟩|tup y=>obtain⟨ts,x,r⟩:=h;exact⟨ts,x,r.mono e⟩
theorem S5{xs:LV}(h:Trs K F H st xs ts Z)(z:∀b,Z b->Y b):Paired (TZ K F H Y) (xs.map .one) ts :=
 Trs.ind (R:=λ_ xs ts Z=>(∀b,Z b->Y b)->Paired (TZ K F H Y) (xs.map .one) ts) (λ_ _=>.nil) (λh _ _ q x z=>.cons ⟨_,h.weak,λb hb=>z b ((q b).mpr (.inl hb))⟩ (x λb hb=>z b ((q b).mpr (.inr hb)))) h z
theorem aX{Y:oB}{α:Type}(f:α->V)(g:α->D)(h:∀x,Rep K F (f x) (g x)):∀(l:List α),Paired (TZ K F H Y) (l.map λx=>.one (f x)) (l.map λx=>T.d (g x))
 |[]=>.nil|x::r=>.cons ⟨λ_=>False,.d (h x) λ_ z=>z,λ_ z=>z.elim⟩ (aX f g h r)
theorem Tr.lsS(f:Same F H)(h:Tr K F H st v t Z)(e:t.vw=.ls ts):∃a vs S',v=.ref a/\EC K H a vs/\Trs K F H false vs ts S'/\(∀b,S' b->Z b)/\∀y x,Same F y->Same y x->(∀b,Z b->x b=H b)->EC K x a vs:=by
 cases h with
 |d r n =>
  cases r with|lst q r=>injection e with e;subst e;exact⟨_,_,_,rfl,f.seq q,Trs.of_reps r,λb hb=>hb.elim,λy x w z _=>(w.trans z).seq q⟩|dct _ _ _=>exact(aH e).elim|_=>cases e
 |lst h _ r n q=>injection e with e;subst e;exact⟨_,_,_,rfl,EC.of h,r.weak,λb hb=>(q b).mpr (.inr hb),λy x _ _ k=>EC.of ((k _ ((q _).mpr (.inl rfl))).trans h)⟩|tup=>cases e|dct=>cases e|lstF h r n=>injection e with e;subst e;exact⟨_,_,_,rfl,f.seq h,Trs.of_reps r,λb hb=>hb.elim,λy x w z _=>(w.trans z).seq h⟩
theorem Tr.tpS(f:Same F H)(h:Tr K F H st v t Z)(e:t.vw=.tp ts):∃a vs S',v=.ref a/\AD K H a vs/\Trs K F H false vs ts S'/\(∀b,S' b->Z b)/\∀y x,Same F y->Same y x->(∀b,Z b->x b=H b)->AD K x a vs:=by
 cases h with
 |d r n =>
  cases r with|tup q r=>injection e with e;subst e;exact⟨_,_,_,rfl,f.tupl q,Trs.of_reps r,λb hb=>hb.elim,λy x w z _=>(w.trans z).tupl q⟩|dct _ _ _=>exact(JL e).elim|_=>cases e
 |tup h _ r n q=>injection e with e;subst e;exact⟨_,_,_,rfl,AD.of h,r.weak,λb hb=>(q b).mpr (.inr hb),λy x _ _ k=>AD.of ((k _ ((q _).mpr (.inl rfl))).trans h)⟩|lst=>cases e|lstF=>cases e|dct=>cases e
theorem Tr.seqS(f:Same F H)(h:Tr K F H st v t Z)(e:t.vw.seq=some ts):∃a vs sz,v=.ref (Src.adr sz)/\Y0 K H sz vs/\(∃S',Trs K F H false vs ts S')/\a=Src.adr sz/\∀g k,Same F g->Same g k->(∀b,Z b->k b=H b)->Y0 K k sz vs:=by
 generalize ev:t.vw=w at e;cases w with|ls i=>cases e;obtain⟨a,vs,S',rfl,z,x,_,y⟩:=h.lsS f ev;exact⟨a,vs,.l a,rfl,z,⟨S',x⟩,rfl,y⟩|tp i=>cases e;obtain⟨a,vs,S',rfl,z,x,_,y⟩:=h.tpS f ev;exact⟨a,vs,.t a,rfl,z,⟨S',x⟩,rfl,y⟩|_=>cases e
end
mutual
theorem rV{F:Hp}:∀{k:NK}{v:V},Fj K F k v->Rep K F v (tD k)
 | .s x,v,h=>by cases(show v=.str x from h);exact .str x|.t ks,v,⟨a,xs,e,q,p⟩=>by subst e;exact .tup q (ky_reps p)
theorem ky_reps{F:Hp}:∀{ks:List NK}{vs:LV},KyVs K F ks vs->Reps K F vs (tDs ks)
 |[],vs,h=>by cases(show vs=[] from h);exact .nil|k::ks,vs,⟨x,r,e,p,q⟩=>by subst e;exact .cons (rV p) (ky_reps q)
end
theorem iX{Y:oB}:∀{kvs:List KE}{ds:List D},YG K F kvs->Reps K F (kvs.map (·.2.2)) ds->Paired (TZ K F H Y) (kvs.map λp=>.tup [.ref p.2.1,p.2.2]) (((kvs.map λp=>tD p.1).zip ds).map λp=>T.d (.tuple [p.1,p.2]))
 |[],_,_,.nil=>.nil|p::r,_,hk,.cons h t=>by simp only[QV,QAB];exact .cons ⟨[_,_],rfl,.cons (rV (hk p QD).1) (.cons h .nil)⟩ (iX (λp x=>hk p (QC _ x)) t)
theorem eX{Y:oB}:∀{kvs:List KE},YG K F kvs->Paired (TZ K F H Y) (kvs.map λp=>.one (.ref p.2.1)) ((kvs.map λp=>tD p.1).map T.d)
 |[],_=>.nil|p::r,hk=>.cons ⟨λ_=>False,.d (rV (hk p QD).1) λ_ z=>z,λ_ z=>z.elim⟩ (eX λp h=>hk p (QC _ h))
theorem DS{Y:oB}:∀{xs:LV}{ds:List D}(_:Reps K F xs ds) (g:Nat->Int) (n:Nat),Paired (TZ K F H Y) ((xs.zipIdx n).map λp=>.tup [.int (g p.2),p.1]) ((ds.zipIdx n).map λp=>T.d (.tuple [.int (g p.2),p.1]))
 |_,_,.nil,g,n=>by simp only[List.zipIdx_nil,wJ];exact .nil|_,_,.cons h t,g,n=>by simp only[List.zipIdx_cons,QV];exact .cons ⟨[_,_],rfl,.cons (.int _) (.cons h .nil)⟩ (DS t g (n+1))
theorem UJ{L:ItK}{Y:oB}{vs:LV}{ts:LT}{R:LT->Prop}{RR:List Item->(Hp->Prop)->Hp->Prop}(f:Same F H)(W:Tn K F H Y vs ts)(h:MB L (ts.map T.vw) R)
  (k:∀xs Q st,Paired (TZ K F H Y) xs Q->(∀l g,Same F l->Same l g->(∀b,Y b->g b=H b)->st g)->R Q->RR xs st H):VC K L vs H RR:=by
 cases L with
 |val =>
  rcases h with⟨G,e,h⟩| ⟨G,e,h⟩| ⟨B,G,e,h⟩
  obtain⟨v,t,Z,rfl,rfl,e,r,z⟩:=W.one e;obtain⟨p,xs,S',rfl,M,m,I,X⟩:=r.lsS f e;exact .inl ⟨xs,M,k _ _ _ (S5 m λb hb=>z b (I b hb)) (λl g y w q=>X l g y w λb hb=>q b (z b hb)) h⟩;obtain⟨v,t,Z,rfl,rfl,e,r,z⟩:=W.one e;obtain⟨p,xs,S',rfl,M,m,I,X⟩:=r.tpS f e;exact .inr (.inl ⟨xs,M,k _ _ _ (S5 m λb hb=>z b (I b hb)) (λl g y w q=>X l g y w λb hb=>q b (z b hb)) h⟩);obtain⟨v,t,Z,rfl,rfl,y,A,C⟩:=W.one e;obtain⟨a,o,xs,_,rfl,N,dk,m,_,X⟩:=A.dc f y;obtain⟨s,u,rfl,rfl,rfl,O,_⟩:=dk;exact .inr (.inr ⟨s,u,N,k _ _ _ (eX O) (λl g y w q=>X l g y w λb hb=>q b (C b hb)) h⟩)
 |rng1=>obtain⟨j,e,h⟩:=h;obtain⟨v,t,Z,rfl,rfl,e,r,_⟩:=W.one e;obtain rfl:=r.int e;exact⟨h.1,k _ _ _ (aX (λ(i:Nat)=>.int (i:Int)) (λ(i:Nat)=>.int (i:Int)) (λc=>.int _) _) (λ_ _ _ _ _=>trivial) h.2⟩|enum=>obtain⟨x,G,E,e,g1,P,q⟩:=h;obtain⟨v,t,Z,rfl,rfl,y,A,C⟩:=W.one e;obtain⟨a,xs,sz,rfl,S,⟨_,m⟩,_,X⟩:=A.seqS f (by rw[y];exact g1);exact⟨sz,xs,rfl,S,k _ _ _ (DS (m.un P).1 (λi=>(i:Int)) 0) (λl g y w q=>X l g y w λb hb=>q b (C b hb)) q⟩|itm =>
  rcases h with⟨B,G,E,e,P,q⟩| ⟨e,q⟩
  rotate_left
  obtain⟨v,t,Z,rfl,rfl,y,A,C⟩:=W.one e;obtain⟨_,m⟩:=A.sc y;generalize ed:PyData.dict []=d at m;cases m with
  |@dct b a o B vs E h J r =>
   have ez:B.zip E=[]:=by injection ed with ed;exact ed.symm
   have hl:B.length=E.length:=by rw[J.len,Reps.length r]
   have ek:B=[]:=by
    cases B with
    |nil=>rfl|cons k B =>
     cases E with|nil=>cases hl|cons d E=>cases ez
   subst ek;have eo:∃s,o=.dT s []:=by
    cases b with
    |true =>
     obtain⟨s,u,y,w,_⟩:=J;cases u with|nil=>exact⟨s,y⟩|cons p r=>cases w
    |false =>
     rcases J with⟨u,n,_,w,_⟩| ⟨s,y,_⟩
     cases u with|nil=>exact absurd rfl n|cons p r=>cases w
     exact⟨s,y⟩
   obtain⟨s,rfl⟩:=eo;exact⟨s,[],f _ _ h,k _ _ _ .nil (λl g y w _=>w _ _ (y _ _ h)) q⟩
  |_=>cases ed
  obtain⟨v,t,Z,rfl,rfl,y,A,C⟩:=W.one e;obtain⟨a,o,xs,_,rfl,N,dk,m,_,X⟩:=A.dc f y;obtain⟨s,u,rfl,rfl,rfl,O,_⟩:=dk;exact⟨s,u,N,k _ _ _ (iX O (m.un P).1) (λl g y w q=>X l g y w λb hb=>q b (C b hb)) q⟩
end
section
variable{i j:Nat}{Z:oB}
def iH(S:Ft)(i:Nat)(Z:oB):Ft:=λj=>if j=i then Z else S j
theorem RA{S:Ft}:iH S i Z i=Z:=if_pos rfl
theorem KA{S:Ft}(h:j≠i):iH S i Z j=S j:=if_neg h
theorem gA{α:Type}{l:List α}{x y:α}(h:(l.set i x)[j]?=some y):(i=j/\y=x/\i<l.length)∨(i≠j/\l[j]?=some y):=by rw[wB]at h;by_cases e:i=j;subst e;rw[if_pos rfl]at h;by_cases hl:i<l.length;rw[if_pos hl]at h;cases h;exact .inl ⟨rfl,rfl,hl⟩;rw[if_neg hl]at h;cases h;rw[if_neg e]at h;exact .inr ⟨e,h⟩
theorem GW{α:Type}{l:List α}{x:α}(h:i<l.length):(l.set i x)[i]?=some x:=by rw[wB,if_pos rfl,if_pos h]
theorem ED{α:Type}{l:List α}{x:α}(h:i≠j):(l.set i x)[j]?=l[j]?:=by rw[wB,if_neg h]
end
section
variable{K:QE}{Γ:Ev}{Ψ:PEv}{E:XE}{L:XK}{F H D G:Hp}{S S1:Ft}{ρ C:kA}{σ:St}
section
variable{Z Y:oB}{A X:Hp}{S':Ft}{g:kA}{o:St}{st:Bool}{B:Tg}{k:Nat}{l:List Bool}
theorem Rl.setB(I:Rl K F H S ρ σ)(i:Nat){v:V}{t:T}(r:Tr K F H false v t Z)(m:∀(j:Nat) u,j≠i->ρ[j]?=some (some (.own u))->∀b,Z b->¬ S j b):Rl K F H (iH S i Z) (ρ.set i (some (.ky t))) (σ.set i (some v)) where
 fh:=I.fh
 len:=by simpa using I.len
 sl:=λj s h=>by
  rcases gA h with⟨rfl,e,hl⟩| ⟨w,h⟩
  cases e;exact⟨v,GW (by rw[<- I.len];exact hl),by rw[RA];exact r⟩;rw[ED w,KA (qD w)];exact I.sl j s h
 dj:=λj k z s n x y b hb hk=>by
  rcases gA x with⟨_,e,_⟩| ⟨f,x⟩
  cases e;rw[KA (qD f)]at hb;rcases gA y with⟨e,_,_⟩| ⟨a,y⟩
  subst e;rw[RA]at hk;exact m j z n x b hk hb;rw[KA (qD a)]at hk;exact I.dj j k z s n x y b hb hk
structure Bd(J:LN)(F H:Hp)(S:Ft)(ρ:kA)(σ:St)(A X:Hp)(S':Ft)(g:kA)(o:St):Prop where
 ff:Same F A
 hh:Same H X
 fn:∀b,F b=none->A b≠none->H b=none
 out:∀j,j∉J->g[j]?=ρ[j]?/\S' j=S j/\o[j]?=σ[j]?
 inn:∀j t,j∈J->g[j]?≠some (some (.own t))
theorem Bd.U{J:LN}(h:Bd J F H S ρ σ A X S' g o){b:Addr}(u:U g S' b):L3.U ρ S b:=by obtain⟨i,t,x,z⟩:=u;by_cases y:i∈J;exact absurd x (h.inn i t y);obtain⟨w,v,_⟩:=h.out i y;rw[w]at x;rw[v]at z;exact⟨i,t,x,z⟩
theorem Bd.dm{J:LN}(h:Bd J F H S ρ σ A X S' g o)(b:Addr)(e:X b=none):H b=none:=h.hh.free e
theorem MW{Y:oB}(s:∀b,Y b->¬ U ρ S b):∀(w:LN) {vs:LV}{ts:LT}{S1:Ft}{C g:kA}{x:St}{J:LN},(∀i∈w,i∈J)->Rl K F H S1 C x->(∀b,U C S1 b->U ρ S b)->Tn K F H Y vs ts->aB w ts C=some g ->
  ∃o S',kB w vs x=some o/\Rl K F H S' g o/\(∀j,j∉J->g[j]?=C[j]?/\S' j=S1 j/\o[j]?=x[j]?)/\(∀j t,g[j]?=some (some (.own t))->j∉w/\C[j]?=some (some (.own t)))
 |[],_,_,S1,C,g,x,J,hJ,I,hu,.nil,h=>by simp only[aB,Qq]at h;subst h;exact⟨x,S1,rfl,I,λ_ _=>⟨rfl,rfl,rfl⟩,λj t h=>⟨(by simp),h⟩⟩|[],_,_,_,_,_,_,_,_,_,_,.cons _ _ _,h=>by simp[aB]at h|_::_,_,_,_,_,_,_,_,_,_,_,.nil,h=>by simp[aB]at h|i::w,_,_,S1,C,g,x,J,hJ,I,hu,.cons (v:=v) (t:=t) (Z:=Z) r z tl,h=>by
  simp only[aB]at h;have nu:∀b,Z b->¬ U C S1 b:=λb hb u=>s b (z b hb) (hu b u);have I2:=I.setB i r λj u _ y b hb N=>nu b hb ⟨j,u,y,N⟩;have p:∀b,U (C.set i (some (.ky t))) (iH S1 i Z) b->U ρ S b:=λb ⟨j,u,q,W⟩=>by
   rcases gA q with⟨_,e,_⟩| ⟨n,q⟩
   cases e;rw[KA (qD n)]at W;exact hu b ⟨j,u,q,W⟩
  obtain⟨o,S',R,Q,P,O⟩:=MW s w (λj y=>hJ j (QC _ y)) I2 p tl h;refine⟨o,S',R,Q,λj y=>?_,λj u y=>?_⟩;obtain⟨f,a,M⟩:=P j y;have n:i≠j:=λe=>y (e▸hJ i QD);rw[ED n]at f M;rw[KA (qD n)]at a;exact⟨f,a,M⟩;obtain⟨f,a⟩:=O j u y;rcases gA a with⟨_,e,_⟩| ⟨n,a⟩
  cases e;exact⟨λm=>(QM.mp m).elim (λe=>n e.symm) f,a⟩
theorem Tn.of_trs{vs:LV}{ts:LT}(h:Trs K F H st vs ts Z)(z:∀b,Z b->Y b):Tn K F H Y vs ts :=
 Trs.ind (R:=λ_ vs ts Z=>(∀b,Z b->Y b)->Tn K F H Y vs ts) (λ_ _=>.nil) (λh _ _ q x z=>.cons h.weak (λb hb=>z b ((q b).mpr (.inl hb))) (x λb hb=>z b ((q b).mpr (.inr hb)))) h z
theorem IM{it:Item}{t:T}{QP:kA->Prop}{RP:St->Hp->Prop}(I:Rl K F H S ρ σ)(hy:∀b,Y b->¬ U ρ S b)(r:TZ K F H Y it t)(h:DK B t ρ QP)
  (k:∀m f w x O,Bd B.ix F H S ρ σ w x O m f->Rl K w x O m f->QP m->RP f x):bindI K B it σ H RP:=by
 have nm:∀(i:Nat) {v:V}{t:T}{Z:oB}{w x:Hp}{O:Ft},Same F w->Same H x->(∀b,F b=none->w b≠none->H b=none)->Rl K w x O ρ σ->O=S->Tr K w x false v t Z->(∀b,Z b->¬ U ρ S b)->QP (ρ.set i (some (.ky t)))->B=.nm i->RP (σ.set i (some v)) x:=by
  intro i v t Z w x O R e2 e3 I2 hS r hz q ht;subst hS ht;refine k _ _ w x (iH O i Z) ⟨R,e2,e3,λj N=>?_,λj u N hu=>?_⟩ (I2.setB i r λj u _ N b hb hs=>hz b hb ⟨j,u,N,hs⟩) q;have n:i≠j:=λe=>N (by subst e;exact QI.mpr rfl);exact⟨ED n,KA (qD n),ED n⟩;have e:j=i:=QI.mp N;subst e;rcases gA hu with⟨_,e,_⟩| ⟨n,_⟩
  cases e;exact n rfl
 have tp:∀(y:LN) {W:LV}{P:LT}{x:Hp}{g:kA},Same H x->B=.tp y->Tn K F x Y W P->aB y P ρ=some g->QP g->∃o,kB y W σ=some o/\RP o x:=by intro y W P x g e2 ht r e q;subst ht;obtain⟨o,S',g1,g2,g3,g4⟩:=MW hy y (J:=y) (λi hi=>hi) (I.same e2) (λb u=>u) r e;exact⟨o,g1,k _ _ F x S' ⟨.refl _,e2,λb h z=>absurd h z,g3,λj u N hu=>(g4 j u hu).1 N⟩ g2 q⟩
 cases it with
 |one v =>
  obtain⟨Z,r,z⟩:=r;cases B with|nm i=>exact nm i (.refl _) (.refl _) (λb h z=>absurd h z) I rfl r (λb hb=>hy b (z b hb)) h rfl|tp y=>have Q:(match t.vw with | .tp P=>∃g,aB y P ρ=some g/\QP g|_=>False):=h;split at Q;rename_i P e;obtain⟨g,R,q⟩:=Q;obtain⟨a,W,S',rfl,M,rp,z2⟩:=r.tp I.fh e;obtain⟨o,g1,g2⟩:=tp y (.refl _) rfl (Tn.of_trs rp λb hb=>z b (z2 b hb)) R q;exact⟨W,o,M,g1,g2⟩;exact Q.elim
 |tup W =>
  obtain⟨ds,rfl,rd⟩:=r;cases B with|nm i=>intro p M;refine nm i (OB (I.fh.free M)) (OB M) (λb h1 Q=>?_) (I.newT M (.tup W)) rfl (.d (S:=λ_=>False) (.tup (AD.of ZA) (rd.mono (OB (I.fh.free M)))) λ_ z=>z) (λb z=>z.elim) h rfl;by_cases hb:b=p;rw[hb];exact M;rw[vA hb]at Q;exact absurd h1 Q|tp y=>intro X s;obtain⟨g,R,q⟩:=h;exact tp y s rfl (Tn.of_trs (Trs.of_reps (st:=false) rd) λb hb=>hb.elim) R q
noncomputable def Yb(k:Nat)(S:Ft):Ft:=λi=>if i<k then λ_=>False else S (i - k)
theorem KO:∀(m:List Bool) (ρ:kA) (i:Nat) s,(ZC m ρ)[i]?=some (some s)->ρ[i]?=some (some s)/\m.getD i false=false
 |[],ρ,i,s,h=>by
  have e:ZC [] ρ=ρ:=by cases ρ<;>rfl
  rw[e]at h;exact⟨h,rfl⟩
 |b::m,[],i,s,h=>by simp[ZC]at h|b::m,v::ρ,0,s,h=>by
  cases b with|true=>simp[ZC]at h|false=>simp[ZC]at h;simp[h]
 |b::m,v::ρ,i+1,s,h=>by simp only[ZC,wV]at h;obtain⟨y,x⟩:=KO m ρ i s h;exact⟨by simpa using y,by simpa using x⟩
theorem YO:∀(m:List Bool) (σ:St) (i:Nat) v,σ[i]?=some (some v)->m.getD i false=false->(NC m σ)[i]?=some (some v)
 |[],σ,i,v,h,_=>by
  have e:NC [] σ=σ:=by cases σ<;>rfl
  rw[e];exact h
 |b::m,[],i,v,h,_=>by simp at h|b::m,w::σ,0,v,h,hb=>by
  have:b=false:=by simpa using hb
  subst this;simpa[NC]using h
 |b::m,w::σ,i+1,v,h,hb=>by simp only[NC,wV];exact YO m σ i v (by simpa using h) (by simpa using hb)
theorem ZO:∀(m:List Bool) (ρ:kA),(ZC m ρ).length=ρ.length
 |[],ρ=>by cases ρ<;>rfl|_::_,[]=>rfl|b::m,v::ρ=>by simp[ZC,ZO m ρ]
theorem xG{ρ:kA}{i:Nat}{s:Sl}(h:(MN k l ρ)[i]?=some (some s)):k<=i/\ρ[i - k]?=some (some s)/\l.getD (i - k) false=false:=by unfold MN at h;rcases QAr i k with z|z;rw[qF (by simpa using z),wX]at h;split at h<;>cases h;rw[qJ (by simpa using z)]at h;simp only[qm]at h;obtain⟨y,x⟩:=KO l ρ _ s h;exact⟨z,y,x⟩
theorem Rl.ent(I:Rl K F H S ρ σ)(k:Nat)(l:List Bool):Rl K F H (Yb k S) (MN k l ρ) (DI k l σ) where
 fh:=I.fh
 len:=by simp[MN,DI,ZO,VJ,I.len]
 sl:=λi s h=>by obtain⟨u,z,y⟩:=xG h;obtain⟨v,a,w⟩:=I.sl _ s z;refine⟨v,?_,?_⟩;unfold DI;rw[qJ (by simpa using u)];simp only[qm];exact YO l σ _ v a y;unfold Yb;rw[if_neg (by omega)];exact w
 dj:=λi j t s n z y b hb x=>by obtain⟨p,f,_⟩:=xG z;obtain⟨m,e,_⟩:=xG y;unfold Yb at hb x;rw[if_neg (by omega)]at hb x;exact I.dj (i - k) (j - k) t s (by omega) f e b hb x
theorem OX(b:Addr):¬ U (MN k l (lockA ρ)) S' b:=λ⟨i,t,h,_⟩=>by obtain⟨_,x,_⟩:=xG h;obtain⟨_,_,e⟩:=iB x;cases e
theorem Paired.get_of{α v:Type}{R:α->v->Prop}{xs:List α}{u:List v}(h:Paired R xs u):∀{i:Nat}{x:α},xs[i]?=some x->∃y,u.drop i=y::u.drop (i+1)/\R x y:=by
 induction h with
 |nil=>intro i x e;simp at e|@cons x y xs u h t a =>
  intro i z e;cases i with|zero=>simp at e;subst e;exact⟨y,by simp,h⟩|succ i=>obtain⟨w,f,b⟩:=a (i:=i) (by simpa using e);exact⟨w,by simpa using f,b⟩
structure Pur(F H A X:Hp):Prop where
 ff:Same F A
 hh:Same H X
 fn:∀b,F b=none->A b≠none->H b=none
theorem Pur.trans{u y:Hp}(a:Pur F H D G)(b:Pur D G u y):Pur F H u y:=⟨a.ff.trans b.ff,a.hh.trans b.hh,λx h z=>by by_cases q:D x=none;exact a.hh.free (b.fn x q z);exact a.fn x h q⟩
theorem Pur.ste(p:Pur F H D G):Ste F H S ρ D G S ρ:=⟨⟨p.ff,λb u h _=>p.hh b u h,λb h=>p.hh.free h,λb h z=>.inr (p.fn b h z),λb h=>.inl h,λ_ _ h _=>⟨h,rfl⟩⟩,λ_ t h=>⟨t,h⟩⟩
theorem Pur.rl(p:Pur F H D G)(f:Same D G)(I:Rl K F H S ρ σ):Rl K D G S ρ σ:=⟨f,I.len,λi s e=>by
 obtain⟨v,y,h⟩:=I.sl i s e;exact⟨v,y,h.mono p.ff λb hb=>by
  obtain⟨x,z⟩:=h.dom b hb;refine⟨?_,?_⟩;cases e:H b with|none=>exact absurd e x|some u=>exact p.hh b u e
  by_cases q:D b=none
  ·exact q
  exact absurd (p.fn b z q) x⟩,I.dj⟩
theorem Stp.pur(s:Stp F H S ρ D G S' g)(n:∀b,¬ U ρ S b):Pur F H D G:=⟨s.ff,λb u h=>s.hh b u h (n b),λb h z=>(s.fn b h z).elim (λq=>absurd q (n b)) id⟩
theorem Pur.trs(p:Pur F H D G){v:LV}{t:LT}(h:Trs K F H st v t Z):Trs K D G st v t Z:=h.mono p.ff λb hb=>by
  obtain⟨x,y⟩:=h.dom b hb;refine⟨?_,?_⟩;cases e:H b with|none=>exact absurd e x|some u=>exact p.hh b u e
  by_cases q:D b=none
  ·exact q
  exact absurd (p.fn b y q) x
theorem N6{ws:LN}{N:Nat}{c:kA->(Bool->kA->Prop)->Prop}{e:kA->TK->Prop}{tc:TT}{te:TE}{us:LN}
  (ic:∀{F H:Hp}{S:Ft}{ρ:kA}{σ:St}{Q:Bool->kA->Prop}{R:Bool->Hp->Prop},Rl K F H S ρ σ->c ρ Q->cJ K F H S ρ σ Q R->tc σ H R)
  (ie:∀{F H:Hp}{S:Ft}{ρ:kA}{σ:St}{Q:TK}{R:VK},Rl K F H S ρ σ->e ρ Q->vB K us F H S ρ σ Q R->te σ H R)
  {F0 H0:Hp}{S0:Ft}{P:kA}(s:Ste F0 H0 S0 P F H S ρ) (I:Rl K F H S ρ σ) {xs:List Item}{M:LT}{st:Hp->Prop}(pr:Paired (TZ K F H Y) xs M) (hyd:∀b,Y b->H b≠none/\F b=none) (hst:∀A X,Same F A->Same A X->(∀b,Y b->X b=H b)->st X) {Q:TK}{R:VK}
  (h:JD (bG B (MN N l (lockA ρ)) c e) M [] λM=>Q (.lst M) true ρ) (k:vB K ws F0 H0 S0 P σ Q R) :
  gY K xs st B tc te (DI N l σ) H R:=by
 refine O6 ?_;have len:=qK pr;have yk:∀{A X:Hp},Pur F H A X->∀b,Y b->X b=H b/\A b=none:=λ{A X} p b hb=>by
  obtain⟨d1,d2⟩:=hyd b hb;refine⟨?_,?_⟩;cases e:H b with|none=>exact absurd e d1|some u=>exact p.hh b u e
  by_cases q:A b=none
  ·exact q
  exact absurd (p.fn b d2 q) d1
 refine⟨λi m X=>∃A w W,Pur F H A X/\Same A X/\Trs K A X true m w W/\(∀b,W b->H b=none)/\JD (bG B (MN N l (lockA ρ)) c e) (M.drop i) w λM=>Q (.lst M) true ρ,
  ⟨F,[],λ_=>False,⟨.refl _,.refl _,λb h z=>absurd h z⟩,I.fh,.nil λ_ z=>z,λ_ z=>z.elim,by simpa using h⟩,?_,?_,?_⟩
 rintro i m X _ ⟨A,w,W,p,f,_,_,_⟩;exact hst A X p.ff f λb hb=>(yk p b hb).1;rintro i x m G hx ⟨D,w,W,p1,f1,J,hw,hc⟩;obtain⟨y,hd,ry⟩:=Paired.get_of pr hx;rw[hd]at hc;unfold JD at hc;unfold bG at hc;have I1:Rl K D G (Yb N S) (MN N l (lockA ρ)) (DI N l σ):=((p1.rl f1 I).lockA).ent N l;refine IM I1 (λb _=>OX b) (ry.mono p1.ff (yk p1)) hc λρ2 σ2 F2 H2 S2 O I2 hc=>?_;have p2:Pur D G F2 H2:=⟨O.ff,O.hh,O.fn⟩
 have nu2:∀b,¬ U ρ2 S2 b:=λb u=>OX b (O.U u);refine ic I2 hc λb F3 H3 S3 ρ3 s3 I3 q=>?_;have p3:Pur F2 H2 F3 H3:=s3.toStp.pur nu2;have nu3:∀b,¬ U ρ3 S3 b:=λb ⟨j,t,h1,_⟩=>by obtain⟨t0,h0⟩:=s3.ow j t h1;by_cases hj:j∈B.ix;exact O.inn j t0 hj h0;rw[(O.out j hj).1]at h0;obtain⟨_,h1,_⟩:=xG h0;obtain⟨_,_,e⟩:=iB h1;cases e
 have a:=p1.trans (p2.trans p3);cases b with
 |false=>exact⟨F3,w,W,a,I3.fh,p3.trs (p2.trs J),hw,q⟩|true =>
  refine ie I3 q λv F4 H4 S4 ρ4 z n Z s4 I4 r4 ⟨hk,hl,hc⟩=>?_;have p4:Pur F3 H3 F4 H4:=s4.toStp.pur nu3;have ra4:=p4.trs (p3.trs (p2.trs J));have rz:∃Z',Tr K F4 H4 true v z Z'/\∀b,Z' b->H3 b=none:=by
   cases n with
   |true=>exact⟨Z,r4.tr,λb hb=>(r4.fr rfl b hb).elim id λu=>absurd u (nu3 b)⟩|false =>
    cases z with
    |d x =>
     have tr:=r4.tr;cases tr with|d r n=>exact⟨λ_=>False,.d r λ_ z=>z,λ_ z=>z.elim⟩
    |_=>exact absurd hk (by simp[oH,T.isD])
  obtain⟨Z',rz,fz⟩:=rz;refine⟨by rw[J.length];exact hl,F4,_,λb=>W b∨Z' b,a.trans p4,I4.fh,ra4.append (Trs.one rz) λb hb hz=>?_,λb hb=>?_,hc⟩;have q1:=(J.dom b hb).1;exact q1 ((p2.trans p3).hh.free (fz b hz));rcases hb with hb|hb
  ·exact hw b hb
  exact a.hh.free (fz b hb)
 rintro m X ⟨A,w,W,p,f,J,hw,hc⟩;rw[len,QB4]at hc;unfold JD at hc;have I':=p.rl f I;refine⟨by rw[J.length];exact hc.1,λq hq=>?_⟩;refine vB.list (k.from s) (p.ste) I' hq J (λb hb=>.inl (hw b hb)) ⟨J.dom,λi sl hi b hb z=>?_⟩ hc.2;exact(I.dom hi z).1 (hw b hb)
end
end
section
variable{K:QE}{Γ:Ev}{Ψ:PEv}{E:XE}{p:XK}{F H l c:Hp}{S S1:Ft}{ρ y:kA}{σ:St}
theorem Tr.xy{v:V}{u t:T}{Z:oB}(h:Tr K F H false v u Z)(e:gE u=some t):Tr K F H false v t Z:=by
 unfold gE at e;split at e;rename_i ts ev;cases x:BF ts with
 |none=>rw[x]at e;cases e|some f =>
  rw[x]at e;injection e with e;subst e;cases h with
  |d r n =>
   cases r with|lst q r=>injection ev with ev;subst ev;rw[VA]at x;injection x with x;subst x;exact .lstF q r n|dct _ _ _=>exact(aH ev).elim|_=>cases ev
  |lst k w z b a=>injection ev with ev;subst ev;show Tr K F H false _ (.lst (f.map T.d)) Z;rw[<- BL x];exact .lst k w z b a|tup=>cases ev|dct=>cases ev|lstF k w z=>injection ev with ev;subst ev;rw[VA]at x;injection x with x;subst x;exact .lstF k w z
 split at e
 ·injection e with e;subst e;exact h
 cases e
theorem AV.pass{Y:oB}{md:List Md}{vs:LV}{xs:List (T×Bool)}{W:oB}(h:AV K F H md vs xs W Y)(e:Same F l)(k:∀b,W b->l b=H b)(G:∀b,Y b->F b=none->l b=none) :
  ∀{g ts:LT},UA md xs g=some ts->ArgsR K l H Y md vs ts/\LB md ts=g:=by
 induction h with
 |nil h =>
  intro g ts w;cases g with|nil=>simp only[UA,Qq]at w;subst w;exact⟨.nil,rfl⟩|cons _ _=>simp[UA]at w
 |@chg md v vs x xs W Y h t C =>
  intro g ts w;have f:md.headD .xx=.chg:=by generalize md.headD .xx=m at h;cases m<;>first|rfl|cases h
  unfold UA at w;rw[f]at w;cases g with
  |nil=>cases w|cons o g =>
   cases a:UA md.tail xs g with|none=>simp only[a,wT]at w;cases w|some B=>simp only[a,Q6,Qq]at w;subst w;obtain⟨s,j⟩:=C k G a;refine⟨.chg f s,?_⟩;unfold LB;rw[f];simp only[j]
 |@new md v vs x xs Z W J Y h r t n q C =>
  intro g ts w;have X:Tr K l H false v (.d x.er) (λ_=>False):=.d (r.kept e λb u hb I=>by rw[k b ((q b).mpr (.inl hb))];exact I) λ_ z=>z;have i:=@C (λb hb=>k b ((q b).mpr (.inr hb))) G;unfold UA at w;cases f:md.headD .xx with
  |chg=>rw[f]at h;cases h|xx =>
   simp only[f,rA]at w;cases a:UA md.tail xs g with|none=>simp only[a,wT]at w;cases w|some B=>simp only[a,Q6,Qq]at w;subst w;obtain⟨s,j⟩:=i a;exact⟨.rd (by rw[f];simp) X (λ_ z=>z.elim) s,by unfold LB;rw[f];exact j⟩
  |xy =>
   simp only[f,rA]at w;cases A:gE (.d x.er) with
   |none=>simp only[A]at w;cases w|some u =>
    simp only[A]at w;cases a:UA md.tail xs g with|none=>simp only[a,wT]at w;cases w|some B=>simp only[a,Q6,Qq]at w;subst w;obtain⟨s,j⟩:=i a;exact⟨.rd (by rw[f];simp) (X.xy A) (λ_ z=>z.elim) s,by unfold LB;rw[f];exact j⟩
  |ky =>
   simp only[f,rA]at w;cases a:UA md.tail xs g with|none=>simp only[a,wT]at w;cases w|some B=>simp only[a,Q6,Qq]at w;subst w;obtain⟨s,j⟩:=i a;exact⟨.rd (by rw[f];simp) X (λ_ z=>z.elim) s,by unfold LB;rw[f];exact j⟩
 |@tmp md v vs x xs Z W Y h r z t C =>
  intro g ts w;have X:Tr K l H false v x Z:=r.mono e λb hb=>⟨rfl,G b (z b hb) (r.dom b hb).2⟩
  have i:=@C k G;unfold UA at w;cases f:md.headD .xx with
  |chg=>rw[f]at h;cases h|xx =>
   simp only[f,rA]at w;cases x with
   |d x =>
    cases a:UA md.tail xs g with|none=>simp only[a,wT]at w;cases w|some B=>simp only[a,Q6,Qq]at w;subst w;obtain⟨s,j⟩:=i a;exact⟨.rd (by rw[f];simp) X z s,by unfold LB;rw[f];exact j⟩
   |_=>cases w
  |xy =>
   simp only[f,rA]at w;cases A:gE x with
   |none=>simp only[A]at w;cases w|some u =>
    simp only[A]at w;cases a:UA md.tail xs g with|none=>simp only[a,wT]at w;cases w|some B=>simp only[a,Q6,Qq]at w;subst w;obtain⟨s,j⟩:=i a;exact⟨.rd (by rw[f];simp) (X.xy A) z s,by unfold LB;rw[f];exact j⟩
  |ky =>
   simp only[f,rA]at w;cases a:UA md.tail xs g with|none=>simp only[a,wT]at w;cases w|some B=>simp only[a,Q6,Qq]at w;subst w;obtain⟨s,j⟩:=i a;exact⟨.rd (by rw[f];simp) X z s,by unfold LB;rw[f];exact j⟩
theorem oD:∀(J:LN) (ρ:kA) (i:Nat) s,(clear J ρ)[i]?=some (some s)->i∉J/\ρ[i]?=some (some s)
 |[],ρ,i,s,h=>⟨(by simp),h⟩|j::J,ρ,i,s,h=>by
  unfold clear at h;obtain⟨u,z⟩:=oD J _ i s h;rcases gA z with⟨_,e,_⟩| ⟨n,x⟩
  cases e;exact⟨λm=>(QM.mp m).elim (λe=>n e.symm) u,x⟩
theorem FO:∀(J:LN) (ρ:kA),(clear J ρ).length=ρ.length
 |[],_=>rfl|j::J,ρ=>by unfold clear;rw[FO J];simp
theorem Rl.drop(I:Rl K F H S ρ σ)(hl:y.length=ρ.length)(h:∀(i:Nat) s,y[i]?=some (some s)->ρ[i]?=some (some s)):Rl K F H S y σ :=
 ⟨I.fh,hl.trans I.len,λi s e=>I.sl i s (h i s e),λi j t s n z x=>I.dj i j t s n (h i _ z) (h j _ x)⟩
theorem LD:∀{J:LN}{ρ:kA}{x:LT},CA J ρ=some x->x.length=J.length/\∀(i:Nat) j,J[i]?=some j->∃t,x[i]?=some t/\ρ[j]?=some (some (.own t))
 |[],ρ,x,h=>by simp only[CA,Qq]at h;subst h;exact⟨rfl,λi j e=>by simp at e⟩|j::J,ρ,x,h=>by
  unfold CA at h;split at h;rename_i t e;cases z:CA J ρ with
  |none=>rw[z]at h;cases h|some f =>
   rw[z]at h;injection h with h;subst h;obtain⟨w,v⟩:=LD z;refine⟨by simp[w],λi k hk=>?_⟩;cases i with|zero=>simp at hk;subst hk;exact⟨t,rfl,e⟩|succ i=>obtain⟨u,b,a⟩:=v i k (by simpa using hk);exact⟨u,by simpa using b,a⟩
  cases h
theorem Rl.trs(I:Rl K F H S ρ σ):∀{J:LN}{w:LT}{vs:LV},J.Nodup->CA J ρ=some w->vs.map (λv=>some (some v))=J.map (λj=>σ[j]?)->Trs K F H true vs w (λb=>∃j∈J,S j b)
 |[],w,vs,_,h,hv=>by
  simp only[CA,Qq]at h;subst h;cases vs with|nil=>exact .nil λb ⟨j,m,_⟩=>by simp at m|cons _ _=>simp at hv
 |j::J,w,vs,nd,h,hv=>by
  unfold CA at h;split at h;rename_i t e;cases a:CA J ρ with
  |none=>rw[a]at h;cases h|some r =>
   rw[a]at h;injection h with h;subst h;cases vs with
   |nil=>simp at hv|cons v vs =>
    simp only[QV,WO]at hv;obtain⟨f,q,o⟩:=I.sl j _ e;rw[q]at hv;have:v=f:=by simpa using hv.1
    subst this;have x:=Qi.mp nd;refine .cons o (Rl.trs I x.2 a hv.2) (λb hb ⟨k,hk,z⟩=>?_) λb=>?_;obtain⟨i,n⟩:=Wi.mp hk;obtain⟨u,_,g⟩:=(LD a).2 i k n;exact I.dj j k t _ (λz=>x.1 (z▸hk)) e g b hb z;constructor
    ·rintro⟨k,hk,z⟩
     rcases QM.mp hk with e|e;subst e;exact .inl z;exact .inr ⟨k,e,z⟩
    rintro(z|⟨k,hk,z⟩)
    ·exact⟨j,QD,z⟩
    exact⟨k,QC _ hk,z⟩
  cases h
theorem Rl.setO(I:Rl K F H S ρ σ)(i:Nat){v:V}{t:T}{Z:oB}(hv:σ[i]?=some (some v))(r:Tr K F H true v t Z)(w:∀(j:Nat) s,j≠i->ρ[j]?=some (some s)->∀b,Z b->¬ S j b):Rl K F H (iH S i Z) (ρ.set i (some (.own t))) σ where
 fh:=I.fh
 len:=by simpa using I.len
 sl:=λj s h=>by
  rcases gA h with⟨rfl,e,hl⟩| ⟨g,h⟩
  cases e;exact⟨v,hv,by rw[RA];exact r⟩;rw[KA (qD g)];exact I.sl j s h
 dj:=λj k a s n u x b hb hk=>by
  rcases gA u with⟨e,_,_⟩| ⟨f,u⟩
  subst e;rw[RA]at hb;rcases gA x with⟨e,_,_⟩| ⟨z,x⟩
  exact n e;rw[KA (qD z)]at hk;exact w k s (qD z) x b hb hk;rw[KA (qD f)]at hb;rcases gA x with⟨e,_,_⟩| ⟨z,x⟩
  subst e;rw[RA]at hk;exact w j _ n u b hk hb;rw[KA (qD z)]at hk;exact I.dj j k a s n u x b hb hk
theorem TL:∀{J:LN}{w:LT}{vs:LV}{M:oB}{S1:Ft}{y x:kA},J.Nodup->Rl K F H S1 y σ->Trs K F H true vs w M->vs.map (λv=>some (some v))=J.map (λj=>σ[j]?)->Held F H S1 y M->uC J w y=some x ->
  ∃f,Rl K F H f x σ/\(∀i,i∉J->x[i]?=y[i]?/\f i=S1 i)/\∀i∈J,∀s,x[i]?=some (some s)->(∃t,s=.own t)/\∀b,f i b->M b
 |[],w,vs,M,S1,y,x,nd,I,r,hv,hm,h=>by
  cases w with|nil=>simp only[uC,Qq]at h;subst h;exact⟨S1,I,λ_ _=>⟨rfl,rfl⟩,λi u=>by simp at u⟩|cons _ _=>simp[uC]at h
 |j::J,w,vs,M,S1,y,x,nd,I,r,hv,hm,h=>by
  cases r with
  |nil _=>simp[uC]at h|@cons _ v t vs ts _ Z Q G C n q =>
   simp only[uC]at h;simp only[QV,WO]at hv;have a:=Qi.mp nd;have R:=I.setO j hv.1.symm G λk s _ hk b hb=>hm.nw k s hk b ((q b).mpr (.inl hb));have W:Held F H (iH S1 j Z) (y.set j (some (.own t))) Q:=⟨λb hb=>hm.dom b ((q b).mpr (.inr hb)),λi s u b hb z=>by
    rcases gA u with⟨rfl,_,_⟩| ⟨X,u⟩
    rw[RA]at z;exact n b z hb;rw[KA (qD X)]at z;exact hm.nw i s u b ((q b).mpr (.inr hb)) z⟩
   obtain⟨f,P,B,O⟩:=TL a.2 R C hv.2 W h;refine⟨f,P,λi u=>?_,λi u s Y=>?_⟩;have A:j≠i:=λe=>u (e▸QD);obtain⟨o,g⟩:=B i λm=>u (QC _ m);rw[ED A]at o;rw[KA (qD A)]at g;exact⟨o,g⟩;rcases QM.mp u with e|e
   ·subst e
    obtain⟨o,g⟩:=B i a.1;rw[o]at Y;rcases gA Y with⟨_,e,_⟩| ⟨X,_⟩
    injection e with e;refine⟨⟨t,e⟩,λb hb=>?_⟩;rw[g,RA]at hb;exact(q b).mpr (.inl hb);exact absurd rfl X
   obtain⟨N,L⟩:=O i e s Y;exact⟨N,λb hb=>(q b).mpr (.inr (L b hb))⟩
theorem Mb{f:Str}{as:PX}(g:GOk K Γ Ψ)(ia:PSnd K Γ Ψ as)(I:Rl K F H S ρ σ)(X:nF K F H S ρ E p){Q:TK}{R:VK}{ws:LN}(h:(pe Ψ (.call f as) E).e ρ Q)(k:vB K ws F H S ρ σ Q R):(wp K Γ (.call f as) p).e σ H R:=by
 obtain⟨os,ho,nd,h⟩:=h;generalize hJ:cA (Ψ.sp f).md as=J at ho nd h;have C:∀j∈J,∃t,ρ[j]?=some (some (.own t)):=λj A=>by obtain⟨i,hi⟩:=Wi.mp A;obtain⟨t,_,e⟩:=(LD ho).2 i j hi;exact⟨t,e⟩
 have I0:Rl K F H S (clear J ρ) σ:=I.drop (FO J ρ) λi s e=>(oD J ρ i s e).2;have P:∀b,U (clear J ρ) S b->U ρ S b:=λb ⟨i,t,h1,O⟩=>⟨i,t,(oD J ρ i _ h1).2,O⟩
 have X0:nF K F H S (clear J ρ) E p:=λx dx F2 H2 S2 L m ff r q=>X x dx F2 H2 (λ_ _=>False) [] ⟨m.ff,λb u e n=>m.hh b u e λz=>n (P b z),m.dm,λb e z=>(m.fn b e z).imp (P b) id,λb ⟨i,t,e,_⟩=>by simp at e,λj t e=>by simp at e⟩ ff r q;have hm:∀j∈cA (Ψ.sp f).md as,∃v,σ[j]?=some (some v):=λj A=>by obtain⟨t,e⟩:=C j (hJ▸A);obtain⟨v,h1,_⟩:=I.sl j _ e;exact⟨v,h1⟩
 show(wp K Γ as p).a σ H λvs c=>Γ.sp f vs c R p;refine ia.a I0 X0 hm h λvs l c S1 y xs W Y s1 I1 r1 mv q1=>?_;rw[hJ]at mv;obtain⟨ts,hp,q1⟩:=q1;have hw:=r1.held;have m:=s1.frz (λb hb=>(hw.dom b hb).2) r1.fr;have I2:=I1.frz hw;have yk:∀b,Y b->l b=none->UI l c W b=none:=λb hy hf=>by obtain⟨i,sl,_,O,h3⟩:=r1.tm b hy;rw[rC λz=>r1.nw i sl O b z h3];exact hf
 obtain⟨ar,mt⟩:=r1.av.pass (OG λb hb=>(hw.dom b hb).2) (λb hb=>XI hb) yk hp;generalize UI l c W=F2 at m I2 yk ar;have M0:=I.trs nd ho mv;have hM:Held F H S (clear J ρ) (λb=>∃j∈J,S j b):=⟨λb ⟨j,A,hb⟩=>let⟨t,e⟩:=C j A;I.dom e hb,λi s e b ⟨j,A,hb⟩ z=>by obtain⟨G,B⟩:=oD J ρ i s e;obtain⟨t,et⟩:=C j A;exact I.dj j i t s (λq=>G (q▸A)) et B b hb z⟩
 have N:=hM.step m.toStp I2;have M2:Trs K F2 c true (lB (Ψ.sp f).md vs) (LB (Ψ.sp f).md ts) (λb=>∃j∈J,S j b):=by
  rw[mt];refine M0.mono m.ff λb hb=>?_;refine⟨?_,(N.dom b hb).2⟩;cases e:H b with|none=>exact absurd e (hM.dom b hb).1|some u=>exact m.hh b u e (hM.nu b hb)
 refine g.sp f vs c R p ⟨F2,ts,_,Y,I2.fh,ar,M2,λb hy hb=>?_,?_⟩;obtain⟨i,sl,_,O,h3⟩:=r1.tm b hy;exact N.nw i sl O b hb h3
 ·have up:∀b,(∃j∈J,S j b)->U ρ S b:=λb ⟨j,A,hb⟩=>let⟨t,e⟩:=C j A;⟨j,t,e,hb⟩
  have lk:∀b,(∃j∈J,S j b)∨c b=none->U ρ S b∨H b=none:=λb hb=>hb.imp (up b) (m.dm b);refine(Ψ.sp f).mono ?_ ?_ q1
  rotate_left
  rintro x qx dx F' H' o xr;refine X x dx F' H' (λ_ _=>False) [] ⟨m.ff.trans o.ff,λb u e n=>o.hh b u (m.hh b u e λz=>n (P b z)) λz=>n (up b z),λb e=>m.dm b (o.dm b e),λb e z=>?_,λb ⟨i,t,e,_⟩=>by simp at e,λj t e=>by simp at e⟩ o.fh xr qx;by_cases q:F2 b=none;exact lk b (o.fn b q z);exact(m.fn b e q).imp (P b) id;rintro r os' ⟨L,hput,q⟩ v F' H' Z M' o tr trs dz hf;have I3:Rl K F' H' S1 y σ:=⟨o.fh,I2.len,λi s e=>by
   obtain⟨w,g1,g2⟩:=I2.sl i s e;refine⟨w,g1,g2.mono o.ff λb hb=>?_⟩;obtain⟨d1,d2⟩:=g2.dom b hb;have nM:¬ ∃j∈J,S j b:=λz=>N.nw i s e b z hb;refine⟨?_,?_⟩;cases e:c b with|none=>exact absurd e d1|some u=>exact o.hh b u e nM
   by_cases z:F' b=none
   ·exact z
   exact((o.fn b d2 z).elim nM d1).elim,I2.dj⟩
  have nw3:∀b,(∃j∈J,S j b)∨c b=none->∀(i:Nat) s,y[i]?=some (some s)->¬ S1 i b:=λb hb i s e z=>by rcases hb with hb|hb;exact N.nw i s e b hb z;exact(I2.dom e z).1 hb
  have hM':Held F' H' S1 y M':=⟨trs.dom,λi s e b hb=>nw3 b (hf b (.inr hb)) i s e⟩
  obtain⟨S2,I4,g2,g3⟩:=TL nd I3 trs mv hM' hput;have M:∀i s,L[i]?=some (some s)->(i∈J/\(∃t,s=.own t)/\∀b,S2 i b->M' b)∨(i∉J/\y[i]?=some (some s)/\S2 i=S1 i):=λi s e=>by by_cases hi:i∈J;exact .inl ⟨hi,g3 i hi s e⟩;obtain⟨G,B⟩:=g2 i hi;exact .inr ⟨hi,G▸e,B⟩
  have st:Ste F H S ρ F' H' S2 L:=⟨⟨m.ff.trans o.ff,λb u e n=>o.hh b u (m.hh b u e λz=>n (P b z)) λz=>n (up b z),λb e=>m.dm b (o.dm b e),λb e z=>by
    by_cases q:F2 b=none;exact lk b (o.fn b q z);exact(m.fn b e q).imp (P b) id,
   λb ⟨i,t,h1,O⟩=>by
    rcases M i _ h1 with⟨_,_,e⟩| ⟨_,G,B⟩
    exact lk b (hf b (.inr (e b O)));rw[B]at O;exact(m.uu b ⟨i,t,G,O⟩).imp (P b) id,
   λj t e hd=>by
    rcases M j _ e with⟨_,⟨t',z⟩,_⟩| ⟨_,G,B⟩
    cases z;obtain⟨b1,b2⟩:=m.bo j t G hd;exact⟨(oD J ρ j _ b1).2,B.trans b2⟩⟩,
   λj t e=>by
    rcases M j _ e with⟨A,_,_⟩| ⟨_,G,B⟩
    exact C j A;obtain⟨t0,e0⟩:=m.ow j t G;exact⟨t0,(oD J ρ j _ e0).2⟩⟩
  refine k v F' H' S2 L r true Z st I4 ⟨tr,λ_ b hb=>?_,λz=>(by cases z),λ_ i s e b hb z=>?_⟩ q;exact(lk b (hf b (.inl hb))).symm;rcases M i s e with⟨_,_,B⟩| ⟨_,G,B⟩
  ·exact dz b hb (B b z)
  rw[B]at z;exact nw3 b (hf b (.inl hb)) i s G z
end
section
variable{K:QE}{Γ:Ev}{Ψ:PEv}{E:XE}{O:XK}{F H F1 H1:Hp}{S S1:Ft}{ρ Q:kA}{σ:St}
section
variable{j i:Nat}{t s:T}{b:Bool}{G C:Hp}{B:Ft}{Y:kA}{W P Z:oB}{vs L:LV}{ts us:LT}{a:Addr}{M o:HO}{v A J:V}{x y:D}{ks:List D}{R:Hp->Prop}{N:T->Prop}
theorem gC(z:ρ[j]?=some (some (.own t))){s:Sl}(h:(ρ.set j (some (.ky t)))[i]?=some (some s)):(i=j/\s=.ky t)∨(i≠j/\ρ[i]?=some (some s)):=by
 rcases gA h with⟨rfl,e,_⟩| ⟨n,h⟩
 injection e with e;exact .inl ⟨rfl,e⟩;exact .inr ⟨qD n,h⟩
theorem Rl.lock1(I:Rl K F H S ρ σ)(h:ρ[j]?=some (some (.own t))):Rl K F H S (ρ.set j (some (.ky t))) σ where
 fh:=I.fh
 len:=by simpa using I.len
 sl:=λi s e=>by
  rcases gC h e with⟨rfl,rfl⟩| ⟨_,e⟩
  obtain⟨v,g,f⟩:=I.sl i _ h;exact⟨v,g,f.weak⟩;exact I.sl i s e
 dj:=λi k u s n p m=>by
  rcases gC h p with⟨_,z⟩| ⟨r,w⟩
  cases z;rcases gC h m with⟨q,_⟩| ⟨_,l⟩
  ·exact I.dj i k u _ n w (q▸h)
  exact I.dj i k u s n w l
theorem Rl.lock1U(I:Rl K F H S ρ σ)(w:ρ[j]?=some (some (.own t)))(b:Addr)(hb:S j b):¬ U (ρ.set j (some (.ky t))) S b:=λ⟨i,u,h,k⟩=>by
 rcases gC w h with⟨_,z⟩| ⟨n,h⟩
 cases z;exact I.dj i j u _ n h w b k hb
theorem lock1U(k:ρ[j]?=some (some (.own t))){b:Addr}(h:U (ρ.set j (some (.ky t))) S b):U ρ S b:=by
 obtain⟨i,u,w,e⟩:=h;rcases gC k w with⟨_,z⟩| ⟨n,w⟩
 cases z;exact⟨i,u,w,e⟩
theorem nF.lock1(X:nF K F H S ρ E O)(w:ρ[j]?=some (some (.own t))):nF K F H S (ρ.set j (some (.ky t))) E O:=λx k G C B Y h f r q =>
 X x k G C (λ_ _=>False) [] ⟨h.ff,λb u e n=>h.hh b u e λz=>n (lock1U w z),h.dm,λb e z=>(h.fn b e z).imp (lock1U w) id,λb ⟨i,t,e,_⟩=>by simp at e,λj t e=>by simp at e⟩ f r q
theorem ZS(I:Rl K F H S ρ σ)(h:ρ[j]?=some (some (.own t)))(s:Ste F H S (ρ.set j (some (.ky t))) G C B Y)(l:Rl K G C B Y σ){b:Addr}(hb:S j b) :
  ∀(i:Nat) w,i≠j->Y[i]?=some (some w)->¬ B i b:=λi w n e z=>by
 cases w with
 |own u=>rcases s.uu b ⟨i,u,e,z⟩ with q|q;exact I.lock1U h b hb q;exact(I.dom h hb).1 q
 |ky u =>
  cases f:u.isD with
  |true=>exact l.isD e f z|false =>
   obtain⟨k,g⟩:=s.bo i u e f;rw[g]at z;rcases gC h k with⟨q,_⟩| ⟨_,k⟩
   exact n q;exact I.dj j i t _ (qD n) h k b hb z
theorem lI{t':T}{v0:V}{m:Hp}{Z':oB}(I:Rl K F H S ρ σ)(w:ρ[j]?=some (some (.own t)))(hv:σ[j]?=some (some v0))(s:Ste F H S (ρ.set j (some (.ky t))) G C B Y)(l:Rl K G C B Y σ)
  (hH:∀b u,C b=some u->¬ S j b->m b=some u) (dm:∀b,m b=none->C b=none) (r:Tr K G m true v0 t' Z') (hz:∀b,Z' b->S j b∨W b∨C b=none) (hw:Held G C B Y W) (frW:∀b,W b->H b=none∨U (ρ.set j (some (.ky t))) S b) :
  Ste F H S ρ G m (iH B j Z') (Y.set j (some (.own t')))/\Rl K G m (iH B j Z') (Y.set j (some (.own t'))) σ/\∀b,S j b∨W b∨C b=none->∀(i:Nat) h,i≠j->Y[i]?=some (some h)->¬ B i b:=by
 have nw:∀b,S j b∨W b∨C b=none->∀(i:Nat) h,i≠j->Y[i]?=some (some h)->¬ B i b:=λb hb i h n e z=>by rcases hb with hb|hb|hb;exact ZS I w s l hb i h n e z;exact hw.nw i h e b hb z;exact(l.dom e z).1 hb
 have uj:∀b,S j b->U ρ S b:=λb hb=>⟨j,t,w,hb⟩
 have lk:∀b,S j b∨W b∨C b=none->U ρ S b∨H b=none:=λb hb=>by rcases hb with hb|hb|hb;exact .inl (uj b hb);exact(frW b hb).symm.imp (lock1U w) id;exact .inr (s.dm b hb)
 have fS:∀b,S j b->G b=none:=λb hb=>by
  by_cases q:G b=none;exact q;rcases s.fn b (I.dom w hb).2 q with z|z
  ·exact absurd z (I.lock1U w b hb)
  exact absurd z (I.dom w hb).1
 have fh:Same G m:=λb u e=>hH b u (l.fh b u e) λz=>by rw[fS b z]at e;cases e
 have I3:Rl K G m B (Y.set j none) σ:=⟨fh,by simpa using l.len,λi h e=>by
   rcases gA e with⟨_,z,_⟩| ⟨n,e⟩
   cases z;obtain⟨v,p,f⟩:=l.sl i h e;refine⟨v,p,f.mono (.refl _) λb hb=>⟨?_,(f.dom b hb).2⟩⟩;cases eb:C b with|none=>exact absurd eb (f.dom b hb).1|some u=>exact hH b u eb λz=>ZS I w s l z i h (qD n) e hb,
  λi k u h n g X=>by
   rcases gA g with⟨_,z,_⟩| ⟨_,g⟩
   cases z;rcases gA X with⟨_,z,_⟩| ⟨_,X⟩
   ·cases z
   exact l.dj i k u h n g X⟩
 have I4:=I3.setO j hv r λi h n e b hb=>by
  rcases gA e with⟨_,z,_⟩| ⟨_,e⟩
  cases z;exact nw b (hz b hb) i h n e
 have es:(Y.set j none).set j (some (.own t'))=Y.set j (some (.own t')):=by simp
 rw[es]at I4;refine⟨⟨⟨s.ff,λb u e n=>hH b u (s.hh b u e λz=>n (lock1U w z)) λz=>n (uj b z),λb e=>s.dm b (dm b e),λb e z=>(s.fn b e z).imp (lock1U w) id,λb ⟨i,u,p,f⟩=>?_,λi u e hd=>?_⟩,λi u e=>?_⟩,I4,nw⟩;rcases gA p with⟨rfl,_,_⟩| ⟨n,p⟩
 ·rw[RA]at f
  exact lk b (hz b f)
 rw[KA (qD n)]at f;exact(s.uu b ⟨i,u,p,f⟩).imp (lock1U w) id;rcases gA e with⟨rfl,z,_⟩| ⟨n,e⟩
 ·cases z
 obtain⟨g,X⟩:=s.bo i u e hd;rcases gC w g with⟨z,_⟩| ⟨_,g⟩
 exact absurd z.symm n;exact⟨g,by rw[KA (qD n)];exact X⟩;rcases gA e with⟨rfl,_,_⟩| ⟨n,e⟩
 ·exact⟨t,w⟩
 obtain⟨t0,e0⟩:=s.ow i u e;rcases gC w e0 with⟨_,z⟩| ⟨_,e0⟩
 cases z;exact⟨t0,e0⟩
theorem Trs.erase{st:Bool}{S:oB}{k:Nat}(h:Trs K F H st vs ts S)(e:ts[k]?=some t):∃v P1 u,vs[k]?=some v/\Tr K F H st v t P1/\Trs K F H st (vs.eraseIdx k) (ts.eraseIdx k) u/\(∀b,P1 b->¬ u b)/\∀b,P1 b∨u b->S b:=by
 revert k;refine Trs.ind (R:=λst vs ts S=>∀{k:Nat},ts[k]?=some t->∃v P1 u,vs[k]?=some v/\Tr K F H st v t P1/\Trs K F H st (vs.eraseIdx k) (ts.eraseIdx k) u/\(∀b,P1 b->¬ u b)/\∀b,P1 b∨u b->S b) (λn k e=>by cases e) (λ{_ _ _ _ _ _ r _} h t n q f k e=>?_) h;cases k with|zero=>cases e;exact⟨_,_,_,rfl,h,t,n,λb hb=>(q b).mpr hb⟩|succ k=>obtain⟨v,P1,u,p,m,l,g,w⟩:=f (k:=k) e;refine⟨v,P1,λb=>r b∨u b,p,m,.cons h l (λb hb z=>n b hb (w b (.inr z))) λb=>wY,λb hb z=>z.elim (λz=>n b z (w b (.inl hb))) (g b hb),λb hb=>(q b).mpr ?_⟩;rcases hb with hb|hb|hb;exact .inr (w b (.inl hb));exact .inl hb;exact .inr (w b (.inr hb))
theorem eI{α:Type}:∀{l:List α}{k:α},l.Nodup->¬ k∈l->(l++[k]).Nodup
 |[],k,_,_=>by simp|a::r,k,h,hk=>by obtain⟨u,z⟩:=Qi.mp h;show(a::(r++[k])).Nodup;refine Qi.mpr ⟨λm=>?_,eI z λm=>hk (QM.mpr (Or.inr m))⟩;rcases QT.mp m with q|q;exact u q;exact hk (QM.mpr (Or.inl (QI.mp q).symm))
theorem fL(h:F a=none)(r:Trs K F H true L us P)(n:¬ P a):Tr K F (BA H a (.lst L)) true (.ref a) (.lst us) λb=>b=a∨P b :=
 .lst (S':=P) ZA h (r.mono (.refl _) λb hb=>⟨vA λz=>n (z▸hb),(r.dom b hb).2⟩) n λb=>wY
theorem lD(w:Z a)(b:Addr)(u:HO)(e:H b=some u)(hb:¬ Z b):BA H a M b=some u:=by have h:b≠a:=λz=>hb (by rw[z];exact w);rw[vA h];exact e
theorem FB(b:Addr)(e:BA H a M b=none):H b=none:=by by_cases hb:b=a;rw[hb,ZA]at e;cases e;rw[vA hb]at e;exact e
theorem da{m:Mt}{N:T->T->Prop}{R:VK}(f:Same F H)(r:Tr K F H true v s Z)(rv:Trs K F H true vs ts W)(dj:∀b,Z b->¬ W b)(h:KJ m s ts N)
  (k:∀w r s' H' S1 Zr,(∀b u,H b=some u->¬ Z b->H' b=some u)->(∀b,H' b=none->H b=none)->Tr K F H' true v s' S1->Tr K F H' true w r Zr->(∀b,Zr b->¬ S1 b)->(∀b,S1 b∨Zr b->Z b∨W b∨H b=none)->N r s'->R w H'):Ja K m v vs H R:=by
 cases m with
 |append =>
  obtain⟨us0,t0,rfl,rfl,h⟩:=h;cases r with
  |@lst _ a xs _ _ S' h1 h2 p I g =>
   have l:Z a:=(g a).mpr (.inl rfl);cases rv with
   |@cons _ w t ws us _ W1 W2 X r2 n q =>
    cases r2 with
    |nil n2 =>
     have hW:∀b,W b↔W1 b:=λb=>by rw[q b];simp[n2 b]
     refine⟨a,xs,w,rfl,rfl,h1,by rw[p.length];exact h.1,k .non (.d .none) _ _ _ (λ_=>False) (lD l) FB (fL h2 (Trs.append p (Trs.one X) λb hb hw=>dj b ((g b).mpr (.inr hb)) ((hW b).mpr hw)) λz=>z.elim I λz=>dj a l ((hW a).mpr z)) (.d .non λ_ z=>z) (λ_ z=>z.elim) (λb hb=>?_) h.2⟩;rcases hb with(hb|hb|hb)|hb;exact .inl (hb▸l);exact .inl ((g b).mpr (.inr hb));exact .inr (.inl ((hW b).mpr hb));exact hb.elim
 |extend =>
  obtain⟨us0,vs0,rfl,rfl,h⟩:=h;cases r with
  |@lst _ a xs _ _ S' h1 h2 p I g =>
   have l:Z a:=(g a).mpr (.inl rfl);cases rv with
   |@cons _ w t ws us _ W1 W2 X r2 n q =>
    cases r2 with
    |nil n2 =>
     have hW:∀b,W b↔W1 b:=λb=>by rw[q b];simp[n2 b]
     cases X with|@lst _ c zs _ _ B g1 g2 g3 g4 g5=>have dw:∀b,B b->W b:=λb hb=>(hW b).mpr ((g5 b).mpr (.inr hb));refine⟨a,c,xs,zs,rfl,rfl,h1,g1,by rw[p.length,g3.length];exact h.1,k .non (.d .none) _ _ _ (λ_=>False) (lD l) FB (fL h2 (Trs.append p g3 λb hb hw=>dj b ((g b).mpr (.inr hb)) (dw b hw)) λz=>z.elim I λz=>dj a l (dw a z)) (.d .non λ_ z=>z) (λ_ z=>z.elim) (λb hb=>?_) h.2⟩;rcases hb with(hb|hb|hb)|hb;exact .inl (hb▸l);exact .inl ((g b).mpr (.inr hb));exact .inr (.inl (dw b hb));exact hb.elim
 |pop =>
  obtain⟨us0,i,j,t0,rfl,hu,hi,ht,q⟩:=h;cases r with
  |@lst _ a xs _ _ S' h1 h2 p I g =>
   have l:Z a:=(g a).mpr (.inl rfl);obtain⟨w,P1,P2,g1,g2,g3,g4,g5⟩:=p.erase ht;have na:¬ P1 a:=λz=>I (g5 a (.inl z));have nb:¬ P2 a:=λz=>I (g5 a (.inr z));have hv:vs=[.int i]∨vs=[]/\i=-1:=by
    rcases hu with rfl|⟨rfl,e⟩
    cases rv with
    |cons X r2 n q2 =>
     cases r2;cases X with|d X n1=>cases X;exact .inl rfl
    cases rv;exact .inr ⟨rfl,e⟩
   refine⟨a,i,xs,j,w,rfl,hv,h1,by rw[p.length];exact hi,g1,k w t0 _ _ _ P1 (lD l) FB (fL h2 g3 nb) (g2.mono (.refl _) λb hb=>⟨vA λz=>na (z▸hb),(g2.dom b hb).2⟩) (λb hb z=>?_) (λb hb=>?_) q⟩;rcases z with z|z
   ·exact na (z▸hb)
   exact g4 b hb z;rcases hb with(hb|hb)|hb
   ·exact .inl (hb▸l)
   exact .inl ((g b).mpr (.inr (g5 b (.inr hb))));exact .inl ((g b).mpr (.inr (g5 b (.inl hb))))
 |_=>exact h.elim
theorem Trs.setD(w:Rep K F A x){S:oB}(n:Nat)(h:Trs K F H true vs ts S):∃P,Trs K F H true (vs.set n A) (ts.set n (.d x)) P/\∀b,P b->S b:=by
 revert n;refine Trs.ind (R:=λst vs ts S=>∀n:Nat,∃P,Trs K F H st (vs.set n A) (ts.set n (.d x)) P/\∀b,P b->S b) (λ{_ S} z n=>⟨S,.nil z,λ_ h=>h⟩) (λ{_ _ _ _ _ _ S1 B} h t m q k n=>?_) h;cases n with|zero=>exact⟨B,.cons (S1:=λ_=>False) (.d w λ_ z=>z) t (λ_ z=>z.elim) λb=>by simp,λb hb=>(q b).mpr (.inr hb)⟩|succ n=>obtain⟨P,e,u⟩:=k n;exact⟨λb=>S1 b∨P b,.cons h e (λb hb z=>m b hb (u b z)) λb=>wY,λb hb=>(q b).mpr (hb.imp id (u b))⟩
theorem Trs.part{S:oB}(h:Trs K F H true vs ts S)(e:ts[i]?=some t):∃v S1,vs[i]?=some v/\Tr K F H true v t S1/\(∀b,S1 b->S b) /\
  ∀(w:Hp) t' u,(∀b,S b->¬ S1 b->w b=H b)->Tr K F w true v t' u->(∀b,u b->S1 b)->∃P,Trs K F w true vs (ts.set i t') P/\∀b,P b->S b:=by
 revert i;refine Trs.ind (R:=λst vs ts S=>∀{i:Nat},ts[i]?=some t->∃v S1,vs[i]?=some v/\Tr K F H st v t S1/\(∀b,S1 b->S b)/\∀(w:Hp) t' u,(∀b,S b->¬ S1 b->w b=H b)->Tr K F w st v t' u->(∀b,u b->S1 b)->∃P,Trs K F w st vs (ts.set i t') P/\∀b,P b->S b) (λn i e=>by cases e) (λ{_ _ _ _ _ _ m P2} h t n q p i e=>?_) h;cases i with|zero=>cases e;exact⟨_,m,rfl,h,λb hb=>(q b).mpr (.inl hb),λw t' u k r f=>⟨λb=>u b∨P2 b,.cons r (t.mono (.refl _) λb hb=>⟨k b ((q b).mpr (.inr hb)) λz=>n b z hb,(t.dom b hb).2⟩) (λb hb z=>n b (f b hb) z) λb=>wY,λb hb=>(q b).mpr (hb.imp (f b) id)⟩⟩|succ i=>obtain⟨v,S1,h1,h2,g,I⟩:=p (i:=i) e;refine⟨v,S1,h1,h2,λb hb=>(q b).mpr (.inr (g b hb)),λw t' u k r f=>?_⟩;obtain⟨P,g1,l⟩:=I w t' u (λb hb X=>k b ((q b).mpr (.inr hb)) X) r f;exact⟨λb=>m b∨P b,.cons (h.mono (.refl _) λb hb=>⟨k b ((q b).mpr (.inl hb)) λz=>n b hb (g b z),(h.dom b hb).2⟩) g1 (λb hb z=>n b hb (l b z)) λb=>wY,λb hb=>(q b).mpr (hb.imp id (l b))⟩
noncomputable def Lp(ks:List D)(k:D):List D:=match dA ks k with
 |some _=>ks|none=>ks++[k]
noncomputable def Bp{α:Type}(ks:List D)(vs:List α)(k:D)(x:α):List α:=match dA ks k with
 |some n=>vs.set n x|none=>vs++[x]
theorem CP{α h:Type}[DecidableEq α](k:α)(key:h->α)(f:h->h)(hf:∀p,key (f p)=key p):∀(l:List h) (n:Nat),(l.map key).Nodup->(l.map key)[n]?=some k->(∀(g:h->V) (x:V),(∀p,key p=k->g (f p)=x)->(l.map λp=>if key p=k then f p else p).map g=(l.map g).set n x)
 |[],n,_,e=>by simp at e|p::r,0,nd,e=>by
  intro g x w;have e:key p=k:=by simpa using e
  rw[QV]at nd;obtain⟨u,m⟩:=Qi.mp nd;have e2:(r.map λp=>if key p=k then f p else p)=r:=by rw[show r=r.map id from(QCE r).symm,Qc];refine wF λq I=>?_;have:key q≠k:=λz=>u (QS.mpr ⟨q,by simpa using I,z.trans e.symm⟩);simp[this]
  rw[QV,e2,QV,QV,if_pos e,w p e];rfl
 |p::r,n+1,nd,e=>by
  intro g x w;rw[QV]at nd;obtain⟨u,m⟩:=Qi.mp nd;have e:(r.map key)[n]?=some k:=by simpa using e
  have X:¬ key p=k:=λz=>u (by rw[z];exact qT e);rw[QV,QV,QV,if_neg X,CP k key f hf r n m e g x w];rfl
theorem put_keys{α h z:Type}[DecidableEq α](k:α)(key:h->α)(f:h->h)(g:h->z)(u:∀p,g (f p)=g p)(l:List h):(l.map λp=>if key p=k then f p else p).map g=l.map g:=by rw[Qc];refine wF λp _=>?_;show g (if key p=k then f p else p)=g p;split;exact u p;rfl
theorem bK.put{k:D}(f:Same F H)(ha:H a=some o)(dk:bK K F b o ks vs)(ry:Rep K F J k)(hk:FD b k)(hl:ks.length<sizeLine)
  (kk:∀o',bK K F b o' (Lp ks k) (Bp ks vs k A)->R (BA H a o')):GR K (.ref a) J A H R:=by
 cases b with
 |true =>
  obtain⟨ep,u,rfl,rfl,rfl,h4,X⟩:=dk;cases sQ hk ry with
  |intro q h =>
   obtain⟨p,rfl,rfl,hq⟩:=h;refine⟨ep,u,q,ha,λp hp=>f.key (h4 p hp),f.key hq,by simpa using hl,λI=>kk _ ?_⟩;have w:=XG q u;unfold SL Lp Bp;cases e:dA (u.map λp=>tD p.1) (tD q) with
   |none =>
    rw[e]at w;have w:EG u q=none:=w;rw[w];refine⟨I,u++[(q,p,A)],rfl,by simp,by simp,λx l=>?_,?_⟩;rcases QT.mp l with l|l
    ·exact h4 x l
    rw[QI.mp l];exact hq;rw[QJ];refine eI X λm=>FA.mp e ?_;obtain⟨x,l,ex⟩:=QS.mp m;exact QS.mpr ⟨x,l,by rw[ex]⟩
   |some n =>
    rw[e]at w;have g:=PC e;have r:(u.map (·.1))[n]?=some q:=by
     rw[Qe]at g ⊢;cases en:u[n]? with|none=>rw[en]at g;cases g|some x=>rw[en]at g;rw[Q6,Qq]at g ⊢;exact YU g
    have hs:(EG u q).isSome=true:=by
     rw[w];have:n<u.length:=by have:=(Qh.mp r).1;simpa using this
     simp[this]
    rw[if_pos hs];refine⟨I,_,rfl,(put_keys q (·.1) (λp=>(p.1,p.2.1,A)) (λp=>tD p.1) (λ_=>rfl) u).symm,(CP q (·.1) (λp=>(p.1,p.2.1,A)) (λ_=>rfl) u n X r (·.2.2) A λ_ _=>rfl).symm,λx l=>?_,?_⟩;obtain⟨y,hy,ey⟩:=QS.mp l;have hy:=h4 y hy;by_cases z:y.1=q;rw[if_pos z]at ey;subst ey;exact hy;rw[if_neg z]at ey;subst ey;exact hy;have:=put_keys q (·.1) (λp:KE=>(p.1,p.2.1,A)) (·.1) (λ_=>rfl) u;rw[this];exact X
 |false =>
  obtain⟨z,rfl⟩:=hk;cases ry;rcases dk with⟨u,hne,rfl,rfl,rfl,X⟩| ⟨ep,rfl,rfl,rfl⟩
  rotate_left
  exact .inr ⟨ep,ha,kk _ (.inl ⟨[(.inr z,A)],by simp,rfl,rfl,rfl,by simp⟩)⟩;refine .inl ⟨u,ha,by simpa using hl,kk _ (.inl ?_)⟩;have w:=mJ (.inr z) u;have ez:kD (.inr z)=.str z:=rfl;rw[ez]at w;unfold CU Lp Bp;rw[sR];cases e:dA (u.map λp=>kD p.1) (.str z) with
  |none=>rw[e]at w;have w:KL u (.inr z)=none:=w;rw[w];refine⟨u++[(.inr z,A)],by simp,rfl,by simp[ez],by simp,?_⟩;rw[QJ];refine eI X λm=>FA.mp e ?_;obtain⟨x,l,ex⟩:=QS.mp m;exact QS.mpr ⟨x,l,by rw[ex];rfl⟩|some n =>
   rw[e]at w;have g:=PC e;have r:(u.map (·.1))[n]?=some (.inr z):=by
    rw[Qe]at g ⊢;cases en:u[n]? with|none=>rw[en]at g;cases g|some x=>rw[en]at g;rw[Q6,Qq]at g ⊢;exact R5 g
   have hs:(KL u (.inr z)).isSome=true:=by
    rw[w];have:n<u.length:=by have:=(Qh.mp r).1;simpa using this
    simp[this]
   rw[if_pos hs];refine⟨_,by simpa using hne,rfl,(put_keys (.inr z) (·.1) (λp=>(p.1,A)) (λp=>kD p.1) (λ_=>rfl) u).symm,(CP (.inr z) (·.1) (λp=>(p.1,A)) (λ_=>rfl) u n X r (·.2) A λ_ _=>rfl).symm,?_⟩;have:=put_keys (.inr z) (·.1) (λp:Key×V=>(p.1,A)) (·.1) (λ_=>rfl) u;rw[this];exact X
theorem MQ(h:F a=none)(dk:bK K F b o ks L)(r:Trs K F H true L us P)(n:¬ P a):Tr K F (BA H a o) true (.ref a) (.dct b ks us) λb=>b=a∨P b :=
 .dct (S':=P) ZA dk h (r.mono (.refl _) λb hb=>⟨vA λz=>n (z▸hb),(r.dom b hb).2⟩) n λb=>wY
theorem E1(f:Same F H)(r:Tr K F H true v s Z)(ry:Rep K F J y)(rx:Rep K F A x)(h:Bl s y x N)
  (k:∀s' H' S1,(∀b u,H b=some u->¬ Z b->H' b=some u)->(∀b,H' b=none->H b=none)->Tr K F H' true v s' S1->(∀b,S1 b->Z b)->N s'->R H'):GR K v J A H R:=by
 cases s with
 |lst ts =>
  cases y with
  |int i =>
   obtain⟨n,hn,q⟩:=h;cases ry;cases r with|@lst _ a xs _ _ S' h1 h2 m I l=>have g:Z a:=(l a).mpr (.inl rfl);obtain⟨P,X,p⟩:=m.setD rx n;refine⟨xs,n,h1,by rw[m.length];exact hn,k _ _ _ (lD g) FB (fL h2 X λz=>I (p a z)) (λb hb=>?_) q⟩;rcases hb with hb|hb;exact hb▸g;exact(l b).mpr (.inr (p b hb))
  |_=>exact h.elim
 |dct b ks ts =>
  obtain⟨hk,hl,q⟩:=h;cases r with
  |@dct _ _ a o _ vs _ _ S' h1 dk h2 m I l =>
   have g:Z a:=(l a).mpr (.inl rfl);refine dk.put f h1 ry hk hl λo' w=>?_;unfold Lp Bp at w;unfold ZH at q;cases e:dA ks y with
   |some n=>rw[e]at w q;obtain⟨P,X,p⟩:=m.setD rx n;refine k _ _ _ (lD g) FB (MQ h2 w X λz=>I (p a z)) (λb hb=>?_) q;rcases hb with hb|hb;exact hb▸g;exact(l b).mpr (.inr (p b hb))
   |none=>rw[e]at w q;have X:=Trs.append m (Trs.one (Tr.d (S:=λ_=>False) rx λ_ z=>z)) λ_ _ z=>z;refine k _ _ _ (lD g) FB (MQ h2 w X λz=>z.elim I id) (λb hb=>?_) q;rcases hb with hb|hb|hb;exact hb▸g;exact(l b).mpr (.inr hb);exact hb.elim
 |_=>exact h.elim
theorem bK.vs_inj{m:Hp}{f:List D}{u:LV}(h:bK K F b o ks vs)(h':bK K m b o f u):vs=u:=by
 cases b with|true=>obtain⟨l,k,e,_,rfl,_⟩:=h;obtain⟨g,w,z,_,rfl,_⟩:=h';rw[e]at z;cases z;rfl|false=>rcases h with⟨k,_,e,_,rfl,_⟩| ⟨l,e,_,rfl⟩<;>rcases h' with⟨w,_,z,_,rfl,_⟩| ⟨g,z,_,rfl⟩<;>rw[e]at z<;>cases z<;>rfl
theorem Y8{F0:Hp}{n:Nat}{w:V}(f:Same F H)(r:Tr K F H true (.ref a) (.dct b ks ts) Z)(l:H a=some o)(q:bK K F0 b o ks vs)(hw:vs[n]?=some w)(ht:ts[n]?=some s)
  (ry:Rep K F J y) (rx:Rep K F A x) (h:Bl s y x N)
  (k:∀s' g S1,(∀b u,H b=some u->¬ Z b->g b=some u)->(∀b,g b=none->H b=none)->Tr K F g true (.ref a) (.dct b ks (ts.set n s')) S1->(∀b,S1 b->Z b)->N s'->R g):GR K w J A H R:=by
 cases r with
 |@dct _ _ a o' _ vs' _ _ S' h1 dk h2 h3 h4 p =>
  rw[l]at h1;cases h1;cases q.vs_inj dk;have ha:Z a:=(p a).mpr (.inl rfl);obtain⟨w',S1,g1,g2,g3,g4⟩:=h3.part ht;rw[hw]at g1;cases g1;refine E1 f g2 ry rx h λs' g X hh dm rs sub q2=>?_;have keep:∀b,¬ S1 b->H b≠none->g b=H b:=λb hb m=>by
   cases e:H b with|none=>exact absurd e m|some u=>exact hh b u e hb
  have na:¬ S1 a:=λz=>h4 (g3 a z);obtain⟨P,p1,I⟩:=g4 g s' X (λb hb m=>keep b m (h3.dom b hb).1) rs sub;refine k _ g (λb=>b=a∨P b) (λb u e hb=>hh b u e λz=>hb ((p b).mpr (.inr (g3 b z)))) dm (.dct (S':=P) ((keep a na (by rw[l];simp)).trans l) dk h2 p1 (λz=>h4 (I a z)) λb=>wY) (λb hb=>?_) q2;rcases hb with hb|hb;exact hb▸ha;exact(p b).mpr (.inr (I b hb))
theorem cg{p:Addr}(f:Same F H)(X:H p=none)(r:Tr K F H true v t Z)(ry:Rep K F J y)(h:ug y t N)
  (k:∀s' l S1,(∀b u,H b=some u->¬ Z b->l b=some u)->(∀b,l b=none->H b=none)->Tr K F l true v s' S1->(∀b,S1 b->Z b∨b=p)->N s'->R l):vL K v [J,.ref p] (BA H p (.dT 0 [])) λ_ l=>R l:=by
 obtain⟨ks,ts,rfl,hk,hl,h⟩:=h;cases r with
 |@dct _ _ a o _ vs _ _ S' h1 dk h2 h3 h4 h5 =>
  have ha:Z a:=(h5 a).mpr (.inl rfl);obtain⟨ep,w,rfl,rfl,rfl,d4,d5⟩:=dk;have ap:a≠p:=JA h1 X;have fp:F p=none:=f.free X;have sm:Same H (BA H p (.dT 0 [])):=OB X;cases sQ hk ry with
  |intro q hh =>
   obtain⟨c,rfl,rfl,hq⟩:=hh;have vf:=XG q w;refine⟨a,c,.ref p,ep,w,q,rfl,rfl,(vA ap).trans h1,λx g=>(f.trans sm).key (d4 x g),(f.trans sm).key hq,by simpa using hl,λu eu=>?_,λen I=>?_⟩;rcases h with⟨n,e,q⟩| ⟨e,q⟩
   ·have r0:Tr K F H true (.ref a) (.dct true (w.map λp=>tD p.1) ts) Z:=.dct h1 ⟨ep,w,rfl,rfl,rfl,d4,d5⟩ h2 h3 h4 h5
    refine k _ _ Z (λb u e _=>sm b u e) (λb e=>FB b e) (r0.mono (.refl _) λb hb=>⟨vA λz=>(r0.dom b hb).1 (by rw[z];exact X),(r0.dom b hb).2⟩) (λb hb=>.inl hb) q
   rw[e]at vf;rw[vf]at eu;cases eu;rcases h with⟨n,e,q⟩| ⟨e,q2⟩
   ·have hn:=PC e
    rw[e]at vf;have:n<w.length:=by have:=(Qh.mp hn).1;simpa using this
    rw[vf]at en;have en:(w.map (·.2.2))[n]?=none:=en;rw[List.getElem?_eq_none_iff,QA]at en;omega
   have ep2:SL w q c (.ref p)=w++[(q,c,.ref p)]:=by unfold SL;rw[en];rfl
   rw[ep2];have np:¬ S' p:=λz=>(h3.dom p z).1 X;have g0:Tr K F (BA H p (.dT 0 [])) true (.ref p) (.dct true [] []) λb=>b=p :=
    .dct (S':=λ_=>False) (vs:=[]) ZA ⟨0,[],rfl,rfl,rfl,λ_ z=>(nomatch z),Qs⟩ fp (.nil λ_ z=>z) (λz=>z) λb=>by simp
   have g3:Trs K F (BA H p (.dT 0 [])) true (w.map (·.2.2)) ts S':=h3.mono (.refl _) λb hb=>⟨vA λz=>np (z▸hb),(h3.dom b hb).2⟩
   have g1:=Trs.append g3 (Trs.one g0) λb hb z=>np (z▸hb);have dk':bK K F true (.dT I (w++[(q,c,.ref p)])) ((w.map λp=>tD p.1)++[tD q]) (w.map (·.2.2)++[.ref p]):=by
    refine⟨I,_,rfl,by simp,by simp,λx g=>?_,?_⟩;rcases QT.mp g with g|g
    ·exact d4 x g
    rw[QI.mp g];exact hq;rw[QJ];refine eI d5 λm=>FA.mp e ?_;obtain⟨x,g,ex⟩:=QS.mp m;exact QS.mpr ⟨x,g,by rw[ex]⟩
   refine k _ _ _ (λb u e hb=>?_) (λb e=>FB b (FB b e)) (MQ h2 dk' g1 λz=>z.elim h4 ap) (λb hb=>?_) q2;rw[vA λz=>hb (by rw[z];exact ha)];exact sm b u e;rcases hb with hb|hb|hb
   ·exact .inl (hb▸ha)
   exact .inl ((h5 b).mpr (.inr hb));exact .inr hb
end
end
section
variable{K:QE}{Γ:Ev}{Ψ:PEv}
section
variable{p:PX}{F H:Hp}{S:Ft}{ρ:kA}{Z:oB}
noncomputable abbrev RZ(K:QE)(Γ:Ev)(Ψ:PEv)(p:PX):Prop:=∀{E:XE}{x:XK}{F H:Hp}{S:Ft}{ρ:kA}{h:St}{Q:TK}{R:VK},Rl K F H S ρ h->nF K F H S ρ E x->(pe Ψ p E).e ρ Q->vB K (AG p) F H S ρ h Q R->(wp K Γ p x).e h H R
theorem eU(f:RZ K Γ Ψ p){E:XE}{w:XK}{σ:St}{Q:Bool->kA->Prop}{R:Bool->Hp->Prop}(I:Rl K F H S ρ σ)(X:nF K F H S ρ E w)(h:(pe Ψ p E).e ρ λt _ y=>IH t.er λb=>Q b y)(k:cJ K F H S ρ σ Q R) :
  (wp K Γ p w).e σ H λx i=>IG K x i R :=
 f I X h λv l j g z t n Z s u r q=>KW (r.tr.rep u.fh) q λc a=>k c l j g z s u a
theorem PSnd.of_e(w:∀E ρ Q,(pe Ψ p E).t ρ Q=(pe Ψ p E).e ρ λt _ y=>IH t.er λb=>Q b y)(z:∀v σ H R,(wp K Γ p v).t σ H R=(wp K Γ p v).e σ H λx g=>IG K x g R)(f:∀E,(pe Ψ p E).a=HE.a)(u:RZ K Γ Ψ p):PSnd K Γ Ψ p where
 e:=u
 t:=λI X h k=>by rw[w]at h;rw[z];exact eU u I X h k
 a:=λI X _ h k=>by rw[f]at h;exact h.elim
theorem PSnd.of_0(x:∀E,(pe Ψ p E).t=HE.t)(z:∀E,(pe Ψ p E).a=HE.a)(y:RZ K Γ Ψ p):PSnd K Γ Ψ p where
 e:=y
 t:=λI X h k=>by rw[x]at h;exact h.elim
 a:=λI X _ h k=>by rw[z]at h;exact h.elim
theorem PSnd.of_t(l:∀E ρ Q,(pe Ψ p E).e ρ Q=(pe Ψ p E).t ρ λb u=>Q (.d (.bool b)) false u)(v:∀z σ H R,(wp K Γ p z).t σ H R=(wp K Γ p z).e σ H λx n=>t7 x n R)(m:∀E,(pe Ψ p E).a=HE.a)
  (f:∀{E:XE}{z:XK}{F H:Hp}{S:Ft}{ρ:kA}{σ:St}{Q:Bool->kA->Prop}{R:VK},Rl K F H S ρ σ->nF K F H S ρ E z->(pe Ψ p E).t ρ Q->cJ K F H S ρ σ Q (λb=>R (.bl b))->(wp K Γ p z).e σ H R):PSnd K Γ Ψ p where
 e:=λI X h k=>by rw[l]at h;exact f I X h λb j i g y s w q=>vB.d k s w (.bl b) q
 t:=λI X h k=>by rw[v];exact f I X h λb j i g y s w q=>k b j i g y s w q
 a:=λI X _ h k=>by rw[m]at h;exact h.elim
theorem uc(i:Nat):RZ K Γ Ψ (.xz i):=by
 intro E a F H S ρ y Q R I X h k;have x:Fp ρ[i]? λt=>Q t false ρ:=h;show(match y[i]? with|some (some v)=>R v H|_=>False);have key:∀s,ρ[i]?=some (some s)->Q s.t false ρ->(match y[i]? with|some (some v)=>R v H|_=>False):=λs e q=>by obtain⟨v,w,u⟩:=I.sl i _ e;rw[w];exact k v F H S ρ s.t false (S i) .refl I ⟨u.weak,λz=>(by cases z),λ_ b hb=>⟨i,s,QI.mpr rfl,e,hb⟩,λz=>(by cases z)⟩ q
 unfold Fp at x;split at x;rename_i e;exact key _ e x;rename_i e;exact key _ e x;exact x.elim;exact x.elim
theorem Yh{m:Mt}{v:V}{s:T}(h:isMut m=true)(x:iI m s=true)(r:Tr K F H true v s Z):EZ K m.ty v H:=by
 unfold iI at x;split at x;cases r with
 |lst y _ _ _ _ =>
  refine .inl ⟨?_,_,EC.of y⟩;cases m with|append=>rfl|pop=>rfl|extend=>rfl|_=>cases x
 cases x
theorem gr{m:Mt}{o g:PX}(io:PSnd K Γ Ψ o)(ia:PSnd K Γ Ψ g):RZ K Γ Ψ (.mt m o g):=by
 intro E EK F H S ρ L Q R I X h k;show(wp K Γ o EK).e L H λx J=>EZ K m.ty x J/\(wp K Γ g EK).a L J λA l=>Ja K m x A l R;cases hm:isMut m with
 |false =>
  have h:(pe Ψ o E).e ρ λx n M=>aa m (rA x n).vw=true/\sq (rA x n) M ((pe Ψ g E).a []) λf y=>Jr m (rA x n).vw (jC f) λz k=>Q z k y:=by have C:(if isMut m=true then _ else _):=h;rw[hm,if_neg (by simp)]at C;exact C
  refine Ak (P1:=λx n=>aa m (rA x n).vw=true) (R1:=λv J=>EZ K m.ty v J) (RR:=λv A l=>Ja K m v A l R) io ia I X h (λv F' H' x n Za r p=>Im r p) λv A F' H' S' ρ' x n f Za Y s I' X' r _ tn q=>?_;rw[iL _ rfl]at q;exact Vh s I' r tn q k
 |true =>
  have h:Yc (E2 o) λj=>uD ρ[j]? λt=>iI m t=true/\(pe Ψ g E).a [] (ρ.set j (some (.ky t))) λf y=>sE f=true/\y[j]?=some (some (.ky t))/\KJ m t (VF f) λr s'=>Q r true (y.set j (some (.own s'))):=by have C:(if isMut m=true then _ else _):=h;rw[hm,if_pos rfl]at C;exact C
  cases o with
  |xz j =>
   have h:uD ρ[j]? _:=h;unfold uD at h;split at h;rename_i t u;obtain⟨ht,q1⟩:=h;obtain⟨v0,hv,B⟩:=I.sl j _ u;have IL:=I.lock1 u;have n0:=I.lock1U u;have B:Tr K F H true v0 t (S j):=B;have XL:=X.lock1 u;show(match L[j]? with|some (some v)=>_|_=>False);rw[hv];refine⟨Yh hm ht B,?_⟩;refine ia.a (md:=[]) IL XL (λj u=>by cases g<;>cases u) q1 λA F2 l S2 y f W Y N I2 G _ P=>?_;obtain⟨he,hj2,P⟩:=P;have r2:Tr K F2 l true v0 t (S j):=N.toStp.keep B n0;have hw:=G.held;have trs:=G.av.trs rh he;have wS:∀b,S j b->¬ W b:=λb hb hb2=>by rcases G.fr b hb2 with q|q;exact(B.dom b hb).1 q;exact n0 b hb q
   refine da I2.fh r2 trs wS P λw r s' H3 S3 Zr hh dm O rr dz hf q=>?_;obtain⟨st,I3,nw⟩:=lI I u hv N I2 hh dm O (λb hb=>hf b (.inl hb)) hw G.fr;have zr:∀b,Zr b->S j b∨W b∨l b=none:=λb hb=>hf b (.inr hb);refine k w F2 H3 _ _ r true Zr st I3 ⟨rr,λ_ b hb=>?_,λz=>(by cases z),λ_ i sl e b hb z=>?_⟩ q;rcases zr b hb with q|q|q
   ·exact .inr ⟨j,t,u,q⟩
   exact(G.fr b q).imp id (lock1U u);exact .inl (N.dm b q);rcases gA e with⟨rfl,_,_⟩| ⟨n,e⟩
   ·rw[RA]at z
    exact dz b hb z
   rw[KA (qD n)]at z;exact nw b (zr b hb) i sl (qD n) e z
   all_goals exact h.elim
  |_=>exact h.elim
theorem vB.dct{ws:LN}{F H x y:Hp}{S S1:Ft}{ρ h:kA}{σ:St}{Q:TK}{R:VK}(k:vB K ws F H S ρ σ Q R)(s:Ste F H S ρ x y S1 h)(I:Rl K x y S1 h σ){p:Addr}(g:H p=none)(m:x p=none)(j:Held x y S1 h λb=>b=p){o:HO}{b:Bool}{ks:List D}{vs:LV}{ts:LT}{W:oB}(dk:bK K x b o ks vs)(r:Trs K x y true vs ts W)
  (fr:∀b,W b->H b=none∨U ρ S b) (f:Held x y S1 h W) (a:¬ W p) (q:Q (.dct b ks ts) true h):R (.ref p) (BA y p o):=by
 have Y:∀b u,H b=some u->b≠p:=λb u e=>JA e g;have X:Ste F H S ρ x (BA y p o) S1 h:=⟨⟨s.ff,λb u e n=>by rw[vA (Y b u e)];exact s.hh b u e n,λb e=>s.dm b (FB b e),s.fn,s.uu,s.bo⟩,s.ow⟩
 have B:Rl K x (BA y p o) S1 h σ:=⟨λb u e=>by rw[vA λz=>by rw[z,m]at e;cases e];exact I.fh b u e,I.len,λi w e=>by obtain⟨v,A,l⟩:=I.sl i w e;exact⟨v,A,l.mono (.refl _) λb hb=>⟨vA λz=>j.nw i w e b z hb,(l.dom b hb).2⟩⟩,I.dj⟩
 refine k _ x _ S1 h _ true (λb=>b=p∨W b) X B ⟨.dct ZA dk m (r.mono (.refl _) λb hb=>⟨vA λz=>a (z▸hb),(f.dom b hb).2⟩) a (λb=>wY),λ_ b hb=>?_,λz=>(by cases z),λ_ i w e b hb z=>?_⟩ q;rcases hb with hb|hb
 ·exact .inl (hb▸g)
 exact fr b hb;rcases hb with hb|hb
 ·exact j.nw i w e b hb z
 exact f.nw i w e b hb z
theorem VR.strict{u y:Hp}{S1:Ft}{h:kA}{ws:LN}{v:V}{t:T}{n:Bool}(r:VR K ws H S ρ u y S1 h v t n Z)(e:oH t n=true):∃W,Tr K u y true v t W/\Held u y S1 h W/\∀b,W b->H b=none∨U ρ S b:=by
 cases n with
 |true=>exact⟨Z,r.tr,r.held,r.fr rfl⟩|false =>
  have w:=r.tr;cases t with
  |d x=>cases w with|d q _=>exact⟨λ_=>False,.d q λ_ z=>z,.none,λ_ z=>z.elim⟩
  |_=>cases e
theorem RS{σ:St}(I:Rl K F H S ρ σ){p:Addr}(h:H p=none)(o:HO):Held F (BA H p o) S ρ λb=>b=p :=
 ⟨λb hb=>⟨by rw[hb,ZA];simp,by rw[hb];exact I.fh.free h⟩,λi x e b hb z=>(I.dom e z).1 (by rw[hb];exact h)⟩
theorem AA(g:GOk K Γ Ψ):∀(p:PX),PSnd K Γ Ψ p
 | .xz i=>⟨uc i,λI X h k=>eU (Γ:=Γ) (Ψ:=Ψ) (uc i) I X h k,λI X _ h k=>h.elim⟩|.int i=>⟨λI X h k=>vB.d k .refl I (.int i) h,λI X h k=>k _ _ _ _ _ .refl I h,λI X _ h k=>h.elim⟩|.str x=>⟨λI X h k=>vB.d k .refl I (.str x) h,λI X h k=>h.elim,λI X _ h k=>h.elim⟩|.bl b=>⟨λI X h k=>vB.d k .refl I (.bl b) h,λI X h k=>k _ _ _ _ _ .refl I h,λI X _ h k=>h.elim⟩|.non=>⟨λI X h k=>vB.d k .refl I .non h,λI X h k=>k _ _ _ _ _ .refl I h,λI X _ h k=>h.elim⟩|.glo x=>.of_e (λ_ _ _=>rfl) (λ_ _ _ _=>rfl) (λ_=>rfl) λ{E N F H S ρ G Q R} I X h k=>by have h:(match Ψ.va x with|some d=>Q (.d d) false ρ|none=>False):=h;split at h;rename_i d e;exact vB.d k .refl I (g.va x d e F) h;exact h.elim
 | .bin op a b=>.of_e (λ_ _ _=>rfl) (λ_ _ _ _=>rfl) (λ_=>rfl) λ{E N F H S ρ G Q R} I X h k =>
  D1 (P:=λx n y m J=>binT op (rA x n).vw (rA y m).vw λz k=>Q z k J) (RR:=λx y H2=>Sb K op x y H2 R) (AA g a) (AA g b) I X h λv w F' H' S' B x n y m Za Zb s C X' ra _ rb q=>zj s C ra rb q k
 | .cmp op a b=>.of_t (λ_ _ _=>rfl) (λ_ _ _ _=>rfl) (λ_=>rfl) λ{E N F H S ρ G Q R} I X h k =>
  D1 (P:=λx n y m J=>Bb op x.er (rA y m) λk=>Q k J) (RR:=λx y H2=>S6 K op x y H2 R) (AA g a) (AA g b) I X h λv w F' H' S' B x n y m Za Zb s C X' ra _ rb q =>
   Ub C.fh (by have:=ra.rep C.fh;rwa [GX]at this) rb q λc qc=>k c F' H' S' B s C qc
 | .and a b=>⟨λ{E N F H S ρ G Q R} I X h k=>by
   refine(AA g a).e (Q:=λx _ A=>rj x.er λc=>if c=true then(pe Ψ b E).e A Q else Q (.d (.bool false)) false A) (R:=λx M=>t7 x M λc H2=>if c=true then(wp K Γ b N).e G H2 R else R (.bl false) H2) I X h λv F' H' S' B x n Z s C r q=>?_;refine m7 (r.tr.rep C.fh) q λc qc=>?_;cases c with|false=>exact vB.d k s C (.bl false) qc|true=>exact(AA g b).e C (X.from s.toStp) qc ((k.from s).vars λi hi=>QU _ hi),
  λ{E N F H S ρ G Q R} I X h k=>by
   refine(AA g a).t (Q:=λc A=>if c=true then(pe Ψ b E).t A Q else Q false A) (R:=λc M=>if c=true then(wp K Γ b N).t G M R else R false M) I X h λc F' H' S' B s C qc=>?_;cases c with|false=>exact k _ F' H' S' B s C qc|true=>exact(AA g b).t C (X.from s.toStp) qc (cJ.from k s),λI X _ h k=>h.elim⟩
 | .or a b=>⟨λ{E N F H S ρ G Q R} I X h k=>by
   refine(AA g a).e (Q:=λx _ A=>rj x.er λc=>if c=true then Q (.d (.bool true)) false A else(pe Ψ b E).e A Q) (R:=λx M=>t7 x M λc H2=>if c=true then R (.bl true) H2 else(wp K Γ b N).e G H2 R) I X h λv F' H' S' B x n Z s C r q=>?_;refine m7 (r.tr.rep C.fh) q λc qc=>?_;cases c with|true=>exact vB.d k s C (.bl true) qc|false=>exact(AA g b).e C (X.from s.toStp) qc ((k.from s).vars λi hi=>QU _ hi),
  λ{E N F H S ρ G Q R} I X h k=>by
   refine(AA g a).t (Q:=λc A=>if c=true then Q true A else(pe Ψ b E).t A Q) (R:=λc M=>if c=true then R true M else(wp K Γ b N).t G M R) I X h λc F' H' S' B s C qc=>?_;cases c with|true=>exact k _ F' H' S' B s C qc|false=>exact(AA g b).t C (X.from s.toStp) qc (cJ.from k s),λI X _ h k=>h.elim⟩
 | .not a=>⟨λ{E N F H S ρ G Q R} I X h k=>by
   refine(AA g a).e (Q:=λx _ A=>IH x.er λc=>Q (.d (.bool (!c))) false A) (R:=λx M=>IG K x M λc H2=>R (.bl (!c)) H2) I X h λv F' H' S' B x n Z s C r q=>?_;exact KW (r.tr.rep C.fh) q λc qc=>vB.d k s C (.bl _) qc,
  λ{E N F H S ρ G Q R} I X h k=>(AA g a).t (Q:=λc A=>Q (!c) A) (R:=λc M=>R (!c) M) I X h λc F' H' S' B s C qc=>k _ F' H' S' B s C qc,λI X _ h k=>h.elim⟩
 | .call f O=>.of_e (λ_ _ _=>rfl) (λ_ _ _ _=>rfl) (λ_=>rfl) λ{E N F H S ρ G Q R} I X h k=>Mb g (AA g O) I X h k|.bi f O=>.of_e (λ_ _ _=>rfl) (λ_ _ _ _=>rfl) (λ_=>rfl) λ{E N F H S ρ G Q R} I X h k =>
  dW (P:=λxs A=>OT f (jC xs) λz k=>Q z k A) (RR:=λvs M=>Co K f vs M R) (AA g O) I X h λvs F' H' S' B xs Y s C X' tn _ q=>by rw[iL _ rfl]at q;exact nj s C tn q k
 | .mt m o O=>.of_e (λ_ _ _=>rfl) (λ_ _ _ _=>rfl) (λ_=>rfl) (gr (AA g o) (AA g O))|.idx a b=>by
  have he:RZ K Γ Ψ (.idx a b):=λ{E N F H S ρ G Q R} I X h k =>
   D1 (P:=λx n y m J=>(GN (rA x n).vw (rA y m).vw λz=>Q z false J)∨(xT (rA x n).vw y.er λz=>Q z false J)) (RR:=λx y H2=>VY K x y H2 R) (AA g a) (AA g b) I X h λv w F' H' S' B x n y m Za Zb s C X' ra za rb q=>by rcases q with q|q;exact ji s C ra za rb q k;exact Gi s C ra za (by have:=rb.rep C.fh;rwa [GX]at this) q k
  exact⟨he,λI X h k=>eU he I X h k,λI X _ h k=>h.elim⟩
 | .slc a lo hi=>.of_0 (λ_=>rfl) (λ_=>rfl) λ{E N F H S ρ G Q R} I X h k=>by
  have part:∀(p:PX),PSnd K Γ Ψ p->∀{F H:Hp}{S:Ft}{ρ:kA}{x:T}{P:Option Int->kA->Prop}{RP:Option Int->Hp->Prop},Rl K F H S ρ G->nF K F H S ρ E N ->
    sq (α:=Option Int) x ρ (if isNop p=true then λρ (R:Option Int->kA->Prop)=>R none ρ else λρ R=>(pe Ψ p E).e ρ λl _ J=>NF l.er λo=>R o J) P ->
    (∀o F' H' S' B,Ste F H S ρ F' H' S' B->Rl K F' H' S' B G->(∀st v Zx,Tr K F H st v x Zx->Tr K F' H' st v x Zx)->P o B->RP o H') ->
    (if isNop p=true then λ(R:Option Int->Hp->Prop)=>R none H else λR=>(wp K Γ p N).e G H λl H2=>cM l H2 R) RP:=by
   intro p ip F H S ρ x P RP I X h k;cases hn:isNop p with
   |true=>simp only[hn,if_true]at h ⊢;refine k none F H S ρ .refl I (λ_ _ _ r=>r) ?_;unfold sq at h;split at h<;>exact h|false =>
    simp only[hn,Qo,if_false]at h ⊢;have h2:sq x ρ (cu (pe Ψ p E).e) λy B=>NF y.1.er λo=>P o B:=by unfold sq at h ⊢;exact h
    refine Fl ip I X h2 λw F' H' S' B y m Z s C kp _ r q=>m9 (r.tr.rep C.fh) q λo qo=>k o F' H' S' B s C kp qo
  refine aF (AA g a) I X h λv F1 M S1 A x n Za s1 I1 X1 r1 _ z1 h1=>?_;refine part lo (AA g lo) I1 X1 h1 λl F2 H2 S2 J s2 I2 k2 h2=>?_;refine part hi (AA g hi) I2 (X1.from s2.toStp) h2 λu F3 H3 S3 ρ3 s3 I3 k3 h3=>?_;exact zg (s1.trans (s2.trans s3)) I3 (k3 _ _ _ (k2 _ _ _ r1)) h3 k
 | .nop=>⟨λI X h k=>h.elim,λI X h k=>h.elim,λI X _ h k=>h.elim⟩|.lst O=>.of_0 (λ_=>rfl) (λ_=>rfl) λ{E N F H S ρ G Q R} I X h k=>by refine(AA g O).a (md:=[]) (R:=λxs M=>xs.length<=sizeLine/\∀p,M p=none->R (.ref p) (BA M p (.lst xs))) I X (λj hj=>by cases O<;>cases hj) h λvs F' H' S' B xs W Y s C r _ q=>?_;exact⟨by rw[r.av.length];exact q.2.1,λp hp=>vB.list k s C hp (r.av.trs rh q.1) r.fr r.held q.2.2⟩|.tup O=>.of_0 (λ_=>rfl) (λ_=>rfl) λ{E N F H S ρ G Q R} I X h k=>by refine(AA g O).a (md:=[]) (R:=λxs M=>xs.length<=sizeLine/\∀p,M p=none->R (.ref p) (BA M p (.tup xs))) I X (λj hj=>by cases O<;>cases hj) h λvs F' H' S' B xs W Y s C r _ q=>?_;exact⟨by rw[r.av.length];exact q.2.1,λp hp=>vB.tup k s C hp (r.av.trs rh q.1) r.fr r.held q.2.2⟩|.comp mask tgs tg ik its cond elt=>.of_0 (λ_=>rfl) (λ_=>rfl) λ{E N F H S ρ G Q R} I X h k=>by
  refine dW (RR:=λvs M=>VC K ik vs M λxs st H2=>gY K xs st tg (if isNop cond=true then λ_ H Q=>Q true H else(wp K Γ cond (λ_ _ _=>False)).t) (wp K Γ elt (λ_ _ _=>False)).e (DI tgs.length mask G) H2 R) (AA g its) I X h λvs F1 M S1 A xs Y s1 I1 X1 tn tm q1=>?_;rw[iL _ rfl]at q1;refine UJ I1.fh tn q1 λxs ys st pr hst hc=>?_;refine N6 (us:=AG elt) ?_ ?_ s1 I1 pr (λb hb=>?_) hst hc k;intro F H S ρ G Q R I h k;cases hn:isNop cond with|true=>simp only[hn,if_true]at h ⊢;exact k true F H S ρ .refl I h|false=>simp only[hn,Qo,if_false]at h ⊢;exact(AA g cond).t I nF.never h k
  intro F H S ρ G Q R I h k;exact(AA g elt).e I nF.never h k;obtain⟨i,sl,_,h2,h3⟩:=tm b hb;exact I1.dom h2 h3
 | .ng i=>.of_0 (λ_=>rfl) (λ_=>rfl) λI X h k=>vB.d k .refl I (.int _) h|.dnew b=>.of_0 (λ_=>rfl) (λ_=>rfl) λ{E N F H S ρ G Q R} I X h k=>by
  intro p hp;have hh:=RS I hp (.dT 0 []);have e:=vB.dct (o:=.dT 0 []) (b:=b) (ks:=[]) (vs:=[]) (ts:=[]) (W:=λ_=>False) k (Ste.refl.new hp (.dT 0 [])) (I.new hp _) hp (I.fh.free hp) hh ?_ (.nil λ_ z=>z) (λ_ z=>z.elim) .none (λz=>z) h;rw[m8]at e;exact e;cases b with
  |true=>exact⟨0,[],rfl,rfl,rfl,λ_ z=>(nomatch z),Qs⟩
  |false=>exact .inr ⟨0,rfl,rfl,rfl⟩
 | .dsp a b=>.of_0 (λ_=>rfl) (λ_=>rfl) λ{E N F H S ρ G Q R} I X h k=>by
  intro p hp;have hh:=RS I hp (.dT 0 []);have s0:Ste F H S ρ F (BA H p (.dT 0 [])) S ρ:=Ste.refl.new hp _;refine aF (AA g a) (I.new hp _) (X.from s0.toStp) h λy F1 M S1 A x n Z s1 I1 X1 _ er _ ⟨he,q1⟩=>?_;have hh1:=hh.step s1.toStp I1;have ry:=er he;refine(AA g b).e I1 X1 q1 λv F2 H2 S2 J t m Zb s2 I2 r2 q2=>?_;have hh2:=hh1.step s2.toStp I2;obtain⟨he2,hk,q2⟩:=q2;obtain⟨W,rw,hw,frw⟩:=(r2.from s1.toStp).strict he2;have hp2:H2 p=some (.dT 0 []):=s2.hh p _ (s1.hh p _ ZA (hh.nu p rfl)) (hh1.nu p rfl);have np:¬ W p:=λz=>by rcases frw p z with q|q;rw[ZA]at q;cases q;exact hh.nu p rfl q
  have ry2:=ry.mono s2.ff;refine⟨hp2,?_⟩;generalize x.er=d at hk ry2 q2;cases sQ hk ry2 with|intro ks hh=>obtain⟨c,rfl,rfl,hq⟩:=hh;refine⟨c,ks,rfl,I2.fh.key hq,λep=>?_⟩;exact vB.dct (o:=.dT ep [(ks,c,v)]) (b:=true) (vs:=[v]) (ts:=[t]) k (s0.trans (s1.trans s2)) I2 hp (hh2.dom p rfl).2 hh2 ⟨ep,_,rfl,rfl,rfl,λz hz=>by rw[QI.mp hz];exact hq,by simp⟩ (Trs.one rw) (λb hb=>by rcases frw b hb with q|q;exact .inl (FB b q);exact .inr q) hw np q2
 | .nz=>⟨λI X h k=>h.elim,λI X h k=>h.elim,λ{E N F H S ρ G md Q R} I X _ h k=>k [] F H S ρ [] (λ_=>False) (λ_=>False) .refl I ⟨.nil λ_ z=>z,λ_ z=>z.elim,λ_ z=>z.elim,λ_ _ _ _ z=>z.elim⟩ (by cases md with|nil=>rfl|cons m r=>cases m<;>rfl) h⟩
 | .ny a O=>⟨λI X h k=>h.elim,λI X h k=>h.elim,λ{E N F H S ρ G md Q R} I X hm h k=>by
  show(wp K Γ a N).e G H λx M=>(wp K Γ O N).a G M λxs H2=>R (x::xs) H2;have vr2:∀i∈AG O,i∈AG (.ny a O):=λi hi=>QU _ hi;cases L:(md.headD .xx).isMut with
  |true =>
   have h2:y6 a=true/\(pe Ψ O E).a md.tail ρ λxs A=>Q ((.d .none,true)::xs) A:=by have h3:(if(md.headD .xx).isMut=true then _ else _):=h;rw[L,if_pos rfl]at h3;exact h3
   obtain⟨m,md',rfl⟩:∃m md',md=m::md':=by
    cases md with|nil=>cases L|cons m md'=>exact⟨m,md',rfl⟩
   have em:m=.chg:=by have L:m.isMut=true:=L;cases m<;>first|rfl|cases L
   subst em;cases a with
   |xz j=>obtain⟨v,hv⟩:=hm j (show j∈j::cA md' O from QD);show(match G[j]? with|some (some v)=>_|_=>False);rw[hv];refine(AA g O).a I X (λi hi=>hm i (QC _ hi)) h2.2 λvs F' H' S' B xs W Y s C r mv q=>?_;refine k (v::vs) F' H' S' B _ W Y s C ⟨.chg L r.av,r.fr,(r.vars vr2).tm,r.nw⟩ ?_ q;show(some (some v))::(lB md' vs).map _=G[j]?::(cA md' O).map _;have mv:(lB md' vs).map (λv=>some (some v))=(cA md' O).map (λj=>G[j]?):=mv;rw[hv,mv]
   |_=>exact absurd h2.1 (by simp[y6])
  |false =>
   have h2:(pe Ψ a E).e ρ λx n A=>sq (α:=List (T×Bool)) (if n=true then .d .none else x) A ((pe Ψ O E).a md.tail) λxs J=>Q ((x,n)::xs) J:=by have h3:(if(md.headD .xx).isMut=true then _ else _):=h;rw[L,if_neg (by simp)]at h3;exact h3
   have hroots:cA md (.ny a O)=cA md.tail O:=by
    cases md with|nil=>cases O<;>rfl|cons m md'=>have L:m.isMut=false:=L;cases m<;>first|rfl|cases L
   have hmv:∀v vs,lB md (v::vs)=lB md.tail vs:=λv vs=>by unfold lB;generalize md.headD .xx=m at L;cases m<;>first | (cases vs<;>rfl)|cases L
   refine(AA g a).e I X h2 λv F1 M S1 A x n Z s1 I1 r1 q1=>?_;refine Hl (AA g O) I1 (X.from s1.toStp) (λi hi=>hm i (by rw[hroots];exact hi)) q1 λvs F2 H2 S2 J xs W Y s2 I2 kp hs r2 mv q2=>?_;have s12:=s1.trans s2;have r2':=(r2.from s1.toStp).vars vr2;have mv':(lB md (v::vs)).map (λv=>some (some v))=(cA md (.ny a O)).map (λj=>G[j]?):=by rw[hroots,hmv];exact mv
   cases n with
   |true =>
    have hd:=r1.held;have hd2:=hd.step s2.toStp I2;refine k (v::vs) F2 H2 S2 J _ (λb=>Z b∨W b) Y s12 I2 ⟨.new L (s2.toStp.keep r1.tr hd.nu) r2.av (λb hb hw=>?_) λb=>wY,λb hb=>?_,r2'.tm,λi sl e b hb=>?_⟩ mv' q2;rcases r2.fr b hw with q|q
    ·exact(hd.dom b hb).1 q
    exact hd.nu b hb q;rcases hb with hb|hb
    ·exact r1.fr rfl b hb
    exact r2'.fr b hb;rcases hb with hb|hb
    ·exact hd2.nw i sl e b hb
    exact r2.nw i sl e b hb
   |false =>
    have za:∀b,Z b->∃(i:Nat) (s:Sl),i∈AG a/\J[i]?=some (some s)/\S2 i b:=by
     cases hd:x.isD with
     |true =>
      intro b hb;exfalso;have tr:=r1.tr;cases x with
      |d x=>cases tr with|d r n=>exact n b hb
      |_=>cases hd
     |false=>obtain⟨e1,e2⟩:=hs hd;rw[e1,e2];exact r1.tm rfl
    refine k (v::vs) F2 H2 S2 J _ W (λb=>Z b∨Y b) s12 I2 ⟨.tmp L (kp _ _ _ r1.tr) (λb hb=>.inl hb) (r2.av.sub λb hb=>.inr hb),r2'.fr,λb hb=>?_,r2.nw⟩ mv' q2;rcases hb with hb|hb;obtain⟨i,sl,h1,h2⟩:=za b hb;exact⟨i,sl,Qf _ h1,h2⟩;exact r2'.tm b hb⟩
end
end
structure Sts(C J:LN)(F H:Hp)(S:Ft)(ρ:kA)(σ:St)(F' H':Hp)(S':Ft)(ρ':kA)(σ':St):Prop where
 ff:Same F F'
 hh:∀b u,H b=some u->¬ U ρ S b->H' b=some u
 dm:∀b,H' b=none->H b=none
 fn:∀b,F b=none->F' b≠none->U ρ S b∨H b=none
 uu:∀b,U ρ' S' b->U ρ S b∨H b=none
 bo:∀(j:Nat) t,j∉J->ρ'[j]?=some (some (.ky t))->t.isD=false->ρ[j]?=some (some (.ky t))/\S' j=S j/\σ'[j]?=σ[j]?
 sg:∀j∈C,σ'[j]?=σ[j]?
structure Stc(C:LN)(F H:Hp)(S:Ft)(ρ:kA)(σ:St)(F' H':Hp)(S':Ft)(ρ':kA)(σ':St):Prop where
 ff:Same F F'
 hh:∀b u,H b=some u->¬ U ρ S b->H' b=some u
 dm:∀b,H' b=none->H b=none
 fn:∀b,F b=none->F' b≠none->U ρ S b∨H b=none
 uu:∀b,U ρ' S' b->U ρ S b∨H b=none
 sg:∀j∈C,σ'[j]?=σ[j]?
section
variable{K:QE}{Γ:Ev}{Ψ:PEv}{E:XE}{M:XK}{F H p X B L:Hp}{S S1 G:Ft}{ρ y Y:kA}{σ g A:St}{C J:LN}
section
variable{t:T}{Z:oB}{i:Nat}
theorem Stp.sts(s:Stp F H S ρ p X S1 y):Sts C J F H S ρ σ p X S1 y σ:=⟨s.ff,s.hh,s.dm,s.fn,s.uu,λj t _ e h=>let⟨z,x⟩:=s.bo j t e h;⟨z,x,rfl⟩,λ_ _=>rfl⟩
theorem Sts.refl:Sts C J F H S ρ σ F H S ρ σ:=Stp.refl.sts
theorem Sts.trans(a:Sts C J F H S ρ σ p X S1 y g)(b:Sts C [] p X S1 y g B L G Y A):Sts C J F H S ρ σ B L G Y A where
 ff:=a.ff.trans b.ff
 hh:=λx u h n=>b.hh x u (a.hh x u h n) λz=>by rcases a.uu x z with q|q;exact n q;rw[q]at h;cases h
 dm:=λx h=>a.dm x (b.dm x h)
 fn:=λx h z=>by
  by_cases q:p x=none;rcases b.fn x q z with w|w
  ·exact a.uu x w
  exact .inr (a.dm x w);exact a.fn x h q
 uu:=λx h=>by rcases b.uu x h with w|w;exact a.uu x w;exact .inr (a.dm x w)
 bo:=λj t v h n=>by obtain⟨o,m,l⟩:=b.bo j t (by simp) h n;obtain⟨f,e,k⟩:=a.bo j t v o n;exact⟨f,m.trans e,l.trans k⟩
 sg:=λj v=>(b.sg j v).trans (a.sg j v)
theorem Sts.c(s:Sts C J F H S ρ σ p X S1 y g):Stc C F H S ρ σ p X S1 y g:=⟨s.ff,s.hh,s.dm,s.fn,s.uu,s.sg⟩
theorem Stc.trans(a:Stc C F H S ρ σ p X S1 y g)(b:Stc C p X S1 y g B L G Y A):Stc C F H S ρ σ B L G Y A where
 ff:=a.ff.trans b.ff
 hh:=λx u h n=>b.hh x u (a.hh x u h n) λz=>by rcases a.uu x z with q|q;exact n q;rw[q]at h;cases h
 dm:=λx h=>a.dm x (b.dm x h)
 fn:=λx h z=>by
  by_cases q:p x=none;rcases b.fn x q z with w|w
  ·exact a.uu x w
  exact .inr (a.dm x w);exact a.fn x h q
 uu:=λx h=>by rcases b.uu x h with w|w;exact a.uu x w;exact .inr (a.dm x w)
 sg:=λj v=>(b.sg j v).trans (a.sg j v)
theorem nF.fromS(h:nF K F H S ρ E M)(s:Sts C J F H S ρ σ p X S1 y g):nF K p X S1 y E M:=λx k B L G Y v f r q =>
 h x k B L (λ_ _=>False) [] ⟨s.ff.trans v.ff,λb u e n=>v.hh b u (s.hh b u e n) (λz=>(s.uu b z).elim n λw=>(by rw[w]at e;cases e)),λb e=>s.dm b (v.dm b e),λb e z=>by
  by_cases q:p b=none;rcases v.fn b q z with w|w
  ·exact s.uu b w
  exact .inr (s.dm b w);exact s.fn b e q,λb ⟨i,t,e,_⟩=>by simp at e,λj t e=>by simp at e⟩ f r q
structure EndsOk(K:QE)(C:LN)(F H:Hp)(S:Ft)(ρ:kA)(σ:St)(Z:PEnds)(Dn:Ends):Prop where
 nx:∀F' H' S' ρ' σ',Sts C [] F H S ρ σ F' H' S' ρ' σ'->Rl K F' H' S' ρ' σ'->Z.nx ρ'->Dn.nx σ' H'
 rt:∀v t W F' H' S' ρ' σ',Stc C F H S ρ σ F' H' S' ρ' σ'->Rl K F' H' S' ρ' σ'->Tr K F' H' true v t W->Held F' H' S' ρ' W->(∀b,W b->H b=none∨U ρ S b)->Z.rt t ρ'->Dn.rt v H'
 bk:∀F' H' S' ρ' σ',Sts C [] F H S ρ σ F' H' S' ρ' σ'->Rl K F' H' S' ρ' σ'->Z.bk ρ'->Dn.bk σ' H'
 ct:∀F' H' S' ρ' σ',Sts C [] F H S ρ σ F' H' S' ρ' σ'->Rl K F' H' S' ρ' σ'->Z.ct ρ'->Dn.ct σ' H'
theorem Ms(s:Sts C J F H S ρ σ p X S1 y g){W:oB}(fr:∀b,W b->X b=none∨U y S1 b):∀b,W b->H b=none∨U ρ S b:=λb hb=>by rcases fr b hb with q|q;exact .inl (s.dm b q);exact(s.uu b q).symm
theorem EndsOk.from{Z:PEnds}{b:Ends}(ok:EndsOk K C F H S ρ σ Z b)(s:Sts C [] F H S ρ σ p X S1 y g):EndsOk K C p X S1 y g Z b :=
 ⟨λa k w z x u I q=>ok.nx a k w z x (s.trans u) I q,λv t W a k w z x u I r h fr q=>ok.rt v t W a k w z x (s.c.trans u) I r h (Ms s fr) q,
  λa k w z x u I q=>ok.bk a k w z x (s.trans u) I q,λa k w z x u I q=>ok.ct a k w z x (s.trans u) I q⟩
theorem Sts.setD(s:Sts C J F H S ρ σ p X S1 y g)(i:Nat)(a:i∉C)(v:V)(k:t.isD=true)(Z:oB):Sts C J F H S ρ σ p X (iH S1 i Z) (y.set i (some (.ky t))) (g.set i (some v)) :=
 ⟨s.ff,s.hh,s.dm,s.fn,λb ⟨j,u,z,w⟩=>by
  rcases gA z with⟨_,e,_⟩| ⟨n,z⟩
  cases e;rw[KA (qD n)]at w;exact s.uu b ⟨j,u,z,w⟩,
 λj u h e x=>by
  rcases gA e with⟨_,e,_⟩| ⟨n,e⟩
  injection e with e;injection e with e;subst e;rw[k]at x;cases x;rw[KA (qD n),ED n];exact s.bo j u h e x,
 λj h=>by have n:i≠j:=λe=>a (e▸h);rw[ED n];exact s.sg j h⟩
theorem Rl.setD(I:Rl K F H S ρ σ)(i:Nat){v:V}{x:D}(r:Rep K F v x):Rl K F H (iH S i λ_=>False) (ρ.set i (bD x)) (σ.set i (some v)) :=
 I.setB i (.d r λ_ z=>z) λ_ _ _ _ _ z=>z.elim
theorem Rl.setN(I:Rl K F H S ρ σ)(i:Nat){v:V}(r:Tr K F H true v t Z)(w:∀(j:Nat) s,j≠i->ρ[j]?=some (some s)->∀b,Z b->¬ S j b):Rl K F H (iH S i Z) (ρ.set i (some (.own t))) (σ.set i (some v)) where
 fh:=I.fh
 len:=by simpa using I.len
 sl:=λj s h=>by
  rcases gA h with⟨rfl,e,hl⟩| ⟨a,h⟩
  cases e;exact⟨v,GW (by rw[<- I.len];exact hl),by rw[RA];exact r⟩;rw[ED a,KA (qD a)];exact I.sl j s h
 dj:=λj k f s n u x b hb hk=>by
  rcases gA u with⟨e,_,_⟩| ⟨l,u⟩
  subst e;rw[RA]at hb;rcases gA x with⟨e,_,_⟩| ⟨z,x⟩
  exact n e;rw[KA (qD z)]at hk;exact w k s (qD z) x b hb hk;rw[KA (qD l)]at hb;rcases gA x with⟨e,_,_⟩| ⟨z,x⟩
  subst e;rw[RA]at hk;exact w j _ n u b hk hb;rw[KA (qD z)]at hk;exact I.dj j k f s n u x b hb hk
theorem Sts.setN(s:Sts C J F H S ρ σ p X S1 y g)(i:Nat)(w:i∉C)(v:V)(t:T)(fr:∀b,Z b->H b=none∨U ρ S b):Sts C J F H S ρ σ p X (iH S1 i Z) (y.set i (some (.own t))) (g.set i (some v)) :=
 ⟨s.ff,s.hh,s.dm,s.fn,λb ⟨j,u,z,x⟩=>by
  rcases gA z with⟨rfl,_,_⟩| ⟨n,z⟩
  rw[RA]at x;exact(fr b x).symm;rw[KA (qD n)]at x;exact s.uu b ⟨j,u,z,x⟩,
 λj u h e k=>by
  rcases gA e with⟨_,e,_⟩| ⟨n,e⟩
  cases e;rw[KA (qD n),ED n];exact s.bo j u h e k,
 λj h=>by have n:i≠j:=λe=>w (e▸h);rw[ED n];exact s.sg j h⟩
theorem lO:∀(u:LN) (ds:List D) {ρ x:kA},aB u (ds.map T.d) ρ=some x->∀(j:Nat) t,x[j]?=some (some (.ky t))->t.isD=false->j∉u/\ρ[j]?=some (some (.ky t))
 |[],[],ρ,x,h,j,t,e,hd=>by simp only[wJ,aB,Qq]at h;subst h;exact⟨(by simp),e⟩|[],_::_,_,_,h,_,_,_,_=>by simp[aB]at h|_::_,[],_,_,h,_,_,_,_=>by simp[aB]at h|i::u,d::ds,ρ,x,h,j,t,e,hd=>by
  simp only[QV,aB]at h;obtain⟨w,v⟩:=lO u ds h j t e hd;rcases gA v with⟨_,q,_⟩| ⟨n,q⟩
  injection q with q;injection q with q;subst q;cases hd;exact⟨λm=>(QM.mp m).elim (λz=>n z.symm) w,q⟩
theorem Rl.frz1(I:Rl K F H S ρ σ)(h:ρ[i]?=some (some (.own t))):Rl K (UI F H (S i)) H (iH S i λ_=>False) (ρ.set i (bD t.er)) σ/\Sts C [] F H S ρ σ (UI F H (S i)) H (iH S i λ_=>False) (ρ.set i (bD t.er)) σ:=by
 obtain⟨v,hv,r⟩:=I.sl i _ h;have k:=OG (H:=H) λb (hb:S i b)=>(r.dom b hb).2;have O:Rl K F H S (ρ.set i none) σ:=I.drop (by simp) λj s e=>by
  rcases gA e with⟨_,z,_⟩| ⟨_,e⟩
  cases z;exact e
 have l:Held F H S (ρ.set i none) (S i):=⟨r.dom,λj s e b hb z=>by
  rcases gA e with⟨_,q,_⟩| ⟨n,e⟩
  cases q;exact I.dj i j t s n h e b hb z⟩
 have N:=O.frz l;have f:Rep K (UI F H (S i)) v t.er:=Tr.kept k r λb u hb e=>by rw[XI hb];exact e
 have a:=N.setD i f;have W:(ρ.set i none).set i (bD t.er)=ρ.set i (bD t.er):=by simp
 have o:σ.set i (some v)=σ:=by apply qz;intro j;rw[wB];split;rename_i e;subst e;split;exact hv.symm;rename_i n;rw[qC (by omega)];rfl
 rw[W,o]at a;refine⟨a,⟨k,λb u e _=>e,λb e=>e,λb e z=>.inl ?_,λb ⟨j,u,x,w⟩=>.inl ?_,λj u _ e m=>?_,λ_ _=>rfl⟩⟩;by_cases hb:S i b
 ·exact⟨i,t,h,hb⟩
 rw[rC hb]at z;exact absurd e z;rcases gA x with⟨_,q,_⟩| ⟨n,x⟩
 ·cases q
 rw[KA (qD n)]at w;exact⟨j,u,x,w⟩;rcases gA e with⟨_,q,_⟩| ⟨n,e⟩
 ·injection q with q;injection q with q;subst q;cases m
 exact⟨e,KA (qD n),rfl⟩
theorem vZ{f:Option Sl->Option Sl}:ρ.modify i f=match ρ[i]? with|some o=>ρ.set i (f o)|none=>ρ:=by
 apply qz;intro j;rw[Wm];cases h:ρ[i]? with|none=>simp only;by_cases e:i=j;subst e;simp[h];simp[e]|some o=>simp only;rw[wB];by_cases e:i=j;subst e;obtain⟨hl,rfl⟩:=Qh.mp h;simp[hl];simp[e]
theorem DR{α:Type}{l:List α}{o:α}(h:l[i]?=some o):l.set i o=l:=by apply qz;intro j;rw[wB];split;rename_i e;subst e;rw[if_pos (Qh.mp h).1,h];rfl
theorem Rl.frzAt:∀(x:LN) {F:Hp}{S:Ft}{ρ:kA},Rl K F H S ρ σ->∃z S',Rl K z H S' (frzAt x ρ) σ/\Sts C [] F H S ρ σ z H S' (frzAt x ρ) σ
 |[],F,S,ρ,I=>⟨F,S,I,.refl⟩|i::x,F,S,ρ,I=>by
  have one:∃p S1,Rl K p H S1 (ρ.modify i UV) σ/\Sts C [] F H S ρ σ p H S1 (ρ.modify i UV) σ:=by
   rw[vZ];cases h:ρ[i]? with
   |none=>exact⟨F,S,I,.refl⟩|some o =>
    cases o with
    |none=>have e:ρ.set i (UV none)=ρ:=DR h;simp only[e];exact⟨F,S,I,.refl⟩|some u =>
     cases u with|ky t=>have e:ρ.set i (UV (some (.ky t)))=ρ:=DR h;simp only[e];exact⟨F,S,I,.refl⟩|own t=>exact⟨_,_,I.frz1 h⟩
  obtain⟨p,S1,a,w⟩:=one;obtain⟨B,G,k,v⟩:=Rl.frzAt x a;exact⟨B,G,k,w.trans v⟩
end
end
noncomputable def YJ(C:LN):PT->Bool
 | .seq s r=>YJ C s&&YJ C r|.set i _=>!C.contains i|.own i _=>!C.contains i|.ife _ a b=>YJ C a&&YJ C b|.for_ x _ _ h=>x.ix.all (λi=>!C.contains i)&&YJ C h|.nil=>true|.expr _=>true|.ret _=>true|.tset y _=>y.all λi=>!C.contains i|.six _ _ _=>true|.sdf _ _=>true|.whl _ h=>YJ C h|.frz _ s=>YJ C s
section
variable{K:QE}{Γ:Ev}{Ψ:PEv}{E:XE}{O:XK}{F H D B F2 N:Hp}{S S1 P:Ft}{ρ A M:kA}{σ G R:St}{C J:LN}
theorem Sts.bind{L:LN}(s:Sts C J F H S ρ σ D B S1 A G)(b:Bd L D B S1 A G F2 N P M R)(v:∀j∈L,j∈J)(w:∀j∈L,j∉C):Sts C J F H S ρ σ F2 N P M R :=
 ⟨s.ff.trans b.ff,λx u e n=>b.hh x u (s.hh x u e n),λx e=>s.dm x (b.dm x e),λx e z=>by
  by_cases q:D x=none;exact .inr (s.dm x (b.fn x q z));exact s.fn x e q,λx u=>s.uu x (b.U u),λj t h e y=>by
  obtain⟨l,i,g⟩:=b.out j λz=>h (v j z);rw[l]at e;obtain⟨f,a,k⟩:=s.bo j t h e y;exact⟨f,i.trans a,g.trans k⟩,λj h=>(b.out j λz=>w j z h).2.2.trans (s.sg j h)⟩
theorem LX{g:Tg}{body:PEnds->kA->Prop}{tb:TS}{Z:PEnds}{o:Ends}{xs:List Item}{p:LT}{st:Hp->Prop}{Y:oB}
  (ib:∀{F H:Hp}{S:Ft}{ρ:kA}{σ:St}{Z:PEnds}{o:Ends},Rl K F H S ρ σ->nF K F H S ρ E O->body Z ρ->EndsOk K C F H S ρ σ Z o->tb o σ H)
  (I:Rl K F H S ρ σ) (X:nF K F H S ρ E O) (hC:∀j∈g.ix,j∉C) (pr:Paired (TZ K F H Y) xs p) (hy:∀b,Y b->¬ U ρ S b/\H b≠none/\F b=none) (hst:∀f k,Same F f->Same f k->(∀b,Y b->k b=H b)->st k) (h:yH body g Z p ρ)
  (onx:∀f k S' z w,Sts C g.ix F H S ρ σ f k S' z w->Rl K f k S' z w->Z.nx z->o.nx w k)
  (ort:∀v t W f k S' z w,Stc C F H S ρ σ f k S' z w->Rl K f k S' z w->Tr K f k true v t W->Held f k S' z W->(∀b,W b->H b=none∨U ρ S b)->Z.rt t z->o.rt v k):Lj K xs st g tb o σ H:=by
 intro J hJ;have len:=qK pr;have yk:∀{D B:Hp}{S1:Ft}{A:kA}{G:St},Sts C g.ix F H S ρ σ D B S1 A G->∀b,Y b->B b=H b/\D b=none:=λ{D B S1 A G} s b hb=>by
  obtain⟨n,d1,d2⟩:=hy b hb;refine⟨?_,?_⟩;cases e:H b with|none=>exact absurd e d1|some u=>exact s.hh b u e n
  by_cases q:D b=none
  ·exact q
  exact((s.fn b d2 q).elim n d1).elim
 refine⟨λi m w k=>i<=xs.length/\m=xs.length - i/\∃z f S',Sts C g.ix F H S ρ σ f k S' z w/\Rl K f k S' z w/\yH body g Z (p.drop i) z,⟨_,Q8 _,rfl,ρ,F,S,.refl,I,by simpa using h⟩,?_⟩;rintro i m G B ⟨hi,rfl,A,D,S1,L,I1,h1⟩;have hs:=hst D B L.ff I1.fh λb hb=>(yk L b hb).1;rcases QAr i xs.length with l|hge;refine .inr ⟨hJ.go i B hs l,λw k=>i+1<=xs.length/\∃z f S',Sts C g.ix F H S ρ σ f k S' z w/\Rl K f k S' z w/\yH body g Z (p.drop (i+1)) z,λw k ⟨a,b⟩=>⟨_,by omega,a,rfl,b⟩,λx N hyl=>?_⟩;obtain⟨it,hx,hm⟩:=hJ.yld i B x N hs l hyl;obtain⟨y,hd,ry⟩:=Paired.get_of pr hx;rw[hd]at h1;unfold yH at h1;have key:L3.bindI K g it G B λR N=>tb { o with nx:=λw k=>i+1<=xs.length/\∃z f S',Sts C g.ix F H S ρ σ f k S' z w/\Rl K f k S' z w/\yH body g Z (p.drop (i+1)) z,ct:=λw k=>i+1<=xs.length/\∃z f S',Sts C g.ix F H S ρ σ f k S' z w/\Rl K f k S' z w/\yH body g Z (p.drop (i+1)) z,bk:=o.nx } R N:=by
  refine IM I1 (λb hb u=>?_) (ry.mono L.ff (yk L)) h1 λM R F2 H3 P bd I2 h2=>?_;rcases L.uu b u with q|q
  ·exact(hy b hb).1 q
  exact(hy b hb).2.1 q;have s2:=L.bind bd (λj hj=>hj) hC;exact ib I2 (X.fromS s2) h2 ⟨λf k S' z w Q I' q=>⟨l,z,f,S',s2.trans Q,I',q⟩,λv t W f k S' z w Q I' r hw fr q=>ort v t W f k S' z w (s2.c.trans Q) I' r hw (Ms s2 fr) q,
   λf k S' z w Q I' q=>onx f k S' z w (s2.trans Q) I' q,λf k S' z w Q I' q=>⟨l,z,f,S',s2.trans Q,I',q⟩⟩
 exact jN hm key;have e:p.drop i=[]:=WT (by omega);rw[e]at h1;exact .inl ⟨hJ.stop i B hs hge,onx D B S1 A G L I1 h1⟩
theorem IF:∀(J:LN) (ρ:kA) (i:Nat) s,(kill J ρ)[i]?=some (some s)->ρ[i]?=some (some s)/\(i∈J->∀t,s=.ky t->t.isD=true)
 |[],ρ,i,s,h=>⟨h,λz=>by simp at z⟩|j::J,ρ,i,s,h=>by
  unfold kill at h;obtain⟨x,w⟩:=IF J _ i s h;rw[Wm]at x;by_cases e:j=i;subst e;simp only[reduceIte]at x;cases q:ρ[j]? with
  |none=>rw[q]at x;cases x|some o =>
   rw[q]at x;have x:nH o=some s:=by simpa using x
   cases o with
   |none=>cases x|some v =>
    cases v with
    |own t=>cases x;exact⟨rfl,λ_ u z=>by cases z⟩|ky t =>
     have x:(if t.isD=true then some (Sl.ky t) else none)=some s:=x;cases y:t.isD with|true=>rw[y,if_pos rfl]at x;cases x;exact⟨rfl,λ_ u z=>by cases z;exact y⟩|false=>rw[y]at x;simp at x
  simp only[e,if_false]at x;refine⟨by simpa using x,λm=>w ((QM.mp m).elim (λz=>absurd z.symm e) id)⟩
theorem JM:∀(J:LN) (ρ:kA),(kill J ρ).length=ρ.length
 |[],_=>rfl|j::J,ρ=>by unfold kill;rw[JM J];simp
theorem Sts.kill(s:Sts C J F H S ρ σ D B S1 A G):Sts C [] F H S ρ σ D B S1 (L3.kill J A) G :=
 ⟨s.ff,s.hh,s.dm,s.fn,λb ⟨i,t,y,x⟩=>s.uu b ⟨i,t,(IF J A i _ y).1,x⟩,λj t _ e h=>by obtain⟨y,x⟩:=IF J A j _ e;by_cases z:j∈J;rw[x z t rfl]at h;cases h;exact s.bo j t z y h,s.sg⟩
theorem YS:∀(L:LN) (ρ:kA) (j:Nat),(lock L ρ)[j]?=if j∈L then ρ[j]?.map JF else ρ[j]?
 |[],ρ,j=>by simp[lock]|i::L,ρ,j=>by
  have x:∀o,JF (JF o)=JF o:=λo=>by
   match o with
   |none=>rfl|some (.own _)=>rfl|some (.ky _)=>rfl
  unfold lock;rw[YS L,Wm];by_cases e:i=j;subst e;cases h:ρ[i]? with|none=>simp|some o=>simp[x]
  have y:¬ j=i:=λz=>e z.symm;simp[e,y]
theorem JS:∀(L:LN) (ρ:kA),(lock L ρ).length=ρ.length
 |[],_=>rfl|i::L,ρ=>by unfold lock;rw[JS L];simp
theorem UL:∀(L:LN) (x ρ:kA) (j:Nat),(∀i∈L,i<ρ.length)->(GC L x ρ)[j]?=if j∈L then some (x[j]?.getD none) else ρ[j]?
 |[],x,ρ,j,_=>by simp[GC]|i::L,x,ρ,j,h=>by unfold GC;rw[UL L x _ j (λk hk=>by simpa using h k (QC _ hk)),wB];by_cases e:i=j;subst e;simp[h i QD];have y:¬ j=i:=λz=>e z.symm;simp[e,y]
theorem VL:∀(L:LN) (h ρ:kA),(GC L h ρ).length=ρ.length
 |[],_,_=>rfl|i::L,h,ρ=>by unfold GC;rw[VL L];simp
theorem XH{ρ:kA}:∀(x:LN),∀i∈oC ρ x,∃t,ρ[i]?=some (some (.own t))
 |[],i,h=>by simp[oC]at h|j::x,i,h=>by
  unfold oC at h;split at h
  ·rename_i ho
   rcases QM.mp h with e|e
   ·subst e
    unfold gM at ho;split at ho;rename_i t e;exact⟨t,e⟩
    all_goals cases ho
   exact XH x i e
  exact XH x i h
theorem fM{ρ:kA}{i:Nat}{t:T}(h:ρ[i]?=some (some (.own t))):∀(x:LN),i∈x->i∈oC ρ x
 |[],hi=>by simp at hi|j::x,hi=>by
  unfold oC;rcases QM.mp hi with e|e;subst e;have:gM ρ[i]?=true:=by rw[h];rfl
  rw[if_pos this];exact QD;have:=fM h x e;split;exact QC _ this;exact this
section
variable{L:LN}(y:∀i∈L,∃t,ρ[i]?=some (some (.own t)))
include y
theorem BK{i:Nat}{s:Sl}(h:(lock L ρ)[i]?=some (some s)):(i∈L/\∃t,ρ[i]?=some (some (.own t))/\s=.ky t)∨(i∉L/\ρ[i]?=some (some s)):=by rw[YS]at h;by_cases x:i∈L;rw[if_pos x]at h;obtain⟨t,e⟩:=y i x;rw[e]at h;injection h with h;injection h with h;exact .inl ⟨x,t,e,h.symm⟩;rw[if_neg x]at h;exact .inr ⟨x,h⟩
theorem RE{b:Addr}(h:U (lock L ρ) S b):U ρ S b:=by
 obtain⟨i,t,x,z⟩:=h;rcases BK y x with⟨_,u,_,e⟩| ⟨_,x⟩
 cases e;exact⟨i,t,x,z⟩
theorem Rl.lock(I:Rl K F H S ρ σ):Rl K F H S (L3.lock L ρ) σ where
 fh:=I.fh
 len:=by rw[JS];exact I.len
 sl:=λi s e=>by
  rcases BK y e with⟨_,t,h,rfl⟩| ⟨_,h⟩
  obtain⟨v,u,x⟩:=I.sl i _ h;exact⟨v,u,x.weak⟩;exact I.sl i s h
 dj:=λi j t s n k w=>by
  rcases BK y k with⟨_,_,_,z⟩| ⟨_,u⟩
  cases z;rcases BK y w with⟨_,a,x,_⟩| ⟨_,x⟩
  ·exact I.dj i j t _ n u x
  exact I.dj i j t s n u x
theorem Rl.lockU(I:Rl K F H S ρ σ){i:Nat}(x:i∈L){b:Addr}(hb:S i b):¬ U (L3.lock L ρ) S b:=λ⟨j,t,h,v⟩=>by
 obtain⟨w,e⟩:=y i x;rcases BK y h with⟨_,_,_,z⟩| ⟨u,h⟩
 cases z;exact I.dj j i t _ (λz=>u (z▸x)) h e b v hb
theorem nY(I:Rl K F H S ρ σ)(s:Sts C [] F H S (lock L ρ) σ D B S1 A G)(W:Rl K D B S1 A G)(hl:∀i∈L,A[i]?=ρ[i]?.map JF) :
  ∃P,Rl K D B P (GC L ρ A) G/\Sts C [] F H S ρ σ D B P (GC L ρ A) G:=by
 classical
 have l1:∀i∈L,∃t,ρ[i]?=some (some (.own t))/\A[i]?=some (some (.ky t)):=λi h=>by obtain⟨t,e⟩:=y i h;have:=hl i h;rw[e]at this;exact⟨t,e,this⟩
 have hlt:∀i∈L,i<A.length:=λi h=>by obtain⟨t,_,e⟩:=l1 i h;exact(Qh.mp e).1
 let P:Ft:=λi=>if i∈L then S i else S1 i
 have l:∀i∈L,P i=S i:=λi h=>if_pos h;have g:∀i,i∉L->P i=S1 i:=λi h=>if_neg h;have get:∀i a,(GC L ρ A)[i]?=some (some a)->(i∈L/\∃t,ρ[i]?=some (some (.own t))/\A[i]?=some (some (.ky t))/\a=.own t)∨(i∉L/\A[i]?=some (some a)):=λi a e=>by rw[UL L ρ A i hlt]at e;by_cases h:i∈L;rw[if_pos h]at e;obtain⟨t,f,Y⟩:=l1 i h;rw[f]at e;injection e with e;have e:some (Sl.own t)=some a:=e;injection e with e;exact .inl ⟨h,t,f,Y,e.symm⟩;rw[if_neg h]at e;exact .inr ⟨h,e⟩
 have Q:∀i∈L,∀k a,k∉L->A[k]?=some (some a)->∀b,S i b->¬ S1 k b:=λi h k a hk e b hb z=>by
  obtain⟨t,f,_⟩:=l1 i h;cases a with
  |own u=>rcases s.uu b ⟨k,u,e,z⟩ with q|q;exact I.lockU y h hb q;exact(I.dom f hb).1 q
  |ky u =>
   cases o:u.isD with
   |true=>exact W.isD e o z|false =>
    obtain⟨m,p,_⟩:=s.bo k u (by simp) e o;rw[p]at z;rcases BK y m with⟨q,_⟩| ⟨_,m⟩
    exact hk q;exact I.dj i k t _ (λq=>hk (q▸h)) f m b hb z
 refine⟨P,⟨W.fh,by rw[VL];exact W.len,λi a e=>?_,λi k t a n f Y b hb hk=>?_⟩,⟨s.ff,λb u e n=>s.hh b u e λz=>n (RE y z),s.dm,λb e z=>(s.fn b e z).imp (RE y) id,λb ⟨i,t,h1,h2⟩=>?_,λj t _ e o=>?_,s.sg⟩⟩;rcases get i a e with⟨h,t,f,Y,rfl⟩| ⟨h,f⟩
 ·rw[l i h]
  obtain⟨v,m,p⟩:=I.sl i _ f;cases o:t.isD with
  |true =>
   obtain⟨v',g3,g4⟩:=W.sl i _ Y;refine⟨v',g3,?_⟩;have nb:∀b,¬ S i b:=λb=>I.isD f o;cases t with
   |d x =>
    have g4:Tr K D B false v' (.d x) (S1 i):=g4;cases g4 with|d r _=>exact .d r nb
   |_=>cases o
  |false =>
   obtain⟨_,_,g5⟩:=s.bo i t (by simp) Y o;refine⟨v,g5.trans m,?_⟩;have p:Tr K F H true v t (S i):=p;refine p.mono s.ff λb hb=>?_;obtain⟨d1,d2⟩:=p.dom b hb;have nu:=I.lockU y h hb;refine⟨?_,?_⟩;cases eb:H b with|none=>exact absurd eb d1|some u=>exact s.hh b u eb nu
   by_cases q:D b=none
   ·exact q
   exact((s.fn b d2 q).elim nu d1).elim
 rw[g i h];exact W.sl i a f;rcases get i _ f with⟨h,t',X,a2,_⟩| ⟨h,X⟩
 ·rw[l i h]at hb
  rcases get k a Y with⟨w,t2,Z,b2,_⟩| ⟨w,Z⟩
  rw[l k w]at hk;exact I.dj i k t' _ n X Z b hb hk;rw[g k w]at hk;exact Q i h k a w Z b hb hk
 rw[g i h]at hb;rcases get k a Y with⟨w,t2,Z,b2,_⟩| ⟨w,Z⟩
 rw[l k w]at hk;exact Q k w i _ h X b hk hb;rw[g k w]at hk;exact W.dj i k t a n X Z b hb hk;rcases get i _ h1 with⟨h,t',X,a2,_⟩| ⟨h,X⟩
 ·rw[l i h]at h2
  exact .inl ⟨i,t',X,h2⟩
 rw[g i h]at h2;exact(s.uu b ⟨i,t,X,h2⟩).imp (RE y) id;rcases get j _ e with⟨_,_,_,_,z⟩| ⟨hj,f⟩
 ·cases z
 obtain⟨m,p,g3⟩:=s.bo j t (by simp) f o;rcases BK y m with⟨q,_⟩| ⟨_,m⟩
 exact absurd q hj;exact⟨m,(g j hj).trans p,g3⟩
end
theorem kQ{i:Nat}(h:(!C.contains i)=true):i∉C:=λz=>by have:C.contains i=true:=qE.mpr z;rw[this]at h;cases h
theorem dS{x:LN}(h:(x.all λi=>!C.contains i)=true):∀i∈x,i∉C:=λi y=>kQ (Qy.mp h i y)
theorem zY:∀{xs:List (T×Bool)},kR xs=true->∀t∈HN xs,t.isD=true
 |[],_,t,h=>by simp[HN]at h|p::r,h,t,y=>by
  simp only[kR,Qg]at h;simp only[HN,QM]at y;rcases y with rfl|y;obtain⟨x,n⟩:=p;cases n with
  |true=>rfl|false =>
   have z:=h.1;cases x with|d x=>rfl|_=>cases z
  exact zY h.2 t y
theorem Tn.bare{Y:oB}{vs:LV}{ts:LT}(h:Tn K F H Y vs ts):(∀t∈ts,t.isD=true)->Tn K F H (λ_=>False) vs ts:=by
 induction h with
 |nil=>exact λ_=>.nil|@cons v t vs ts Z r z a w =>
  intro y;refine .cons (Z:=λ_=>False) ?_ (λ_ z=>z) (w λu k=>y u (QC _ k));have y:=y t QD;cases t with
  |d x=>cases r with|d q _=>exact .d q λ_ z=>z
  |_=>cases y
theorem y3{v:V}{t:T}{W:oB}{Z:PEnds}{h:Ends}(ok:EndsOk K C F H S ρ σ Z h)(s:Ste F H S ρ D B S1 A)(I:Rl K D B S1 A σ)(r:Tr K D B true v t W)(x:Held D B S1 A W)(fr:∀b,W b->H b=none∨U ρ S b)(q:Z.rt t A):h.rt v B :=
 ok.rt v t W D B S1 A σ (s.toStp.sts (J:=[])).c I r x fr q
theorem G8(g:GOk K Γ Ψ):∀(e:PX) {F H:Hp}{S:Ft}{ρ:kA}{σ:St}{Z:PEnds}{k:Ends},Rl K F H S ρ σ->nF K F H S ρ E O->PK Ψ E Z.rt e ρ->EndsOk K C F H S ρ σ Z k->(wp K Γ e O).e σ H k.rt:=by
  intro e F H S ρ σ Z k I X h ok;have f:∀e,(pe Ψ e E).e ρ (λx n A=>oH x n=true/\Z.rt x A)->(wp K Γ e O).e σ H k.rt:=λe h=>by refine(AA g e).e (Q:=λx n A=>oH x n=true/\Z.rt x A) I X h λv F' H' S' l x n Za s J r ⟨Y,q⟩=>?_;obtain⟨W,m,o,fr⟩:=r.strict Y;exact y3 ok s J m o fr q
  cases e with
  |xz i =>
   have y:jr ρ i Z.rt ρ[i]?:=h;show(match σ[i]? with|some (some v)=>k.rt v _|_=>False)
   match a:ρ[i]?,y with
   |some (some (.own t)),y =>
    obtain⟨v,w,r⟩:=I.sl i _ a;rw[w];have I0:Rl K F H S (ρ.set i none) σ:=I.drop (by simp) λj s e=>by
     rcases gA e with⟨_,z,_⟩| ⟨_,e⟩
     cases z;exact e
    refine ok.rt v t (S i) F H S (ρ.set i none) σ ⟨.refl _,λb u e _=>e,λb e=>e,λb e z=>absurd e z,λb ⟨j,u,w,L⟩=>.inl ?_,λ_ _=>rfl⟩ I0 r ⟨r.dom,λj s e b hb z=>?_⟩ (λb hb=>.inr ⟨i,t,a,hb⟩) y;rcases gA w with⟨_,z,_⟩| ⟨_,w⟩
    ·cases z
    exact⟨j,u,w,L⟩;rcases gA e with⟨_,q,_⟩| ⟨n,e⟩
    ·cases q
    exact I.dj i j t s n a e b hb z
   |some (some (.ky t)),y =>
    obtain⟨v,w,r⟩:=I.sl i _ a;rw[w];obtain⟨p,y⟩:=y;cases t with
    |d x =>
     have r:Tr K F H false v (.d x) (S i):=r;cases r with|d q n=>exact y3 (W:=λ_=>False) ok .refl I (.d q λ_ z=>z) .none (λ_ z=>z.elim) y
    |_=>cases p
   |some none,y=>exact y.elim|none,y=>exact y.elim
  |_=>exact f _ h
theorem nI(g:GOk K Γ Ψ):∀(p:PT) {F H:Hp}{S:Ft}{ρ:kA}{σ:St}{Z:PEnds}{Dn:Ends},YJ C p=true->Rl K F H S ρ σ->nF K F H S ρ E O->cB Ψ E p Z ρ->EndsOk K C F H S ρ σ Z Dn->nR K Γ O p Dn σ H
 | .nil,_,_,_,_,_,_,_,c,I,X,h,ok=>ok.nx _ _ _ _ _ .refl I h|.seq s r,_,_,_,_,_,_,_,c,I,X,h,ok=>by obtain⟨c1,c2⟩:=zA c;exact nI g s c1 I X h ⟨λF' H' S' L σ' s' J q=>nI g r c2 J (X.fromS s') q (ok.from s'),ok.rt,ok.bk,ok.ct⟩|.set i e,F,H,S,ρ,σ,Z,Dn,c,I,X,h,ok=>by have hi:=kQ c;refine aF (RR:=λx B=>Dn.nx (σ.set i (some x)) B) (AA g e) I X h λv F' H' S' L x n Za s J X' r er _ ⟨he,q⟩=>?_;exact ok.nx _ _ _ _ _ (s.toStp.sts.setD i hi v rfl _) (J.setD i (er he)) q|.expr e,F,H,S,ρ,σ,Z,Dn,c,I,X,h,ok=>(AA g e).e I X h λv F' H' S' L x n Za s J r q=>ok.nx _ _ _ _ _ s.toStp.sts J q|.ret e,F,H,S,ρ,σ,Z,Dn,c,I,X,h,ok=>G8 g e I X h ok|.ife t a b,F,H,S,ρ,σ,Z,Dn,c,I,X,h,ok=>by
  obtain⟨c1,c2⟩:=zA c;refine(AA g t).t I X h λk F' H' S' L s J q=>?_;cases k with|true=>exact nI g a c1 J (X.from s.toStp) q (ok.from s.toStp.sts)|false=>exact nI g b c2 J (X.from s.toStp) q (ok.from s.toStp.sts)
 | .for_ tg ik its body,F,H,S,ρ,σ,Z,Dn,c,I,X,h,ok=>by
  obtain⟨c1,c2⟩:=zA c;have hC:=dS c1;refine dW (RR:=λvs B=>VC K ik vs B λxs st N=>Lj K xs st tg (nR K Γ O body) Dn σ N) (AA g its) I X h λvs D B S1 A xs Y s1 I1 X1 tn tm q=>?_;rw[iL _ rfl]at q;have ok1:=ok.from s1.toStp.sts;cases ha:kR xs with
  |true=>have tn':=tn.bare (zY ha);refine UJ I1.fh tn' q λits ys st pr hst hc=>?_;rw[ha,if_pos rfl]at hc;refine LX (λI X h ok=>nI g body c2 I X h ok) I1 X1 hC pr (λb z=>z.elim) hst hc ?_ ?_;exact λF' H' S' L σ' s' I' q=>ok1.nx _ _ _ _ _ s'.kill (I'.drop (JM _ _) λi sl e=>(IF _ _ i sl e).1) q;exact λv t W F' H' S' L σ' s' I' r hw fr q=>ok1.rt v t W F' H' S' L σ' s' I' r hw fr q|false =>
   refine UJ I1.fh tn q λits' ys st pr hst hc=>?_;rw[ha,if_neg (by simp)]at hc;have hL:=XH (ρ:=A) (AG its);have IL:=I1.lock hL;have sL:Sts C [] D B S1 A σ D B (λ_ _=>False) [] σ:=⟨.refl _,λb u e _=>e,λb e=>e,λb e z=>absurd e z,λb ⟨i,t,e,_⟩=>by simp at e,λj t _ e=>by simp at e,λ_ _=>rfl⟩
   have XL:nF K D B S1 (lock (oC A (AG its)) A) E O:=λx dx F2 N P M s2 f r q =>
    X1 x dx F2 N (λ_ _=>False) [] ⟨s2.ff,λb u e n=>s2.hh b u e λz=>n (RE hL z),s2.dm,λb e z=>(s2.fn b e z).imp (RE hL) id,λb ⟨i,t,e,_⟩=>by simp at e,λj t e=>by simp at e⟩ f r q
   refine LX (λI X h ok=>nI g body c2 I X h ok) IL XL hC pr (λb hb=>?_) hst hc ?_ ?_;obtain⟨i,sl,h1,h2,h3⟩:=tm b hb;refine⟨λu=>?_,I1.dom h2 h3⟩;cases sl with
   |own t=>exact I1.lockU hL (fM h2 _ h1) h3 u|ky t =>
    obtain⟨j,t',e1,e2⟩:=u;rcases BK hL e1 with⟨_,_,_,z⟩| ⟨_,e1⟩
    cases z;exact I1.dj j i t' _ (λz=>by subst z;rw[h2]at e1;cases e1) e1 h2 b e2 h3
   intro F' H' S' L σ' s' I' ⟨q1,q2⟩;have sk:=s'.kill;have Ik:=I'.drop (JM tg.ix L) λi sl e=>(IF _ _ i sl e).1;obtain⟨P,I2,s2⟩:=nY hL I1 sk Ik λi hi=>(q1 i hi).2;exact ok1.nx _ _ _ _ _ s2 I2 q2;intro v t W F' H' S' L σ' s' I' r hw fr q;exact ok1.rt v t W F' H' S' L σ' ⟨s'.ff,λb u e n=>s'.hh b u e λz=>n (RE hL z),s'.dm,λb e z=>(s'.fn b e z).imp (RE hL) id,λb u=>(s'.uu b u).imp (RE hL) id,s'.sg⟩ I' r hw (λb hb=>(fr b hb).imp id (RE hL)) q
 | .own i e,F,H,S,ρ,σ,Z,Dn,c,I,X,h,ok=>by refine(AA g e).e (Q:=λx n A=>oH x n=true/\Z.nx (A.set i (some (.own x)))) I X h λv F' H' S' L x n Za s J r ⟨he,q⟩=>?_;obtain⟨W,r2,hw,fr⟩:=r.strict he;exact ok.nx _ _ _ _ _ (s.toStp.sts.setN i (kQ c) v x fr) (J.setN i r2 λj sl _ e b hb=>hw.nw j sl e b hb) q|.tset is e,F,H,S,ρ,σ,Z,Dn,c,I,X,h,ok=>by
  have hc:=dS c;refine aF (RR:=λx B=>tE K (.tp is) x σ B Dn.nx) (AA g e) I X h λv F' H' S' L x n Za s J X' r er _ ⟨he,q⟩=>?_;have q2:DK (.tp is) (.d x.er) L λM=>Z.nx M/\∀(j:Nat) t,M[j]?=some (some (.ky t))->t.isD=false->j∉is:=by
   generalize x.er=d at q;cases d with
   |tuple ds=>obtain⟨M,e,q⟩:=q;exact⟨M,e,q,λj t h1 h2=>(lO is ds e j t h1 h2).1⟩|dict kvs =>
    have q:(match DB kvs with | .tp ts=>∃M,aB is ts L=some M/\Z.nx M|_=>False):=q;unfold DB at q;cases ek:yD kvs with|none=>rw[ek]at q;exact q.elim|some b=>rw[ek]at q;exact q.elim
   |_=>exact q.elim
  refine IM (Y:=λ_=>False) (it:=.one v) J (λb z=>z.elim) ⟨λ_=>False,.d (er he) λ_ z=>z,λ_ z=>z⟩ q2 λM R F2 N P bd J2 qn=>?_;have st:=(s.toStp.sts (σ:=σ) (C:=C) (J:=is)).bind bd (λj hj=>hj) hc;exact ok.nx _ _ _ _ _ ⟨st.ff,st.hh,st.dm,st.fn,st.uu,λj t _ e hd=>st.bo j t (qn.2 j t e hd) e hd,st.sg⟩ J2 qn.1
 | .six o i e,F,H,S,ρ,σ,Z,Dn,c,I,X,h,ok=>by
  have later:∀{j:Nat}{t:T}{v0:V},ρ[j]?=some (some (.own t))->Tr K F H true v0 t (S j)->∀{F' H':Hp}{S':Ft}{L:kA},Ste F H S (ρ.set j (some (.ky t))) F' H' S' L->Tr K F' H' true v0 t (S j)/\∀b,S j b->H' b=H b:=λ{j t v0} hj r0 {F' H' S' L} s=>⟨s.toStp.keep r0 (I.lock1U hj),λb hb=>by
   cases e:H b with|none=>exact absurd e (r0.dom b hb).1|some u=>exact s.hh b u e (I.lock1U hj b hb)⟩
  cases o with
  |xz j =>
   have h:uD ρ[j]? _:=h;unfold uD at h;split at h;rename_i t hj;obtain⟨v0,hv,r0⟩:=I.sl j _ hj;have r0:Tr K F H true v0 t (S j):=r0;show(wp K Γ e O).e σ H λv B=>(wp K Γ (.xz j) O).e σ B λov N=>(wp K Γ i O).e σ N λiv H3=>GR K ov iv v H3 λH4=>Dn.nx σ H4;refine aF (AA g e) (I.lock1 hj) (X.lock1 hj) h λxv D B S1 A x n Zx s1 I1 X1 _ er1 _ ⟨he,q1⟩=>?_;have rx:=er1 he;show(match σ[j]? with|some (some v)=>_|_=>False);rw[hv];refine aF (AA g i) I1 X1 q1 λiv F2 N P M y m Zy s2 I2 X2 _ er2 _ ⟨he2,hj2,q2⟩=>?_;have s12:=s1.trans s2;refine E1 I2.fh (later hj r0 s12).1 (er2 he2) (rx.mono s2.ff) q2 λt' H3 S3 hh dm rt sub q=>?_;obtain⟨st,I3,_⟩:=lI (W:=λ_=>False) I hj hv s12 I2 hh dm rt (λb hb=>.inl (sub b hb)) .none (λ_ z=>z.elim);exact ok.nx _ _ _ _ _ st.toStp.sts I3 q
   all_goals exact h.elim
  |idx a k =>
   cases a with
   |xz j =>
    have h:uD ρ[j]? _:=h;unfold uD at h;split at h;rename_i t hj;obtain⟨v0,hv,r0⟩:=I.sl j _ hj;have r0:Tr K F H true v0 t (S j):=r0;show(wp K Γ e O).e σ H λv B=>(wp K Γ (.xz j) O).e σ B λov N=>(wp K Γ k O).e σ N λzv H3=>VY K ov zv H3 λow H4=>(wp K Γ i O).e σ H4 λiv H5=>GR K ow iv v H5 λH6=>Dn.nx σ H6;refine aF (AA g e) (I.lock1 hj) (X.lock1 hj) h λxv D B S1 A x n Zx s1 I1 X1 _ er1 _ ⟨he,q1⟩=>?_;have rx:=er1 he;show(match σ[j]? with|some (some v)=>_|_=>False);rw[hv];refine aF (AA g k) I1 X1 q1 λzv F2 N P M z l Zz s2 I2 X2 _ er2 _ ⟨hez,b,ks,ts,n,s,et,hk,hf,ht,q2⟩=>?_;have s12:=s1.trans s2;have rz:=er2 hez;subst et;obtain⟨r2,k2⟩:=later hj r0 s12;obtain⟨a,o,vs,ea,ho,dk,hw⟩:∃a o vs,v0=.ref a/\N a=some o/\bK K F2 b o ks vs/\∃w,vs[n]?=some w/\S j a:=by
     cases r2 with|dct h1 dk h2 h3 h4 h5=>obtain⟨w,_,g1,_⟩:=h3.get ht;exact⟨_,_,_,rfl,h1,dk,w,g1,(h5 _).mpr (.inl rfl)⟩
    obtain⟨w,hw,sa⟩:=hw;subst ea;have gd:=(dk.mono I2.fh).get ho (rz.mono I2.fh) hk;rw[hf]at gd;have gd:uR K N a zv (vs[n]?):=gd;rw[hw]at gd;have fin:(wp K Γ i O).e σ N λiv H5=>GR K w iv xv H5 λH6=>Dn.nx σ H6:=by
     refine aF (AA g i) I2 X2 q2 λiv F3 H3 S3 ρ3 y m Zy s3 I3 X3 _ er3 _ ⟨he3,hj3,q3⟩=>?_;have s13:=s12.trans s3;obtain⟨r3,k3⟩:=later hj r0 s13;have ho3:H3 a=some o:=by rw[k3 a sa,<- k2 a sa];exact ho
     refine Y8 I3.fh r3 ho3 dk hw ht (er3 he3) ((rx.mono s2.ff).mono s3.ff) q3 λt' H4 S4 hh dm rt sub q=>?_;obtain⟨st,I4,_⟩:=lI (W:=λ_=>False) I hj hv s13 I3 hh dm rt (λb hb=>.inl (sub b hb)) .none (λ_ z=>z.elim);exact ok.nx _ _ _ _ _ st.toStp.sts I4 q
    cases zv with|str z=>exact⟨w,gd,fin⟩|ref c=>exact⟨w,gd,fin⟩|_=>exact gd.elim
    all_goals exact h.elim
   |_=>exact h.elim
  |_=>exact h.elim
 | .sdf j k,F,H,S,ρ,σ,Z,Dn,c,I,X,h,ok=>by
  have h:uD ρ[j]? _:=h;unfold uD at h;split at h;rename_i t hj;obtain⟨v0,hv,r0⟩:=I.sl j _ hj;have r0:Tr K F H true v0 t (S j):=r0;obtain⟨hd,h⟩:=h;show(match σ[j]? with|some (some v)=>EZ K "dict" v H/\(wp K Γ k O).e σ H λx B=>∀p,B p=none->vL K v [x,.ref p] (BA B p (.dT 0 [])) λ_ N=>Dn.nx σ N|_=>False);rw[hv];constructor;cases r0 with
  |@dct _ b _ _ _ _ _ _ _ h1 dk _ _ _ _ =>
   cases b with|true=>obtain⟨ep,kvs,rfl,_⟩:=dk;exact .inr (.inr (.inl ⟨rfl,.inr ⟨ep,kvs,h1⟩⟩))|false=>cases hd
  |_=>cases hd
  refine aF (AA g k) (I.lock1 hj) (X.lock1 hj) h λiv D B S1 A y m Zy s1 I1 X1 _ er _ ⟨he,hj1,q1⟩=>?_;intro p hp;have r1:=s1.toStp.keep r0 (I.lock1U hj);refine cg I1.fh hp r1 (er he) q1 λt' H3 S3 hh dm rt sub q=>?_;obtain⟨st,I3,_⟩:=lI (W:=λ_=>False) I hj hv s1 I1 hh dm rt (λb hb=>(sub b hb).imp id λ(z:b=p)=>.inr (by rw[z];exact hp)) .none (λ_ z=>z.elim);exact ok.nx _ _ _ _ _ st.toStp.sts I3 q
  all_goals exact h.elim
 | .whl t body,F,H,S,ρ,σ,Z,Dn,c,I,X,h,ok=>by
  obtain⟨W,⟨m0,w0⟩,turn⟩:=h;refine⟨λm σ' H'=>∃L F' S',Sts C [] F H S ρ σ F' H' S' L σ'/\Rl K F' H' S' L σ'/\W m L,⟨m0,ρ,F,S,.refl,I,w0⟩,?_⟩;rintro m G B ⟨A,D,S1,s1,I1,w1⟩;refine(AA g t).t I1 (X.fromS s1) (turn m A w1) λk F' H' S' L s' J q=>?_;have s2:=s1.trans s'.toStp.sts;cases k with
  |false=>exact ok.nx _ _ _ _ _ s2 J q|true =>
   refine⟨λσ' H'=>∃m',m' < m/\∃L F' S',Sts C [] F H S ρ σ F' H' S' L σ'/\Rl K F' H' S' L σ'/\W m' L,λ_ _ z=>z,?_⟩;refine nI g body c J (X.fromS s2) q ⟨?_,?_,?_,?_⟩;exact λF' H' S' L σ' s' I' ⟨m',hm,w⟩=>⟨m',hm,L,F',S',s2.trans s',I',w⟩
   exact λv t W F' H' S' L σ' s' I' r hw fr q=>ok.rt v t W F' H' S' L σ' (s2.c.trans s') I' r hw (Ms s2 fr) q;exact λF' H' S' L σ' s' I' q=>ok.nx _ _ _ _ _ (s2.trans s') I' q;exact λF' H' S' L σ' s' I' ⟨m',hm,w⟩=>⟨m',hm,L,F',S',s2.trans s',I',w⟩
 | .frz is s,F,H,S,ρ,σ,Z,Dn,c,I,X,h,ok=>by obtain⟨F',S',I',s'⟩:=I.frzAt (C:=C) is;exact nI g s c I' (X.fromS s') h (ok.from s')
end
section
variable{z:Ev}{n:Need}
structure Need where
 fn:LS
 va:LS
 no:LS
noncomputable def Mr(n:Need):ItK->Bool
 | .val=>true|.rng1=>n.no.contains ("range":Str)|.enum=>n.no.contains ("enumerate":Str)|.itm=>true
noncomputable def sB(n:Need):PX->Bool
 | .glo x=>n.va.contains x|.bin _ a b | .cmp _ a b | .and a b | .or a b | .idx a b | .ny a b | .dsp a b=>sB n a&&sB n b
 | .not a | .lst a | .tup a=>sB n a
 | .slc a b c=>sB n a&&(sB n b&&sB n c)|.call f y=>n.fn.contains f&&sB n y|.bi f y=>n.no.contains f.nm&&sB n y|.mt _ o y=>sB n o&&sB n y|.comp _ _ _ w u h v=>Mr n w&&(sB n u&&(sB n h&&sB n v))|_=>true
noncomputable def NE(n:Need):PT->Bool
 | .seq s r=>NE n s&&NE n r|.set _ e=>sB n e|.own _ e=>sB n e|.expr e=>sB n e|.ret e=>sB n e|.ife c a b=>sB n c&&(NE n a&&NE n b)|.for_ _ y x h=>Mr n y&&(sB n x&&NE n h)|.tset _ e=>sB n e|.six o i e=>sB n o&&(sB n i&&sB n e)|.sdf i k=>sB n (Ol i k)|.whl c b=>sB n c&&NE n b|.frz _ s=>NE n s|.nil=>true
noncomputable def UQ(z:Ev)(n:Need):Glob:=⟨z,λf=>f∈n.fn,λx=>x∈n.va,λx=>x∈n.no⟩
theorem v6{x:ItK}(h:Mr n x=true):Xn (UQ z n) x:=by
 cases x with|val=>trivial|itm=>trivial|_=>exact qE.mp h
theorem MC:∀(p:PX),sB n p=true->uB (UQ z n) p:=by
 intro p;induction p with
 |glo x=>intro h;exact qE.mp h|bin _ a b y w|cmp _ a b y w|and a b y w|or a b y w|idx a b y w|ny a b y w|dsp a b y w=>intro h;obtain⟨v,u⟩:=zA h;exact⟨y v,w u⟩
 |not a y|lst a y|tup a y=>intro h;exact y h
 |slc a b c y w m=>intro h;obtain⟨v,e⟩:=zA h;obtain⟨u,k⟩:=zA e;exact⟨y v,w u,m k⟩|call f i y=>intro h;obtain⟨v,u⟩:=zA h;exact⟨qE.mp v,y u⟩|bi f i y=>intro h;obtain⟨v,u⟩:=zA h;exact⟨qE.mp v,y u⟩|mt _ o i l y=>intro h;obtain⟨v,u⟩:=zA h;exact⟨l v,y u⟩|comp _ _ _ Z j g Y s r q=>intro h;obtain⟨v,h⟩:=zA h;obtain⟨u,h⟩:=zA h;obtain⟨k,X⟩:=zA h;exact⟨v6 v,s u,r k,q X⟩|_=>intro _;trivial
theorem PY:∀(p:PT),NE n p=true->ME (UQ z n) p:=by
 intro p;induction p with
 |seq s r f l=>intro h;obtain⟨u,y⟩:=zA h;exact⟨f u,l y⟩|set _ e|own _ e|expr e|ret e|tset _ e=>intro h;exact MC _ h
 |six o i e=>intro h;obtain⟨u,x⟩:=zA h;obtain⟨y,w⟩:=zA x;exact⟨MC _ u,MC _ y,MC _ w⟩|sdf i k=>intro h;exact MC _ h|frz _ s f=>intro h;exact f h|whl c b v=>intro h;obtain⟨u,y⟩:=zA h;exact⟨MC _ u,v y⟩|ife c a b m v=>intro h;obtain⟨u,x⟩:=zA h;obtain⟨y,w⟩:=zA x;exact⟨MC _ u,m y,v w⟩|for_ _ q j g v=>intro h;obtain⟨u,x⟩:=zA h;obtain⟨y,w⟩:=zA x;exact⟨v6 u,MC _ y,v w⟩|_=>intro _;trivial
noncomputable def CM(N h:LS)(sc:Scope):Bool:=sc.kind==.function&&!sc.isCoroutine&&!sc.isGenerator&&JJ N&&N.take h.length==h &&
 h.all (λx=>sc.names.lookup x==some .local||sc.names.lookup x==some .cell)&&sc.names.all λy=>y.2 != .free
theorem IS{N x:LS}{sc:Scope}(h:CM N x sc=true):FnScope N x sc:=by simp only[CM,Qg,Qy,WL,beq_iff_eq,qB,bne_iff_ne,ne_eq]at h;obtain⟨⟨⟨⟨⟨⟨b,a⟩,k⟩,w⟩,v⟩,u⟩,y⟩:=h;exact⟨b,a,k,oE w,v,u,y⟩
noncomputable def dB(n:Need)(b:PT)(N h:LS)(st:Stmt):Bool:=CM N h (MA st)&&LQ b ⟨N,MA st⟩ (sC st)&&NE n b
def Lg:Md->T->Sl
 | .chg,t=>.own t|_,t=>.ky t
noncomputable def jE:List Md->LT->kA
 |_,[]=>[]|md,t::ts=>some (Lg (md.headD .xx) t)::jE md.tail ts
noncomputable def bB(N:LS)(md:List Md)(ts:LT):kA:=jE md ts++QAF (N.length - ts.length) none
noncomputable def BB:Nat->List Md->Nat->LN
 |_,_,0=>[]|k,md,n+1=>match md.headD .xx with
  | .chg=>k::BB (k+1) md.tail n|_=>BB (k+1) md.tail n
noncomputable def LU:Option (LT)->(LT->Prop)->Prop
 |some os,Q=>Q os|none,_=>False
noncomputable def vD(P:PSp)(n:Nat)(Q:T->LT->Prop):PEnds where
 nx:=λh=>LU (CA (BB 0 P.md n) h) (Q (.d .none))
 rt:=λt h=>LU (CA (BB 0 P.md n) h) (Q t)
abbrev gw(Ψ:PEv)(b:PT)(p:PSp)(N h:LS)(ds:LT)(Q:T->LT->Prop):Prop:=ds.length=h.length/\pF Ψ b (vD p h.length Q) (bB N p.md ds)
abbrev XF(Ψ:PEv)(b:PT)(p:PSp)(N x:LS):Prop:=∀(h:LT) (Q:T->LT->Prop) (E:XE),p.run h Q E->h.length=x.length/\pF Ψ b (vD p x.length Q) (bB N p.md h)
noncomputable def oU(mg:Str->Option Value)(x:Str):V:=((mg x).bind uN).getD .non
noncomputable def En(K:QE)(mg:Str->Option Value)(Ψ:PEv):Ev:=⟨λf=>lift K (Ψ.sp f),oU mg⟩
structure ValsOk(P:Program)(w:World)(K:QE)(mg:Str->Option Value)(Ψ:PEv)(va:LS):Prop where
 rep:∀x d,Ψ.va x=some d->∀F,Rep K F (oU mg x) d
 has:∀x∈va,∃u v,mg x=some u/\uN u=some v
theorem TW{u:Value}{v:V}(h:uN u=some v):YA v u:=by cases u<;>first | (obtain rfl:=Qv h;first|rfl|exact⟨_,rfl⟩)|exact nomatch (show(none:Option V)=some v from h)
end
section
variable{P:Program}{w:World}{K:QE}{mg:Str->Option Value}{base:Heap}{Ψ:PEv}
section
variable{k:Nat}{F H:Hp}{Y M:oB}{md:List Md}{vs:LV}{ts:LT}{N l:LS}{R:PSp}{x o:Str}{st:Stmt}{f:Addr}{p:FuncData}{n:Need}
def KG(P:Program)(w:World)(K:QE)(mg:Str->Option Value)(base:Heap)(Ψ:PEv)(k:Nat)(f:Str):Prop :=
 ∃(a:Addr) (p:FuncData) (l:LS),FnOk P w K mg base B0 k a p l (lift K (Ψ.sp f))/\mg f=some (.ref a)/\wM K (.ref a)=true/\fJ K p l []
theorem KG.mono{j:Nat}{f:Str}(h:KG P w K mg base Ψ j f)(hk:j<=k):KG P w K mg base Ψ k f:=by obtain⟨a,p,l,z,y⟩:=h;exact⟨a,p,l,z.mono hk,y⟩
theorem ArgsR.length(h:ArgsR K F H Y md vs ts):vs.length=ts.length:=by
 induction h with|nil=>rfl|chg _ _ e=>exact congrArg Nat.succ e|rd _ _ _ _ e=>exact congrArg Nat.succ e
theorem sI:∀(m:List Md) (ts:LT),(jE m ts).length=ts.length
 |_,[]=>rfl|m,d::ds=>by unfold jE;rw[QL,QL,sI]
theorem v4{m:Md}(h:m≠.chg)(t:T):Lg m t=.ky t:=by cases m<;>first|rfl|exact absurd rfl h
theorem UH(md:List Md)(v:V)(vs:LV):lB md (v::vs)=match md.headD .xx with | .chg=>v::lB md.tail vs|_=>lB md.tail vs:=by first | (rw[lB];done) | (rw[lB];cases md.headD .xx<;>rfl)
theorem tM(md:List Md)(v:T)(vs:LT):LB md (v::vs)=match md.headD .xx with | .chg=>v::LB md.tail vs|_=>LB md.tail vs:=by first | (rw[LB];done) | (rw[LB];cases md.headD .xx<;>rfl)
theorem aO(md:List Md)(t:T)(ts:LT):jE md (t::ts)=some (Lg (md.headD .xx) t)::jE md.tail ts:=by rw[jE]
theorem Tb(h:ArgsR K F H Y md vs ts)(r:Trs K F H true (lB md vs) (LB md ts) M) :
  ∃Z:Ft,(∀(i:Nat) s,(jE md ts)[i]?=some (some s)->∃v,vs[i]?=some v/\Tr K F H s.st v s.t (Z i))/\(∀(i:Nat) t,(jE md ts)[i]?=some (some (.own t))->∀b,Z i b->M b)/\(∀(i:Nat) t,(jE md ts)[i]?=some (some (.ky t))->∀b,Z i b->Y b) /\
   ∀(i j:Nat) t u,i≠j->(jE md ts)[i]?=some (some (.own t))->(jE md ts)[j]?=some (some (.own u))->∀b,Z i b->¬ Z j b:=by
 induction h generalizing M with
 |nil=>exact⟨λ_ _=>False,λi s e=>by simp[jE]at e,λi t e=>by simp[jE]at e,λi t e=>by simp[jE]at e,λi j t u _ e=>by simp[jE]at e⟩|@chg md v vs t ts a O A =>
  have J:lB md (v::vs)=v::lB md.tail vs:=by rw[UH,a]
  have I:LB md (t::ts)=t::LB md.tail ts:=by rw[tM,a]
  rw[J,I]at r;cases r with
  |@cons _ _ _ _ _ _ L Z2 W Q n q =>
   obtain⟨Z,E,g,C,B⟩:=A Q;have G:jE md (t::ts)=some (.own t)::jE md.tail ts:=by rw[aO,a];rfl
   rw[G];refine⟨λi=>match i with|0=>L|i+1=>Z i,λi s e=>?_,λi u e b hb=>?_,λi u e b hb=>?_,λi j u w X e m b hb y=>?_⟩;cases i with|zero=>simp at e;subst e;exact⟨v,rfl,W⟩|succ i=>exact E i s (by simpa using e)
   cases i with|zero=>exact(q b).mpr (.inl hb)|succ i=>exact(q b).mpr (.inr (g i u (by simpa using e) b hb))
   cases i with|zero=>simp at e|succ i=>exact C i u (by simpa using e) b hb
   cases i with
   |zero =>
    cases j with|zero=>exact X rfl|succ j=>exact n b hb (g j w (by simpa using m) b y)
   |succ i =>
    cases j with|zero=>exact n b y (g i u (by simpa using e) b hb)|succ j=>exact B i j u w (λz=>X (by rw[z])) (by simpa using e) (by simpa using m) b hb y
 |@rd md v vs t ts L a W S O A =>
  have J:lB md (v::vs)=lB md.tail vs:=by rw[UH];cases e:md.headD .xx<;>first|exact absurd e a|rfl
  have I:LB md (t::ts)=LB md.tail ts:=by rw[tM];cases e:md.headD .xx<;>first|exact absurd e a|rfl
  rw[J,I]at r;obtain⟨Z,E,g,C,B⟩:=A r;have G:jE md (t::ts)=some (.ky t)::jE md.tail ts:=by rw[aO,v4 a]
  rw[G];refine⟨λi=>match i with|0=>L|i+1=>Z i,λi s e=>?_,λi u e b hb=>?_,λi u e b hb=>?_,λi j u w X e m b hb y=>?_⟩;cases i with|zero=>simp at e;subst e;exact⟨v,rfl,W⟩|succ i=>exact E i s (by simpa using e)
  cases i with|zero=>simp at e|succ i=>exact g i u (by simpa using e) b hb
  cases i with|zero=>exact S b hb|succ i=>exact C i u (by simpa using e) b hb
  cases i with
  |zero=>simp at e|succ i =>
   cases j with|zero=>simp at m|succ j=>exact B i j u w (λz=>X (by rw[z])) (by simpa using e) (by simpa using m) b hb y
theorem A1(f:Same F H)(h:ArgsR K F H Y md vs ts)(r:Trs K F H true (lB md vs) (LB md ts) M)(dj:∀b,Y b->¬ M b) :
  ∃S,Rl K F H S (bB N md ts) (rD N vs)/\∀b,U (bB N md ts) S b->M b:=by
 obtain⟨Z,A,a,W,X⟩:=Tb h r;have hl:=h.length;have get:∀(i:Nat) s,(bB N md ts)[i]?=some (some s)->(jE md ts)[i]?=some (some s):=λi s e=>by
  unfold bB at e;rcases QAr i ts.length with z|z
  ·rwa [qF (by rw[sI];exact z)]at e
  rw[qJ (by rw[sI];exact z),wX]at e;split at e<;>cases e
 refine⟨Z,⟨f,?_,λi s e=>?_,λi j t s n q m b hb y=>?_⟩,λb ⟨i,t,e,hb⟩=>a i t (get i _ e) b hb⟩;unfold bB rD;rw[QH,QH,sI,QA,qm,qm,hl];obtain⟨v,g,B⟩:=A i s (get i s e);refine⟨v,?_,B⟩;unfold rD;rw[qF (by rw[QA];exact(Qh.mp g).1),Qe,g];rfl;cases s with|own u=>exact X i j t u n (get i _ q) (get j _ m) b hb y|ky u=>exact dj b (W j u (get j _ m) b y) (a i t (get i _ q) b hb)
theorem LO:∀{md:List Md}{k n:Nat}{vs:LV}{σ:St},vs.length=n->(∀(i:Nat) v,vs[i]?=some v->σ[k+i]?=some (some v))->(lB md vs).map (λv=>some (some v))=(BB k md n).map λj=>σ[j]?
 |md,k,0,vs,σ,h,g=>by
  cases vs with|nil=>rfl|cons _ _=>cases h
 |md,k,n+1,vs,σ,h,g=>by
  cases vs with
  |nil=>cases h|cons v vs =>
   have y:=LO (md:=md.tail) (k:=k+1) (n:=n) (vs:=vs) (σ:=σ) (by simpa using h) λi w z=>by have:=g (i+1) w (by simpa using z);rw[show k+1+i=k+(i+1) by omega];exact this
   have u:=g 0 v rfl;rw[UH];unfold BB;cases e:md.headD .xx with|chg=>simp only[QV,y];rw[show σ[k]?=some (some v) from u]|_=>exact y
theorem SM:∀{md:List Md}{k n j:Nat},j∈BB k md n->k<=j
 |md,k,0,j,h=>by simp[BB]at h|md,k,n+1,j,h=>by
  unfold BB at h;cases e:md.headD .xx with
  |chg=>rw[e]at h;rcases QM.mp h with z|z;omega;have:=SM z;omega
  |_=>rw[e]at h;have:=SM h;omega
theorem oT:∀(md:List Md) (k n:Nat),(BB k md n).Nodup
 |md,k,0=>Qs|md,k,n+1=>by
  have h:=oT md.tail (k+1) n;unfold BB;cases e:md.headD .xx with|chg=>exact Qi.mpr ⟨λz=>by have:=SM z;omega,h⟩|_=>exact h
theorem e6{b:PT}(F:Fun K x o st f p)(fC:dB n b N l st=true)(hc:YJ (BB 0 R.md l.length) b=true)
  (fns:∀g∈n.fn,KG P w K mg base Ψ k g) (G:ValsOk P w K mg Ψ n.va) (nos:∀y∈n.no,mg y=none)
  (body:∀ts Q E,R.run ts Q E->ts.length=l.length/\pF Ψ b (vD R l.length Q) (bB N R.md ts)):FnOk P w K mg base B0 (k+1) f p l (lift K R):=by
 obtain⟨c12,c3⟩:=zA fC;obtain⟨c1,c2⟩:=zA c12;have S:=IS c1;refine F.ok S (λvs H Q E h=>?_) (λcdv A L s H vs Q E hr h=>?_);obtain⟨F',ts,M,Y,h1,h2,h3,h4,h5⟩:=h;rw[h2.length];exact(body ts _ _ h5).1;obtain⟨F',ts,M,Y,h1,h2,h3,h4,h5⟩:=h;have q:=(body ts _ _ h5).2;have hlen:=(body ts _ _ h5).1;have ok:OkS ((MV B0 P w K mg base N o (MA st) f cdv A L s H E).nox) ⟨N,MA st⟩ (UQ (En K mg Ψ) n) E0:={
  N:=rfl
  sc:=rfl
  calm:=rfl
  un:=by have:=hr.un;show(A.deeper _).units+66<cLine;omega
  fn:=λg hg=>by obtain⟨a,gd,gps,g1,g2,g3,g4⟩:=fns g hg;exact⟨B0,k,a,gd,gps,g1,hr,g2,g3,g4,im,λ_ _ _ _ _ z=>z⟩
  val:=λy hy=>by obtain⟨u,v,e1,e2⟩:=G.has y hy;refine⟨u,e1,?_⟩;show YA (oU mg y) u;unfold oU;rw[e1];show YA ((uN u).getD .non) u;rw[e2];exact TW e2
  no:=λy hy=>nos y hy
  po:=PassesOwn.never
  nd:=S.nd
  cel:=λ_=>rfl }
 refine⟨_,(Lq b ok c2 (PY b c3)).1,?_⟩;obtain⟨S0,I,hU⟩:=A1 (N:=N) h1 h2 h3 h4;have g:GOk K (En K mg Ψ) Ψ:=⟨λ_ _ _ _ _ h=>h,λy d e F=>G.rep y d e F⟩
 have hvl:vs.length=l.length:=h2.length.trans hlen;have fin:∀v t W C B J m X,Stc (BB 0 R.md l.length) F' H S0 (bB N R.md ts) (rD N vs) C B J m X->Rl K C B J m X->Tr K C B true v t W->Held C B J m W->(∀b,W b->H b=none∨U (bB N R.md ts) S0 b) ->
   LU (CA (BB 0 R.md l.length) m) (λos=>∀v F3 H3 Z M',Frm M F' H F3 H3->Tr K F3 H3 true v t Z->Trs K F3 H3 true (lB R.md vs) os M'->(∀b,Z b->¬ M' b)->(∀b,Z b∨M' b->M b∨H b=none)->Q v H3)->Q v B:=by
  intro v t W C B J m X s I2 r hw fr q;cases eo:CA (BB 0 R.md l.length) m with
  |none=>rw[eo]at q;exact q.elim|some os =>
   rw[eo]at q;have hv:(lB R.md vs).map (λv=>some (some v))=(BB 0 R.md l.length).map λj=>X[j]?:=by rw[LO (md:=R.md) (k:=0) (n:=l.length) (vs:=vs) (σ:=rD N vs) hvl λi w hw=>?_];exact wF λj O=>(s.sg j O).symm;unfold rD;rw[Wc,qF (by rw[QA];exact(Qh.mp hw).1),Qe,hw];rfl
   have trs:=I2.trs (oT _ _ _) eo hv;have own:∀j∈BB 0 R.md l.length,∃t,m[j]?=some (some (.own t)):=λj O=>by obtain⟨i,hi⟩:=Wi.mp O;obtain⟨t,_,e⟩:=(LD eo).2 i j hi;exact⟨t,e⟩
   have lk:∀b,U (bB N R.md ts) S0 b∨H b=none->M b∨H b=none:=λb hb=>hb.imp (hU b) id;refine q v C B W _ ⟨s.ff,I2.fh,λb u e n=>s.hh b u e λz=>n (hU b z),s.dm,λb e z=>lk b (s.fn b e z)⟩ r trs (λb hb ⟨j,O,z⟩=>?_) λb hb=>?_;obtain⟨t',e⟩:=own j O;exact hw.nw j _ e b hb z;rcases hb with hb|⟨j,O,z⟩
   ·exact lk b (fr b hb).symm
   obtain⟨t',e⟩:=own j O;exact lk b (s.uu b ⟨j,t',e,z⟩)
 refine nI g b hc I (λ_ _ _ _ _ _ _ _ _ z=>z.elim) q ⟨?_,?_,λ_ _ _ _ _ _ _ z=>z.elim,λ_ _ _ _ _ _ _ z=>z.elim⟩;intro C B J m X s I2 q;exact fin .non (.d .none) (λ_=>False) C B J m X s.c I2 (.d .non λ_ z=>z) .none (λ_ z=>z.elim) q;intro v t W C B J m X s I2 r hw fr q;exact fin v t W C B J m X s I2 r hw fr q
theorem c6{h:PEv}{b:PT}(F:Fun K x o st f p)(a:mg x=some (.ref f))(hb:fJ K p l [])(fC:dB n b N l st=true)(hc:YJ (BB 0 R.md l.length) b=true)
  (v:∀g∈n.fn,KG P w K mg base Ψ k g) (z:ValsOk P w K mg Ψ n.va) (u:∀y∈n.no,mg y=none)
  (body:∀ts Q E,R.run ts Q E->ts.length=l.length/\pF Ψ b (vD R l.length Q) (bB N R.md ts)) (e:h.sp x=R):KG P w K mg base h (k+1) x :=
 ⟨f,p,l,by rw[e];exact e6 F fC hc v z u body,a,F.kp,hb⟩
end
end
noncomputable def yS:PSp where
 md:=[.xy]
 run:=λx Q _=>∃h:LJ,h.length<=63/\(∀n∈h,W0 n<=1048576)/\x=[.lst ((h.map Jy).map T.d)]/\Q (.d (.bool true)) []
def jk:PSp:=⟨[],λ_ _ _=>False,λ_ _ h=>h⟩
theorem mO{K:QE}{F:Hp}:∀(ns:LJ),Reps K F (ns.map V.int) (ns.map Jy)
 |[]=>.nil|n::r=>.cons (.int n) (mO r)
theorem OL{K:QE}{F:Hp}:∀(ns:LS),Reps K F (ns.map V.str) (ns.map Jx)
 |[]=>.nil|n::r=>.cons (.str n) (OL r)
theorem Gh(K:QE)(H:Hp)(a:Addr)(ns:LJ)(hl:ns.length<=63)(h:∀n∈ns,W0 n<=1048576)(x:EC K H a (ns.map V.int)):lift K yS [.ref a] H (λv _=>v=.bl true) λ_ _ _=>False:=by
 refine⟨H,[.lst ((ns.map Jy).map T.d)],λ_=>False,λ_=>False,.refl _,.rd (Z:=λ_=>False) (by simp[yS]) (.lstF x (mO ns) λ_ z=>z) (λ_ z=>z) .nil,.nil λ_ z=>z,λ_ z=>z.elim,ns,hl,h,rfl,λv w u Z y _ r _ _ _=>?_⟩;cases r with|d r _=>cases r;rfl
theorem mU{ns:LJ}:∀n∈ns,Wn (.int n)<=wZ (ns.map Ws.int):=by
 induction ns with|nil=>intro n h;cases h|cons m ns x=>intro n h;show _<=Wn (.int m)+1+wZ (ns.map Ws.int);rcases QM.mp h with rfl|h;omega;have:=x n h;omega
theorem Rb{ns:LJ}(h:Ws.layableAll [.list (ns.map .int)]=true):∀n∈ns,W0 n<=1048576:=by
 intro n z;have v:=(PySem.W.layableW_iff.mp (PySem.W.layableW_arg h _ QD)).2.2;have k:wZ (ns.map Ws.int)<=2 ^ 20:=v;have y:=mU n z;have u:Wn (.int n)=if n==0 then 0 else n.natAbs.log2+1:=rfl
 rw[PySem.intBits_le_iff];by_cases x:n=0;subst x;exact Nat.pow_pos (by decide);have:(n==0)=false:=by simpa using x
 rw[u,this]at y;have w:n.natAbs.log2+1<=1048576:=by have:n.natAbs.log2+1<=wZ (ns.map Ws.int):=y;omega
 exact(Nat.log2_lt (show n.natAbs≠0 by omega)).mp (by omega)
def fY(K:QE)(x:Str)(st:Stmt):Prop:=∃f h,qk K mainGlobals x=some (some (.ref f))/\Fun K x x st f h
def bN(K:QE)(x:Str)(d:D):Prop:=∃u v,qk K mainGlobals x=some (some u)/\uN u=some v/\∀F,Rep K F v d
theorem U1{K:QE}{x:Str}{f:Addr}{xs:LS}{v:Option Addr}{its:LW}{n:Nat}{z:Array (Option Value)}(a:qk K mainGlobals x=some (some (.ref f)))
  (l:K.lookup f=some ⟨.type "tuple",v,.seq its.toArray n,z⟩) (h:its.map uN=xs.map λy=>some (.str y)) (k:xs.length<=sizeLine):bN K x (.tuple (xs.map Jx)):=by
 refine⟨_,_,a,rfl,λF=>.tup (.inr ⟨_,its.toArray,n,l,rfl,rfl,?_,?_⟩) (OL xs)⟩;have:=congrArg wN h;simp at this;simp;omega;have key:∀(its:LW) (xs:LS),its.map uN=xs.map (λy=>some (.str y))->nA (xs.map V.str) its:=by
  intro its;induction its with
  |nil =>
   intro xs h;cases xs with|nil=>exact .nil|cons _ _=>simp at h
  |cons u its w =>
   intro xs h;cases xs with|nil=>simp at h|cons y xs=>simp only[QV,WO]at h;exact .cons (TW h.1) (w xs h.2)
 simpa using key its xs h
section
variable{P:Program}{w:World}{K:QE}{mg:Str->Option Value}{base h:Heap}{Ψ:PEv}
section
variable{x:Str}{st:Stmt}{z:LS}{k:Nat}
theorem bN.inMg(X:K.In h)(G:h.Ns mainGlobals mg){d:D}(v:bN K x d):(∀F,Rep K F (oU mg x) d)/\∃u v,mg x=some u/\uN u=some v:=by
 obtain⟨u,v,b,y,a⟩:=v;have e:=WP X G b;refine⟨λF=>?_,u,v,e,y⟩;have:oU mg x=v:=by unfold oU;rw[e];show(uN u).getD .non=v;rw[y];rfl
 rw[this];exact a F
theorem f6{R:PSp}{u:PEv}{N:LS}{b:PT}{n:Need}(X:K.In h)(G:h.Ns mainGlobals mg)(D:fY K x st)(fC:dB n b N z st=true)(hc:YJ (BB 0 R.md z.length) b=true)
  (hb:∀(kV j m:Value) (q:Option Addr) (l ct:Value) (us:LW),us.length=z.length->bindArgs (ql x x (dD st) (sC st) (MA st) .none kV j m q l ct) ⟨us,[]⟩=pure (z.zip us))
  (i:∀g∈n.fn,KG P w K mg base Ψ k g) (v:ValsOk P w K mg Ψ n.va) (e:∀y∈n.no,qk K mainGlobals y=some none)
  (body:∀ts Q E,R.run ts Q E->ts.length=z.length/\pF Ψ b (vD R z.length Q) (bB N R.md ts)) (p:u.sp x=R):KG P w K mg base u (k+1) x:=by
 obtain⟨f,r,a,F⟩:=D;exact c6 F (WP X G a) (F.binds hb) fC hc i v (λy o=>QAC X G (e y o)) body p
theorem Hh{j:Addr}(X:K.In h)(G:h.Ns mainGlobals mg)(D:fY K "law" st)(q:z=[x])(g:mg "law"=some (.ref j))(p:Ψ.sp "law"=yS)
  (hb:∀(kV v i:Value) (l:Option Addr) (b ct:Value) (us:LW),us.length=z.length->bindArgs (ql "law" "law" (dD st) (sC st) (MA st) .none kV v i l b ct) ⟨us,[]⟩=pure (z.zip us))
  (H:∀base:Heap,K.In base->base.Ns mainGlobals mg->∀f y,Fun K "law" "law" st f y->mg "law"=some (.ref f)->FnOk P w K mg base B0 k f y z (lift K (Ψ.sp "law"))) :
  ∃y:FuncData,(∀(s:Shared) (u:Value),BindsTo s y ⟨[u],[]⟩ [(x,u)])/\∀base:Heap,K.In base->base.Ns mainGlobals mg->FnOk P w K mg base B0 k j y [x] (lift K yS):=by
 obtain⟨f,y,a,F⟩:=D;have e:=g.symm.trans (WP X G a);cases e;subst q;refine⟨y,λs u=>?_,λbase o n=>?_⟩;obtain⟨Z,Y,kV,v,i,l,b,ct,m,rfl,lk,r⟩:=F.ex;exact .of_eq (hb kV v i l b ct [u] rfl);rw[<- p];exact H base o n j y F g
end
end
theorem nC{α:Type}{body:T->(Option T->Prop)->Prop}(g f:α->T):∀(l:List α) (h:LT) (Q:LT->Prop),(∀x∈l,∀R:Option T->Prop,R (some (f x))->body (g x) R)->h.length+l.length<=sizeLine->Q (h++l.map f)->JD body (l.map g) h Q
 |[],h,Q,_,hl,q=>by simp only[wJ,JD];exact⟨by simpa using hl,by simpa using q⟩|x::r,h,Q,hb,hl,q=>by simp only[QV,JD];refine hb x QD _ ?_;simp only[QL]at hl;refine⟨by omega,nC g f r _ Q (λy z=>hb y (QC _ z)) (by simp;omega) (by simpa using q)⟩
theorem bA{α:Type}{body:T->(Option T->Prop)->Prop}(g f:α->T)(p:α->Bool):∀(l:List α) (h:LT) (Q:LT->Prop),(∀x∈l,∀R:Option T->Prop,R (if p x=true then some (f x) else none)->body (g x) R)->h.length+l.length<=sizeLine->Q (h++(l.filter p).map f)->JD body (l.map g) h Q
 |[],h,Q,_,hl,q=>by simp only[wJ,JD];exact⟨by simpa using hl,by simpa using q⟩|x::r,h,Q,hb,hl,q=>by
  simp only[QV,JD];refine hb x QD _ ?_;simp only[QL]at hl;cases u:p x with|true=>refine⟨by omega,bA g f p r _ Q (λy z=>hb y (QC _ z)) (by simp;omega) ?_⟩;rw[WA,if_pos u]at q;simpa using q|false=>refine bA g f p r _ Q (λy z=>hb y (QC _ z)) (by omega) ?_;rw[WA,if_neg (by rw[u];simp)]at q;exact q
theorem EQ{α:Type}{xs:List α}{i:Int}(y:0<=i)(x:i<xs.length):∃v,pD xs i=some v/\xs[i.toNat]?=some v:=by
 have h:i.toNat<xs.length:=by omega
 have e:((i.toNat:Nat):Int)=i:=by omega
 have q:=gD (Qn h);rw[e]at q;exact⟨xs[i.toNat],q,Qn h⟩
theorem SD{α h:Type}(f:α->h)(xs:List α)(i:Int):pD (xs.map f) i=(pD xs i).map f:=by
 unfold pD;rw[QA];cases UO xs.length i with|none=>rfl|some j=>exact Qe
theorem sA{Ψ:PEv}{E:XE}{α:Type}{body:PT}{u:Tg}{Z:PEnds}(g:α->T)(W:List α->kA->Prop)(k:∀ρ,W [] ρ->Z.nx ρ)
  (v:∀x xs ρ (N:kA->Prop),(∀y,W xs y->N y)->W (x::xs) ρ->DK u (g x) ρ λz=>cB Ψ E body { Z with nx:=N,ct:=N,bk:=Z.nx } z):∀(xs:List α) (ρ:kA),W xs ρ->yH (cB Ψ E body) u Z (xs.map g) ρ
 |[],ρ,w=>k ρ w|x::xs,ρ,w=>v x xs ρ (λh=>yH (cB Ψ E body) u Z (xs.map g) h) (λh a=>sA g W k v xs h a) w
noncomputable def gc(y:List (Str×PSp))(h:List (Str×D)):PEv:=⟨λf=>(y.lookup f).getD jk,λx=>h.lookup x⟩
theorem JW{P:Program}{w:World}{K:QE}{mg:Str->Option Value}{h:Heap}{v:List (Str×PSp)}{tbl:List (Str×D)}{z:LS}(X:K.In h)(G:h.Ns mainGlobals mg)(u:∀p∈tbl,bN K p.1 p.2)
  (y:(z.all λx=>(tbl.map qr).contains x)=true):ValsOk P w K mg (gc v tbl) z:=by
 refine⟨λx d e F=>((u (x,d) (qN e)).inMg X G).1 F,λx k=>?_⟩;have:=Qy.mp y x k;obtain⟨p,a,e⟩:=QS.mp (qE.mp this);rw[<- e];exact((u p a).inMg X G).2
theorem fP{α:Type}[BEq α][LawfulBEq α]{l m:List α}(h:(l.all λx=>m.contains x)=true):∀x∈l,x∈m:=λx y=>qE.mp (Qy.mp h x y)
section
variable{a b c:PX}{i:Nat}{n:Int}{x:Str}{m:Mt}{f:Str}{g:Bi}{u:Operator}{w:CmpOp}{is:List Bool}{h:LS}{z:Tg}{v:ItK}{y:String}
theorem iW:AG (.xz i)=[i]:=rfl
theorem vO:AG (.ny a b)=AG a++AG b:=rfl
theorem rR:AG .nz=[]:=rfl
end
def DD{α:Type}(o:Option α)(K:α->Prop):Prop:=∃a,o=some a/\K a
theorem DD.mk{α:Type}{o:Option α}{a:α}{K:α->Prop}(e:o=some a)(k:K a):DD o K:=⟨a,e,k⟩
theorem eB{α:Type}{a:α}{K:α->Prop}:DD (some a) K=K a:=propext ⟨λ⟨_,e,k⟩=>by cases e;exact k,λk=>⟨a,rfl,k⟩⟩
theorem OF{α h:Type}{o:Option α}{f:α->h}{K:h->Prop}:DD (o.map f) K=DD o λa=>K (f a):=by
 cases o with|none=>exact propext ⟨λ⟨_,e,_⟩=>(by cases e),λ⟨_,e,_⟩=>(by cases e)⟩|some a=>rw[Q6,eB,eB]
def pB(Ψ:PEv)(e:PX)(E:XE)(ρ:kA)(K:TK):Prop:=(pe Ψ e E).e ρ K
def dR(Ψ:PEv)(e:PX)(E:XE)(ρ:kA)(K:Bool->kA->Prop):Prop:=(pe Ψ e E).t ρ K
def bM(Ψ:PEv)(e:PX)(E:XE)(md:List Md)(ρ:kA)(K:List (T×Bool)->kA->Prop):Prop:=(pe Ψ e E).a md ρ K
def OR(p:PSp)(ts:LT)(K:T->LT->Prop)(E:XE):Prop:=p.run ts K E
def P7(x:T)(n:Bool)(Ψ:PEv)(b:PX)(E:XE)(ρ:kA)(K:TK):Prop:=sq (rA x n) ρ (cu (pe Ψ b E).e) λy h=>K y.1 y.2 h
def R7(x:T)(n:Bool)(Ψ:PEv)(b:PX)(E:XE)(md:List Md)(ρ:kA)(K:List (T×Bool)->kA->Prop):Prop:=sq (if n=true then .d .none else x) ρ ((pe Ψ b E).a md) K
def DH(i:Nat)(σ ρ:kA)(K:TK):Prop:=Fp σ[i]? λt=>K t false ρ
def v3(i:Nat)(σ:kA)(ρ:kA)(j:Nat)(R:T->kA->Prop):Prop:=jr ρ j R σ[i]?
def cI(Ψ:PEv)(E:XE)(r:PT)(Z:PEnds)(i:Nat)(x:T)(n:Bool)(ρ:kA):Prop:=oH x n=true/\cB Ψ E r Z (ρ.set i (bD x.er))
def Ym(Ψ:PEv)(E:XE)(r:PT)(Z:PEnds)(i:Nat)(x:T)(n:Bool)(ρ:kA):Prop:=oH x n=true/\cB Ψ E r Z (ρ.set i (some (.own x)))
def RC(x:T)(n:Bool)(P:Prop):Prop:=oH x n=true/\P
def JC(h:Operator)(x:T)(n:Bool)(y:T)(m:Bool)(Q:T->Bool->Prop):Prop:=binT h (rA x n).vw (rA y m).vw Q
def rB(h:CmpOp)(x y:T)(Q:Bool->Prop):Prop:=Bb h x.er y Q
def n8(x:T)(Q:Bool->Prop):Prop:=IH x.er Q
def Fu(x:T)(Q:Bool->Prop):Prop:=rj x.er Q
def mL(f:Bi)(xs:List (T×Bool))(Q:T->Bool->Prop):Prop:=OT f (jC xs) Q
def DA(x:T)(n:Bool)(y:T)(m:Bool)(Q:T->Prop):Prop:=GN (rA x n).vw (rA y m).vw Q∨xT (rA x n).vw y.er Q
def Gk(Ψ:PEv)(E:XE)(c:PX)(q:PT)(Z:PEnds)(ρ:kA):Prop:=cB Ψ E (.whl c q) Z ρ
def J8(t y x:T)(Q:T->Prop):Prop:=Bl t y.er x.er Q
def Vl(z t:T)(Q:T->(T->T)->Prop):Prop:=Xl z.er t Q
def Nl(y t:T)(Q:T->Prop):Prop:=ug y.er t Q
def rJ(x:T)(n:Bool)(l u:Option Int)(Q:T->Bool->Prop):Prop:=VN (rA x n).vw l u Q
def eM(xs:List (T×Bool))(C:LT->Prop):Prop:=sE xs=true/\C (VF xs)
def bL(h:ItK)(xs:List (T×Bool))(R:LT->Prop):Prop:=MB h (jC xs) R
def VB(md:List Md)(xs:List (T×Bool))(C:LT->Prop):Prop:=DD (UA md xs []) C
def HI(Ψ:PEv)(E:XE)(x:List Bool)(y:LS)(u:Tg)(h z:PX)(ρ:kA):T->(Option T->Prop)->Prop:=bG u (MN y.length x (lockA ρ)) (if isNop h=true then λρ R=>R true ρ else(pe Ψ h E).t) (pe Ψ z E).e
def jY(h:Tg)(x:T)(ρ:kA)(K:kA->Prop):Prop:=DK h x ρ K
section
variable{Ψ:PEv}{E:XE}{ρ:kA}{K:TK}{L:Bool->kA->Prop}{M:List (T×Bool)->kA->Prop}{a b c q its Y Z:PX}{X:T->kA->Prop}
section
variable{i j:Nat}{x:T}{w:CmpOp}{f t:Str}{p:PSp}{md:List Md}{v m:List Bool}{g:LS}{l:Tg}{o:ItK}{R:Option T->Prop}{s:Option Sl}{σ:kA}{n:Bool}{ts:LT}
theorem Zp{i:Int}:pB Ψ (.ng i) E ρ K=K (.d (.int (-i))) false ρ:=rfl
theorem jf:pB Ψ (.xz i) E ρ K=DH i ρ ρ K:=rfl
theorem Ze:dR Ψ (.xz i) E ρ L=DH i ρ ρ λt _ ρ=>n8 t λb=>L b ρ:=rfl
theorem gf{i:Int}:pB Ψ (.int i) E ρ K=K (.d (.int i)) false ρ:=rfl
theorem zf{x:Str}:pB Ψ (.str x) E ρ K=K (.d (.str x)) false ρ:=rfl
theorem Kp{x:Bool}:pB Ψ (.bl x) E ρ K=K (.d (.bool x)) false ρ:=rfl
theorem bf:pB Ψ .non E ρ K=K (.d .none) false ρ:=rfl
theorem tH{x:Str}{d:D}(h:Ψ.va x=some d):pB Ψ (.glo x) E ρ K=K (.d d) false ρ:=by show(match Ψ.va x with|some d=>K (.d d) false ρ|none=>False)=_;rw[h]
theorem tf{w:Operator}:pB Ψ (.bin w a b) E ρ K=pB Ψ a E ρ λx n u=>P7 x n Ψ b E u λy m h=>JC w x n y m λz k=>K z k h:=rfl
theorem Ke:dR Ψ (.cmp w a b) E ρ L=pB Ψ a E ρ λx n z=>P7 x n Ψ b E z λy m h=>rB w x (rA y m) λk=>L k h:=rfl
theorem sf:pB Ψ (.cmp w a b) E ρ K=dR Ψ (.cmp w a b) E ρ λk h=>K (.d (.bool k)) false h:=rfl
theorem af:pB Ψ (.and a b) E ρ K=pB Ψ a E ρ λx _ h=>Fu x λc=>if c=true then pB Ψ b E h K else K (.d (.bool false)) false h:=rfl
theorem Ve:dR Ψ (.and a b) E ρ L=dR Ψ a E ρ λc h=>if c=true then dR Ψ b E h L else L false h:=rfl
theorem Xj:dR Ψ (.or a b) E ρ L=dR Ψ a E ρ λc h=>if c=true then L true h else dR Ψ b E h L:=rfl
theorem uf:pB Ψ (.not a) E ρ K=pB Ψ a E ρ λx _ h=>n8 x λc=>K (.d (.bool (!c))) false h:=rfl
theorem uA(h:Ψ.sp f=p)(G:p.md=md)(F:(md.all λm=>!m.isMut)=true):pB Ψ (.call f q) E ρ K=bM Ψ q E md ρ λxs y=>VB md xs λts=>OR p ts (λr u=>u=[]/\K r true y) E:=by
 have B:∀(md:List Md) (q:PX),(md.all λm=>!m.isMut)=true->cA md q=[]:=by
  intro md;induction md with
  |nil=>intro q _;cases q<;>rfl|cons m md C =>
   intro q h;rw[qj,Qg]at h;cases m with
   |chg=>cases h.1|_=>cases q with|ny a q=>exact C q h.2|_=>rfl
 show(∃u,CA (cA (Ψ.sp f).md q) ρ=some u/\(cA (Ψ.sp f).md q).Nodup/\(pe Ψ q E).a (Ψ.sp f).md (clear (cA (Ψ.sp f).md q) ρ) λxs y=>∃ts,UA (Ψ.sp f).md xs u=some ts/\(Ψ.sp f).run ts (λr W=>∃z,uC (cA (Ψ.sp f).md q) W y=some z/\K r true z) E)=_;rw[h,G,B md q F];have A:∀(r:T) (u:LT) (y:kA),(∃z,uC [] u y=some z/\K r true z)=(u=[]/\K r true y):=by
  intro r u y;cases u with|nil=>exact propext ⟨λ⟨_,e,k⟩=>by cases e;exact⟨rfl,k⟩,λk=>⟨_,rfl,k.2⟩⟩|cons _ _=>exact propext ⟨λ⟨_,e,k⟩=>(by cases e),λk=>(by cases k.1)⟩
 have:=λ(y:kA)=>funext λr=>funext λu=>A r u y;simp only[this];exact propext ⟨λ⟨_,e,_,k⟩=>by cases e;exact k,λk=>⟨_,rfl,Qs,k⟩⟩
theorem Y7:dR Ψ (.call f q) E ρ L=pB Ψ (.call f q) E ρ λt _ h=>n8 t λb=>L b h:=rfl
theorem Vp{f:Bi}:pB Ψ (.bi f q) E ρ K=bM Ψ q E [] ρ λxs h=>mL f xs λz k=>K z k h:=rfl
theorem xf:pB Ψ (.mt .pop (.xz j) q) E ρ K=uD ρ[j]? λt=>iI .pop t=true/\bM Ψ q E [] (ρ.set j (some (.ky t))) λxs h=>sE xs=true/\h[j]?=some (some (.ky t))/\KJ .pop t (VF xs) λr s'=>K r true (h.set j (some (.own s'))):=rfl
theorem G7{x:Bool}:pB Ψ (.dnew x) E ρ K=K (.dct x [] []) true ρ:=rfl
theorem rf:pB Ψ (.dsp a b) E ρ K=pB Ψ a E ρ λy m z=>RC y m (pB Ψ b E z λx n h=>RC x n (FD true y.er/\K (.dct true [y.er] [x]) true h)):=rfl
theorem SG(h:Ψ.sp f=p)(P:p.md=.chg::md)(O:(md.all λm=>!m.isMut)=true):pB Ψ (.call f (.ny (.xz j) q)) E ρ K=uD ρ[j]? λt=>bM Ψ q E md (ρ.set j none) λxs y=>VB md xs λts=>OR p (t::ts) (λr u=>∃t',u=[t']/\K r true (y.set j (some (.own t')))) E:=by
 have J:∀(md:List Md) (q:PX),(md.all λm=>!m.isMut)=true->cA md q=[]:=by
  intro md;induction md with
  |nil=>intro q _;cases q<;>rfl|cons m md N =>
   intro q h;rw[qj,Qg]at h;cases m with
   |chg=>cases h.1|_=>cases q with|ny a q=>exact N q h.2|_=>rfl
 show(∃u,CA (cA (Ψ.sp f).md (.ny (.xz j) q)) ρ=some u/\(cA (Ψ.sp f).md (.ny (.xz j) q)).Nodup/\(pe Ψ (.ny (.xz j) q) E).a (Ψ.sp f).md (clear (cA (Ψ.sp f).md (.ny (.xz j) q)) ρ) λxs y=>∃ts,UA (Ψ.sp f).md xs u=some ts/\(Ψ.sp f).run ts (λr W=>∃A,uC (cA (Ψ.sp f).md (.ny (.xz j) q)) W y=some A/\K r true A) E)=_;rw[h,P];have Q:cA (.chg::md) (.ny (.xz j) q)=[j]:=by show j::cA md q=[j];rw[J md q O]
 rw[Q];have B:∀(r:T) (u:LT) (y:kA),(∃A,uC [j] u y=some A/\K r true A)=(∃t',u=[t']/\K r true (y.set j (some (.own t')))):=by
  intro r u y
  match u with
  |[]=>exact propext ⟨λ⟨_,e,k⟩=>(by cases e),λ⟨_,e,k⟩=>(by cases e)⟩|[t]=>exact propext ⟨λ⟨_,e,k⟩=>by cases e;exact⟨t,rfl,k⟩,λ⟨_,e,k⟩=>by cases e;exact⟨_,rfl,k⟩⟩|_::_::_=>exact propext ⟨λ⟨_,e,k⟩=>(by cases e),λ⟨_,e,k⟩=>(by cases e)⟩
 have C:=λ(y:kA)=>funext λr=>funext λu=>B r u y;simp only[C];have F:∀(t:T) (xs:List (T×Bool)) (G:LT->Prop),(∃ts,UA (.chg::md) ((.d .none,true)::xs) [t]=some ts/\G ts)=VB md xs λts=>G (t::ts):=by
  intro t xs G;show(∃ts,(UA md xs []).map (t::·)=some ts/\G ts)=DD (UA md xs []) λts=>G (t::ts);cases UA md xs []with|none=>exact propext ⟨λ⟨_,e,_⟩=>(by cases e),λ⟨_,e,_⟩=>(by cases e)⟩|some ts=>exact propext ⟨λ⟨_,e,k⟩=>by cases e;exact⟨_,rfl,k⟩,λ⟨_,e,k⟩=>by cases e;exact⟨_,rfl,k⟩⟩
 have I:∀t,ρ[j]?=some (some (.own t))->CA [j] ρ=some [t]:=λt e=>by unfold CA;rw[e];rfl
 have S:∀(u:LT),((pe Ψ (.ny (.xz j) q) E).a (.chg::md) (clear [j] ρ) λxs y=>∃ts,UA (.chg::md) xs u=some ts/\p.run ts (λr W=>∃t',W=[t']/\K r true (y.set j (some (.own t')))) E)=(bM Ψ q E md (ρ.set j none) λxs y=>∃ts,UA (.chg::md) ((.d .none,true)::xs) u=some ts/\p.run ts (λr W=>∃t',W=[t']/\K r true (y.set j (some (.own t')))) E):=λu=>propext ⟨λh=>h.2,λh=>⟨rfl,h⟩⟩;simp only[S]
 match e:ρ[j]? with
 |some (some (.own t))=>show _=(bM Ψ q E md (ρ.set j none) λxs y=>VB md xs λts=>OR p (t::ts) (λr u=>∃t',u=[t']/\K r true (y.set j (some (.own t')))) E);rw[I t e];have:=λxs (y:kA)=>F t xs λts=>p.run ts (λr W=>∃t',W=[t']/\K r true (y.set j (some (.own t')))) E;refine propext ⟨λ⟨_,e,_,k⟩=>?_,λk=>⟨_,rfl,by simp,?_⟩⟩;cases e;simp only[this]at k;exact k;simp only[this];exact k|some (some (.ky t))=>exact propext ⟨λ⟨_,z,_⟩=>(by unfold CA at z;rw[e]at z;cases z),λk=>k.elim⟩|some none=>exact propext ⟨λ⟨_,z,_⟩=>(by unfold CA at z;rw[e]at z;cases z),λk=>k.elim⟩|none=>exact propext ⟨λ⟨_,z,_⟩=>(by unfold CA at z;rw[e]at z;cases z),λk=>k.elim⟩
theorem vU:pB Ψ (.mt .extend (.xz j) q) E ρ K=uD ρ[j]? λt=>iI .extend t=true/\bM Ψ q E [] (ρ.set j (some (.ky t))) λxs h=>sE xs=true/\h[j]?=some (some (.ky t))/\KJ .extend t (VF xs) λr s'=>K r true (h.set j (some (.own s'))):=rfl
theorem xU:pB Ψ (.mt .append (.xz j) q) E ρ K=uD ρ[j]? λt=>iI .append t=true/\bM Ψ q E [] (ρ.set j (some (.ky t))) λxs h=>sE xs=true/\h[j]?=some (some (.ky t))/\KJ .append t (VF xs) λr s'=>K r true (h.set j (some (.own s'))):=rfl
theorem mf:pB Ψ (.idx a b) E ρ K=pB Ψ a E ρ λx n u=>P7 x n Ψ b E u λy m h=>DA x n y m λz=>K z false h:=rfl
theorem df:pB Ψ (.lst q) E ρ K=bM Ψ q E [] ρ λxs y=>xs.length<=sizeLine/\eM xs λts=>K (.lst ts) true y:=by have:∀(xs:List (T×Bool)) y,(xs.length<=sizeLine/\eM xs λts=>K (.lst ts) true y)=(sE xs=true/\xs.length<=sizeLine/\K (.lst (VF xs)) true y):=λxs y=>propext ⟨λh=>⟨h.2.1,h.1,h.2.2⟩,λh=>⟨h.2.1,h.1,h.2.2⟩⟩;simp only[this];rfl
theorem yf:pB Ψ (.tup q) E ρ K=bM Ψ q E [] ρ λxs y=>xs.length<=sizeLine/\eM xs λts=>K (iF ts) true y:=by have:∀(xs:List (T×Bool)) y,(xs.length<=sizeLine/\eM xs λts=>K (iF ts) true y)=(sE xs=true/\xs.length<=sizeLine/\K (iF (VF xs)) true y):=λxs y=>propext ⟨λh=>⟨h.2.1,h.1,h.2.2⟩,λh=>⟨h.2.1,h.1,h.2.2⟩⟩;simp only[this];rfl
theorem L7:pB Ψ (.comp v g l o its Z Y) E ρ K=bM Ψ its E [] ρ λxs y=>bL o xs λh =>
   JD (HI Ψ (λ_=>False) v g l Z Y y) h [] λz=>K (.lst z) true y:=rfl
theorem ue:HI Ψ E [] [t] (.nm 0) .nop Y ρ x R=pB Ψ Y E (some (.ky x)::lockA ρ) λy n _=>RC y n (R (some y)):=rfl
theorem J7{u:Str}{x y:D}:HI Ψ E [] [t,u] (.tp [0,1]) .nop Y ρ (.d (.tuple [x,y])) R=pB Ψ Y E (bD x::bD y::lockA ρ) λy n _=>RC y n (R (some y)):=eB
theorem be:HI Ψ E [] [t] (.nm 0) (.cmp w a b) Y ρ x R=dR Ψ (.cmp w a b) E (some (.ky x)::lockA ρ) λk h=>if k=true then pB Ψ Y E h λy n _=>RC y n (R (some y)) else R none:=rfl
theorem Zf:bM Ψ .nz E md ρ M=M [] ρ:=rfl
theorem N7:bM Ψ (.ny a q) E [] ρ M=pB Ψ a E ρ λx n y=>R7 x n Ψ q E [] y λxs h=>M ((x,n)::xs) h:=rfl
theorem bU:bM Ψ (.ny a q) E (.xy::md) ρ M=pB Ψ a E ρ λx n y=>R7 x n Ψ q E md y λxs h=>M ((x,n)::xs) h:=rfl
theorem cU:bM Ψ (.ny a q) E (.ky::md) ρ M=pB Ψ a E ρ λx n y=>R7 x n Ψ q E md y λxs h=>M ((x,n)::xs) h:=rfl
theorem Me:PK Ψ E X (.xz i) ρ=v3 i ρ ρ i X:=rfl
theorem Oo{x:Bool}:PK Ψ E X (.bl x) ρ=X (.d (.bool x)) ρ:=propext ⟨λh=>h.2,λh=>⟨rfl,h⟩⟩
theorem U7:PK Ψ E X (.call f q) ρ=pB Ψ (.call f q) E ρ λx n h=>RC x n (X x h):=rfl
theorem Re{w:Operator}:PK Ψ E X (.bin w a b) ρ=pB Ψ (.bin w a b) E ρ λx n h=>RC x n (X x h):=rfl
theorem Se:PK Ψ E X (.and a b) ρ=pB Ψ (.and a b) E ρ λx n h=>RC x n (X x h):=rfl
theorem Po{f:Bi}:PK Ψ E X (.bi f q) ρ=pB Ψ (.bi f q) E ρ λx n h=>RC x n (X x h):=rfl
theorem Pe:PK Ψ E X (.idx a b) ρ=pB Ψ (.idx a b) E ρ λx n h=>RC x n (X x h):=rfl
theorem Oe:PK Ψ E X (.tup q) ρ=pB Ψ (.tup q) E ρ λx n h=>RC x n (X x h):=rfl
theorem X7:PK Ψ E X (.comp v g l o its Z Y) ρ=pB Ψ (.comp v g l o its Z Y) E ρ λx n h=>RC x n (X x h):=rfl
theorem Hv:DH (i+1) (s::σ) ρ K=DH i σ ρ K:=rfl
theorem Ov{t:T}:DH 0 (some (.ky t)::σ) ρ K=K t false ρ:=rfl
theorem Lv{t:T}:DH 0 (some (.own t)::σ) ρ K=K t false ρ:=rfl
theorem Nv:DH i (lockA σ) ρ K=DH i σ ρ K:=by
 unfold DH lockA;rw[Qe];cases σ[i]? with
 |none=>rfl|some s=>cases s with|none=>rfl|some s=>cases s<;>rfl
theorem Mv{b:Bool}:DH (i+1) (ZC (b::m) (lockA (s::σ))) ρ K=DH i (ZC m (lockA σ)) ρ K:=rfl
theorem Jp:DH 0 (ZC (false::m) (lockA (s::σ))) ρ K=DH 0 (lockA (s::σ)) ρ K:=rfl
theorem gp:DH i (ZC [] (lockA σ)) ρ K=DH i (lockA σ) ρ K:=rfl
theorem Dv:v3 (i+1) (s::σ) ρ j X=v3 i σ ρ j X:=rfl
theorem Gv{x:D}:v3 0 (bD x::σ) ρ j X=X (.d x) ρ:=propext ⟨λh=>h.2,λh=>⟨rfl,h⟩⟩
theorem Fv{t:T}:v3 0 (some (.own t)::σ) ρ j X=X t (ρ.set j none):=rfl
theorem Mu{x:D}:P7 (.d x) n Ψ b E ρ K=pB Ψ b E ρ K:=by cases n<;>rfl
theorem Hu:P7 x true Ψ b E ρ K=pB Ψ b E ρ K:=rfl
theorem Lu:P7 (.lst ts) false Ψ b E ρ K=pB Ψ b E (lockA ρ) λy m _=>K y m ρ:=rfl
theorem Kv{x:D}:R7 (.d x) n Ψ b E md ρ M=bM Ψ b E md ρ M:=by cases n<;>rfl
theorem Yv:R7 x true Ψ b E md ρ M=bM Ψ b E md ρ M:=rfl
theorem Zv:R7 (.lst ts) false Ψ b E md ρ M=bM Ψ b E md (lockA ρ) λxs _=>M xs ρ:=rfl
end
end
section
variable{Ψ:PEv}{E:XE}{ρ σ:kA}{Z:PEnds}{s r q:PT}{i:Nat}{e c its:PX}{o:Option Sl}{n:Bool}{v:D}{P:Prop}{ds:List D}{x:T}
section
variable{j:Nat}{is:LN}{A B:Prop}
theorem yA:cB Ψ E .nil Z ρ=Z.nx ρ:=rfl
theorem Be:cB Ψ E (.seq (.set i e) r) Z (o::σ)=pB Ψ e E (o::σ) λx n h=>cI Ψ E r Z i x n h:=rfl
theorem Fe:cB Ψ E (.seq (.own i e) r) Z (o::σ)=pB Ψ e E (o::σ) λx n h=>Ym Ψ E r Z i x n h:=rfl
theorem V7:cB Ψ E (.seq (.expr e) r) Z (o::σ)=pB Ψ e E (o::σ) λ_ _ h=>cB Ψ E r Z h:=rfl
theorem De:cB Ψ E (.seq (.ret e) r) Z (o::σ)=PK Ψ E Z.rt e (o::σ):=rfl
theorem Ge:cB Ψ E (.seq (.ife c s .nil) r) Z (o::σ)=dR Ψ c E (o::σ) λk h=>if k=true then cB Ψ E s { Z with nx:=λy=>cB Ψ E r Z y } h else cB Ψ E r Z h:=rfl
theorem Le{u:Tg}{k:ItK}:cB Ψ E (.seq (.for_ u k its q) r) Z (o::σ)=bM Ψ its E [] (o::σ) λxs h=>bL k xs λy =>
   if kR xs=true then yH (cB Ψ E q) u { Z with nx:=λz=>cB Ψ E r Z (kill u.ix z) } y h
   else yH (cB Ψ E q) u { Z with nx:=λz=>pU u.ix (oC h (AG its)) h (λw=>cB Ψ E r Z w) (kill u.ix z) } y (lock (oC h (AG its)) h):=rfl
theorem Ue{a:PX}:cB Ψ E (.seq (.six (.xz j) a e) r) Z (o::σ)=uD (o::σ)[j]? λt=>pB Ψ e E ((o::σ).set j (some (.ky t))) λx n z=>RC x n (pB Ψ a E z λy m h=>RC y m (h[j]?=some (some (.ky t))/\J8 t y x λt'=>cB Ψ E r Z (h.set j (some (.own t'))))):=rfl
theorem K7{a k:PX}:cB Ψ E (.seq (.six (.idx (.xz j) k) a e) r) Z (o::σ)=uD (o::σ)[j]? λt=>pB Ψ e E ((o::σ).set j (some (.ky t))) λx n w=>RC x n (pB Ψ k E w λz l u=>RC z l (Vl z t λs put=>pB Ψ a E u λy m h=>RC y m (h[j]?=some (some (.ky t))/\J8 s y x λs'=>cB Ψ E r Z (h.set j (some (.own (put s'))))))):=rfl
theorem Ce{k:PX}:cB Ψ E (.seq (.sdf j k) r) Z (o::σ)=uD (o::σ)[j]? λt=>Kb t=true/\pB Ψ k E ((o::σ).set j (some (.ky t))) λy m h=>RC y m (h[j]?=some (some (.ky t))/\Nl y t λt'=>cB Ψ E r Z (h.set j (some (.own t')))):=rfl
theorem Z7:cB Ψ E (.seq (.tset is e) r) Z (o::σ)=pB Ψ e E (o::σ) λx n y=>RC x n (jY (.tp is) (.d x.er) y λh=>cB Ψ E r Z h):=rfl
theorem He:cB Ψ E (.seq (.frz is s) r) Z (o::σ)=cB Ψ E (.seq s r) Z (frzAt is (o::σ)):=rfl
theorem Xe:cB Ψ E (.seq (.whl c q) r) Z (o::σ)=Gk Ψ E c q { Z with nx:=λh=>cB Ψ E r Z h } (o::σ):=rfl
theorem Jv:cI Ψ E r Z i (.d v) n ρ=cB Ψ E r Z (ρ.set i (bD v)):=propext ⟨λh=>h.2,λh=>⟨by cases n<;>rfl,h⟩⟩
theorem vp:cI Ψ E r Z i (.lst (ds.map T.d)) true ρ=cB Ψ E r Z (ρ.set i (bD (.list ds))):=by unfold cI T.er;rw[IA];exact propext ⟨λh=>h.2,λh=>⟨rfl,h⟩⟩
theorem Tu:Ym Ψ E r Z i x true ρ=cB Ψ E r Z (ρ.set i (some (.own x))):=propext ⟨λh=>h.2,λh=>⟨rfl,h⟩⟩
theorem Rv:RC (.d v) n P=P:=propext ⟨λh=>h.2,λh=>⟨by cases n<;>rfl,h⟩⟩
theorem Pv:RC x true P=P:=propext ⟨λh=>h.2,λh=>⟨rfl,h⟩⟩
theorem mX:(([]:LT)=[]/\P)=P:=propext ⟨λh=>h.2,λh=>⟨rfl,h⟩⟩
theorem Bn:(if(true:Bool)=true then A else B)=A:=rfl
theorem Cn:(if(false:Bool)=true then A else B)=B:=rfl
theorem pv{v h:Option Sl}:cB Ψ E r Z (w4 (h::σ) 0 v)=cB Ψ E r Z (v::σ):=rfl
theorem nv{v h y:Option Sl}:cB Ψ E r Z (w4 (h::y::σ) 1 v)=cB Ψ E r Z (h::v::σ):=rfl
theorem gv{v y h z:Option Sl}:cB Ψ E r Z (w4 (y::h::z::σ) 2 v)=cB Ψ E r Z (y::h::v::σ):=rfl
theorem dv{v z y h u:Option Sl}:cB Ψ E r Z (w4 (z::y::h::u::σ) 3 v)=cB Ψ E r Z (z::y::h::v::σ):=rfl
theorem bv{v u z y h w:Option Sl}:cB Ψ E r Z (w4 (u::z::y::h::w::σ) 4 v)=cB Ψ E r Z (u::z::y::h::v::σ):=rfl
theorem uv{v w u z y h k:Option Sl}:cB Ψ E r Z (w4 (w::u::z::y::h::k::σ) 5 v)=cB Ψ E r Z (w::u::z::y::h::v::σ):=rfl
theorem vv{v k w u z y h a:Option Sl}:cB Ψ E r Z (w4 (k::w::u::z::y::h::a::σ) 6 v)=cB Ψ E r Z (k::w::u::z::y::h::v::σ):=rfl
theorem Iu{v a k w u z y h b:Option Sl}:cB Ψ E r Z (w4 (a::k::w::u::z::y::h::b::σ) 7 v)=cB Ψ E r Z (a::k::w::u::z::y::h::v::σ):=rfl
theorem Eu{v b a k w u z y h f:Option Sl}:cB Ψ E r Z (w4 (b::a::k::w::u::z::y::h::f::σ) 8 v)=cB Ψ E r Z (b::a::k::w::u::z::y::h::v::σ):=rfl
theorem Au{v f b a k w u z y h g:Option Sl}:cB Ψ E r Z (w4 (f::b::a::k::w::u::z::y::h::g::σ) 9 v)=cB Ψ E r Z (f::b::a::k::w::u::z::y::h::v::σ):=rfl
theorem jp{v l g f b a k w u z y h:Option Sl}:cB Ψ E r Z (w4 (l::g::f::b::a::k::w::u::z::y::h::σ) 10 v)=cB Ψ E r Z (l::g::f::b::a::k::w::u::z::y::v::σ):=rfl
theorem Io{v m l g f b a k w u z h y:Option Sl}:cB Ψ E r Z (w4 (m::l::g::f::b::a::k::w::u::z::h::y::σ) 11 v)=cB Ψ E r Z (m::l::g::f::b::a::k::w::u::z::h::v::σ):=rfl
theorem Eo{v p m l g f b a k w u y h z:Option Sl}:cB Ψ E r Z (w4 (p::m::l::g::f::b::a::k::w::u::y::h::z::σ) 12 v)=cB Ψ E r Z (p::m::l::g::f::b::a::k::w::u::y::h::v::σ):=rfl
theorem Ao{v X p m l g f b a k w z y h u:Option Sl}:cB Ψ E r Z (w4 (X::p::m::l::g::f::b::a::k::w::z::y::h::u::σ) 13 v)=cB Ψ E r Z (X::p::m::l::g::f::b::a::k::w::z::y::h::v::σ):=rfl
end
end
section
variable{d:D}{n m:Bool}{i j:Int}{z y:Str}{b:Bool}{xs:List (T×Bool)}{ts:LT}{ds es:List D}{md:List Md}{t:T}{C:LT->Prop}{Q:T->Bool->Prop}{L:Bool->Prop}{R:T->Prop}{W:LT->Prop}
section
variable{ρ:kA}{P:kA->Prop}{e k:D}{v:CmpOp}{ks:List D}{kvs:List (D×D)}{l u:Option Int}
theorem Hq{i:Int}{x:D}{Q:T->Prop}(a:0<=i)(w:i<ds.length)(q:Q (.lst ((ds.set i.toNat x).map T.d))):J8 (.lst (ds.map T.d)) (.d (.int i)) (.d x) Q:=by
 have h:i.toNat<ds.length:=by omega
 refine⟨i.toNat,?_,by rw[<- QAv];exact q⟩;unfold UO;rw[QA];rw[if_pos a,if_pos w]
theorem Ye{J:LN}{x:kA}{N:kA->Prop}:pU J [] x N ρ=N ρ:=propext ⟨λh=>h.2,λh=>⟨λ_ z=>(nomatch z),h⟩⟩
theorem lA{α:Type}(f:α->D)(l:List α):l.map (λc=>T.d (f c))=(l.map f).map T.d:=by rw[Qc];rfl
theorem yE:(rA (.lst (ds.map T.d)) n).vw=.ls (ds.map T.d):=by cases n;rfl;show Vw.ls ((ersT (ds.map T.d)).map T.d)=_;rw[IA]
theorem Te:VB md [] C=C []:=eB
theorem Pu:VB [] ((.d d,n)::xs) C=VB [] xs λts=>C (.d d::ts):=by
 have e:UA [] ((.d d,n)::xs) []=(UA [] xs []).map (.d d::·):=by cases n<;>rfl
 unfold VB;rw[e,OF]
theorem Ou:VB [] ((.lst (ds.map T.d),true)::xs) C=VB [] xs λts=>C (.d (.list ds)::ts):=by have e:UA [] ((.lst (ds.map T.d),true)::xs) []=(UA [] xs []).map (.d (.list (ersT (ds.map T.d)))::·):=rfl;unfold VB;rw[e,OF,IA]
theorem Ru:VB (.ky::md) ((t,false)::xs) C=VB md xs λts=>C (t::ts):=by have e:UA (.ky::md) ((t,false)::xs) []=(UA md xs []).map (t::·):=rfl;unfold VB;rw[e,OF]
theorem V2:gE (.lst (ds.map T.d))=some (.lst (ds.map T.d)):=by simp only[gE,T.vw,VA,Q6]
theorem Nu{u:T}(h:gE (rA t n)=some u):VB (.xy::md) ((t,n)::xs) C=VB md xs λts=>C (u::ts):=by
 have e:UA (.xy::md) ((t,n)::xs) []=(UA md xs []).map (u::·):=by show(match gE (rA t n) with|some t=>(UA md xs []).map (t::·)|none=>none)=_;rw[h]
 unfold VB;rw[e,OF]
theorem Ro:VB (.xy::md) ((.lst (ds.map T.d),n)::xs) C=VB md xs λts=>C (.lst (ds.map T.d)::ts):=Nu (by cases n;exact V2;show gE (.d (.list (ersT (ds.map T.d))))=_;rw[IA];simp only[gE,T.vw,VA,Q6])
theorem Ee:eM [] C=C []:=propext ⟨λh=>h.2,λh=>⟨rfl,h⟩⟩
theorem xu:eM ((.lst (ds.map T.d),true)::xs) C=eM xs λts=>C (.lst (ds.map T.d)::ts):=by show((oH (.lst (ds.map T.d)) true&&sE xs)=true/\C (.lst (ds.map T.d)::VF xs))=(sE xs=true/\C (.lst (ds.map T.d)::VF xs));rw[show oH (.lst (ds.map T.d)) true=true from rfl,wx]
theorem sv:eM ((.d d,n)::xs) C=eM xs λts=>C (.d d::ts):=by show((oH (.d d) n&&sE xs)=true/\C (.d d::VF xs))=(sE xs=true/\C (.d d::VF xs));rw[show oH (.d d) n=true by cases n<;>rfl,wx]
theorem Jf{i j:Nat}{x y:D}:jY (.tp [i,j]) (.d (.tuple [x,y])) ρ P=P ((ρ.set i (bD x)).set j (bD y)):=eB
theorem Up{i:Nat}:jY (.nm i) t ρ P=P (ρ.set i (some (.ky t))):=rfl
theorem Ko{h:Tg}:DK h t ρ P=jY h t ρ P:=rfl
theorem Je:JC .Add (.d (.int i)) n (.d (.int j)) m Q=Q (.d (.int (i+j))) false:=by unfold JC;rw[oA,oA];exact mj i j
theorem ae:JC .Add (.d (.str z)) n (.d (.str y)) m Q=(z.length+y.length<=sizeLine/\Q (.d (.str (z++y))) false):=by unfold JC;rw[oA,oA];exact lj z y
theorem fe:JC .Sub (.d (.int i)) n (.d (.int j)) m Q=Q (.d (.int (i - j))) false:=by unfold JC;rw[oA,oA];exact cj i j
theorem oe:JC .Mult (.d (.int i)) n (.d (.int j)) m Q=(IntMulOk i j/\Q (.d (.int (i * j))) false):=by unfold JC;rw[oA,oA];exact bj i j
theorem ge:JC .Mult (.d (.str z)) n (.d (.int j)) m Q=((-(2 ^ 31)<=j/\j<2 ^ 31/\z.length * j.toNat<=sizeLine)/\Q (.d (.str (aJ z j))) false):=by unfold JC;rw[oA,oA];exact xj z j
theorem se:JC .FloorDiv (.d (.int i)) n (.d (.int j)) m Q=((0<j/\j<2 ^ 200)/\Q (.d (.int (i / j))) false):=by unfold JC;rw[oA,oA];exact vj i j
theorem re:JC .Mod (.d (.int i)) n (.d (.int j)) m Q=(0<j/\Q (.d (.int (i % j))) false):=by unfold JC;rw[oA,oA];exact kj i j
theorem Mo:JC .Add (.lst (ds.map T.d)) n (.lst (es.map T.d)) m Q=(ds.length+es.length<=sizeLine/\Q (.lst ((ds++es).map T.d)) true):=by unfold JC;rw[yE,yE,fj,VA,VA];exact propext ⟨λ⟨_,_,x,h,k⟩=>by cases x;cases h;exact k,λk=>⟨_,_,rfl,rfl,k⟩⟩
theorem No:JC .Add t n (.lst [.d d]) m Q=JC .Add t n (.lst ([d].map T.d)) m Q:=rfl
theorem bn:iF [.d d,.d e]=.d (.tuple [d,e]):=rfl
theorem xn{f g:D}:iF [.d d,.d e,.d f,.d g]=.d (.tuple [d,e,f,g]):=rfl
theorem je:rB .Eq (.d (.int i)) (.d (.int j)) L=L (decide (i=j)):=rfl
theorem Ed:rB .Eq (.d (.str z)) (.d (.str y)) L=L (decide (z=y)):=rfl
theorem Ld:rB .NotEq (.d (.str z)) (.d (.str y)) L=L (!decide (z=y)):=rfl
theorem uo:rB .Lt (.d (.int i)) (.d (.int j)) L=L (decide (i<j)):=rfl
theorem R6:rB v (.d d) (.lst (ds.map T.d)) L=RV v d (.list ds) L:=by show RV v d (.list (ersT (ds.map T.d))) L=_;rw[IA]
theorem ao:rB .Gt (.d (.int i)) (.d (.int j)) L=L (decide (j<i)):=rfl
theorem Du:rB v t (rA (.d d) m) L=rB v t (.d d) L:=by rw[oA]
theorem Yo:rB v t (rA (.lst (ds.map T.d)) true) L=rB v t (.d (.list ds)) L:=by show rB v t (.d (.list (ersT (ds.map T.d)))) L=_;rw[IA]
theorem Jo{u:T}:rB v t (rA u false) L=rB v t u L:=rfl
theorem Td:rB .In (.d (.str z)) (.d (.list ds)) L=(((EA (.str z)=true/\ds.all EA=true)∨(eF (.str z)/\eF (.list ds)))/\L (ds.any λy=>Qx y (.str z))):=rfl
theorem v7:rB .NotIn (.d (.str z)) (.d (.list ds)) L=(((EA (.str z)=true/\ds.all EA=true)∨(eF (.str z)/\eF (.list ds)))/\L (!(ds.any λy=>Qx y (.str z)))):=rfl
theorem k7:rB .NotIn (.d (.str z)) (.lst (ds.map T.d)) L=(((EA (.str z)=true/\ds.all EA=true)∨(eF (.str z)/\eF (.list ds)))/\L (!(ds.any λy=>Qx y (.str z)))):=by exact R6
theorem Nd:rB .NotEq (.d (.list ds)) (.d (.list es)) L=(eF (.list ds)/\eF (.list es)/\L (!PyData.eqv (.list ds) (.list es))):=rfl
theorem u7:rB .In (.d d) (.dct b ks ts) L=(FD b d/\L (dA ks d).isSome):=by show(FD b d/\((CmpOp.In=.In/\L (dA ks d).isSome)∨(CmpOp.In=.NotIn/\L (!(dA ks d).isSome))))=_;simp
theorem HJ:rB .NotIn (.d d) (.dct b ks ts) L=(FD b d/\L (!(dA ks d).isSome)):=by show(FD b d/\((CmpOp.NotIn=.In/\L (dA ks d).isSome)∨(CmpOp.NotIn=.NotIn/\L (!(dA ks d).isSome))))=_;simp
theorem Pd:rB .In (.d (.str z)) (.d (.tuple ds)) L=(((EA (.str z)=true/\ds.all EA=true)∨(eF (.str z)/\eF (.list ds)))/\L (ds.any λy=>Qx y (.str z))):=rfl
theorem Sd:rB .In (.d (.str z)) (.lst (ds.map T.d)) L=(((EA (.str z)=true/\ds.all EA=true)∨(eF (.str z)/\eF (.list ds)))/\L (ds.any λy=>Qx y (.str z))):=by exact R6
theorem Yu:n8 (.d (.bool b)) L=L b:=rfl
theorem Gu:Fu (.d (.bool b)) L=L b:=rfl
theorem jd:mL .max [(.d (.int i),n),(.d (.int j),m)] Q=Q (.d (.int (if j > i then j else i))) false:=by unfold mL jC jC jC;rw[oA,oA];exact oj i j
theorem Sm:mL .len [(.d (.list ds),n)] Q=Q (.d (.int ds.length)) false:=by unfold mL jC;rw[oA];refine(ve _).trans ?_;rw[QA]
theorem Om:mL .len [(.lst (ds.map T.d),n)] Q=Q (.d (.int ds.length)) false:=by unfold mL jC;rw[yE];refine(ve _).trans ?_;rw[QA]
theorem Em:mL .any [(.lst (ds.map T.d),n)] Q=∃bs:List Bool,ds=bs.map PyData.bool/\Q (.d (.bool (bs.any id))) false:=by unfold mL jC;rw[yE];refine(Bo _).trans ?_;simp only[VA,Qq]
theorem yd:mL .list [(.d (.list ds),n)] Q=Q (.lst (ds.map T.d)) true:=by unfold mL jC;rw[oA];refine(Uo _).trans ?_;rw[VA];exact eB
theorem G6:xT (.ls ts) k R=False:=propext ⟨λ⟨_,_,_,_,_,e,_⟩=>(by cases e),Qd⟩
theorem Di:xT (.tp ts) k R=False:=propext ⟨λ⟨_,_,_,_,_,e,_⟩=>(by cases e),Qd⟩
theorem Fi{x:D}:xT (.sc x) k R=False:=propext ⟨λ⟨_,_,_,_,_,e,_⟩=>(by cases e),Qd⟩
theorem tu:DA (.lst (ds.map T.d)) n (.d (.int i)) m R=DD (pD ds i) λd=>R (.d d):=by unfold DA;rw[yE,oA,G6,or_false];refine(x6 _ _).trans ?_;show DD (pD (ds.map T.d) i) R=_;rw[SD,OF]
theorem Uf:DA (.d (.list ds)) n (.d (.int i)) m R=DD (pD ds i) λd=>R (.d d):=by unfold DA;rw[oA,oA,show(T.d (.list ds)).vw=.ls (ds.map T.d) from rfl,G6,or_false];refine(x6 _ _).trans ?_;show DD (pD (ds.map T.d) i) R=_;rw[SD,OF]
theorem R0:DA (.d (.tuple ds)) n (.d (.int i)) m R=DD (pD ds i) λd=>R (.d d):=by unfold DA;rw[oA,oA,show(T.d (.tuple ds)).vw=.tp (ds.map T.d) from rfl,Di,or_false];refine(yi _ _).trans ?_;show DD (pD (ds.map T.d) i) R=_;rw[SD,OF]
theorem Bk:DA (.lst [.d d,.d e]) n t m R=DA (.lst ([d,e].map T.d)) n t m R:=rfl
theorem su:DA (.d (.str z)) n (.d (.int i)) m R=(z.length<=sizeLine/\DD (pD z.cps.toList i) λc=>R (.d (.str ⟨#[c]⟩))):=by unfold DA;rw[oA,oA,show(T.d (.str z)).vw=.sc (.str z) from rfl,Fi,or_false];exact zi _ _
theorem Ck{q:Bool}{l:Nat}(f:yD kvs=some q)(a:FD q k)(w:dA (kvs.map (·.1)) k=some l)(h:(kvs.map (·.2))[l]?=some e)(x:R (.d e)):DA (.d (.dict kvs)) n (.d k) m R:=by
 unfold DA;rw[oA];refine .inr ?_;show xT (DB kvs) k R;unfold DB;rw[f];refine⟨q,_,_,l,.d e,rfl,a,w,?_,x⟩;rw[Qe]at h ⊢;cases z:kvs[l]? with|none=>rw[z]at h;cases h|some p=>rw[z]at h;cases h;rfl
theorem Vu:rJ (.d (.str z)) n l u Q=(z.length<=sizeLine/\Q (.d (.str (we z l u))) false):=by unfold rJ;rw[oA];exact vg z
theorem Xu:rJ (.d (.list ds)) n l u Q=Q (.lst ((dC ds l u).map T.d)) true:=by unfold rJ;rw[oA];refine(kg _).trans ?_;rw[VA];exact eB
theorem iu:bL .val [(.d (.list ds),n)] W=W (ds.map T.d):=by unfold bL jC;rw[oA];exact KI _
theorem au:bL .val [(.d (.tuple ds),n)] W=W (ds.map T.d):=by unfold bL jC;rw[oA];exact E5 _
theorem Pk:bL .val [(.lst (ds.map T.d),n)] W=W (ds.map T.d):=by unfold bL jC;rw[yE];exact KI _
theorem Lk:bL .rng1 [(.d (.int j),n)] W=((-(2 ^ 62)<=j/\j<2 ^ 62)/\W ((Qr j.toNat).map λ(i:Nat)=>.d (.int (i:Int)))):=by unfold bL jC;rw[oA];exact A5 j
theorem Tk:bL .enum [(.d (.list ds),n)] W=W (ds.zipIdx.map λp=>.d (.tuple [.int (p.2:Int),p.1])):=by unfold bL jC;rw[oA];refine(HS _).trans ?_;exact propext ⟨λ⟨_,_,x,h,k⟩=>by cases x;rw[VA]at h;cases h;exact k,λk=>⟨_,_,rfl,VA _,k⟩⟩
theorem xc:bL .enum [(.lst (ds.map T.d),n)] W=W (ds.zipIdx.map λp=>.d (.tuple [.int (p.2:Int),p.1])):=by unfold bL jC;rw[yE];refine(HS _).trans ?_;exact propext ⟨λ⟨_,_,x,h,k⟩=>by cases x;rw[VA]at h;cases h;exact k,λk=>⟨_,_,rfl,VA _,k⟩⟩
theorem Rk(h:kvs=[]∨yD kvs=some true):bL .itm [(.d (.dict kvs),n)] W=W (kvs.map λp=>.d (.tuple [p.1,p.2])):=by
 unfold bL jC;rw[oA];show MB .itm [DB kvs] W=_;rcases h with rfl|h;exact T5;unfold DB;rw[h];refine(GS _ _).trans ?_;have e:(kvs.map λp=>T.d p.2)=(kvs.map (·.2)).map T.d:=by rw[Qc];rfl
 have x:((kvs.map (·.1)).zip (kvs.map (·.2))).map (λp=>T.d (.tuple [p.1,p.2]))=kvs.map λp=>T.d (.tuple [p.1,p.2]):=by rw[List.zip_map',Qc];rfl
 refine propext ⟨λ⟨ds,w,k⟩=>?_,λk=>⟨kvs.map (·.2),by rw[e,VA],?_⟩⟩;rw[e,VA]at w;cases w;rw[x]at k;exact k;rw[x];exact k
noncomputable def eZ(Q:T->LT->Prop):PEnds:={ nx:=λ_=>Q (.d .none) [],rt:=λt _=>Q t [] }
theorem Gd{Q:T->LT->Prop}{t:T}:(eZ Q).rt t ρ=Q t []:=rfl
theorem fA{Ψ:PEv}{b:PT}{p:PSp}{N x:LS}{ds:LT}{Q:T->LT->Prop}(ρ:kA)(h:pF Ψ b (eZ Q) ρ)(hl:ds.length=x.length:=by rfl)(hc:BB 0 p.md x.length=[]:=by rfl)(w:bB N p.md ds=ρ:=by rfl):ds.length=x.length/\pF Ψ b (vD p x.length Q) (bB N p.md ds):=by
 have e:vD p x.length Q=eZ Q:=by unfold vD;rw[hc];rfl
 rw[e,w];exact⟨hl,h⟩
end
end
end L2.L3
namespace L2.L3.K33
open PySem PySem.Spec PyProof.Rows L2 L2.L3
section
variable{p q:Pt}{r:Rm}{Q:T->Prop}{l:Inn}{v:Int}{a b n g:Str}{w:Wy}{e:Str×Str}
def top(i:Nat):Stmt:=Qp.main.body.getD i (.Pass ⟨0,0,0,0⟩)
noncomputable def JG:LS:=["edges","starts","goal","rooms","came_from","firsts","chains"]
def tF:LS:=["edges","starts","goal"]
noncomputable def sM:Need:=⟨["rooms_of","points_reached","lay_chain","chain_from","full_names"],["BEGIN"],["sorted"]⟩
noncomputable def CC:PT :=
  %[.expr (.call "lay_chain" %[.xz 3,.xz 4,.tup %[.xz 2,.str "to"|1]|1]),.set 4 (.call "points_reached" %[.xz 3|1])|2]
noncomputable def tG:PT :=
  %[.own 3 (.call "rooms_of" %[.xz 0,.xz 1,.xz 2|1]),.set 4 (.call "points_reached" %[.xz 3|1]),.whl (.cmp .In (.tup %[.xz 2,.str "to"|1]) (.xz 4)) CC,.set 5 (.comp [] ["point"] (.nm 0) .val %[.idx (.xz 3) (.glo "BEGIN")|1] (.cmp .Gt (.idx (.idx (.xz 4) (.xz 0)) (.glo "BEGIN")) (.int 0)) (.idx (.xz 0) (.int 0))),.set 6 (.comp [] ["first"] (.nm 0) .val %[.xz 5|1] .nop (.call "chain_from" %[.xz 4,.xz 0,.xz 3|1])),.ret (.tup %[.bi .sorted %[.xz 6|1],.call "full_names" %[.xz 4|1]|1])|2]
theorem jL:dB sM tG JG tF (top 3)=true:=by kernel_rfl
noncomputable def fN:LS:=["edges","starts","goal","rooms","name","first","second"]
def mK:LS:=["edges","starts","goal"]
def yV:Need:=⟨["add_name","add_way"],["BEGIN","WIDE"],[]⟩
noncomputable def zF:PT :=
  %[.ife (.cmp .NotEq (.xz 4) (.xz 2)) %[.expr (.call "add_name" %[.xz 3,.xz 4|1]),.expr (.call "add_way" %[.xz 3,.glo "BEGIN",.tup %[.xz 4,.str "to"|1],.glo "WIDE"|1])|2] .nil|2]
noncomputable def yF:PT :=
  %[.ife (.and (.cmp .NotEq (.xz 5) (.xz 2)) (.cmp .NotEq (.xz 5) (.xz 6))) %[.expr (.call "add_name" %[.xz 3,.xz 5|1]),.expr (.call "add_name" %[.xz 3,.xz 6|1]),.expr (.call "add_way" %[.xz 3,.tup %[.xz 5,.str "from"|1],.tup %[.xz 6,.str "to"|1],.glo "WIDE"|1])|2] .nil|2]
noncomputable def yN:PT :=
  %[.own 3 (.dsp (.glo "BEGIN") (.dnew true)),.for_ (.nm 4) .val %[.xz 1|1] zF,.for_ (.tp [5,6]) .val %[.xz 0|1] yF,.ret (.xz 3)|2]
theorem eT:dB yV yN fN mK (top 4)=true:=by kernel_rfl
def aN:LS:=["rooms","name"]
def iK:LS:=["rooms","name"]
def lV:Need:=⟨["add_way"],[],[]⟩
noncomputable def SH:PT :=
  %[.expr (.call "add_way" %[.xz 0,.tup %[.xz 1,.str "to"|1],.tup %[.xz 1,.str "from"|1],.int 1|1])|2]
theorem CT:dB lV SH aN iK (top 5)=true:=by kernel_rfl
def bP:LS:=["rooms","here","there","room"]
def xM:LS:=["rooms","here","there","room"]
def jZ:Need:=⟨[],[],[]⟩
noncomputable def AO:PT :=
  %[.sdf 0 (.xz 1),.sdf 0 (.xz 2),.six (.idx (.xz 0) (.xz 1)) (.xz 2) (.xz 3),.six (.idx (.xz 0) (.xz 2)) (.xz 1) (.int 0)|2]
theorem kW:dB jZ AO bP xM (top 6)=true:=by kernel_rfl
noncomputable def JE:LS:=["rooms","came_from","waiting","here","there","room"]
def HD:LS:=["rooms"]
def ZJ:Need:=⟨[],["BEGIN"],["len"]⟩
noncomputable def jB:PT :=
  %[.ife (.and (.cmp .Gt (.xz 5) (.int 0)) (.cmp .NotIn (.xz 4) (.xz 1))) %[.six (.xz 1) (.xz 4) (.xz 3),.expr (.mt .append (.xz 2) %[.xz 4|1])|2] .nil|2]
noncomputable def ZD:PT :=
  %[.set 3 (.mt .pop (.xz 2) %[.int 0|1]),.for_ (.tp [4,5]) .itm %[.idx (.xz 0) (.xz 3)|1] jB|2]
noncomputable def eE:PT :=
  %[.own 1 (.dsp (.glo "BEGIN") .non),.own 2 (.lst %[.glo "BEGIN"|1]),.whl (.cmp .Gt (.bi .len %[.xz 2|1]) (.int 0)) ZD,.ret (.xz 1)|2]
theorem LI:dB ZJ eE JE HD (top 7)=true:=by kernel_rfl
def GK:LS:=["rooms","came_from","last","there","here"]
def oI:LS:=["rooms","came_from","last"]
def rS:Need:=⟨[],["BEGIN"],[]⟩
noncomputable def bE:PT :=
  %[.set 4 (.idx (.xz 1) (.xz 3)),.six (.idx (.xz 0) (.xz 4)) (.xz 3) (.bin .Sub (.idx (.idx (.xz 0) (.xz 4)) (.xz 3)) (.int 1)),.six (.idx (.xz 0) (.xz 3)) (.xz 4) (.bin .Add (.idx (.idx (.xz 0) (.xz 3)) (.xz 4)) (.int 1)),.set 3 (.xz 4)|2]
noncomputable def dG:PT :=
  %[.set 3 (.xz 2),.whl (.cmp .NotEq (.xz 3) (.glo "BEGIN")) bE|2]
theorem NQ:dB rS dG GK oI (top 8)=true:=by kernel_rfl
def bJ:LS:=["rooms","first","goal","chain","name"]
def lH:LS:=["rooms","first","goal"]
def mQ:Need:=⟨["name_behind"],[],[]⟩
noncomputable def BD:PT :=
  %[.expr (.mt .append (.xz 3) %[.xz 4|1]),.set 4 (.call "name_behind" %[.xz 0,.xz 4|1])|2]
noncomputable def mF:PT :=
  %[.own 3 (.lst .nz),.set 4 (.xz 1),.whl (.cmp .NotEq (.xz 4) (.xz 2)) BD,.ret (.xz 3)|2]
theorem EN:dB mQ mF bJ lH (top 9)=true:=by kernel_rfl
def rH:LS:=["rooms","name","here"]
def LF:LS:=["rooms","name"]
def CN:Need:=⟨[],[],[]⟩
noncomputable def uE:PT :=
  %[.set 2 (.tup %[.xz 1,.str "from"|1]),.ret (.idx (.comp [] ["there"] (.nm 0) .val %[.idx (.xz 0) (.xz 2)|1] (.and (.cmp .NotEq (.idx (.xz 0) (.int 0)) (.xz 2)) (.cmp .Gt (.idx (.idx (.xz 1) (.xz 0)) (.xz 3)) (.int 0))) (.idx (.xz 0) (.int 0))) (.int 0))|2]
theorem AM:dB CN uE rH LF (top 10)=true:=by kernel_rfl
def uJ:LS:=["came_from"]
def gH:LS:=["came_from"]
def lQ:Need:=⟨[],[],["sorted"]⟩
noncomputable def lF:PT :=
  %[.ret (.bi .sorted %[.comp [] ["point"] (.nm 0) .val %[.xz 0|1] (.and (.cmp .Eq (.idx (.xz 0) (.int 1)) (.str "to")) (.cmp .NotIn (.tup %[.idx (.xz 0) (.int 0),.str "from"|1]) (.xz 1))) (.idx (.xz 0) (.int 0))|1])|2]
theorem AN:dB lQ lF uJ gH (top 11)=true:=by kernel_rfl
noncomputable def iG:LS:=["edges","seers","needs","ground","found","grown","name","number","chains"]
def sF:LS:=["edges","seers","needs"]
def rM:Need:=⟨["told_through"],[],["len"]⟩
noncomputable def BC:PT :=
  %[.ife (.cmp .NotIn (.xz 6) (.xz 4)) %[.set 8 (.idx (.call "told_through" %[.xz 0,.xz 1,.xz 4,.xz 6|1]) (.int 0)),.ife (.cmp .GtE (.bi .len %[.xz 8|1]) (.xz 7)) %[.expr (.mt .append (.xz 3) %[.tup %[.xz 6,.slc (.xz 8) .nop (.xz 7)|1]|1]),.expr (.mt .append (.xz 4) %[.xz 6|1]),.set 5 (.bl true)|2] .nil|2] .nil|2]
noncomputable def UC:PT :=
  %[.set 5 (.bl false),.for_ (.tp [6,7]) .val %[.xz 2|1] BC|2]
noncomputable def sG:PT :=
  %[.own 3 (.comp [false,false,false,false,false,false,true,true] ["name","number"] (.tp [0,1]) .val %[.xz 2|1] (.cmp .In (.xz 0) (.xz 3)) (.tup %[.xz 0,.lst .nz|1])),.own 4 (.comp [false,false,false,false,false,false,true,false,true] ["name","chains"] (.tp [0,1]) .val %[.xz 3|1] .nop (.xz 0)),.set 5 (.bl true),.whl (.xz 5) UC,.ret (.xz 3)|2]
theorem IK:dB rM sG iG sF (top 13)=true:=by kernel_rfl
def eG:LS:=["edges","seers","people","goal"]
def rF:LS:=["edges","seers","people","goal"]
def pM:Need:=⟨["apart_chains"],[],[]⟩
noncomputable def YD:PT :=
  %[.ret (.call "apart_chains" %[.comp [] ["edge"] (.nm 0) .val %[.xz 0|1] (.cmp .In (.idx (.xz 0) (.int 0)) (.xz 3)) (.xz 0),.xz 1,.xz 3|1])|2]
theorem AK:dB pM YD eG rF (top 14)=true:=by kernel_rfl
noncomputable def C7:LS:=["world","events","past","taken","wrong","held","known","steps","number","believed","live"]
def yX:LS:=["world"]
noncomputable def Jh:Need:=⟨["going_order","is_taken","wrong_among","live_among","held_among"],[],[]⟩
noncomputable def zK:PT :=
  %[.own 4 (.call "wrong_among" %[.xz 0,.xz 2|1]),.set 10 (.call "live_among" %[.xz 1,.xz 3,.xz 4|1]),.set 5 (.call "held_among" %[.xz 0,.xz 2,.xz 10,.xz 6|1]),.expr (.mt .append (.xz 7) %[.tup %[.xz 8,.xz 9,.xz 10,.xz 5|1]|1])|2]
noncomputable def vN:PT :=
  (.seq (.set 9 (.call "is_taken" %[.xz 0,.idx (.xz 1) (.xz 8),.xz 4,.xz 5|1]))
  (.seq (.expr (.mt .append (.xz 2) %[.xz 8|1]))
  (.seq (.ife (.and (.xz 9) (.cmp .Eq (.idx (.idx (.xz 1) (.xz 8)) (.int 0)) (.str "tell"))) %[.expr (.mt .append (.xz 3) %[.xz 8|1])|2] .nil)
  zK)))
noncomputable def cW:PT :=
  %[.set 1 (.idx (.xz 0) (.int 3)),.own 2 (.lst .nz),.own 3 (.lst .nz),.own 4 (.dnew true),.set 5 (.lst .nz),.own 6 (.dnew true),.own 7 (.lst .nz),.for_ (.nm 8) .val %[.call "going_order" %[.xz 1|1]|1] vN,.ret (.xz 7)|2]
theorem Gb:dB Jh cW C7 yX (top 17)=true:=by kernel_rfl
noncomputable def rN:LS:=["world","event","wrong","held","teller","hearer","matter"]
def tK:LS:=["world","event","wrong","held"]
def cV:Need:=⟨["has_against","rank_of","floor_of"],[],[]⟩
noncomputable def cF:PT :=
  %[.ife (.cmp .Eq (.idx (.xz 1) (.int 0)) (.str "see")) %[.ret (.bl true)|2] .nil,.set 4 (.idx (.xz 1) (.int 2)),.set 5 (.idx (.xz 1) (.int 3)),.set 6 (.idx (.xz 1) (.int 4)),.ife (.or (.cmp .NotIn (.tup %[.xz 4,.xz 6|1]) (.xz 3)) (.cmp .In (.tup %[.xz 4,.xz 5|1]) (.xz 2))) %[.ret (.bl false)|2] .nil,.ret (.and (.cmp .GtE (.call "rank_of" %[.xz 0,.xz 4|1]) (.call "floor_of" %[.xz 0,.xz 5|1])) (.not (.call "has_against" %[.xz 0,.xz 3,.xz 5,.xz 6|1])))|2]
theorem VT:dB cV cF rN tK (top 18)=true:=by kernel_rfl
def yP:LS:=["world","name"]
def EL:LS:=["world","name"]
def RY:Need:=⟨[],[],[]⟩
noncomputable def NJ:PT :=
  %[.ret (.idx (.comp [] ["person"] (.nm 0) .val %[.idx (.xz 0) (.int 0)|1] (.cmp .Eq (.idx (.xz 0) (.int 0)) (.xz 2)) (.idx (.xz 0) (.int 1))) (.int 0))|2]
theorem TV:dB RY NJ yP EL (top 19)=true:=by kernel_rfl
def sN:LS:=["world","name"]
def aK:LS:=["world","name"]
def fV:Need:=⟨[],[],[]⟩
noncomputable def PH:PT :=
  %[.ret (.idx (.comp [] ["person"] (.nm 0) .val %[.idx (.xz 0) (.int 0)|1] (.cmp .Eq (.idx (.xz 0) (.int 0)) (.xz 2)) (.idx (.xz 0) (.int 2))) (.int 0))|2]
theorem XT:dB fV PH sN aK (top 20)=true:=by kernel_rfl
def sH:LS:=["world","pairs","name","matter","rivals"]
def MF:LS:=["world","pairs","name","matter"]
def DN:Need:=⟨[],[],["any"]⟩
noncomputable def dE:PT :=
  %[.own 4 (.comp [] ["first","second"] (.tp [0,1]) .val %[.idx (.xz 0) (.int 2)|1] (.cmp .Eq (.xz 0) (.xz 5)) (.xz 1)),.expr (.mt .extend (.xz 4) %[.comp [] ["first","second"] (.tp [0,1]) .val %[.idx (.xz 0) (.int 2)|1] (.cmp .Eq (.xz 1) (.xz 5)) (.xz 0)|1]),.ret (.bi .any %[.comp [] ["rival"] (.nm 0) .val %[.xz 4|1] .nop (.cmp .In (.tup %[.xz 3,.xz 0|1]) (.xz 2))|1])|2]
theorem EM:dB DN dE sH MF (top 21)=true:=by kernel_rfl
def pH:LS:=["world","past","seen","wrong","number","event"]
def HF:LS:=["world","past"]
def BN:Need:=⟨["seen_among","has_against"],[],[]⟩
noncomputable def ZF:PT :=
  %[.set 5 (.idx (.idx (.xz 0) (.int 3)) (.xz 4)),.ife (.and (.cmp .Eq (.idx (.xz 5) (.int 0)) (.str "tell")) (.cmp .NotIn (.tup %[.idx (.xz 5) (.int 3),.idx (.xz 5) (.int 4)|1]) (.xz 2))) %[.ife (.call "has_against" %[.xz 0,.xz 2,.idx (.xz 5) (.int 3),.idx (.xz 5) (.int 4)|1]) %[.six (.xz 3) (.tup %[.idx (.xz 5) (.int 2),.idx (.xz 5) (.int 3)|1]) (.bl true)|2] .nil|2] .nil|2]
noncomputable def xE:PT :=
  %[.own 2 (.call "seen_among" %[.idx (.xz 0) (.int 3),.xz 1|1]),.own 3 (.dnew true),.for_ (.nm 4) .val %[.xz 1|1] ZF,.ret (.xz 3)|2]
theorem TM:dB BN xE pH HF (top 22)=true:=by kernel_rfl
def zJ:LS:=["events","past","seen","number"]
def bH:LS:=["events","past"]
def cQ:Need:=⟨[],[],[]⟩
noncomputable def cG:PT :=
  %[.ife (.cmp .Eq (.idx (.idx (.xz 0) (.xz 3)) (.int 0)) (.str "see")) %[.six (.xz 2) (.tup %[.idx (.idx (.xz 0) (.xz 3)) (.int 2),.idx (.idx (.xz 0) (.xz 3)) (.int 3)|1]) (.bl true)|2] .nil|2]
noncomputable def jF:PT :=
  %[.own 2 (.dnew true),.for_ (.nm 3) .val %[.xz 1|1] cG,.ret (.xz 2)|2]
theorem PN:dB cQ jF zJ bH (top 23)=true:=by kernel_rfl
def kJ:LS:=["events","taken","wrong"]
def cH:LS:=["events","taken","wrong"]
def dQ:Need:=⟨[],[],["sorted"]⟩
noncomputable def kF:PT :=
  %[.ret (.bi .sorted %[.comp [] ["number"] (.nm 0) .val %[.xz 1|1] (.cmp .NotIn (.tup %[.idx (.idx (.xz 1) (.xz 0)) (.int 2),.idx (.idx (.xz 1) (.xz 0)) (.int 3)|1]) (.xz 3)) (.xz 0)|1])|2]
theorem RN:dB dQ kF kJ cH (top 24)=true:=by kernel_rfl
noncomputable def xJ:LS:=["world","past","live","known","seen","holders","matter","web","held","person"]
def fH:LS:=["world","past","live","known"]
noncomputable def gQ:Need:=⟨["seen_among","edges_of","seers_of","holders_in"],[],[]⟩
noncomputable def jD:PT :=
  %[.six (.xz 5) (.xz 6) (.idx (.xz 3) (.xz 7))|2]
noncomputable def UD:PT :=
  (.seq (.set 7 (.tup %[.call "seers_of" %[.xz 0,.xz 4,.xz 6|1],.call "edges_of" %[.idx (.xz 0) (.int 3),.xz 2,.xz 6|1]|1]))
  (.seq (.ife (.cmp .NotIn (.xz 7) (.xz 3)) %[.six (.xz 3) (.xz 7) (.call "holders_in" %[.xz 0,.xz 7|1])|2] .nil)
  jD))
noncomputable def VD:PT :=
  %[.expr (.mt .extend (.xz 8) %[.comp [false,false,false,false,false,false,true] ["matter"] (.nm 0) .val %[.idx (.xz 0) (.int 1)|1] (.cmp .In (.idx (.xz 10) (.int 0)) (.idx (.xz 6) (.xz 0))) (.tup %[.idx (.xz 10) (.int 0),.xz 0|1])|1])|2]
noncomputable def gF:PT :=
  %[.own 4 (.call "seen_among" %[.idx (.xz 0) (.int 3),.xz 1|1]),.own 5 (.dnew false),.for_ (.nm 6) .val %[.idx (.xz 0) (.int 1)|1] UD,.own 8 (.lst .nz),.for_ (.nm 9) .val %[.idx (.xz 0) (.int 0)|1] VD,.ret (.xz 8)|2]
theorem TN:dB gQ gF xJ fH (top 25)=true:=by kernel_rfl
def dN:LS:=["world","seen","matter"]
def lK:LS:=["world","seen","matter"]
def jV:Need:=⟨[],[],["tuple"]⟩
noncomputable def GH:PT :=
  %[.ret (.bi .tuple %[.comp [] ["person"] (.nm 0) .val %[.idx (.xz 0) (.int 0)|1] (.cmp .In (.tup %[.idx (.xz 0) (.int 0),.xz 3|1]) (.xz 2)) (.idx (.xz 0) (.int 0))|1])|2]
theorem rT:dB jV GH dN lK (top 26)=true:=by kernel_rfl
def tN:LS:=["events","live","matter","tells"]
def eK:LS:=["events","live","matter"]
def hV:Need:=⟨[],[],["tuple"]⟩
noncomputable def RH:PT :=
  %[.set 3 (.comp [] ["number"] (.nm 0) .val %[.xz 1|1] (.cmp .Eq (.idx (.idx (.xz 1) (.xz 0)) (.int 4)) (.xz 3)) (.idx (.xz 1) (.xz 0))),.ret (.bi .tuple %[.comp [] ["event"] (.nm 0) .val %[.xz 3|1] .nop (.tup %[.idx (.xz 0) (.int 2),.idx (.xz 0) (.int 3)|1])|1])|2]
theorem UT:dB hV RH tN eK (top 27)=true:=by kernel_rfl
def vJ:LS:=["world","web"]
def dH:LS:=["world","web"]
def fQ:Need:=⟨["ground_alone","needs_of"],[],[]⟩
noncomputable def fF:PT :=
  %[.ret (.comp [] ["name","chains"] (.tp [0,1]) .val %[.call "ground_alone" %[.idx (.xz 1) (.int 1),.idx (.xz 1) (.int 0),.call "needs_of" %[.xz 0|1]|1]|1] .nop (.xz 0))|2]
theorem SN:dB fQ fF vJ dH (top 28)=true:=by kernel_rfl
def gN:LS:=["world"]
def nK:LS:=["world"]
def zV:Need:=⟨[],[],[]⟩
noncomputable def HH:PT :=
  %[.ret (.comp [] ["person"] (.nm 0) .val %[.idx (.xz 0) (.int 0)|1] .nop (.tup %[.idx (.xz 0) (.int 0),.idx (.xz 0) (.int 3)|1]))|2]
theorem iT:dB zV HH gN nK (top 29)=true:=by kernel_rfl
noncomputable def kU:LS:=["_law_script","_law_k","_law_many","_law_cell","_law_number"]
def pO:LS:=["_law_script","_law_k","_law_many"]
def m5:Need:=⟨[],[],["len"]⟩
noncomputable def rG:PT :=
  %[.set 4 (.bin .Mod (.bin .Mult (.bin .Add (.bin .Add (.bin .Mod (.xz 3) (.int 2147483647)) (.bin .Mult (.int 7) (.xz 1))) (.int 3)) (.bin .Add (.int 48271) (.bin .Mult (.bin .Mult (.int 1103) (.xz 1)) (.xz 1)))) (.int 2147483629)),.ret (.bin .Mod (.bin .FloorDiv (.xz 4) (.int 64)) (.xz 2))|2]
noncomputable def kN:PT :=
  (.seq (.set 3 (.int 0))
  (.seq (.ife (.cmp .Gt (.bi .len %[.xz 0|1]) (.int 0)) %[.set 3 (.idx (.xz 0) (.bin .Mod (.xz 1) (.bi .len %[.xz 0|1])))|2] .nil)
  rG))
theorem BZ:dB m5 kN kU pO (top 31)=true:=by kernel_rfl
noncomputable def kP:LS:=["_law_script","_law_letters","_law_ahead","_law_behind","_law_first"]
def yM:LS:=["_law_script"]
def TY:Need:=⟨["_law_draw"],[],["range"]⟩
noncomputable def PJ:PT :=
  %[.set 1 (.str "bcdfgjkmnpqvwxyz"),.set 2 (.bin .Mult (.str "zq") (.call "_law_draw" %[.xz 0,.int 901,.int 2|1])),.set 3 (.slc (.str "vzb") .nop (.call "_law_draw" %[.xz 0,.int 902,.int 4|1])),.set 4 (.call "_law_draw" %[.xz 0,.int 903,.int 16|1]),.ret (.comp [] ["_law_k"] (.nm 0) .rng1 %[.int 16|1] .nop (.bin .Add (.bin .Add (.xz 3) (.idx (.xz 2) (.bin .Mod (.bin .Add (.xz 5) (.xz 0)) (.int 16)))) (.xz 4)))|2]
theorem IV:dB TY PJ kP yM (top 32)=true:=by kernel_rfl
noncomputable def lN:LS:=["_law_script","_law_names_here","_law_people_here","_law_wide","_law_k","_law_name","_law_rank","_law_floor"]
def oK:LS:=["_law_script","_law_names_here"]
def vV:Need:=⟨["_law_draw"],[],["enumerate","int"]⟩
noncomputable def RI:PT :=
  %[.set 6 (.call "_law_draw" %[.xz 0,.bin .Add (.int 910) (.xz 4),.xz 3|1]),.set 7 (.bin .Mult (.call "_law_draw" %[.xz 0,.bin .Add (.int 920) (.xz 4),.xz 3|1]) (.bi .int %[.cmp .Eq (.call "_law_draw" %[.xz 0,.bin .Add (.int 930) (.xz 4),.int 3|1]) (.int 0)|1])),.expr (.mt .append (.xz 2) %[.tup %[.xz 5,.xz 6,.xz 7,.idx (.lst %[.int 1,.int 1,.int 2,.int 2,.int 3,.int 4|1]) (.call "_law_draw" %[.xz 0,.bin .Add (.int 940) (.xz 4),.int 6|1])|1]|1])|2]
noncomputable def LH:PT :=
  %[.own 2 (.lst .nz),.set 3 (.idx (.lst %[.int 4,.int 100|1]) (.call "_law_draw" %[.xz 0,.int 904,.int 2|1])),.for_ (.tp [4,5]) .enum %[.xz 1|1] RI,.ret (.xz 2)|2]
theorem JT:dB vV LH lN oK (top 33)=true:=by kernel_rfl
noncomputable def uP:LS:=["_law_script","_law_k","_law_people_here","_law_matters","_law_last","_law_at","_law_matter","_law_word","_law_times","_law_time","_law_teller","_law_others","_law_hearer","_law_by","_law_j"]
noncomputable def vM:LS:=["_law_script","_law_k","_law_people_here","_law_matters","_law_last"]
def IY:Need:=⟨["_law_draw"],[],["len","range","tuple"]⟩
noncomputable def FK:PT :=
  %[.expr (.mt .append (.xz 13) %[.idx (.idx (.xz 2) (.call "_law_draw" %[.xz 0,.bin .Add (.bin .Add (.bin .Mult (.int 11) (.xz 1)) (.int 8)) (.xz 14),.bi .len %[.xz 2|1]|1])) (.int 0)|1])|2]
noncomputable def bF:PT :=
  %[.set 11 (.comp [] ["_law_person"] (.nm 0) .val %[.xz 2|1] (.cmp .NotEq (.idx (.xz 0) (.int 0)) (.xz 11)) (.idx (.xz 0) (.int 0))),.set 12 (.idx (.xz 11) (.call "_law_draw" %[.xz 0,.bin .Add (.bin .Mult (.int 11) (.xz 1)) (.int 6),.bi .len %[.xz 11|1]|1])),.own 13 (.lst .nz),.for_ (.nm 14) .rng1 %[.call "_law_draw" %[.xz 0,.bin .Add (.bin .Mult (.int 11) (.xz 1)) (.int 7),.int 3|1]|1] FK,.ret (.tup %[.str "tell",.xz 9,.xz 10,.xz 12,.xz 6,.xz 7,.bi .tuple %[.xz 13|1]|1])|2]
noncomputable def TJ:PT :=
  (.seq (.set 5 (.call "_law_draw" %[.xz 0,.bin .Mult (.int 11) (.xz 1),.bi .len %[.xz 2|1]|1]))
  (.seq (.set 6 (.idx (.xz 3) (.call "_law_draw" %[.xz 0,.bin .Add (.bin .Mult (.int 11) (.xz 1)) (.int 1),.bi .len %[.xz 3|1]|1])))
  (.seq (.set 7 (.slc (.str "abcdef") (.call "_law_draw" %[.xz 0,.bin .Add (.bin .Mult (.int 11) (.xz 1)) (.int 2),.int 6|1]) .nop))
  (.seq (.set 8 (.lst %[.xz 1,.bin .Mult (.int 2) (.bin .FloorDiv (.xz 1) (.int 2)),.call "_law_draw" %[.xz 0,.bin .Add (.bin .Mult (.int 11) (.xz 1)) (.int 3),.int 9|1],.bin .Sub (.int 100) (.xz 1)|1]))
  (.seq (.set 9 (.idx (.xz 8) (.call "_law_draw" %[.xz 0,.int 905,.int 4|1])))
  (.seq (.ife (.or (.cmp .Is (.xz 4) .non) (.cmp .Eq (.call "_law_draw" %[.xz 0,.bin .Add (.bin .Mult (.int 11) (.xz 1)) (.int 4),.int 4|1]) (.int 0))) %[.ret (.tup %[.str "see",.xz 9,.idx (.idx (.xz 2) (.xz 5)) (.int 0),.xz 6,.xz 7|1])|2] .nil)
  (.seq (.set 10 (.idx (.idx (.xz 2) (.xz 5)) (.int 0)))
  (.seq (.ife (.cmp .Gt (.call "_law_draw" %[.xz 0,.bin .Add (.bin .Mult (.int 11) (.xz 1)) (.int 5),.int 3|1]) (.int 0)) %[.set 10 (.idx (.xz 4) (.int 0)),.set 6 (.idx (.xz 4) (.int 1))|2] .nil)
  bF))))))))
theorem zW:dB IY TJ uP vM (top 34)=true:=by kernel_rfl
noncomputable def mN:LS:=["_law_script","_law_most","_law_cells","_law_k","_law_cell"]
def pK:LS:=["_law_script","_law_most"]
def xV:Need:=⟨[],[],["enumerate"]⟩
noncomputable def AI:PT :=
  %[.ife (.cmp .Lt (.xz 3) (.xz 1)) %[.expr (.mt .append (.xz 2) %[.xz 4|1])|2] %[.six (.xz 2) (.bin .Mod (.xz 3) (.xz 1)) (.bin .Add (.bin .Mult (.idx (.xz 2) (.bin .Mod (.xz 3) (.xz 1))) (.int 31)) (.xz 4))|2]|2]
noncomputable def MH:PT :=
  %[.own 2 (.lst .nz),.for_ (.tp [3,4]) .enum %[.xz 0|1] AI,.ret (.xz 2)|2]
theorem YT:dB xV MH mN pK (top 35)=true:=by kernel_rfl
noncomputable def zP:LS:=["_law_script","_law_most","_law_names_here","_law_many","_law_people_here","_law_matters","_law_against","_law_k","_law_j","_law_both","_law_events","_law_last","_law_event_here"]
def jM:LS:=["_law_script","_law_most"]
noncomputable def SY:Need:=⟨["_law_folded","_law_names","_law_draw","_law_people","_law_event"],[],["int","len","range"]⟩
noncomputable def hG:PT :=
  %[.set 9 (.lst %[.tup %[.idx (.xz 5) (.xz 7),.idx (.xz 5) (.xz 8)|1],.tup %[.idx (.xz 5) (.xz 8),.idx (.xz 5) (.xz 7)|1]|1]),.ife (.cmp .Gt (.call "_law_draw" %[.xz 0,.bin .Add (.bin .Add (.int 950) (.bin .Mult (.int 3) (.xz 7))) (.xz 8),.int 3|1]) (.int 0)) %[.expr (.mt .append (.xz 6) %[.idx (.xz 9) (.call "_law_draw" %[.xz 0,.bin .Add (.bin .Add (.int 960) (.bin .Mult (.int 3) (.xz 7))) (.xz 8),.int 2|1])|1])|2] .nil|2]
def gG:PT :=
  %[.for_ (.nm 8) .rng1 %[.xz 7|1] hG|2]
noncomputable def fG:PT :=
  %[.set 12 (.call "_law_event" %[.xz 0,.xz 7,.xz 4,.xz 5,.xz 11|1]),.expr (.mt .append (.xz 10) %[.xz 12|1]),.set 11 (.tup %[.idx (.xz 12) (.int 2),.idx (.xz 12) (.int 3)|1]),.ife (.cmp .Eq (.idx (.xz 12) (.int 0)) (.str "tell")) %[.set 11 (.tup %[.idx (.xz 12) (.int 3),.idx (.xz 12) (.int 4)|1])|2] .nil|2]
noncomputable def xF:PT :=
  %[.own 6 (.lst .nz),.for_ (.nm 7) .rng1 %[.bi .len %[.xz 5|1]|1] gG,.own 10 (.lst .nz),.set 11 .non,.for_ (.nm 7) .rng1 %[.bi .len %[.xz 0|1]|1] fG,.frz [6,10] (.ret (.tup %[.xz 4,.xz 5,.xz 6,.xz 10|1]))|2]
noncomputable def vF:PT :=
  (.seq (.set 4 (.call "_law_people" %[.xz 0,.slc (.xz 2) .nop (.xz 3)|1]))
  (.seq (.set 5 (.slc (.xz 2) (.int 8) (.bin .Add (.bin .Add (.int 9) (.call "_law_draw" %[.xz 0,.int 907,.int 3|1])) (.bin .Mult (.int 3) (.bi .int %[.cmp .Eq (.call "_law_draw" %[.xz 0,.int 899,.int 4|1]) (.int 0)|1])))))
  (.seq (.ife (.cmp .Eq (.call "_law_draw" %[.xz 0,.int 908,.int 3|1]) (.int 0)) %[.set 5 (.slc (.xz 2) .nop (.bi .len %[.xz 5|1]))|2] .nil)
  xF)))
noncomputable def OJ:PT :=
  (.seq (.set 0 (.call "_law_folded" %[.xz 0,.int 24|1]))
  (.seq (.set 2 (.call "_law_names" %[.xz 0|1]))
  (.seq (.set 3 (.bin .Add (.int 2) (.call "_law_draw" %[.xz 0,.int 906,.bin .Sub (.xz 1) (.int 1)|1])))
  (.seq (.ife (.cmp .Eq (.call "_law_draw" %[.xz 0,.int 897,.int 8|1]) (.int 0)) %[.set 3 (.bin .Add (.int 7) (.call "_law_draw" %[.xz 0,.int 898,.int 2|1]))|2] .nil)
  vF))))
theorem EV:dB SY OJ zP jM (top 36)=true:=by kernel_rfl
noncomputable def vP:LS:=["_law_edges","_law_starts","_law_goal","_law_shut","_law_todo","_law_met","_law_here","_law_one","_law_other"]
noncomputable def zM:LS:=["_law_edges","_law_starts","_law_goal","_law_shut"]
def AY:Need:=⟨[],[],["len"]⟩
noncomputable def nG:PT :=
  %[.ife (.and (.cmp .Eq (.xz 7) (.xz 6)) (.cmp .Eq (.xz 8) (.xz 2))) %[.ret (.bl false)|2] .nil,.ife (.and (.cmp .Eq (.xz 7) (.xz 6)) (.cmp .NotIn (.xz 8) (.xz 3))) %[.expr (.mt .append (.xz 4) %[.xz 8|1])|2] .nil|2]
noncomputable def mG:PT :=
  %[.set 6 (.mt .pop (.xz 4) .nz),.ife (.cmp .NotIn (.xz 6) (.xz 5)) %[.six (.xz 5) (.xz 6) (.bl true),.for_ (.tp [7,8]) .val %[.xz 0|1] nG|2] .nil|2]
noncomputable def RJ:PT :=
  %[.own 4 (.comp [] ["_law_name"] (.nm 0) .val %[.xz 1|1] (.and (.cmp .NotEq (.xz 0) (.xz 3)) (.cmp .NotIn (.xz 0) (.xz 4))) (.xz 0)),.own 5 (.dnew false),.whl (.cmp .Gt (.bi .len %[.xz 4|1]) (.int 0)) mG,.ret (.bl true)|2]
theorem jW:dB AY RJ vP zM (top 37)=true:=by kernel_rfl
noncomputable def HK:LS:=["_law_names_here","_law_size","_law_rows","_law_name"]
def pI:LS:=["_law_names_here","_law_size"]
def sS:Need:=⟨[],[],["len"]⟩
noncomputable def cE:PT :=
  %[.set 2 (.bin .Add (.xz 2) (.comp [] ["_law_row"] (.nm 0) .val %[.xz 2|1] (.cmp .Lt (.bi .len %[.xz 0|1]) (.xz 2)) (.bin .Add (.xz 0) (.lst %[.xz 4|1]))))|2]
noncomputable def lG:PT :=
  %[.set 2 (.lst %[.lst .nz|1]),.for_ (.nm 3) .val %[.xz 0|1] cE,.ret (.xz 2)|2]
theorem OQ:dB sS lG HK pI (top 38)=true:=by kernel_rfl
noncomputable def pN:LS:=["_law_edges","_law_starts","_law_goal","_law_need","_law_holders","_law_inner","_law_others","_law_shut"]
noncomputable def sK:LS:=["_law_edges","_law_starts","_law_goal","_law_need","_law_holders"]
def bV:Need:=⟨["_law_subsets","_law_meets"],[],[]⟩
noncomputable def EI:PT :=
  %[.ife (.call "_law_meets" %[.xz 5,.xz 1,.xz 2,.xz 7|1]) %[.ret (.bl false)|2] .nil|2]
noncomputable def OH:PT :=
  %[.set 5 (.comp [] ["_law_pair"] (.nm 0) .val %[.xz 0|1] (.and (.cmp .In (.idx (.xz 0) (.int 0)) (.xz 5)) (.cmp .In (.idx (.xz 0) (.int 1)) (.bin .Add (.xz 5) (.lst %[.xz 3|1])))) (.xz 0)),.set 6 (.comp [] ["_law_name"] (.nm 0) .val %[.xz 4|1] (.cmp .NotEq (.xz 0) (.xz 3)) (.xz 0)),.for_ (.nm 7) .val %[.call "_law_subsets" %[.xz 6,.bin .Sub (.xz 3) (.int 1)|1]|1] EI,.ret (.bl true)|2]
theorem KT:dB bV OH pN sK (top 39)=true:=by kernel_rfl
noncomputable def xP:LS:=["_law_people_here","_law_edges","_law_seers","_law_holders","_law_many","_law_name","_law_rank","_law_floor","_law_need"]
def kM:LS:=["_law_people_here","_law_edges","_law_seers"]
def EY:Need:=⟨["_law_enough"],[],["list","len"]⟩
noncomputable def pG:PT :=
  %[.ife (.and (.cmp .NotIn (.xz 5) (.xz 3)) (.call "_law_enough" %[.xz 1,.xz 2,.xz 5,.xz 8,.xz 3|1])) %[.expr (.mt .append (.xz 3) %[.xz 5|1])|2] .nil|2]
noncomputable def oG:PT :=
  %[.set 4 (.bi .len %[.xz 3|1]),.for_ (.tp [5,6,7,8]) .val %[.xz 0|1] pG|2]
noncomputable def SJ:PT :=
  %[.own 3 (.bi .list %[.xz 2|1]),.set 4 (.ng 1),.whl (.cmp .Lt (.xz 4) (.bi .len %[.xz 3|1])) oG,.ret (.xz 3)|2]
theorem yW:dB EY SJ xP kM (top 40)=true:=by kernel_rfl
noncomputable def dY:LS:=["_law_world_here","_law_numbers","_law_live","_law_pairs","_law_matter","_law_seers","_law_edges","_law_number","_law_event_here","_law_name","_law_due_here","_law_person"]
def ER:LS:=["_law_world_here","_law_numbers","_law_live"]
def ca:Need:=⟨["_law_least"],[],[]⟩
noncomputable def yK:PT :=
  %[.set 8 (.idx (.idx (.xz 0) (.int 3)) (.xz 7)),.ife (.and (.cmp .Eq (.idx (.xz 8) (.int 0)) (.str "see")) (.and (.cmp .Eq (.idx (.xz 8) (.int 3)) (.xz 4)) (.cmp .NotIn (.idx (.xz 8) (.int 2)) (.xz 5)))) %[.expr (.mt .append (.xz 5) %[.idx (.xz 8) (.int 2)|1])|2] .nil|2]
noncomputable def jK:PT :=
  %[.set 8 (.idx (.idx (.xz 0) (.int 3)) (.xz 7)),.ife (.and (.cmp .Eq (.idx (.xz 8) (.int 4)) (.xz 4)) (.cmp .NotIn (.tup %[.idx (.xz 8) (.int 2),.idx (.xz 8) (.int 3)|1]) (.xz 6))) %[.expr (.mt .append (.xz 6) %[.tup %[.idx (.xz 8) (.int 2),.idx (.xz 8) (.int 3)|1]|1])|2] .nil|2]
noncomputable def IJ:PT :=
  %[.expr (.mt .append (.xz 3) %[.tup %[.xz 9,.xz 4|1]|1])|2]
noncomputable def EJ:PT :=
  %[.own 5 (.lst .nz),.own 6 (.lst .nz),.for_ (.nm 7) .val %[.xz 1|1] yK,.for_ (.nm 7) .val %[.xz 2|1] jK,.frz [5,6] (.for_ (.nm 9) .val %[.call "_law_least" %[.idx (.xz 0) (.int 0),.xz 6,.xz 5|1]|1] IJ)|2]
noncomputable def AJ:PT :=
  %[.own 10 (.bin .Add (.xz 10) (.comp [false,false,false,false,true] ["_law_matter"] (.nm 0) .val %[.idx (.xz 0) (.int 1)|1] (.cmp .In (.tup %[.idx (.xz 12) (.int 0),.xz 0|1]) (.xz 4)) (.tup %[.idx (.xz 12) (.int 0),.xz 0|1])))|2]
noncomputable def AQ:PT :=
  %[.own 3 (.lst .nz),.for_ (.nm 4) .val %[.idx (.xz 0) (.int 1)|1] EJ,.own 10 (.lst .nz),.for_ (.nm 11) .val %[.idx (.xz 0) (.int 0)|1] AJ,.ret (.xz 10)|2]
theorem E6:dB ca AQ dY ER (top 41)=true:=by kernel_rfl
noncomputable def nN:LS:=["_law_script","_law_world_here","_law_people_here","_law_matters","_law_against","_law_events","_law_name","_law_rank","_law_floor","_law_needs","_law_more","_law_k","_law_ahead"]
def rK:LS:=["_law_script","_law_world_here"]
def uV:Need:=⟨["_law_draw"],[],["range","len"]⟩
noncomputable def uF:PT :=
  %[.expr (.mt .append (.xz 10) %[.tup %[.str "see",.int 0,.idx (.idx (.xz 2) (.xz 11)) (.int 0),.idx (.xz 3) (.int 0),.str "a"|1]|1]),.expr (.mt .append (.xz 10) %[.tup %[.str "tell",.int 0,.idx (.idx (.xz 2) (.xz 11)) (.int 0),.xz 6,.idx (.xz 3) (.int 0),.str "b",.tup .nz|1]|1])|2]
noncomputable def NH:PT :=
  %[.tset [2,3,4,5] (.xz 1),.tset [6,7,8,9] (.idx (.xz 2) (.ng 1)),.own 10 (.lst .nz),.for_ (.nm 11) .rng1 %[.bin .Add (.int 1) (.call "_law_draw" %[.xz 0,.int 991,.bin .Sub (.bi .len %[.xz 2|1]) (.int 1)|1])|1] uF,.set 12 (.bin .Add (.slc (.xz 2) .nop (.ng 1)) (.lst %[.tup %[.xz 6,.xz 7,.int 0,.bin .Add (.int 2) (.call "_law_draw" %[.xz 0,.int 992,.int 3|1])|1]|1])),.ret (.tup %[.xz 12,.xz 3,.xz 4,.bin .Add (.xz 10) (.slc (.xz 5) .nop (.int 16))|1])|2]
theorem ZT:dB uV NH nN rK (top 42)=true:=by kernel_rfl
noncomputable def Ae:LS:=["_law_script","_law_world_here","_law_steps","_law_places","_law_k","_law_place","_law_numbers"]
def B3:LS:=["_law_script"]
noncomputable def Am:Need:=⟨["_law_world","_law_draw","_law_fanned","gone","_law_due"],[],["len","range","int","max"]⟩
noncomputable def TQ:PT :=
  %[.expr (.mt .append (.xz 3) %[.call "_law_draw" %[.xz 0,.bin .Add (.int 970) (.xz 4),.bi .max %[.int 1,.bi .len %[.xz 2|1]|1]|1]|1])|2]
noncomputable def SQ:PT :=
  %[.ife (.and (.cmp .GtE (.xz 5) (.int 0)) (.cmp .Gt (.bi .len %[.xz 2|1]) (.int 0))) %[.set 6 (.comp [] ["_law_step"] (.nm 0) .val %[.slc (.xz 2) .nop (.bin .Add (.xz 5) (.int 1))|1] .nop (.idx (.xz 0) (.int 0))),.ife (.cmp .NotEq (.idx (.idx (.xz 2) (.xz 5)) (.int 3)) (.call "_law_due" %[.xz 1,.xz 6,.idx (.idx (.xz 2) (.xz 5)) (.int 2)|1])) %[.ret (.bl false)|2] .nil|2] .nil|2]
noncomputable def zN:PT :=
  %[.set 2 (.call "gone" %[.xz 1|1]),.own 3 (.lst %[.bin .Sub (.bi .len %[.xz 2|1]) (.int 1)|1]),.for_ (.nm 4) .rng1 %[.bin .Sub (.int 3) (.bin .Mult (.int 2) (.bi .int %[.cmp .Gt (.bi .len %[.idx (.xz 1) (.int 0)|1]) (.int 5)|1]))|1] TQ,.for_ (.nm 5) .val %[.xz 3|1] SQ,.ret (.bl true)|2]
noncomputable def f7:PT :=
  (.seq (.set 1 (.call "_law_world" %[.xz 0,.int 5|1]))
  (.seq (.ife (.cmp .Eq (.call "_law_draw" %[.xz 0,.int 990,.int 3|1]) (.int 0)) %[.set 1 (.call "_law_fanned" %[.xz 0,.xz 1|1])|2] .nil)
  zN))
theorem Li:dB Am f7 Ae B3 (top 43)=true:=by kernel_rfl
theorem FQ(a b:Str):Qx (.str a) (.str b)=decide (a=b):=by rw[Q7,decide_eq_true_iff];simp[Qx]
theorem cC(l:LS)(z:Str):((l.map Jx).any λy=>Qx y (.str z))=decide (z∈l):=by rw[QBu,Q7,Wk,decide_eq_true_iff];constructor;rintro⟨x,u,e⟩;have e:Qx (.str x) (.str z)=true:=e;rw[FQ,decide_eq_true_iff]at e;exact e▸u;intro h;exact⟨z,h,by show Qx (.str z) (.str z)=true;rw[FQ];exact dT rfl⟩
theorem ZB(l:LS):(l.map Jx).all EA=true:=by rw[List.all_map,Qy];exact λ_ _=>rfl
theorem UW{l:LS}{z:Str}:Jx z∈l.map Jx↔z∈l:=by constructor;intro h;obtain⟨x,y,e⟩:=QS.mp h;cases e;exact y;exact W4
noncomputable def VM(g:Str)(cut:LS)(s:Str):Bool:=!decide (s=g)&&!decide (s∈cut)
inductive Led(es:JB)(st:LS)(g:Str)(cut:LS):Str->Prop
 |st {s:Str}:s∈st->VM g cut s=true->Led es st g cut s
 |ed {a b:Str}:Led es st g cut a->(a,b)∈es->VM g cut b=true->Led es st g cut b
theorem SF:∀{ks ns:LS},ks.Nodup->(∀s∈ks,s∈ns)->ks.length<=ns.length
 |[],_,_,_=>Q8 _|s::r,ns,h,hs=>by obtain⟨k,u⟩:=Qi.mp h;have z:=hs s QD;have:=SF (ks:=r) (ns:=ns.erase s) u λx y=>(QA5 (λ(e:x=s)=>k (e▸y))).mpr (hs x (QC _ y));rw[QAR z]at this;have f:=WU z;rw[QL];omega
def one(y:Str):Prop:=∃c,c<128/\y=⟨#[c]⟩
def pr(p:Str×Str):D:=.tuple [.str p.1,.str p.2]
theorem FI{α h:Type}(f:α->h)(l:List α)(a b:Option Int):dC (l.map f) a b=(dC l a b).map f:=by unfold dC;rw[QA,List.map_take,List.map_drop]
noncomputable abbrev Pt:=Str×Str
theorem HP(h:pr p=pr q):p=q:=by obtain⟨a,b⟩:=p;obtain⟨c,d⟩:=q;injection h with h;injection h with h1 h;injection h with h2 _;injection h1 with h1;injection h2 with h2;exact QCG h1 h2
theorem Y6{x k:D}{r:List D}(h:x≠k):dA (x::r) k=(dA r k).map (·+1):=by unfold dA;rw[if_neg h];cases r<;>rfl
theorem Xd{x k:D}{r:List D}(h:x=k):dA (x::r) k=some 0:=by unfold dA;rw[if_pos h]
noncomputable def look{α:Type}:List (Pt×α)->Pt->Option α
 |[],_=>none|e::l,p=>if e.1=p then some e.2 else look l p
noncomputable def put{α:Type}:List (Pt×α)->Pt->α->List (Pt×α)
 |[],p,v=>[(p,v)]|e::l,p,v=>if e.1=p then(e.1,v)::l else e::put l p v
def OC{α:Type}(l:List (Pt×α)):List D:=l.map λe=>pr e.1
theorem FJ{α:Type}{p:Pt}:∀{l:List (Pt×α)},look l p=none->dA (OC l) (pr p)=none/\∀w,put l p w=l++[(p,w)]
 |[],_=>⟨rfl,λ_=>rfl⟩|e::l,h=>by unfold look at h;by_cases c:e.1=p;rw[if_pos c]at h;cases h;rw[if_neg c]at h;obtain⟨y,x⟩:=FJ h;refine⟨?_,λw=>?_⟩;show dA (pr e.1::OC l) (pr p)=none;rw[Y6 (λz=>c (HP z)),y];rfl;show(if e.1=p then(e.1,w)::l else e::put l p w)=_;rw[if_neg c,x];rfl
theorem XC{α:Type}{p:Pt}{v:α}(f:α->T):∀{l:List (Pt×α)},look l p=some v->∃n,dA (OC l) (pr p)=some n/\(l.map λe=>f e.2)[n]?=some (f v)/\∀w,OC (put l p w)=OC l/\(l.map λe=>f e.2).set n (f w)=(put l p w).map λe=>f e.2
 |[],h=>by cases h|e::l,h=>by unfold look at h;by_cases c:e.1=p;rw[if_pos c]at h;injection h with h;refine⟨0,?_,?_,λw=>?_⟩;exact Xd (congrArg pr c);show some (f e.2)=_;rw[h];have:put (e::l) p w=(e.1,w)::l:=if_pos c;rw[this];exact⟨rfl,rfl⟩;rw[if_neg c]at h;obtain⟨n,i,k,u⟩:=XC f h;refine⟨n+1,?_,k,λw=>?_⟩;show dA (pr e.1::OC l) (pr p)=some (n+1);rw[Y6 (λz=>c (HP z)),i];rfl;have:put (e::l) p w=e::put l p w:=if_neg c;rw[this];obtain⟨y,x⟩:=u w;refine⟨?_,?_⟩;show pr e.1::OC (put l p w)=pr e.1::OC l;rw[y];show f e.2::(l.map λe=>f e.2).set n (f w)=f e.2::(put l p w).map λe=>f e.2;rw[x]
theorem eD{α:Type}{p q:Pt}{w:α}:∀{l:List (Pt×α)},look (put l p w) q=if p=q then some w else look l q
 |[]=>rfl|e::l=>by
  by_cases c:e.1=p;have h:put (e::l) p w=(e.1,w)::l:=if_pos c;rw[h];show(if e.1=q then some w else look l q)=if p=q then some w else(if e.1=q then some e.2 else look l q)
  rw[c];split<;>rfl;have h:put (e::l) p w=e::put l p w:=if_neg c;rw[h];show(if e.1=q then some e.2 else look (put l p w) q)=if p=q then some w else(if e.1=q then some e.2 else look l q)
  rw[eD];by_cases d:e.1=q;rw[if_pos d,if_pos d,if_neg (λz=>c (d.trans z.symm))];rw[if_neg d,if_neg d]
theorem IW{α:Type}{p:Pt}{w:α}:∀{l:List (Pt×α)},(put l p w).length<=l.length+1
 |[]=>Qa _|e::l=>by by_cases c:e.1=p;rw[show put (e::l) p w=(e.1,w)::l from if_pos c,QL,QL];omega;have:=IW (p:=p) (w:=w) (l:=l);rw[show put (e::l) p w=e::put l p w from if_neg c,QL,QL];omega
theorem yC(p:Pt):FD true (pr p):=⟨[.s p.1,.s p.2],rfl,by simp[z5,nkds]⟩
noncomputable abbrev Inn:=List (Pt×Int)
noncomputable abbrev Rm:=List (Pt×Inn)
noncomputable def iD(l:Inn):T:=.dct true (OC l) (l.map λe=>T.d (.int e.2))
def xB(r:Rm):T:=.dct true (OC r) (r.map λe=>iD e.2)
noncomputable def sdf(r:Rm)(p:Pt):Rm:=match look r p with
 |some _=>r|none=>r++[(p,[])]
theorem NW(hl:r.length<sizeLine)(q:Q (xB (sdf r p))):Nl (.d (pr p)) (xB r) Q:=by
 refine⟨OC r,_,rfl,yC p,by unfold OC;rw[QA];exact hl,?_⟩;unfold sdf at q;cases h:look r p with
 |some v=>rw[h]at q;obtain⟨n,x,_⟩:=XC iD h;exact .inl ⟨n,x,q⟩|none =>
  rw[h]at q;refine .inr ⟨(FJ h).1,?_⟩;have e:xB (r++[(p,[])])=.dct true (OC r++[pr p]) ((r.map λe=>iD e.2)++[.dct true [] []]):=by unfold xB OC;rw[QJ,QJ];rfl
  show Q (T.dct true (OC r++[pr p]) ((r.map λe=>iD e.2)++[.dct true [] []]));rw[<- e];exact q
theorem mP(hl:l.length<sizeLine)(q:Q (iD (put l p v))):J8 (iD l) (.d (pr p)) (.d (.int v)) Q:=by
 refine⟨yC p,by unfold OC;rw[QA];exact hl,?_⟩;have e:ZH true (OC l) (l.map λe=>T.d (.int e.2)) (pr p) (.d (.int v))=iD (put l p v):=by
  unfold ZH;cases h:look l p with|none=>obtain⟨x,y⟩:=FJ h;rw[x,y];unfold iD OC;rw[QJ,QJ];rfl|some u=>obtain⟨n,x,y,f⟩:=XC (λi:Int=>T.d (.int i)) h;rw[x];obtain⟨k,z⟩:=f v;show T.dct true (OC l) ((l.map λe=>T.d (.int e.2)).set n (T.d (.int v)))=_;unfold iD;rw[k,z]
 show Q (ZH true (OC l) (l.map λe=>T.d (.int e.2)) (pr p) (.d (.int v)));rw[e];exact q
theorem yI{Q:T->(T->T)->Prop}(h:look r p=some l)(q:∀f:T->T,(∀x,f (iD x)=xB (put r p x))->Q (iD l) f):Vl (.d (pr p)) (xB r) Q:=by obtain⟨n,i,k,u⟩:=XC iD h;refine⟨true,OC r,_,n,iD l,rfl,yC p,i,k,q _ λx=>?_⟩;obtain⟨z,y⟩:=u x;show T.dct true (OC r) ((r.map λe=>iD e.2).set n (iD x))=_;unfold xB;rw[z,y]
def XA:Pt:=("","begin")
def tO(n:Str):Pt:=(n,"to")
def fR(n:Str):Pt:=(n,"from")
theorem Rq:("begin":Str)≠"to":=by decide +kernel
theorem Sq:("begin":Str)≠"from":=by decide +kernel
theorem Pq:("to":Str)≠"from":=by decide +kernel
theorem IB:XA≠tO a:=λh=>Rq (congrArg Prod.snd h)
theorem aE:XA≠fR a:=λh=>Sq (congrArg Prod.snd h)
theorem HA:tO a≠fR b:=λh=>Pq (congrArg Prod.snd h)
theorem GB(h:tO a=tO b):a=b:=congrArg qr h
theorem FH(h:fR a=fR b):a=b:=congrArg qr h
def K0(p q:Pt):Prop:=(p=XA/\∃n,q=tO n)∨(∃n,p=tO n/\q=fR n)∨(∃a b,a≠b/\p=fR a/\q=tO b)
theorem SE(h:K0 p q):¬ K0 q p:=by
 rintro k;rcases h with⟨rfl,n,rfl⟩| ⟨n,rfl,rfl⟩| ⟨a,b,u,rfl,rfl⟩<;>rcases k with⟨x,m,y⟩| ⟨m,x,y⟩| ⟨c,d,z,x,y⟩
 exact IB x.symm;exact aE y;exact HA x;exact aE x.symm;exact HA x.symm;exact z ((FH x).symm.trans (GB y));exact IB x.symm;exact u ((FH y).trans (GB x).symm);exact HA x
theorem EF(h:K0 p q):p≠q:=λe=>SE h (by rw[e]at h ⊢;exact h)
noncomputable abbrev Wy:=Pt×Pt×Int
def lk(r:Rm)(p:Pt):Inn:=(look r p).getD []
noncomputable def KB(r:Rm)(w:Wy):Rm:=put (put (sdf (sdf r w.1) w.2.1) w.1 (put (lk (sdf (sdf r w.1) w.2.1) w.1) w.2.1 w.2.2)) w.2.1 (put (lk (put (sdf (sdf r w.1) w.2.1) w.1 (put (lk (sdf (sdf r w.1) w.2.1) w.1) w.2.1 w.2.2)) w.2.1) w.1 0)
theorem iS{α:Type}{p q:Pt}{v:α}:∀{l:List (Pt×α)},look (l++[(p,v)]) q=(look l q).or (if p=q then some v else none)
 |[]=>rfl|e::l=>by show(if e.1=q then some e.2 else look (l++[(p,v)]) q)=(if e.1=q then some e.2 else look l q).or (if p=q then some v else none);by_cases c:e.1=q;rw[if_pos c,if_pos c];rfl;rw[if_neg c,if_neg c];exact iS
theorem eS:look (sdf r p) q=(look r q).or (if p=q then some [] else none):=by
 unfold sdf;cases h:look r p with
 |some v =>
  show look r q=_;cases y:look r q with
  |some x=>rfl|none =>
   show none=if p=q then some [] else none
   rw[if_neg];intro e;rw[e,y]at h;cases h
 |none=>show look (r++[(p,[])]) q=_;exact iS
theorem UP:(sdf r p).length<=r.length+1:=by unfold sdf;split;omega;rw[QH,QY];omega
theorem mI{α:Type}{p:Pt}{w:α}{e:Pt×α}:∀{l:List (Pt×α)},e∈put l p w->e=(p,w)∨e∈l
 |[],h=>.inl (QI.mp h)|x::l,h=>by by_cases c:x.1=p;rw[show put (x::l) p w=(x.1,w)::l from if_pos c]at h;rcases QM.mp h with h|h;exact .inl (by rw[h,c]);exact .inr (QC _ h);rw[show put (x::l) p w=x::put l p w from if_neg c]at h;rcases QM.mp h with h|h;exact .inr (by rw[h];exact QD);exact(mI h).imp_right (QC _)
theorem DP{α:Type}{p:Pt}{w:α}{q:Pt}:∀{l:List (Pt×α)},(∃v,(q,v)∈put l p w)↔q=p∨∃v,(q,v)∈l
 |[]=>by
  constructor;rintro⟨v,h⟩;exact .inl (congrArg qr (QI.mp h));rintro(rfl|⟨v,h⟩)
  ·exact⟨w,QI.mpr rfl⟩
  exact(nomatch h)
 |x::l=>by
  by_cases c:x.1=p;rw[show put (x::l) p w=(x.1,w)::l from if_pos c];constructor;rintro⟨v,h⟩;rcases QM.mp h with h|h;exact .inl ((congrArg qr h).trans c);exact .inr ⟨v,QC _ h⟩;rintro(rfl|⟨v,h⟩)
  ·exact⟨w,by rw[c];exact QD⟩
  rcases QM.mp h with h|h
  ·exact⟨w,by rw[<- h];exact QD⟩
  exact⟨v,QC _ h⟩;rw[show put (x::l) p w=x::put l p w from if_neg c];have y:=DP (p:=p) (w:=w) (q:=q) (l:=l);constructor;rintro⟨v,h⟩;rcases QM.mp h with h|h;exact .inr ⟨v,by rw[h];exact QD⟩;exact(y.mp ⟨v,h⟩).imp_right λ⟨v,h⟩=>⟨v,QC _ h⟩
  rintro(h|⟨v,h⟩)
  ·obtain⟨v,h⟩:=y.mpr (.inl h)
   exact⟨v,QC _ h⟩
  rcases QM.mp h with h|h
  ·exact⟨v,by rw[h];exact QD⟩
  obtain⟨v,h⟩:=y.mpr (.inr ⟨v,h⟩);exact⟨v,QC _ h⟩
def U0(r:Rm)(p q:Pt):Prop:=∃v,(q,v)∈lk r p
def Key(r:Rm)(p:Pt):Prop:=∃l,look r p=some l
def Pos(r:Rm):Prop:=∀p,∀e∈lk r p,(0<e.2↔K0 p e.1)
def z8(r:Rm):Prop:=∀p q,U0 r p q->Key r q
def Sz(r:Rm)(n:Nat):Prop:=r.length<=n/\∀p,(lk r p).length<=n
theorem kE:lk (put r p l) q=if p=q then l else lk r q:=by unfold lk;rw[eD];split<;>rfl
theorem zE:lk (sdf r p) q=lk r q:=by
 unfold lk;rw[eS];cases look r q with|some x=>rfl|none=>show(if p=q then some [] else none).getD []=[];split<;>rfl
theorem ZI:Key (put r p l) q↔p=q∨Key r q:=by unfold Key;rw[eD];by_cases h:p=q;rw[if_pos h];exact⟨λ_=>.inl h,λ_=>⟨_,rfl⟩⟩;rw[if_neg h];exact⟨.inr,λz=>z.resolve_left h⟩
theorem OD:Key (sdf r p) q↔p=q∨Key r q:=by
 unfold Key;rw[eS];cases look r q with|some x=>exact⟨λ_=>.inr ⟨_,rfl⟩,λ_=>⟨_,rfl⟩⟩|none=>show(∃l,(if p=q then some [] else none)=some l)↔_;by_cases h:p=q;rw[if_pos h];exact⟨λ_=>.inl h,λ_=>⟨_,rfl⟩⟩;rw[if_neg h];exact⟨λ⟨_,e⟩=>(nomatch e),λz=>(z.resolve_left h)⟩
theorem YI(h:w.1≠w.2.1)(p:Pt):lk (KB r w) p=if w.2.1=p then put (lk r p) w.1 0 else if w.1=p then put (lk r p) w.2.1 w.2.2 else lk r p:=by unfold KB;rw[kE,kE,kE,zE,zE,zE,zE,if_neg h,zE,zE];by_cases y:w.2.1=p;rw[if_pos y,if_pos y,y];rw[if_neg y,if_neg y];by_cases x:w.1=p;rw[if_pos x,if_pos x,x];rw[if_neg x,if_neg x]
theorem jG:Key (KB r w) p↔p=w.1∨p=w.2.1∨Key r p:=by
 unfold KB;rw[ZI,ZI,OD,OD];constructor;rintro(h|h|h|h|h)
 ·exact .inr (.inl h.symm)
 exact .inl h.symm;exact .inr (.inl h.symm);exact .inl h.symm;exact .inr (.inr h);rintro(h|h|h)
 ·exact .inr (.inl h.symm)
 exact .inl h.symm;exact .inr (.inr (.inr (.inr h)))
theorem CI(h:w.1≠w.2.1):U0 (KB r w) p q↔U0 r p q∨(p=w.1/\q=w.2.1)∨(p=w.2.1/\q=w.1):=by
 unfold U0;rw[YI h];by_cases x:w.2.1=p;rw[if_pos x,DP];constructor;rintro(e|e)
 ·exact .inr (.inr ⟨x.symm,e⟩)
 exact .inl e;rintro(e|⟨u,y⟩| ⟨u,y⟩)
 ·exact .inr e
 exact absurd (u.symm.trans x.symm) h;exact .inl y;rw[if_neg x];by_cases k:w.1=p;rw[if_pos k,DP];constructor;rintro(e|e)
 ·exact .inr (.inl ⟨k.symm,e⟩)
 exact .inl e;rintro(e|⟨u,y⟩| ⟨u,y⟩)
 ·exact .inr e
 exact .inl y;exact absurd u.symm x;rw[if_neg k];exact⟨.inl,λz=>z.elim id λz=>z.elim (λe=>absurd e.1.symm k) λe=>absurd e.1.symm x⟩
def VG(w:Wy):Prop:=K0 w.1 w.2.1/\0<w.2.2
theorem N3(g:VG w)(y:Pos r):Pos (KB r w):=by intro p e h;rw[YI (EF g.1)]at h;by_cases k:w.2.1=p;rw[if_pos k]at h;rcases mI h with z|z;rw[z,<- k];exact⟨λx=>absurd x (wa 0),λx=>absurd x (SE g.1)⟩;exact y p e z;rw[if_neg k]at h;by_cases u:w.1=p;rw[if_pos u]at h;rcases mI h with z|z;rw[z,<- u];exact⟨λ_=>g.1,λ_=>g.2⟩;exact y p e z;rw[if_neg u]at h;exact y p e h
theorem F6(g:VG w)(x:z8 r):z8 (KB r w):=by
 intro p q h;rw[jG];rcases(CI (EF g.1)).mp h with h|⟨_,h⟩| ⟨_,h⟩
 exact .inr (.inr (x p q h));exact .inr (.inl h);exact .inl h
theorem RL{α:Type}{w:α}{l:List (Pt×α)}{n:Nat}(h:l.length<=n):(put l p w).length<=n+1:=QX IW (by omega)
theorem FP{α:Type}{p:Pt}{w:α}:∀{l:List (Pt×α)},(look l p).isSome=true->(put l p w).length=l.length
 |[],h=>by cases h|e::l,h=>by by_cases c:e.1=p;rw[show put (e::l) p w=(e.1,w)::l from if_pos c];rfl;rw[show put (e::l) p w=e::put l p w from if_neg c,QL,QL];rw[show look (e::l) p=look l p from if_neg c]at h;rw[FP h]
theorem BS(h:Key r p):(look r p).isSome=true:=by obtain⟨l,e⟩:=h;rw[e];rfl
theorem X5:(KB r w).length<=r.length+2:=by have x:Key (sdf (sdf r w.1) w.2.1) w.1:=OD.mpr (.inr (OD.mpr (.inl rfl)));have h:Key (sdf (sdf r w.1) w.2.1) w.2.1:=OD.mpr (.inl rfl);unfold KB;rw[FP (BS (ZI.mpr (.inr h))),FP (BS x)];have:=UP (r:=r) (p:=w.1);have:=UP (r:=sdf r w.1) (p:=w.2.1);omega
theorem jI{n:Nat}(g:w.1≠w.2.1)(h:Sz r n):Sz (KB r w) (n+2):=by
 refine⟨QX X5 (by have:=h.1;omega),λp=>?_⟩;rw[YI g];have x:=h.2 p;split;exact QX (RL x) (by omega);split
 ·exact QX (RL x) (by omega)
 omega
theorem RX:∀{ws:List Wy}{r:Rm},(∀w∈ws,VG w)->∀{p q:Pt},U0 (ws.foldl KB r) p q↔U0 r p q∨(∃v,(p,q,v)∈ws)∨∃v,(q,p,v)∈ws
 |[],r,_,p,q=>⟨.inl,λz=>z.elim id λz=>z.elim (λ⟨_,z⟩=>(nomatch z)) λ⟨_,z⟩=>(nomatch z)⟩
 |w::ws,r,h,p,q=>by
  rw[W5,RX (λw x=>h w (QC _ x)),CI (EF (h w QD).1)];constructor;rintro((z|⟨rfl,rfl⟩| ⟨rfl,rfl⟩)|⟨v,z⟩| ⟨v,z⟩)
  ·exact .inl z
  exact .inr (.inl ⟨_,QD⟩);exact .inr (.inr ⟨_,QD⟩);exact .inr (.inl ⟨v,QC _ z⟩);exact .inr (.inr ⟨v,QC _ z⟩);rintro(z|⟨v,z⟩| ⟨v,z⟩)
  ·exact .inl (.inl z)
  rcases QM.mp z with z|z
  ·rw[<- z]
   exact .inl (.inr (.inl ⟨rfl,rfl⟩))
  exact .inr (.inl ⟨v,z⟩);rcases QM.mp z with z|z
  ·rw[<- z]
   exact .inl (.inr (.inr ⟨rfl,rfl⟩))
  exact .inr (.inr ⟨v,z⟩)
theorem yU:∀{ws:List Wy}{r:Rm}{n:Nat},(∀w∈ws,VG w)->Pos r->z8 r->Key r XA->Sz r n->Pos (ws.foldl KB r)/\z8 (ws.foldl KB r)/\Key (ws.foldl KB r) XA/\Sz (ws.foldl KB r) (n+2 * ws.length)
 |[],r,n,_,h1,h2,h3,h4=>⟨h1,h2,h3,h4⟩|w::ws,r,n,h,h1,h2,h3,h4=>by have g:=h w QD;have:=yU (ws:=ws) (r:=KB r w) (n:=n+2) (λw x=>h w (QC _ x)) (N3 g h1) (F6 g h2) (jG.mpr (.inr (.inr h3))) (jI (EF g.1) h4);rw[W5,QL,show n+2 * (ws.length+1)=n+2+2 * ws.length by omega];exact this
noncomputable def cR(g:Str)(n:Str):List Wy:=if n=g then[] else[(tO n,fR n,1),(XA,tO n,2)]
noncomputable def dU(g:Str)(e:Str×Str):List Wy:=if e.1=g∨e.1=e.2 then[] else[(tO e.1,fR e.1,1),(tO e.2,fR e.2,1),(fR e.1,tO e.2,2)]
def uH:Rm:=[(XA,[])]
noncomputable def jA(es:JB)(st:LS)(g:Str):Rm:=(es.flatMap (dU g)).foldl KB ((st.flatMap (cR g)).foldl KB uH)
theorem jq:(0:Int)<1:=by decide
theorem ou:(0:Int)<2:=by decide
theorem aW:(cR g n).length<=2:=by unfold cR;split;exact Q8 _;exact Qa _
theorem eW:(dU g e).length<=3:=by unfold dU;split;exact Q8 _;exact Qa _
theorem rL:∀w∈cR g n,VG w:=by
 intro w h;unfold cR at h;split at h;exact(nomatch h);rcases QM.mp h with rfl|h
 ·exact⟨.inr (.inl ⟨n,rfl,rfl⟩),jq⟩
 rw[QI.mp h];exact⟨.inl ⟨rfl,n,rfl⟩,ou⟩
theorem tL:∀w∈dU g e,VG w:=by
 intro w x;unfold dU at x;split at x;exact(nomatch x);rename_i h;rcases QM.mp x with rfl|x;exact⟨.inr (.inl ⟨e.1,rfl,rfl⟩),jq⟩;rcases QM.mp x with rfl|x
 ·exact⟨.inr (.inl ⟨e.2,rfl,rfl⟩),jq⟩
 rw[QI.mp x];exact⟨.inr (.inr ⟨e.1,e.2,λz=>h (.inr z),rfl,rfl⟩),ou⟩
theorem FM{α:Type}{f:α->List Wy}{k:Nat}(h:∀x,(f x).length<=k):∀(l:List α),(l.flatMap f).length<=k * l.length
 |[]=>Qa _|x::l=>by have:=FM h l;have:=h x;rw[WX,QH,QL,Nat.mul_succ];omega
theorem RG{α:Type}{f:α->List Wy}(h:∀x,∀w∈f x,VG w)(l:List α):∀w∈l.flatMap f,VG w:=λw z=>by obtain⟨x,_,y⟩:=wI.mp z;exact h x w y
structure RmOk(r:Rm)(n:Nat):Prop where
 pos:Pos r
 dom:z8 r
 bg:Key r XA
 sz:Sz r n
theorem nE:RmOk uH 1:=by
 have e:∀p,lk uH p=[]:=λp=>by show(if XA=p then some [] else none).getD []=[];split<;>rfl
 refine⟨λp y x=>?_,λp q ⟨v,h⟩=>?_,⟨[],if_pos rfl⟩,Qa _,λp=>?_⟩;rw[e]at x;exact(nomatch x);rw[e]at h;exact(nomatch h);rw[e];exact Q8 _
theorem RmOk.add{r:Rm}{n:Nat}(h:RmOk r n){ws:List Wy}(g:∀w∈ws,VG w):RmOk (ws.foldl KB r) (n+2 * ws.length):=by obtain⟨u,z,y,x⟩:=yU g h.pos h.dom h.bg h.sz;exact⟨u,z,y,x⟩
theorem bS{es:JB}{st:LS}(z:es.length<=126)(y:st.length<=11):RmOk (jA es st g) 1000:=by have a:=(nE.add (RG (f:=cR g) (λ_=>rL) st)).add (RG (f:=dU g) (λ_=>tL) es);have x:=FM (f:=cR g) (k:=2) (λ_=>aW) st;have h:=FM (f:=dU g) (k:=3) (λ_=>eW) es;exact⟨a.pos,a.dom,a.bg,QX a.sz.1 (by omega),λp=>QX (a.sz.2 p) (by omega)⟩
def de(r:Rm)(p q:Pt):Prop:=∃v,(q,v)∈lk r p/\0<v
inductive Rch(r:Rm):Pt->Prop
 |bg:Rch r XA
 |go {p q:Pt}:Rch r p->de r p q->Rch r q
theorem Zn:(p,q,v)∈cR g n↔n≠g/\((p,q,v)=(tO n,fR n,1)∨(p,q,v)=(XA,tO n,2)):=by unfold cR;split;rename_i h;exact⟨λz=>(nomatch z),λz=>absurd h z.1⟩;rename_i h;rw[QM,QI];exact⟨λz=>⟨h,z⟩,λz=>z.2⟩
theorem Vn:(p,q,v)∈dU g e↔(e.1≠g/\e.1≠e.2)/\((p,q,v)=(tO e.1,fR e.1,1)∨(p,q,v)=(tO e.2,fR e.2,1)∨(p,q,v)=(fR e.1,tO e.2,2)):=by unfold dU;split;rename_i h;exact⟨λz=>(nomatch z),λz=>h.elim (λh=>absurd h z.1.1) λh=>absurd h z.1.2⟩;rename_i h;rw[QM,QM,QI];exact⟨λz=>⟨⟨λe=>h (.inl e),λe=>h (.inr e)⟩,z⟩,λz=>z.2⟩
theorem mB{cut:LS}{s:Str}:VM g cut s=true↔s≠g/\s∉cut:=by unfold VM;rw[Qg,qB,qB,decide_eq_false_iff_not,decide_eq_false_iff_not]
end
section
variable{es:JB}{st:LS}{g:Str}{x:LS}
theorem iM{s:Str}(h:Led es st g x s):s≠g/\s∉x:=by
 cases h with|st _ h=>exact mB.mp h|ed _ _ h=>exact mB.mp h
end
section
variable{r:Rm}{ks:List Pt}{vs:List D}
theorem O1:∀{ws:List Wy}{r:Rm}{n:Nat},(∀w∈ws,VG w)->Sz r n->Sz (ws.foldl KB r) (n+2 * ws.length)
 |[],r,n,_,h4=>h4|w::ws,r,n,h,h4=>by have:=O1 (ws:=ws) (r:=KB r w) (n:=n+2) (λw x=>h w (QC _ x)) (jI (EF (h w QD).1) h4);rw[W5,QL,show n+2 * (ws.length+1)=n+2+2 * ws.length by omega];exact this
inductive CF(r:Rm):List Pt->List D->Prop
 |bg:CF r [XA] [.none]
 |add {ks:List Pt}{vs:List D}{p q:Pt}:CF r ks vs->p∈ks->de r p q->q∉ks->CF r (ks++[q]) (vs++[pr p])
theorem CF.len(h:CF r ks vs):vs.length=ks.length:=by
 induction h with|bg=>rfl|add _ _ _ _ x=>rw[QH,QH,x];rfl
theorem CF.hb(h:CF r ks vs):XA∈ks:=by
 induction h with|bg=>exact QD|add _ _ _ _ x=>exact Qf _ x
theorem CF.rch(h:CF r ks vs):∀k∈ks,Rch r k:=by
 induction h with|bg=>intro k hk;rw[QI.mp hk];exact .bg|add _ y w _ x=>intro k hk;rcases QT.mp hk with z|z;exact x k z;rw[QI.mp z];exact .go (x _ y) w
theorem CF.nd(h:CF r ks vs):ks.Nodup:=by
 induction h with
 |bg=>exact Qi.mpr ⟨λz=>(nomatch z),Qs⟩
 |add _ _ _ n x=>refine qH.mpr ⟨x,Qi.mpr ⟨λz=>(nomatch z),Qs⟩,λa y b hb z=>?_⟩;rw[QI.mp hb]at z;exact n (z▸y)
theorem fI(x:z8 r)(hb:Key r XA){p:Pt}(h:Rch r p):Key r p:=by
 cases h with|bg=>exact hb|go _ w=>obtain⟨v,m,_⟩:=w;exact x _ _ ⟨v,m⟩
theorem tQ{p:Pt}{l:Inn}:∀{r:Rm},look r p=some l->p∈r.map (·.1)
 |[],h=>by cases h|e::r,h=>by by_cases c:e.1=p;rw[<- c];exact QD;rw[show look (e::r) p=look r p from if_neg c]at h;exact QC _ (tQ (r:=r) h)
theorem MG:∀{ks ns:List Pt},ks.Nodup->(∀s∈ks,s∈ns)->ks.length<=ns.length
 |[],_,_,_=>Q8 _|s::r,ns,h,hs=>by obtain⟨v,u⟩:=Qi.mp h;have z:=hs s QD;have:=MG (ks:=r) (ns:=ns.erase s) u λx y=>(QA5 (λ(e:x=s)=>v (e▸y))).mpr (hs x (QC _ y));rw[QAR z]at this;have w:=WU z;rw[QL];omega
theorem CF.le(y:z8 r)(hb:Key r XA)(h:CF r ks vs):ks.length<=r.length:=by
 have:=MG (ns:=r.map (·.1)) h.nd λs x=>by obtain⟨l,e⟩:=fI y hb (h.rch s x);exact tQ e
 rw[QA]at this;exact this
structure Srch(r:Rm)(ks:List Pt)(vs:List D)(ws:List Pt):Prop where
 cf:CF r ks vs
 sub:∀w∈ws,w∈ks
 clo:∀k∈ks,k∉ws->∀q,de r k q->q∈ks
structure Srch1(r:Rm)(here:Pt)(ks:List Pt)(vs:List D)(ws:List Pt)(l:Inn):Prop where
 cf:CF r ks vs
 sub:∀w∈ws,w∈ks
 clo:∀k∈ks,k∉ws->k≠here->∀q,de r k q->q∈ks
 her:here∈ks
 don:∀e∈lk r here,0<e.2->e.1∈ks∨e∈l
 all:∀e∈l,e∈lk r here
end
section
variable{r:Rm}{ks ws:List Pt}{vs:List D}
theorem Dl:Srch r [XA] [.none] [XA]:=⟨.bg,λ_ h=>h,λk h n=>absurd h n⟩
theorem Srch.pop{w:Pt}(h:Srch r ks vs (w::ws)):Srch1 r w ks vs ws (lk r w):=by refine⟨h.cf,λx v=>h.sub x (QC _ v),λk hk n u=>h.clo k hk λz=>?_,h.sub w QD,λe y _=>.inr y,λe y=>y⟩;rcases QM.mp z with z|z;exact u z;exact n z
theorem Srch1.skip{y:Pt}{e:Pt×Int}{l:Inn}(h:Srch1 r y ks vs ws (e::l))(c:0<e.2->e.1∈ks):Srch1 r y ks vs ws l:=by
 refine⟨h.cf,h.sub,h.clo,h.her,λx u p=>?_,λx u=>h.all x (QC _ u)⟩;rcases h.don x u p with z|z;exact .inl z;rcases QM.mp z with z|z
 ·rw[z]at p ⊢;exact .inl (c p)
 exact .inr z
theorem Srch1.add{u:Pt}{e:Pt×Int}{l:Inn}(h:Srch1 r u ks vs ws (e::l))(c:0<e.2)(n:e.1∉ks):Srch1 r u (ks++[e.1]) (vs++[pr u]) (ws++[e.1]) l:=by
 have f:=h.all e QD;refine⟨h.cf.add h.her ⟨e.2,f,c⟩ n,λx v=>?_,λk hk a b q w=>?_,Qf _ h.her,λx v p=>?_,λx v=>h.all x (QC _ v)⟩;rcases QT.mp v with z|z
 ·exact Qf _ (h.sub x z)
 exact QU _ z;rcases QT.mp hk with z|z
 ·exact Qf _ (h.clo k z (λy=>a (Qf _ y)) b q w)
 exact absurd (QU _ z) a;rcases h.don x v p with z|z
 ·exact .inl (Qf _ z)
 rcases QM.mp z with z|z
 ·rw[z];exact .inl (QU _ QD)
 exact .inr z
theorem Srch1.fin{x:Pt}(h:Srch1 r x ks vs ws []):Srch r ks vs ws:=by refine⟨h.cf,h.sub,λk hk n q w=>?_⟩;by_cases e:k=x;subst e;obtain⟨v,m,p⟩:=w;rcases h.don (q,v) m p with z|z;exact z;exact(nomatch z);exact h.clo k hk n e q w
theorem Srch.done(h:Srch r ks vs [])(p:Pt):p∈ks↔Rch r p:=by
 refine⟨h.cf.rch p,λz=>?_⟩;induction z with|bg=>exact h.cf.hb|go _ w x=>exact h.clo _ x (λz=>(nomatch z)) _ w
end
noncomputable def eC(Q:T->LT->Prop):PEnds:={ nx:=λh=>LU (CA [0] h) (Q (.d .none)),rt:=λt h=>LU (CA [0] h) (Q t) }
theorem MJ{Ψ:PEv}{b:PT}{p:PSp}{N x:LS}{ds:LT}{Q:T->LT->Prop}(ρ:kA)(h:pF Ψ b (eC Q) ρ)(hl:ds.length=x.length:=by rfl)(hc:BB 0 p.md x.length=[0]:=by rfl)(y:bB N p.md ds=ρ:=by rfl):ds.length=x.length/\pF Ψ b (vD p x.length Q) (bB N p.md ds):=by
 have e:vD p x.length Q=eC Q:=by unfold vD;rw[hc];rfl
 rw[e,y];exact⟨hl,h⟩
noncomputable def NZ(r:Rm)(h t:Pt)(v:Int):kA:=[oW (xB r),bD (pr h),bD (pr t),bD (.int v)]
section
variable{Ψ:PEv}{Z:PEnds}{q:PT}{r:Rm}{h t:Pt}{v:Int}
theorem Zt(hl:r.length<sizeLine)(k:pF Ψ q Z (NZ (sdf r h) h t v)):pF Ψ (.seq (.sdf 0 (.xz 1)) q) Z (NZ r h t v):=by delta NZ at k ⊢;simp_arith[↓yA];refine⟨rfl,NW hl ?_⟩;exact k
theorem Yt(hl:r.length<sizeLine)(k:pF Ψ q Z (NZ (sdf r t) h t v)):pF Ψ (.seq (.sdf 0 (.xz 2)) q) Z (NZ r h t v):=by delta NZ at k ⊢;simp_arith[↓yA];refine⟨rfl,NW hl ?_⟩;exact k
theorem Jt{l:Inn}(e:look r h=some l)(hl:l.length<sizeLine)(k:pF Ψ q Z (NZ (put r h (put l t v)) h t v)):pF Ψ (.seq (.six (.idx (.xz 0) (.xz 1)) (.xz 2) (.xz 3)) q) Z (NZ r h t v):=by delta NZ at k ⊢;simp_arith[↓yA];refine yI e λf x=>mP hl ?_;rw[x];exact k
theorem gt{l:Inn}(e:look r t=some l)(hl:l.length<sizeLine)(k:pF Ψ q Z (NZ (put r t (put l h 0)) h t v)):pF Ψ (.seq (.six (.idx (.xz 0) (.xz 2)) (.xz 1) (.int 0)) q) Z (NZ r h t v):=by delta NZ at k ⊢;simp_arith[↓yA];refine yI e λf x=>mP hl ?_;rw[x];exact k
end
theorem pE{r:Rm}{p:Pt}(h:Key r p):look r p=some (lk r p):=by obtain⟨l,e⟩:=h;unfold lk;rw[e];rfl
noncomputable def CG:PSp where
 md:=[.chg]
 run:=λh Q _=>∃(r:Rm) (w:Wy),h=[xB r,.d (pr w.1),.d (pr w.2.1),.d (.int w.2.2)]/\(w.1≠w.2.1/\Sz r 5000)/\Q (.d .none) [xB (KB r w)]
theorem R9{Ψ:PEv}:XF Ψ AO CG bP xM:=by rintro _ Q _ ⟨r,w,rfl,⟨z,h⟩,q⟩;refine MJ (NZ r w.1 w.2.1 w.2.2) ?_;have a:=h.1;have k:=UP (r:=r) (p:=w.1);have y:Key (sdf (sdf r w.1) w.2.1) w.1:=OD.mpr (.inr (OD.mpr (.inl rfl)));have x:Key (sdf (sdf r w.1) w.2.1) w.2.1:=OD.mpr (.inl rfl);have v:=h.2 w.1;have u:=h.2 w.2.1;refine Zt (by omega) (Yt (by omega) (Jt (pE y) (by rw[zE,zE];omega) (gt (pE (ZI.mpr (.inr x))) (by rw[kE,if_neg z,zE,zE];omega) ?_)));exact q
noncomputable def bI:PSp where
 md:=[.chg]
 run:=λh Q _=>∃(r:Rm) (n:Str),h=[xB r,.d (.str n)]/\Sz r 5000/\Q (.d .none) [xB (KB r (tO n,fR n,1))]
theorem S9{Ψ:PEv}(x:Ψ.sp "add_way"=CG):XF Ψ SH bI aN iK:=by rintro _ Q _ ⟨r,n,rfl,h,q⟩;refine MJ [oW (xB r),bD (.str n)] ?_;delta SH;simp_arith[↓SG (md:=[]) x rfl rfl];refine⟨by omega,by omega,?_⟩;exact⟨_,(tO n,fR n,1),rfl,⟨HA,h⟩,⟨_,rfl,q⟩⟩
noncomputable def IZ(es:JB)(st:LS)(g:Str)(r:Rm)(o4 o5 o6:Option Sl):kA:=[bD (.list (es.map pr)),bD (.tuple (st.map Jx)),bD (.str g),oW (xB r),o4,o5,o6]
section
variable{Ψ:PEv}{Z:PEnds}{es:JB}{st:LS}{g:Str}{r:Rm}
theorem Iq(h:Ψ.va "BEGIN"=some (pr XA)){q:PT}{o3 o4 o5 o6:Option Sl}(k:pF Ψ q Z (IZ es st g uH o4 o5 o6)) :
  pF Ψ (.seq (.own 3 (.dsp (.glo "BEGIN") (.dnew true))) q) Z [bD (.list (es.map pr)),bD (.tuple (st.map Jx)),bD (.str g),o3,o4,o5,o6]:=by
 simp_arith[↓tH h];exact⟨yC XA,k⟩
theorem Aq(b:Ψ.sp "add_name"=bI)(a:Ψ.sp "add_way"=CG)(v:Ψ.va "BEGIN"=some (pr XA))(u:Ψ.va "WIDE"=some (.int 2)){n:Str}{o5 o6:Option Sl}(h:Sz r 4900)(k:Z.nx (IZ es st g ((cR g n).foldl KB r) (bD (.str n)) o5 o6)) :
  pF Ψ zF Z (IZ es st g r (bD (.str n)) o5 o6):=by
 delta IZ at k ⊢;delta zF;simp_arith[↓tH v,↓tH u,↓SG (md:=[]) b rfl rfl,↓SG (md:=[]) a rfl rfl];by_cases e:n=g;rw[dT e];unfold cR at k;rw[if_pos e]at k;exact k;rw[dF e];unfold cR at k;rw[if_neg e]at k;have z:Sz r 5000:=⟨QX h.1 (by omega),λp=>QX (h.2 p) (by omega)⟩
 have x:=jI (w:=(tO n,fR n,1)) HA h;have y:Sz (KB r (tO n,fR n,1)) 5000:=⟨QX x.1 (by omega),λp=>QX (x.2 p) (by omega)⟩
 refine⟨_,_,rfl,z,⟨_,rfl,?_⟩⟩;refine⟨by omega,?_⟩;exact⟨_,(XA,tO n,2),rfl,⟨IB,y⟩,⟨_,rfl,k⟩⟩
theorem Tq(j:Ψ.sp "add_name"=bI)(i:Ψ.sp "add_way"=CG)(f:Ψ.va "WIDE"=some (.int 2)){a b:Str}{o4:Option Sl}(y:Sz r 4900)(k:Z.nx (IZ es st g ((dU g (a,b)).foldl KB r) o4 (bD (.str a)) (bD (.str b)))) :
  pF Ψ yF Z (IZ es st g r o4 (bD (.str a)) (bD (.str b))):=by
 delta IZ at k ⊢;delta yF;simp_arith[↓tH f,↓SG (md:=[]) j rfl rfl,↓SG (md:=[]) i rfl rfl];unfold dU at k;by_cases e:a=g;rw[dT e];rw[if_pos (.inl e)]at k;exact k;rw[dF e];by_cases h:a=b;rw[dT h];rw[if_pos (.inr h)]at k;exact k;rw[dF h];rw[if_neg (λz=>z.elim e h)]at k;have v:Sz r 5000:=⟨QX y.1 (by omega),λp=>QX (y.2 p) (by omega)⟩
 have x:=jI (w:=(tO a,fR a,1)) HA y;have u:=jI (w:=(tO b,fR b,1)) HA x;refine⟨_,_,rfl,v,⟨_,rfl,?_⟩⟩;refine⟨_,_,rfl,⟨QX x.1 (by omega),λp=>QX (x.2 p) (by omega)⟩,⟨_,rfl,?_⟩⟩;refine⟨by omega,by omega,?_⟩;exact⟨_,(fR a,tO b,2),rfl,⟨HA.symm,⟨QX u.1 (by omega),λp=>QX (u.2 p) (by omega)⟩⟩,⟨_,rfl,k⟩⟩
end
section
variable{Ψ:PEv}{r:Rm}{p q:Pt}{l:Inn}{n m:Bool}{R:T->Prop}{W:LT->Prop}{E:XE}{ρ:kA}{b:PX}{M:List (T×Bool)->kA->Prop}{md:List Md}{ks:List Pt}{vs:List D}
noncomputable def kI:PSp where
 run:=λx Q _=>∃(h:JB) (st:LS) (g:Str),x=[.d (.list (h.map pr)),.d (.tuple (st.map Jx)),.d (.str g)]/\(h.length<=126/\st.length<=11)/\Q (xB (jA h st g)) []
theorem LY(o:Ψ.sp "add_name"=bI)(j:Ψ.sp "add_way"=CG)(i:Ψ.va "BEGIN"=some (pr XA))(f:Ψ.va "WIDE"=some (.int 2)):XF Ψ yN kI fN mK:=by rintro _ Q _ ⟨h,st,g,rfl,⟨Y,X⟩,q⟩;refine fA [bD (.list (h.map pr)),bD (.tuple (st.map Jx)),bD (.str g),none,none,none,none] ?_;refine Iq i ?_;delta IZ;simp_arith[↓yA];rw[<- lA];refine sA (λ(s:Str)=>T.d (.str s)) (λl ρ=>∃r x,RmOk r (1+4 * (11 - l.length))/\l.length<=11/\(l.flatMap (cR g)).foldl KB r=(st.flatMap (cR g)).foldl KB uH/\ρ=IZ h st g r x none none) ?_ ?_ _ _ ⟨uH,_,?_,X,rfl,rfl⟩;rintro ρ ⟨r,x,ok,_,e,rfl⟩;have e:r=(st.flatMap (cR g)).foldl KB uH:=e;delta IZ;simp_arith[↓yA];rw[<- lA];refine sA (λ(p:Str×Str)=>T.d (pr p)) (λl ρ=>∃r v u,Sz r (45+6 * (126 - l.length))/\l.length<=126/\(l.flatMap (dU g)).foldl KB r=jA h st g/\ρ=IZ h st g r (nH x) v u) ?_ ?_ _ _ ⟨r,_,_,?_,Y,by rw[e];rfl,rfl⟩;rintro ρ ⟨r,v,u,_,_,e,rfl⟩;have e:r=jA h st g:=e;subst e;delta IZ;simp_arith[↓yA];exact q;rintro⟨a,b⟩ l ρ N k ⟨r,v,u,s,w,e,rfl⟩;rw[QL]at s w;rw[WX,QAS]at e;refine DD.mk rfl ?_;refine Tq (a:=a) (b:=b) o j f ⟨QX s.1 (by omega),λp=>QX (s.2 p) (by omega)⟩ (k _ ⟨_,_,_,?_,by omega,e,rfl⟩);have z:Sz ((dU g (a,b)).foldl KB r) (45+6 * (126 - (l.length+1))+2 * (dU g (a,b)).length):=O1 tL s;have y:=eW (g:=g) (e:=(a,b));exact⟨QX z.1 (by omega),λp=>QX (z.2 p) (by omega)⟩;exact⟨QX ok.sz.1 (by rw[Qt];omega),λp=>QX (ok.sz.2 p) (by rw[Qt];omega)⟩;rintro s l ρ N k ⟨r,x,ok,w,e,rfl⟩;rw[QL]at ok w;rw[WX,QAS]at e;refine Aq (n:=s) o j i f ⟨QX ok.sz.1 (by omega),λp=>QX (ok.sz.2 p) (by omega)⟩ (k _ ⟨_,_,?_,by omega,e,rfl⟩);have z:=ok.add (ws:=cR g s) rL;have y:=aW (g:=g) (n:=s);exact⟨z.pos,z.dom,z.bg,QX z.sz.1 (by omega),λp=>QX (z.sz.2 p) (by omega)⟩;exact⟨nE.pos,nE.dom,nE.bg,QX nE.sz.1 (by omega),λp=>QX (nE.sz.2 p) (by omega)⟩
def eV(l:Inn):D:=.dict (l.map λe=>(pr e.1,.int e.2))
def Lh(r:Rm):List (D×D):=r.map λe=>(pr e.1,eV e.2)
theorem fZ(h:look r p=some l):yD (Lh r)=some true:=by
 cases r with|nil=>cases h|cons e r=>rfl
theorem O5(l:Inn):(l.map λe=>(pr e.1,Jy e.2))=[]∨yD (l.map λe=>(pr e.1,Jy e.2))=some true:=by
 cases l with|nil=>exact .inl rfl|cons e r=>exact .inr rfl
theorem Xf(h:Key r p)(k:R (.d (eV (lk r p)))):DA (.d (.dict (Lh r))) n (.d (pr p)) m R:=by
 have e:=pE h;obtain⟨i,u,y,_⟩:=XC (λl=>T.d (eV l)) e;have w:(Lh r).map (·.1)=OC r:=by unfold Lh OC;rw[Qc];rfl
 refine Ck (fZ e) (yC p) (by rw[w];exact u) ?_ k;have v:(Lh r).map (·.2)=r.map λe=>eV e.2:=by unfold Lh;rw[Qc];rfl
 rw[v];rw[Qe]at y ⊢;cases z:r[i]? with|none=>rw[z]at y;cases y|some x=>rw[z]at y;injection y with y;injection y with y;show some (eV x.2)=_;rw[y]
theorem Sk:bL .itm [(.d (eV l),n)] W=W (l.map λe=>.d (.tuple [pr e.1,.int e.2])):=by unfold eV;rw[Rk (O5 l),Qc];rfl
theorem TH{K:TK}:P7 (xB r) false Ψ b E ρ K=pB Ψ b E (lockA ρ) λy m _=>K y m ρ:=rfl
theorem bY{K:TK}:P7 (iD l) false Ψ b E ρ K=pB Ψ b E (lockA ρ) λy m _=>K y m ρ:=rfl
theorem xR:R7 (xB r) false Ψ b E md ρ M=bM Ψ b E md (lockA ρ) λxs _=>M xs ρ:=rfl
theorem D7:R7 (iD l) false Ψ b E md ρ M=bM Ψ b E md (lockA ρ) λxs _=>M xs ρ:=rfl
def Gj(t:T)(r:Rm):Prop:=t=xB r∨t=.d (.dict (Lh r))
theorem Dk{b:Bool}{ks:List D}{ts:LT}{n m:Bool}{k:D}{l:Nat}{t:T}(z:FD b k)(y:dA ks k=some l)(x:ts[l]?=some t)(h:R t):DA (.dct b ks ts) false (.d k) m R:=.inr ⟨b,ks,ts,l,t,rfl,z,y,x,h⟩
theorem VE(h:Key r p)(k:R (iD (lk r p))):DA (xB r) false (.d (pr p)) m R:=by obtain⟨i,y,x,_⟩:=XC iD (pE h);exact Dk (n:=false) (yC p) y x k
theorem cP{v:Int}(h:look l p=some v)(k:R (.d (.int v))):DA (iD l) false (.d (pr p)) m R:=by obtain⟨i,y,x,_⟩:=XC (λv:Int=>T.d (.int v)) h;exact Dk (n:=false) (yC p) y x k
theorem YW(l:Inn):BF (l.map λe=>T.d (.int e.2))=some (l.map λe=>.int e.2):=by rw[show(l.map λe=>T.d (.int e.2))=(l.map λe=>Jy e.2).map T.d by rw[Qc];rfl,VA]
theorem Gf:bL .itm [(iD l,false)] W=W (l.map λe=>.d (.tuple [pr e.1,.int e.2])):=by
 refine(GS _ _).trans ?_;have e:((OC l).zip (l.map λe=>Jy e.2)).map (λp=>T.d (.tuple [p.1,p.2]))=l.map λe=>T.d (.tuple [pr e.1,.int e.2]):=by unfold OC;rw[List.zip_map',Qc];rfl
 refine propext ⟨λ⟨x,h,k⟩=>?_,λk=>⟨_,YW l,by rw[e];exact k⟩⟩;rw[YW]at h;cases h;rw[e]at k;exact k
theorem c8{a:PX}:AG (.idx a b)=AG a:=rfl
theorem Jj:kR [(iD l,false)]=false:=rfl
noncomputable def Lb(ks:List Pt)(vs:List D):T:=.dct true (ks.map pr) (vs.map T.d)
theorem GP:pr q∈ks.map pr↔q∈ks:=by constructor;intro h;obtain⟨x,y,e⟩:=QS.mp h;rw[<- HP e];exact y;exact W4
theorem BI(ks:List Pt)(q:Pt):(dA (ks.map pr) (pr q)).isSome=decide (q∈ks):=by rw[Q7,HM,GP,decide_eq_true_iff]
theorem Sf{x:D}{Q:T->Prop}(n:q∉ks)(hl:ks.length<sizeLine)(k:Q (Lb (ks++[q]) (vs++[x]))):J8 (Lb ks vs) (.d (pr q)) (.d x) Q:=by refine⟨yC q,by rw[QA];exact hl,?_⟩;show Q (ZH true (ks.map pr) (vs.map T.d) (pr q) (.d x));unfold ZH;rw[FA.mpr (λz=>n (GP.mp z))];unfold Lb at k;rw[QJ,QJ]at k;exact k
theorem Ei{L:Bool->Prop}:rB .NotIn (.d (pr q)) (Lb ks vs) L=L (!decide (q∈ks)):=by unfold Lb;rw[HJ,BI];exact propext ⟨λh=>h.2,λh=>⟨yC q,h⟩⟩
noncomputable def rO(h:T)(ks:List Pt)(vs:List D)(ws:List Pt)(o3 o4 o5:Option Sl):kA:=[some (.ky h),some (.own (Lb ks vs)),some (.own (.lst ((ws.map pr).map T.d))),o3,o4,o5]
end
section
variable{Ψ:PEv}{Z:PEnds}{x:T}{r:Rm}{ks ws:List Pt}{vs:List D}
section
variable{w:Pt}{o3 o4 o5:Option Sl}
theorem br{p q:Pt}{v:Int}(hl:ks.length<sizeLine)(a:ws.length<sizeLine)(u:(0<v->q∈ks)->Z.nx (rO x ks vs ws (bD (pr p)) (bD (pr q)) (bD (.int v))))
  (k:0<v->q∉ks->Z.nx (rO x (ks++[q]) (vs++[pr p]) (ws++[q]) (bD (pr p)) (bD (pr q)) (bD (.int v)))) :
  pF Ψ jB Z (rO x ks vs ws (bD (pr p)) (bD (pr q)) (bD (.int v))):=by
 delta rO at u k ⊢;delta jB;simp_arith[↓Ei];by_cases h:0<v;rw[dT h];by_cases y:q∈ks;rw[dT y];exact u λ_=>y;rw[dF y];simp only[qZ,↓reduceIte];refine Sf y hl ?_;refine⟨by rw[QA,QA];exact a,?_⟩;have:=k h y;rw[QJ,QJ]at this;exact this;rw[dF h];exact u λz=>absurd z h
theorem Zg{q:PT}(k:pF Ψ q Z (rO x ks vs ws (bD (pr w)) o4 o5)) :
  pF Ψ (.seq (.set 3 (.mt .pop (.xz 2) %[.int 0|1])) q) Z (rO x ks vs (w::ws) o3 o4 o5):=by
 delta rO at k ⊢;simp_arith[↓yA];refine⟨0,.d (pr w),?_,rfl,rfl,k⟩;unfold UO;rw[if_pos (by decide),if_pos (by rw[QA,QA,QL];omega)];rfl
theorem Kg(y:Gj x r)(hk:Key r w)
  (k:yH (pF Ψ jB) (.tp [4,5]) { Z with nx:=λh=>Z.nx (kill [4,5] h) } ((lk r w).map λe=>T.d (.tuple [pr e.1,.int e.2])) (rO x ks vs ws (bD (pr w)) o4 o5)) :
  pF Ψ %[.for_ (.tp [4,5]) .itm %[.idx (.xz 0) (.xz 3)|1] jB|2] Z (rO x ks vs ws (bD (pr w)) o4 o5):=by
 rcases y with rfl|rfl;delta rO at k ⊢;simp_arith[↓TH];refine VE hk ?_;simp_arith[↓D7,↓Gf,Jj,c8];exact k;delta rO at k ⊢;simp_arith[↓yA];refine Xf hk ?_;simp_arith[↓Sk];exact k
theorem ur(m:Gj x r)(a:z8 r)(hb:Key r XA)(W:r.length<=1000)(h:Srch r ks vs (w::ws))(K:2 * (r.length - ks.length)+ws.length+1<=3000)
  (o:∀z u y o3 o4 o5,Srch r z u y->2 * (r.length - z.length)+y.length<=2 * (r.length - ks.length)+ws.length->Z.nx (rO x z u y o3 o4 o5)) :
  pF Ψ ZD Z (rO x ks vs (w::ws) o3 o4 o5):=by
 have A:sizeLine=16777216:=Q0;refine Zg ?_;have X:=h.pop;have hk:Key r w:=fI a hb (h.cf.rch w (h.sub w QD));refine Kg m hk ?_;refine sA (λ(e:Pt×Int)=>T.d (.tuple [pr e.1,.int e.2])) (λl k=>∃z u y o4 o5,Srch1 r w z u y l/\2 * (r.length - z.length)+y.length<=2 * (r.length - ks.length)+ws.length/\k=rO x z u y (bD (pr w)) o4 o5) ?_ ?_ _ _ ⟨ks,vs,ws,_,_,X,Qa _,rfl⟩;rintro k ⟨z,u,y,g,f,s,l,rfl⟩;exact o z u y _ (nH g) (nH f) s.fin l;rintro⟨q,v⟩ l k N i ⟨z,u,y,g,f,s,e,rfl⟩;refine DD.mk rfl ?_;have Y:=s.cf.le a hb;refine br (p:=w) (q:=q) (v:=v) (by omega) (by omega) (λc=>i _ ⟨z,u,y,_,_,s.skip c,e,rfl⟩) λc n=>?_;have b:=s.add c n;have j:=b.cf.le a hb;rw[QH,QY]at j;exact i _ ⟨_,_,_,_,_,b,by rw[QH,QH,QY];omega,rfl⟩
theorem cr(h:Ψ.va "BEGIN"=some (pr XA)){q:PT}(k:pF Ψ q Z (rO x [XA] [.none] [XA] none none none)) :
  pF Ψ (.seq (.own 1 (.dsp (.glo "BEGIN") .non)) (.seq (.own 2 (.lst %[.glo "BEGIN"|1])) q)) Z [some (.ky x),none,none,none,none,none]:=by
 have y:sizeLine=16777216:=Q0;simp_arith[↓tH h];exact⟨yC XA,by omega,k⟩
end
end
theorem UE{Ψ:PEv}{E:XE}{c:PX}{q:PT}{Z:PEnds}{ρ:kA}(W:Nat->kA->Prop)(m:Nat)(u:W m ρ)(z:∀m ρ,W m ρ->dR Ψ c E ρ λb x=>if b=true then cB Ψ E q { Z with nx:=λh=>∃y,y < m/\W y h,ct:=λh=>∃y,y < m/\W y h,bk:=Z.nx } x else Z.nx x):Gk Ψ E c q Z ρ:=⟨W,⟨m,u⟩,z⟩
noncomputable def GF:PSp where
 md:=[.ky]
 run:=λz Q _=>∃(y:T) (r:Rm),z=[y]/\(Gj y r/\z8 r/\Key r XA/\r.length<=1000)/\∀h x,CF r h x->(∀p,p∈h↔Rch r p)->Q (Lb h x) []
theorem B4{Ψ:PEv}(j:Ψ.va "BEGIN"=some (pr XA)):XF Ψ eE GF JE HD:=by
 rintro _ Q _ ⟨k,r,rfl,⟨l,i,hb,g⟩,q⟩;refine fA [some (.ky k),none,none,none,none,none] ?_;refine cr j ?_;delta rO;simp_arith[↓yA];refine UE (λm v=>m<=3000/\∃h x ws o3 o4 o5,Srch r h x ws/\m=2 * (r.length - h.length)+ws.length/\v=rO k h x ws o3 o4 o5) (2 * (r.length - 1)+1) ⟨by omega,[XA],[.none],[XA],none,none,none,Dl,rfl,rfl⟩ ?_;rintro m v ⟨o,h,x,ws,o3,o4,o5,s,e,rfl⟩;cases ws with|nil=>delta rO;simp_arith[QA];rw[dF (by omega)];simp_arith[↓yA];exact q h x s.cf s.done|cons w ws=>rw[QL]at e;have a:=λ(Z:PEnds) f=>ur (Ψ:=Ψ) (Z:=Z) (o3:=o3) (o4:=o4) (o5:=o5) l i hb g s (by omega) f;unfold rO at a;delta rO;simp_arith[QA];rw[dT (by omega)];refine a _ λu z y o3 o4 o5 b n=>⟨_,by omega,by omega,u,z,y,o3,o4,o5,b,rfl,rfl⟩
theorem pj{α:Type}{x:α}{r:List α}:pD (x::r) 0=some x:=gD (j:=0) rfl
theorem Kt{α:Type}{x y:α}{r:List α}:pD (x::y::r) 1=some y:=gD (j:=1) rfl
def sm:List Pt->(Pt->Int)->Int
 |[],_=>0|x::l,f=>f x+sm l f
section
variable{f g:Pt->Int}
theorem SA:∀{l:List Pt},(∀x∈l,f x=g x)->sm l f=sm l g
 |[],_=>rfl|x::l,h=>by show f x+sm l f=g x+sm l g;rw[h x QD,SA λy z=>h y (QC _ z)]
theorem YH:∀(l:List Pt),sm l (λx=>f x+g x)=sm l f+sm l g
 |[]=>rfl|x::l=>by show f x+g x+sm l _=f x+sm l f+(g x+sm l g);rw[YH l];omega
theorem oJ:∀(l:List Pt),sm l (λx=>- f x)=- sm l f
 |[]=>rfl|x::l=>by show - f x+sm l _=- (f x+sm l f);rw[oJ l];omega
theorem DG:∀(l:List Pt),sm l (λ_=>0)=0
 |[]=>rfl|x::l=>by show 0+sm l _=0;rw[DG l];rfl
theorem dO:∀{l:List Pt},(∀x∈l,0<=f x)->0<=sm l f
 |[],_=>QAZ _|x::l,h=>by have v:=h x QD;have u:=dO (l:=l) λy z=>h y (QC _ z);show 0<=f x+sm l f;omega
theorem JH:∀{l:List Pt},(∀x∈l,0<=f x)->∀{y:Pt},y∈l->f y<=sm l f
 |x::l,h,y,z=>by have w:=h x QD;have u:∀y∈l,0<=f y:=λy z=>h y (QC _ z);show f y<=f x+sm l f;rcases QM.mp z with e|e;have v:=dO u;rw[e];omega;have v:=JH u e;omega
theorem Y2:∀{l:List Pt},(∀x∈l,0<=f x)->∀{y z:Pt},y∈l->z∈l->y≠z->f y+f z<=sm l f
 |x::l,h,y,z,v,hz,ne=>by
  have a:=h x QD;have w:∀y∈l,0<=f y:=λy v=>h y (QC _ v);show f y+f z<=f x+sm l f;rcases QM.mp v with e|e;rcases QM.mp hz with u|u
  ·exact absurd (e.trans u.symm) ne
  have k:=JH w u;rw[e];omega;rcases QM.mp hz with u|u
  ·have k:=JH w e
   rw[u];omega
  have k:=Y2 w e u ne;omega
theorem K2:∀{l:List Pt},0<sm l f->∃x∈l,0<f x
 |[],h=>absurd h (wa 0)|x::l,h=>by by_cases c:0<f x;exact⟨x,QD,c⟩;have h:0<f x+sm l f:=h;obtain⟨y,z,p⟩:=K2 (l:=l) (by omega);exact⟨y,QC _ z,p⟩
theorem DW{k:Pt->Pt->Int}{m:List Pt}:∀(l:List Pt),sm l (λx=>sm m λy=>k x y)=sm m λy=>sm l λx=>k x y
 |[]=>(DG m).symm|x::l=>by show sm m (λy=>k x y)+sm l _=sm m λy=>k x y+sm l λx=>k x y;rw[DW l,YH]
theorem JP{u:Pt}{k:Int}:∀{l:List Pt},u∉l->sm l (λx=>if x=u then k else 0)=0
 |[],_=>rfl|x::l,h=>by show(if x=u then k else 0)+sm l _=0;rw[if_neg (λ(e:x=u)=>h (e▸QD)),JP λz=>h (QC _ z)];rfl
theorem pJ{u:Pt}{k:Int}:∀{l:List Pt},l.Nodup->u∈l->sm l (λx=>if x=u then k else 0)=k
 |x::l,nd,h=>by obtain⟨v,y⟩:=Qi.mp nd;show(if x=u then k else 0)+sm l _=k;by_cases e:x=u;rw[if_pos e,JP (by rw[<- e];exact v)];omega;rw[if_neg e,pJ y ((QM.mp h).resolve_left λz=>e z.symm)];omega
theorem BR(p:Pt->Bool):∀(l:List Pt),sm l f=sm (l.filter p) f+sm (l.filter λx=>!p x) f
 |[]=>rfl|x::l=>by
  show f x+sm l f=_;rw[WA,WA,BR p l];cases p x with|true=>show _=(f x+sm (l.filter p) f)+sm (l.filter λx=>!p x) f;omega|false=>show _=sm (l.filter p) f+(f x+sm (l.filter λx=>!p x) f);omega
theorem X8{a:Pt->Pt->Int}(l:List Pt)(h:∀x∈l,∀y∈l,a x y=- a y x):sm l (λx=>sm l λy=>a x y)=0:=by
 have w:sm l (λx=>sm l λy=>a x y)=sm l λy=>sm l λx=>a x y:=DW l;have v:(sm l λy=>sm l λx=>a x y)=- sm l (λy=>sm l λx=>a y x):=by rw[<- oJ];refine SA λy z=>?_;rw[<- oJ];exact SA λx u=>h x u y z
 omega
end
section
variable{p q u v:Pt}{r:Rm}{w:Wy}{es:JB}{st:LS}{g:Str}
def rm(r:Rm)(p q:Pt):Int:=(look (lk r p) q).getD 0
def EH(r:Rm)(p q:Pt):Prop:=∃v,look (lk r p) q=some v
def yc(r:Rm):Prop:=∀p,((lk r p).map (·.1)).Nodup
theorem NG{α:Type}{q:Pt}{v:α}:∀{l:List (Pt×α)},look l q=some v->(q,v)∈l
 |[],h=>by cases h|e::l,h=>by by_cases c:e.1=q;rw[show look (e::l) q=some e.2 from if_pos c]at h;injection h with h;rw[<- c,<- h];exact QD;rw[show look (e::l) q=look l q from if_neg c]at h;exact QC _ (NG h)
theorem ZQ{α:Type}{q:Pt}{v:α}:∀{l:List (Pt×α)},(l.map (·.1)).Nodup->(q,v)∈l->look l q=some v
 |e::l,nd,h=>by obtain⟨k,y⟩:=Qi.mp nd;rcases QM.mp h with c|c;rw[<- c];exact if_pos rfl;have x:e.1≠q:=λz=>k (QS.mpr ⟨(q,v),c,z.symm⟩);rw[show look (e::l) q=look l q from if_neg x];exact ZQ y c
theorem put_keys{α:Type}{p:Pt}{w:α}:∀{l:List (Pt×α)},(put l p w).map (·.1)=if p∈l.map (·.1) then l.map (·.1) else l.map (·.1)++[p]
 |[]=>rfl|e::l=>by by_cases c:e.1=p;rw[show put (e::l) p w=(e.1,w)::l from if_pos c,if_pos (by rw[<- c];exact QD)];rfl;rw[show put (e::l) p w=e::put l p w from if_neg c];rw[QV,QV,put_keys];by_cases h:p∈l.map (·.1);rw[if_pos h,if_pos (QC _ h)];rw[if_neg h,if_neg (λz=>(QM.mp z).elim (λz=>c z.symm) h)];rfl
theorem FG{α:Type}{w:α}{l:List (Pt×α)}(h:(l.map (·.1)).Nodup):((put l p w).map (·.1)).Nodup:=by rw[put_keys];split;exact h;rename_i n;refine qH.mpr ⟨h,Qi.mpr ⟨λz=>(nomatch z),Qs⟩,λa x b hb z=>?_⟩;rw[QI.mp hb]at z;exact n (z▸x)
theorem nU(nd:yc r):de r p q↔0<rm r p q:=by
 unfold de rm;constructor;rintro⟨v,m,h⟩;rw[ZQ (nd p) m];exact h;intro h;cases e:look (lk r p) q with|none=>rw[e]at h;exact absurd h (wa 0)|some v=>rw[e]at h;exact⟨v,NG e,h⟩
noncomputable def XY(r:Rm)(u v:Pt):Rm:=put (put r u (put (lk r u) v (rm r u v - 1))) v (put (lk (put r u (put (lk r u) v (rm r u v - 1))) v) u (rm (put r u (put (lk r u) v (rm r u v - 1))) v u+1))
theorem oV(h:u≠v)(p:Pt):lk (XY r u v) p=if v=p then put (lk r v) u (rm r v u+1) else if u=p then put (lk r u) v (rm r u v - 1) else lk r p:=by
 have e:rm (put r u (put (lk r u) v (rm r u v - 1))) v u=rm r v u:=by unfold rm;rw[kE,if_neg h]
 unfold XY;rw[e,kE,kE,kE,if_neg h]
theorem UU(h:u≠v)(p q:Pt):rm (XY r u v) p q=rm r p q+(if p=v/\q=u then 1 else 0) - (if p=u/\q=v then 1 else 0):=by show(look (lk (XY r u v) p) q).getD 0=_;rw[oV h];by_cases y:v=p;rw[if_pos y,eD,if_neg (c:=p=u/\q=v) (λz=>h (z.1.symm.trans y.symm))];by_cases x:u=q;rw[if_pos x,if_pos ⟨y.symm,x.symm⟩,<- y,<- x];show rm r v u+1=rm r v u+1 - 0;omega;rw[if_neg x,if_neg (λz=>x z.2.symm),y];show rm r p q=rm r p q+0 - 0;omega;rw[if_neg y,if_neg (c:=p=v/\q=u) (λz=>y z.1.symm)];by_cases x:u=p;rw[if_pos x,eD];by_cases k:v=q;rw[if_pos k,if_pos ⟨x.symm,k.symm⟩,<- x,<- k];show rm r u v - 1=rm r u v+0 - 1;omega;rw[if_neg k,if_neg (λz=>k z.2.symm),x];show rm r p q=rm r p q+0 - 0;omega;rw[if_neg x,if_neg (λz=>x z.1.symm)];show rm r p q=rm r p q+0 - 0;omega
theorem gB:EH r p q↔U0 r p q:=by
 unfold EH U0;constructor;rintro⟨v,h⟩;exact⟨v,NG h⟩;rintro⟨v,h⟩;generalize lk r p=l at h;induction l with
 |nil=>exact(nomatch h)
 |cons e l x =>
  by_cases c:e.1=q;exact⟨e.2,if_pos c⟩;rcases QM.mp h with z|z
  ·exact absurd (by rw[<- z]) c
  obtain⟨w,y⟩:=x z;exact⟨w,(show look (e::l) q=look l q from if_neg c).trans y⟩
theorem Ib(h:u≠v)(a:EH r u v)(k:EH r v u):EH (XY r u v) p q↔EH r p q:=by unfold EH;rw[oV h];by_cases y:v=p;rw[if_pos y,eD];by_cases x:u=q;rw[if_pos x,<- y,<- x];exact⟨λ_=>k,λ_=>⟨_,rfl⟩⟩;rw[if_neg x,y];rw[if_neg y];by_cases x:u=p;rw[if_pos x,eD];by_cases z:v=q;rw[if_pos z,<- x,<- z];exact⟨λ_=>a,λ_=>⟨_,rfl⟩⟩;rw[if_neg z,x];rw[if_neg x]
theorem ua(h:u≠v)(nd:yc r):yc (XY r u v):=by
 intro p;rw[oV h];split;exact FG (nd v);split
 ·exact FG (nd u)
 exact nd p
theorem BP(h:¬ EH r p q):rm r p q=0:=by
 unfold rm;cases e:look (lk r p) q with|none=>rfl|some v=>exact absurd ⟨v,e⟩ h
def Xp(p q:Pt)(v:Int):Prop:=(∃n,p=tO n/\q=fR n/\v=1)∨(∃n,p=XA/\q=tO n/\v=2)∨(∃a b,a≠b/\p=fR a/\q=tO b/\v=2)∨(¬ K0 p q/\v=0)
def Nj(P:Pt->Pt->Int->Prop)(r:Rm):Prop:=∀p,∀e∈lk r p,P p e.1 e.2
theorem ZZ{P:Pt->Pt->Int->Prop}(a:w.1≠w.2.1)(f:P w.1 w.2.1 w.2.2)(b:P w.2.1 w.1 0)(h:Nj P r):Nj P (KB r w):=by intro p e x;rw[YI a]at x;by_cases k:w.2.1=p;rw[if_pos k]at x;rcases mI x with z|z;rw[z,<- k];exact b;exact h p e z;rw[if_neg k]at x;by_cases y:w.1=p;rw[if_pos y]at x;rcases mI x with z|z;rw[z,<- y];exact f;exact h p e z;rw[if_neg y]at x;exact h p e x
theorem MR(h:(r.map (·.1)).Nodup):((sdf r p).map (·.1)).Nodup:=by
 unfold sdf;cases e:look r p with|some v=>exact h|none=>show(List.map (λe:Pt×Inn=>e.1) (r++[(p,[])])).Nodup;rw[QJ];refine qH.mpr ⟨h,Qi.mpr ⟨λz=>(nomatch z),Qs⟩,λa y b hb z=>?_⟩;have hb:b=p:=QI.mp hb;rw[z,hb]at y;obtain⟨x,k,f⟩:=QS.mp y;have:=ZQ h (show(p,x.2)∈r by rw[<- f];exact k);rw[e]at this;cases this
theorem v5(x:w.1≠w.2.1)(h:yc r):yc (KB r w):=by
 intro p;rw[YI x];split;exact FG (h p);split
 ·exact FG (h p)
 exact h p
theorem yB:Key r p↔p∈r.map (·.1):=by
 constructor;rintro⟨l,e⟩;exact tQ e;intro h;induction r with
 |nil=>exact(nomatch h)
 |cons e r x =>
  by_cases c:e.1=p;exact⟨e.2,if_pos c⟩;rcases QM.mp h with z|z
  ·exact absurd z.symm c
  obtain⟨l,hl⟩:=x z;exact⟨l,(show look (e::r) p=look r p from if_neg c).trans hl⟩
structure Tbl0(r:Rm):Prop where
 ndk:(r.map (·.1)).Nodup
 ndi:yc r
 cap:Nj Xp r
 kind:∀p,Key r p->p=XA∨∃n,p=tO n∨p=fR n
 sym:∀p q,U0 r p q->U0 r q p/\Key r p
theorem US(h:K0 p q):(p=XA∨∃n,p=tO n∨p=fR n)/\(q=XA∨∃n,q=tO n∨q=fR n):=by
 rcases h with⟨h,n,e⟩| ⟨n,h,e⟩| ⟨a,b,_,h,e⟩
 exact⟨.inl h,.inr ⟨n,.inl e⟩⟩;exact⟨.inr ⟨n,.inl h⟩,.inr ⟨n,.inr e⟩⟩;exact⟨.inr ⟨a,.inr h⟩,.inr ⟨b,.inl e⟩⟩
theorem t8(k:K0 w.1 w.2.1)(f:Xp w.1 w.2.1 w.2.2)(t:Tbl0 r):Tbl0 (KB r w):=by
 have y:=EF k;refine⟨?_,v5 y t.ndi,ZZ y f (.inr (.inr (.inr ⟨SE k,rfl⟩))) t.cap,λp h=>?_,λp q h=>?_⟩;unfold KB;exact FG (FG (MR (MR t.ndk)));rcases jG.mp h with z|z|z
 ·rw[z];exact(US k).1
 rw[z];exact(US k).2;exact t.kind p z;rw[CI y,jG];rcases(CI y).mp h with z|⟨x,a⟩| ⟨x,a⟩
 obtain⟨e,b⟩:=t.sym p q z;exact⟨.inl e,.inr (.inr b)⟩;exact⟨.inr (.inr ⟨a,x⟩),.inl x⟩;exact⟨.inr (.inl ⟨a,x⟩),.inr (.inl x)⟩
theorem XW:∀{ws:List Wy}{r:Rm},(∀w∈ws,K0 w.1 w.2.1/\Xp w.1 w.2.1 w.2.2)->Tbl0 r->Tbl0 (ws.foldl KB r)
 |[],_,_,t=>t|w::ws,r,h,t=>XW (ws:=ws) (λw x=>h w (QC _ x)) (t8 (h w QD).1 (h w QD).2 t)
theorem uL{p:Pt}:∀{ws:List Wy}{r:Rm},Key (ws.foldl KB r) p↔Key r p∨∃w∈ws,p=w.1∨p=w.2.1
 |[],r=>⟨.inl,λz=>z.elim id λ⟨_,m,_⟩=>(nomatch m)⟩
 |w::ws,r=>by
  rw[W5,uL (ws:=ws),jG];constructor;rintro((z|z|z)|⟨x,m,z⟩)
  ·exact .inr ⟨w,QD,.inl z⟩
  exact .inr ⟨w,QD,.inr z⟩;exact .inl z;exact .inr ⟨x,QC _ m,z⟩;rintro(z|⟨x,m,z⟩)
  ·exact .inl (.inr (.inr z))
  rcases QM.mp m with rfl|m
  ·rcases z with z|z
   ·exact .inl (.inl z)
   exact .inl (.inr (.inl z))
  exact .inr ⟨x,m,z⟩
noncomputable def AZ(es:JB)(st:LS)(g:Str):List Wy:=st.flatMap (cR g)++es.flatMap (dU g)
theorem lE:jA es st g=(AZ es st g).foldl KB uH:=by unfold jA AZ;rw[QAS]
theorem vE{v:Int}:(p,q,v)∈AZ es st g↔(∃n∈st,n≠g/\((p,q,v)=(tO n,fR n,1)∨(p,q,v)=(XA,tO n,2)))∨(∃e∈es,(e.1≠g/\e.1≠e.2)/\((p,q,v)=(tO e.1,fR e.1,1)∨(p,q,v)=(tO e.2,fR e.2,1)∨(p,q,v)=(fR e.1,tO e.2,2))):=by
 unfold AZ;rw[QT,wI,wI];constructor;rintro(⟨n,m,h⟩| ⟨e,m,h⟩)
 ·exact .inl ⟨n,m,Zn.mp h⟩
 exact .inr ⟨e,m,Vn.mp h⟩;rintro(⟨n,m,h⟩| ⟨e,m,h⟩)
 ·exact .inl ⟨n,m,Zn.mpr h⟩
 exact .inr ⟨e,m,Vn.mpr h⟩
theorem xC:∀w∈AZ es st g,K0 w.1 w.2.1/\Xp w.1 w.2.1 w.2.2:=by
 rintro⟨p,q,v⟩ h;rcases vE.mp h with⟨n,_,_,e|e⟩| ⟨e,_,⟨_,x⟩,z|z|z⟩
 cases e;exact⟨.inr (.inl ⟨n,rfl,rfl⟩),.inl ⟨n,rfl,rfl,rfl⟩⟩;cases e;exact⟨.inl ⟨rfl,n,rfl⟩,.inr (.inl ⟨n,rfl,rfl,rfl⟩)⟩;cases z;exact⟨.inr (.inl ⟨_,rfl,rfl⟩),.inl ⟨_,rfl,rfl,rfl⟩⟩;cases z;exact⟨.inr (.inl ⟨_,rfl,rfl⟩),.inl ⟨_,rfl,rfl,rfl⟩⟩;cases z;exact⟨.inr (.inr ⟨_,_,x,rfl,rfl⟩),.inr (.inr (.inl ⟨_,_,x,rfl,rfl,rfl⟩))⟩
theorem JI(p:Pt):lk uH p=[]:=by show(if XA=p then some [] else none).getD []=[];split<;>rfl
theorem Ek:Tbl0 uH:=by refine⟨Qi.mpr ⟨λz=>(nomatch z),Qs⟩,λp=>?_,λp e x=>?_,λp h=>?_,λp q h=>?_⟩;rw[JI];exact Qs;rw[JI]at x;exact(nomatch x);exact .inl (QI.mp (yB.mp h));obtain⟨v,h⟩:=h;rw[JI]at h;exact(nomatch h)
end
section
variable{es:JB}{st:LS}{g:Str}
section
variable{p q:Pt}{n:Str}
theorem mD:Tbl0 (jA es st g):=by rw[lE];exact XW xC Ek
theorem n6:∀w∈AZ es st g,VG w:=λw h=>by unfold AZ at h;rcases QT.mp h with z|z;exact RG (f:=cR g) (λ_=>rL) st w z;exact RG (f:=dU g) (λ_=>tL) es w z
theorem mC:U0 (jA es st g) p q↔(∃v,(p,q,v)∈AZ es st g)∨∃v,(q,p,v)∈AZ es st g:=by
 rw[lE,RX n6];constructor;rintro(⟨v,h⟩| h)
 ·rw[JI]at h;exact(nomatch h)
 exact h;exact .inr
theorem iO(h:Key (jA es st g) (tO n)):U0 (jA es st g) (tO n) (fR n):=by
 rw[lE]at h;rcases uL.mp h with z|⟨⟨p,q,v⟩,m,z⟩
 exact absurd (QI.mp (yB.mp z)).symm IB;refine mC.mpr (.inl ⟨1,vE.mpr ?_⟩);have z:tO n=p∨tO n=q:=z;rcases vE.mp m with⟨k,mk,x,e|e⟩| ⟨e,u,x,y|y|y⟩
 cases e;rcases z with z|z;rw[GB z];exact .inl ⟨k,mk,x,.inl rfl⟩;exact absurd z HA;cases e;rcases z with z|z;exact absurd z.symm IB;rw[GB z];exact .inl ⟨k,mk,x,.inl rfl⟩;cases y;rcases z with z|z;rw[GB z];exact .inr ⟨e,u,x,.inl rfl⟩;exact absurd z HA;cases y;rcases z with z|z;rw[GB z];exact .inr ⟨e,u,x,.inr (.inl rfl)⟩;exact absurd z HA;cases y;rcases z with z|z;exact absurd z HA;rw[GB z];exact .inr ⟨e,u,x,.inr (.inl rfl)⟩
theorem HZ:Xp p q (rm (jA es st g) p q)∨(¬ EH (jA es st g) p q/\rm (jA es st g) p q=0):=by by_cases h:EH (jA es st g) p q;obtain⟨v,e⟩:=h;have:=mD (es:=es) (st:=st) (g:=g) |>.cap p (q,v) (NG e);unfold rm;rw[e];exact .inl this;exact .inr ⟨h,BP h⟩
theorem vt:0<=rm (jA es st g) p q:=by rcases HZ (es:=es) (st:=st) (g:=g) (p:=p) (q:=q) with(⟨_,_,_,e⟩| ⟨_,_,_,e⟩| ⟨_,_,_,_,_,e⟩| ⟨_,e⟩)|⟨_,e⟩<;>rw[e]<;>decide
theorem OI(h:¬ K0 p q):rm (jA es st g) p q=0:=by
 rcases HZ (es:=es) (st:=st) (g:=g) (p:=p) (q:=q) with(⟨n,y,x,_⟩| ⟨n,y,x,_⟩| ⟨a,b,z,y,x,_⟩| ⟨_,e⟩)|⟨_,e⟩
 exact absurd (.inr (.inl ⟨n,y,x⟩)) h;exact absurd (.inl ⟨y,n,x⟩) h;exact absurd (.inr (.inr ⟨a,b,z,y,x⟩)) h;exact e;exact e
theorem Oi(h:q≠fR n):rm (jA es st g) (tO n) q=0:=OI λl=>by
 rcases l with⟨e,_⟩| ⟨m,y,x⟩| ⟨a,b,_,e,_⟩
 exact IB e.symm;exact h (by rw[x,GB y]);exact HA e
theorem xo:rm (jA es st g) (tO n) (fR n)<=1:=by
 rcases HZ (es:=es) (st:=st) (g:=g) (p:=tO n) (q:=fR n) with(⟨_,_,_,e⟩| ⟨m,h,_,_⟩| ⟨a,b,x,h,y,_⟩| ⟨_,e⟩)|⟨_,e⟩
 rw[e];decide;exact absurd h.symm IB;exact absurd h HA;rw[e];decide;rw[e];decide
theorem Pi(h:Key (jA es st g) (tO n)):rm (jA es st g) (tO n) (fR n)=1:=by
 have a:=gB.mpr (iO h);rcases HZ (es:=es) (st:=st) (g:=g) (p:=tO n) (q:=fR n) with(⟨_,_,_,e⟩| ⟨m,x,_,_⟩| ⟨a,b,y,x,u,_⟩| ⟨l,e⟩)|⟨z,e⟩
 exact e;exact absurd x.symm IB;exact absurd x HA;exact absurd (.inr (.inl ⟨n,rfl,rfl⟩)) l;exact absurd a z
theorem ut(h:p≠tO n):rm (jA es st g) p (fR n)=0:=OI λl=>by
 rcases l with⟨_,m,e⟩| ⟨m,y,x⟩| ⟨a,b,_,_,e⟩
 exact HA e.symm;exact h (by rw[y,FH x]);exact HA e.symm
theorem bt:rm (jA es st g) p XA=0:=OI λl=>by
 rcases l with⟨_,m,e⟩| ⟨m,x,h⟩| ⟨a,b,_,_,e⟩
 exact IB e;exact aE h;exact IB e
theorem vo(h:p≠fR n):rm (jA es st g) p (tO n)=0∨rm (jA es st g) p (tO n)=2:=by
 rcases HZ (es:=es) (st:=st) (g:=g) (p:=p) (q:=tO n) with(⟨_,_,e,_⟩| ⟨m,_,_,e⟩| ⟨a,b,_,_,_,e⟩| ⟨l,e⟩)|⟨_,e⟩
 exact absurd e HA;exact .inr e;exact .inr e;exact .inl e;exact .inl e
theorem Ni{v:Int}(h:(p,tO n,v)∈AZ es st g):rm (jA es st g) p (tO n)=2:=by
 have a:EH (jA es st g) p (tO n):=gB.mpr (mC.mpr (.inl ⟨v,h⟩));have l:K0 p (tO n):=(xC _ h).1;rcases HZ (es:=es) (st:=st) (g:=g) (p:=p) (q:=tO n) with(⟨_,_,e,_⟩| ⟨m,_,_,e⟩| ⟨a,b,_,_,_,e⟩| ⟨x,e⟩)|⟨z,e⟩
 exact absurd e HA;exact e;exact e;exact absurd l x;exact absurd a z
end
end
section
variable{es:JB}{st:LS}{g:Str}
noncomputable def vs0(es:JB)(st:LS)(g:Str):List Pt:=(jA es st g).map (·.1)
noncomputable def fl(es:JB)(st:LS)(g:Str)(r:Rm)(p q:Pt):Int:=rm (jA es st g) p q - rm r p q
noncomputable def out(es:JB)(st:LS)(g:Str)(r:Rm)(p:Pt):Int:=sm (vs0 es st g) (fl es st g r p)
structure Base(es:JB)(st:LS)(g:Str)(r:Rm):Prop where
 ndi:yc r
 adj:∀p q,EH r p q↔EH (jA es st g) p q
 keys:r.map (·.1)=vs0 es st g
 nn:∀p q,0<=rm r p q
 anti:∀p q,fl es st g r p q=- fl es st g r q p
structure Flow(es:JB)(st:LS)(g:Str)(r:Rm):Prop extends Base es st g r where
 cons:∀x,x≠XA->x≠tO g->out es st g r x=0
theorem UF:(vs0 es st g).Nodup:=mD.ndk
theorem Vd:Flow es st g (jA es st g):=by
 have e:∀p q,fl es st g (jA es st g) p q=0:=λp q=>by unfold fl;omega
 refine⟨⟨mD.ndi,λp q=>wY,rfl,λp q=>vt,λp q=>by rw[e,e];rfl⟩,λx _ _=>?_⟩;unfold out;rw[SA (g:=λ_=>0) λq _=>e x q];exact DG _
theorem CB{p q:Pt}(h:EH (jA es st g) p q):EH (jA es st g) q p:=gB.mpr (mD.sym p q (gB.mp h)).1
theorem fB{p q:Pt}(h:EH (jA es st g) p q):p∈vs0 es st g:=yB.mp (mD.sym p q (gB.mp h)).2
theorem vR{p q:Pt}(h:EH (jA es st g) p q):p≠q:=by
 rcases mC.mp (gB.mp h) with⟨v,m⟩| ⟨v,m⟩
 exact EF (xC _ m).1;exact(EF (xC _ m).1).symm
section
variable{r:Rm}
theorem Base.dom(b:Base es st g r):z8 r:=λp q h=>by have a:=(b.adj p q).mp (gB.mpr h);rw[yB,b.keys];exact fB (CB a)
theorem Base.bg(b:Base es st g r):Key r XA:=by rw[yB,b.keys];refine yB.mp ?_;show Key (jA es st g) XA;rw[lE];exact uL.mpr (.inl ⟨[],if_pos rfl⟩)
theorem Base.len(b:Base es st g r):r.length=(jA es st g).length:=by have:=congrArg wN b.keys;unfold vs0 at this;rw[QA,QA]at this;exact this
theorem Base.adjw(b:Base es st g r){p q:Pt}(h:0<rm r p q):EH (jA es st g) p q:=(b.adj p q).mp (by
 unfold rm at h;cases e:look (lk r p) q with|none=>rw[e]at h;exact absurd h (wa 0)|some v=>exact⟨v,e⟩)
theorem nQ{u:Pt}{l:Inn}(h:u∈r.map (·.1)):(put r u l).map (·.1)=r.map (·.1):=by rw[put_keys,if_pos h]
theorem Base.pushed(b:Base es st g r){u v:Pt}(h:0<rm r u v):Base es st g (XY r u v):=by
 have a:=b.adjw h;have y:=vR a;have e:=UU (r:=r) y;refine⟨ua y b.ndi,λp q=>?_,?_,λp q=>?_,λp q=>?_⟩;rw[Ib y ((b.adj u v).mpr a) ((b.adj v u).mpr (CB a))];exact b.adj p q;have k:u∈r.map (·.1):=by rw[b.keys];exact fB a
 have f:v∈r.map (·.1):=by rw[b.keys];exact fB (CB a)
 unfold XY;rw[nQ (by rw[nQ k];exact f),nQ k];exact b.keys;rw[e];have:=b.nn p q;by_cases c:p=u/\q=v;rw[if_pos c,c.1,c.2];split<;>omega;rw[if_neg c];split<;>omega;unfold fl;rw[e,e];have:=b.anti p q;unfold fl at this;by_cases x:p=v/\q=u;rw[if_pos x,if_pos (c:=q=u/\p=v) ⟨x.2,x.1⟩,if_neg (c:=p=u/\q=v) (λz=>y (z.1.symm.trans x.1)),if_neg (c:=q=v/\p=u) (λz=>y (z.2.symm.trans x.1))];omega;rw[if_neg x,if_neg (c:=q=u/\p=v) (λz=>x ⟨z.2,z.1⟩)];by_cases w:p=u/\q=v;rw[if_pos w,if_pos (c:=q=v/\p=u) ⟨w.2,w.1⟩];omega;rw[if_neg w,if_neg (c:=q=v/\p=u) (λz=>w ⟨z.2,z.1⟩)];omega
theorem cX(b:Base es st g r){u v:Pt}(h:0<rm r u v)(x:Pt):out es st g (XY r u v) x=out es st g r x+(if x=u then 1 else 0) - (if x=v then 1 else 0):=by
 have a:=b.adjw h;have f:=vR a;unfold out;have e:∀q,fl es st g (XY r u v) x q=fl es st g r x q+((if q=v then(if x=u then 1 else 0) else 0)+-(if q=u then(if x=v then 1 else 0) else 0)):=λq=>by unfold fl;rw[UU f];by_cases k:x=u;have w:x≠v:=λz=>f (k.symm.trans z);rw[if_neg (c:=x=v/\q=u) (λz=>w z.1),if_pos k,if_neg w];by_cases y:q=v;rw[if_pos (c:=x=u/\q=v) ⟨k,y⟩,if_pos y];split<;>omega;rw[if_neg (c:=x=u/\q=v) (λz=>y z.2),if_neg y];split<;>omega;rw[if_neg (c:=x=u/\q=v) (λz=>k z.1),if_neg k];by_cases w:x=v;rw[if_pos w];by_cases y:q=u;rw[if_pos (c:=x=v/\q=u) ⟨w,y⟩,if_pos y];split<;>omega;rw[if_neg (c:=x=v/\q=u) (λz=>y z.2),if_neg y];split<;>omega;rw[if_neg (c:=x=v/\q=u) (λz=>w z.1),if_neg w];split<;>split<;>omega
 rw[SA λq _=>e q,YH,YH,oJ,pJ UF (fB (CB a)),pJ UF (fB a)];omega
end
section
variable{r y:Rm}{ks:List Pt}
theorem CF.find{vs:List D}(h:CF r ks vs){q:Pt}(m:q∈ks)(b:q≠XA):∃z u p k v,CF r z u/\p∈z/\de r p q/\q∉z/\ks=z++q::k/\vs=u++pr p::v:=by
 induction h with|bg=>exact absurd (QI.mp m) b|@add ks vs p x c i w n f=>by_cases e:q∈ks;obtain⟨z,u,a,k,v,Z,Y,X,s,o,l⟩:=f e;exact⟨z,u,a,k++[x],v++[pr p],Z,Y,X,s,by rw[o,Qw];rfl,by rw[l,Qw];rfl⟩;have j:q=x:=QI.mp ((QT.mp m).resolve_left e);subst j;exact⟨ks,vs,p,[],[],c,i,w,n,rfl,rfl⟩
structure LC(es:JB)(st:LS)(g:Str)(y r:Rm)(here:Pt)(ks:List Pt):Prop extends Base es st g r where
 cons:∀x,x≠XA->x≠tO g->out es st g r x=if x=here then 1 else 0
 val:out es st g r XA=out es st g y XA+if here=XA then 1 else 0
 fresh:∀p,∀q∈ks,rm y p q<=rm r p q
theorem B5(f:Flow es st g y)(ks:List Pt):LC es st g y y (tO g) ks:=by refine⟨f.toBase,λx u h=>?_,?_,λp q _=>QAZ _⟩;rw[if_neg h];exact f.cons x u h;rw[if_neg (λz=>IB z.symm)];omega
theorem Ga{h p:Pt}{u:List Pt}(nd:yc y)(l:LC es st g y r h ks)(i:h∈ks)(hb:h≠XA)(w:de y p h)(f:h∉u)(e:∀q∈u,q∈ks):0<rm r p h/\LC es st g y (XY r p h) p u:=by have v:0<rm r p h:=Int.lt_of_lt_of_le ((nU nd).mp w) (l.fresh p h i);have b:=vR (l.adjw v);refine⟨v,l.toBase.pushed v,λx a j=>?_,?_,λx q k=>?_⟩;rw[cX l.toBase v,l.cons x a j];split<;>split<;>omega;rw[cX l.toBase v,l.val,if_neg hb,if_neg (c:=XA=h) (λz=>hb z.symm)];by_cases c:p=XA;rw[if_pos c,if_pos c.symm];omega;rw[if_neg c,if_neg (λz=>c z.symm)];omega;have a:=l.fresh x q (e q k);rw[UU b,if_neg (c:=x=p/\q=h) (λz=>f (z.2▸k))];split<;>omega
theorem Fh(l:LC es st g y r XA ks):Flow es st g r/\out es st g r XA=out es st g y XA+1:=by refine⟨⟨l.toBase,λx h z=>?_⟩,?_⟩;rw[l.cons x h z,if_neg h];rw[l.val,if_pos rfl]
end
end
section
variable{es:JB}{st:LS}{g:Str}{r:Rm}
section
variable{p q y:Pt}{n a:Str}{ks:List Pt}
theorem dL(b:Base es st g r)(h:rm (jA es st g) q p=0):fl es st g r p q=rm r q p:=by have:=b.anti p q;unfold fl at this ⊢;omega
def JU(r:Rm)(n:Str):Int:=rm r (fR n) (tO n)
theorem iU(b:Base es st g r)(n:Str):fl es st g r (tO n) (fR n)=JU r n:=dL b (OI λl=>SE (.inr (.inl ⟨n,rfl,rfl⟩)) l)
theorem CL(b:Base es st g r)(n:Str):JU r n<=1:=by rw[<- iU b];have x:=xo (es:=es) (st:=st) (g:=g) (n:=n);have h:=b.nn (tO n) (fR n);unfold fl;omega
theorem j3(b:Base es st g r)(h:p∉vs0 es st g∨q∉vs0 es st g):rm r p q=0:=by refine BP λa=>?_;have a:=(b.adj p q).mp a;rcases h with h|h;exact h (fB a);exact h (fB (CB a))
theorem Jc(l:List Pt)(nd:l.Nodup)(u:Pt)(k:Int)(h:u∉l->k=0):sm l (λx=>if x=u then k else 0)=k:=by by_cases m:u∈l;exact pJ nd m;rw[JP m,h m]
noncomputable def inn(r:Rm)(n:Str)(y:Pt):Int:=if y=fR n then 0 else rm r (tO n) y
theorem YQ(f:Flow es st g r)(h:n≠g):sm (vs0 es st g) (inn r n)=JU r n:=by
 have c:=f.cons (tO n) (λz=>IB z.symm) (λz=>h (GB z));unfold out at c;have e:∀y,fl es st g r (tO n) y=(if y=fR n then JU r n else 0)+- inn r n y:=λy=>by unfold inn;by_cases e:y=fR n;rw[if_pos e,if_pos e,e,iU f.toBase];omega;rw[if_neg e,if_neg e];unfold fl;rw[Oi e];omega
 rw[SA λy _=>e y,YH,oJ,Jc _ UF (fR n) (JU r n) (λz=>j3 f.toBase (.inl z))]at c;omega
theorem iQ(b:Base es st g r)(n:Str)(y:Pt):0<=inn r n y:=by unfold inn;split;decide;exact b.nn _ _
noncomputable def n9(r:Rm)(n:Str)(y:Pt):Int:=if y=tO n then 0 else rm r y (fR n)
theorem bX(f:Flow es st g r)(n:Str):sm (vs0 es st g) (n9 r n)=JU r n:=by
 have c:=f.cons (fR n) (λz=>aE z.symm) (λz=>HA z.symm);unfold out at c;have e:∀y,fl es st g r (fR n) y=- (if y=tO n then JU r n else 0)+n9 r n y:=λy=>by unfold n9;by_cases e:y=tO n;rw[if_pos e,if_pos e,e];have:=f.anti (fR n) (tO n);rw[iU f.toBase]at this;omega;rw[if_neg e,if_neg e,dL f.toBase (ut e)];omega
 rw[SA λy _=>e y,YH,oJ,Jc _ UF (tO n) (JU r n) (λz=>j3 f.toBase (.inr z))]at c;omega
theorem Mg(b:Base es st g r)(n:Str)(y:Pt):0<=n9 r n y:=by unfold n9;split;decide;exact b.nn _ _
def fU(r:Rm)(n:Str):Prop:=0<rm r (tO n) XA
def j8(r:Rm)(a b:Str):Prop:=a≠b/\0<rm r (tO b) (fR a)
theorem CJ(b:Base es st g r)(h:fU r n):n∈st/\n≠g:=by
 rcases mC.mp (gB.mp (b.adjw h)) with⟨v,m⟩| ⟨v,m⟩
 exact absurd (xC _ m).1 λl=>by
  rcases l with⟨e,_⟩| ⟨_,_,e⟩| ⟨_,_,_,e,_⟩
  exact IB e.symm;exact aE e;exact HA e
 rcases vE.mp m with⟨k,mk,x,e|e⟩| ⟨e,_,_,y|y|y⟩
 ·exact absurd (congrArg qr e) IB
 have:=congrArg (λw:Wy=>w.2.1) e;rw[GB this];exact⟨mk,x⟩;exact absurd (congrArg qr y) IB;exact absurd (congrArg qr y) IB;exact absurd (congrArg qr y) aE
theorem nh(b:Base es st g r){c:Str}(h:j8 r a c):(a,c)∈es/\a≠g:=by
 rcases mC.mp (gB.mp (b.adjw h.2)) with⟨v,m⟩| ⟨v,m⟩
 exact absurd (xC _ m).1 λl=>by
  rcases l with⟨e,_⟩| ⟨k,z,x⟩| ⟨_,_,_,e,_⟩
  exact IB e.symm;exact h.1 ((FH x).trans (GB z).symm);exact HA e
 rcases vE.mp m with⟨k,mk,u,e|e⟩| ⟨e,f,u,y|y|y⟩
 ·exact absurd (congrArg qr e).symm HA
 exact absurd (congrArg qr e).symm aE;exact absurd (congrArg qr y).symm HA;exact absurd (congrArg qr y).symm HA;have z:a=e.1:=FH (congrArg qr y);have x:c=e.2:=GB (congrArg (λw:Wy=>w.2.1) y);rw[z,x];exact⟨f,u.1⟩
theorem ZV:inn r n XA=rm r (tO n) XA:=by unfold inn;exact if_neg aE
theorem yQ(h:a≠n):inn r n (fR a)=rm r (tO n) (fR a):=by unfold inn;exact if_neg λz=>h (FH z)
theorem E9(h:a≠n):n9 r a (tO n)=rm r (tO n) (fR a):=by unfold n9;exact if_neg λz=>h (GB z).symm
theorem tI(b:Base es st g r)(h:0<rm r p q):p∈vs0 es st g/\q∈vs0 es st g:=⟨fB (b.adjw h),fB (CB (b.adjw h))⟩
theorem FX(f:Flow es st g r)(n:Str)(h:n≠g):rm r (tO n) XA<=1:=by by_cases c:0<rm r (tO n) XA;have z:=JH (λx _=>iQ f.toBase n x) (tI f.toBase c).2;rw[YQ f h,ZV]at z;exact QAD z (CL f.toBase n);omega
theorem zb(f:Flow es st g r)(h:fU r n):JU r n=1:=by have ng:=(CJ f.toBase h).2;have z:=JH (λx _=>iQ f.toBase n x) (tI f.toBase h).2;rw[YQ f ng,ZV]at z;have:=CL f.toBase n;unfold fU at h;omega
theorem A9(f:Flow es st g r)(h:j8 r a n)(ng:n≠g):JU r n=1:=by have z:=JH (λx _=>iQ f.toBase n x) (tI f.toBase h.2).2;rw[YQ f ng,yQ h.1]at z;have:=CL f.toBase n;have:=h.2;omega
theorem C1(f:Flow es st g r)(ng:n≠g){x:Pt}(u:0<inn r n x)(h:0<inn r n y):x=y:=by
 have w:x∈vs0 es st g:=by unfold inn at u;split at u;exact absurd u (wa 0);exact(tI f.toBase u).2
 have v:y∈vs0 es st g:=by unfold inn at h;split at h;exact absurd h (wa 0);exact(tI f.toBase h).2
 by_cases e:x=y;exact e;have k:=Y2 (λz _=>iQ f.toBase n z) w v e;rw[YQ f ng]at k;have:=CL f.toBase n;omega
theorem gX(f:Flow es st g r){b:Str}(ng:n≠g)(x:j8 r a n)(h:j8 r b n):a=b :=
 FH (C1 f ng (by rw[yQ x.1];exact x.2) (by rw[yQ h.1];exact h.2))
theorem BQ(f:Flow es st g r)(x:fU r n)(h:j8 r a n):False :=
 aE (C1 f (CJ f.toBase x).2 (by rw[ZV];exact x) (by rw[yQ h.1];exact h.2))
theorem O4(f:Flow es st g r)(h:JU r n=1):∃y,y≠tO n/\0<rm r y (fR n):=by obtain⟨y,_,x⟩:=K2 (f:=n9 r n) (l:=vs0 es st g) (by rw[bX f,h];decide);unfold n9 at x;split at x;exact absurd x (wa 0);rename_i ne;exact⟨y,ne,x⟩
theorem Ec(b:Base es st g r)(h:EH r y (fR n)):∃m,y=tO m:=by
 rcases mC.mp (gB.mp ((b.adj _ _).mp h)) with⟨v,m⟩| ⟨v,m⟩
 rcases(xC _ m).1 with⟨_,k,e⟩| ⟨k,e,_⟩| ⟨_,k,_,_,e⟩
 ·exact absurd e.symm HA
 exact⟨k,e⟩;exact absurd e.symm HA;rcases(xC _ m).1 with⟨e,_⟩| ⟨k,e,_⟩| ⟨_,k,_,_,e⟩
 ·exact absurd e.symm aE
 exact absurd e.symm HA;exact⟨k,e⟩
theorem u5(b:Base es st g r)(h:EH r y XA):∃m,y=tO m:=by
 rcases mC.mp (gB.mp ((b.adj _ _).mp h)) with⟨v,m⟩| ⟨v,m⟩
 rcases(xC _ m).1 with⟨_,k,e⟩| ⟨k,_,e⟩| ⟨_,k,_,_,e⟩
 ·exact absurd e IB
 exact absurd e aE;exact absurd e IB;rcases(xC _ m).1 with⟨_,k,e⟩| ⟨k,e,_⟩| ⟨_,k,_,e,_⟩
 ·exact⟨k,e⟩
 exact absurd e IB;exact absurd e aE
theorem mh(f:Flow es st g r)(h:JU r n=1):∃m,j8 r n m:=by obtain⟨y,z,x⟩:=O4 f h;obtain⟨m,rfl⟩:=Ec f.toBase ((f.adj _ _).mpr (f.toBase.adjw x));exact⟨m,λe=>z (by rw[e]),x⟩
theorem kO(f:Flow es st g r){v:Int}(m:(p,tO n,v)∈AZ es st g):0<rm r p (tO n):=by
 have c:=Ni m;have l:=(xC _ m).1;have h:fl es st g r p (tO n)=rm r (tO n) p:=dL f.toBase (OI (SE l));unfold fl at h;rw[c]at h;have key:rm r (tO n) p<=1:=by
  rcases vE.mp m with⟨k,mk,z,e|e⟩| ⟨e,o,z,y|y|y⟩
  exact absurd (congrArg (λw:Wy=>w.2.1) e) HA;have b:p=XA:=congrArg qr e;have u:n=k:=GB (congrArg (λw:Wy=>w.2.1) e);rw[b];exact FX f n (by rw[u];exact z);exact absurd (congrArg (λw:Wy=>w.2.1) y) HA;exact absurd (congrArg (λw:Wy=>w.2.1) y) HA;have b:p=fR e.1:=congrArg qr y;have u:n=e.2:=GB (congrArg (λw:Wy=>w.2.1) y);rw[b];by_cases c:0<rm r (tO n) (fR e.1);have j:e.1≠n:=by rw[u];exact z.2
  have i:=JH (λx _=>Mg f.toBase e.1 x) (tI f.toBase c).1;rw[bX f,E9 j]at i;exact QAD i (CL f.toBase _);omega
 omega
theorem NR{l m:List Pt}(v:l.Nodup)(u:m.Nodup)(h:∀x,x∈l↔x∈m):l.length=m.length:=by have a:=MG v λx z=>(h x).mp z;have b:=MG u λx z=>(h x).mpr z;omega
noncomputable def zH(ks:List Pt)(x:Pt):Bool:=decide (x.2="to")&&!decide (fR x.1∈ks)
theorem PD{x:Pt}:zH ks x=true↔∃n,x=tO n/\fR n∉ks:=by unfold zH;rw[Qg,qB,decide_eq_true_iff,decide_eq_false_iff_not];constructor;rintro⟨u,z⟩;exact⟨x.1,QCG rfl u,z⟩;rintro⟨n,rfl,h⟩;exact⟨rfl,h⟩
theorem ZP(p:Pt->Bool):∀(l:List Pt),sm l (λx=>if p x=true then 1 else 0)=(l.filter p).length
 |[]=>rfl|x::l=>by show(if p x=true then 1 else 0)+sm l _=_;rw[ZP p l,WA];by_cases c:p x=true;rw[if_pos c,if_pos c,QL];omega;rw[if_neg c,if_neg c];omega
theorem bT(f:Flow es st g r)(nd:ks.Nodup)(hk:∀p,p∈ks↔Rch r p)(M:tO g∉ks):out es st g r XA=(ks.filter (zH ks)).length:=by
 have sub:∀p∈ks,p∈vs0 es st g:=λp L=>by have:=yB.mp (fI f.toBase.dom f.toBase.bg ((hk p).mp L));rw[f.keys]at this;exact this
 have o:∀x∈ks,∀y,y∉ks->rm r x y=0:=λx w y u=>by have:=f.nn x y;by_cases c:0<rm r x y;exact absurd ((hk y).mpr (.go ((hk x).mp w) ((nU f.ndi).mpr c))) u;omega
 have I:sm ((vs0 es st g).filter λx=>decide (x∈ks)) (λx=>out es st g r x)=out es st g r XA:=by
  have hb:XA∈ks:=(hk XA).mpr .bg;have e:∀x∈(vs0 es st g).filter (λx=>decide (x∈ks)),out es st g r x=if x=XA then out es st g r XA else 0:=λx w=>by by_cases c:x=XA;rw[if_pos c,c];rw[if_neg c];exact f.cons x c λz=>M (z▸of_decide_eq_true (QO.mp w).2)
  rw[SA e];exact pJ (UF.sublist Q2) (QO.mpr ⟨sub _ hb,dT hb⟩)
 have G:∀x∈(vs0 es st g).filter (λx=>decide (x∈ks)),sm ((vs0 es st g).filter λy=>!decide (y∈ks)) (fl es st g r x)=if zH ks x=true then 1 else 0:=λx w=>by
  have W:x∈ks:=of_decide_eq_true (QO.mp w).2;have Z:=(QO.mp w).1;have k:∀y∈(vs0 es st g).filter (λy=>!decide (y∈ks)),y∉ks/\fl es st g r x y=rm (jA es st g) x y:=λy u=>by have:=(QO.mp u).2;rw[qB,decide_eq_false_iff_not]at this;refine⟨this,?_⟩;unfold fl;rw[o x W y this];omega
  have B:∀y∈(vs0 es st g).filter (λy=>!decide (y∈ks)),∀n,y=tO n->fl es st g r x y=0:=λy u n e=>by
   obtain⟨C,O⟩:=k y u;rw[O,e];by_cases A:x=fR n;rw[A];exact OI λl=>SE (.inr (.inl ⟨n,rfl,rfl⟩)) l;rcases vo (es:=es) (st:=st) (g:=g) A with z|z
   ·exact z
   have a:EH (jA es st g) x (tO n):=by refine qM λJ=>?_;rw[BP J]at z;exact absurd z (by decide)
   rcases mC.mp (gB.mp a) with⟨v,m⟩| ⟨v,m⟩
   have:=kO f m;rw[o x W (tO n) (e▸C)]at this;exact absurd this (wa 0);rw[OI (SE (xC _ m).1)]
  rcases mD.kind x (yB.mpr Z) with e|⟨n,e|e⟩
  have i:¬ zH ks x=true:=λz=>by obtain⟨n,j,_⟩:=PD.mp z;exact IB (e.symm.trans j)
  rw[if_neg i];rw[SA (g:=λ_=>0),DG];intro y u;by_cases t:∃n,y=tO n;obtain⟨n,t⟩:=t;exact B y u n t;rw[(k y u).2,e];exact OI λl=>by
   rcases l with⟨_,z⟩| ⟨n,z,_⟩| ⟨_,b,_,_,z⟩
   exact t z;exact IB z;exact t ⟨b,z⟩
  by_cases X:fR n∈ks
  ·have i:¬ zH ks x=true:=λz=>by
    obtain⟨m,j,h⟩:=PD.mp z;rw[<- GB (e.symm.trans j)]at h;exact h X
   rw[if_neg i,SA (g:=λ_=>0),DG];intro y u;rw[(k y u).2,e];exact Oi λz=>(k y u).1 (z▸X)
  rw[if_pos (PD.mpr ⟨n,e,X⟩)];have K:Key (jA es st g) (tO n):=by rw[<- e];exact yB.mpr Z
  have N:fR n∈vs0 es st g:=fB (CB (gB.mpr (iO K)));rw[SA (g:=λy=>if y=fR n then 1 else 0)];exact pJ (UF.sublist Q2) (QO.mpr ⟨N,by rw[dF X];rfl⟩);intro y u;rw[(k y u).2,e];by_cases c:y=fR n;rw[if_pos c,c,Pi K];rw[if_neg c,Oi c];have i:¬ zH ks x=true:=λz=>by obtain⟨m,j,_⟩:=PD.mp z;exact HA (j.symm.trans e)
  rw[if_neg i,SA (g:=λ_=>0),DG];intro y u;by_cases t:∃n,y=tO n;obtain⟨n,t⟩:=t;exact B y u n t;rw[(k y u).2,e];exact OI λl=>by
   rcases l with⟨z,_⟩| ⟨n,z,_⟩| ⟨_,b,_,_,z⟩
   exact aE z.symm;exact HA z.symm;exact t ⟨b,z⟩
 have F:∀x,out es st g r x=sm ((vs0 es st g).filter λy=>decide (y∈ks)) (fl es st g r x)+sm ((vs0 es st g).filter λy=>!decide (y∈ks)) (fl es st g r x):=λx=>BR _ _;have E:sm ((vs0 es st g).filter λx=>decide (x∈ks)) (λx=>out es st g r x)=sm ((vs0 es st g).filter λx=>decide (x∈ks)) (λx=>if zH ks x=true then 1 else 0):=by rw[SA λx _=>F x,YH,X8 _ λx _ y _=>f.anti x y,SA G];omega
 rw[<- I,E,ZP];have:(((vs0 es st g).filter λx=>decide (x∈ks)).filter (zH ks)).length=(ks.filter (zH ks)).length:=by refine NR ((UF.sublist Q2).sublist Q2) (nd.sublist Q2) λx=>?_;rw[QO,QO,QO,decide_eq_true_iff];exact⟨λ⟨⟨_,s⟩,Y⟩=>⟨s,Y⟩,λ⟨s,Y⟩=>⟨⟨sub x s,s⟩,Y⟩⟩
 rw[this]
theorem vb(f:Flow es st g r):out es st g r XA=(((lk r XA).map (·.1)).filter λy=>decide (0<rm r y XA)).length:=by
 have e:∀y∈vs0 es st g,fl es st g r XA y=if decide (0<rm r y XA)=true then 1 else 0:=λy x=>by rw[dL f.toBase bt];have z:=f.nn y XA;by_cases c:0<rm r y XA;rw[dT c,if_pos rfl];obtain⟨n,e⟩:=u5 f.toBase ((f.adj _ _).mpr (f.toBase.adjw c));rw[e]at c ⊢;have:=FX f n (CJ f.toBase c).2;omega;rw[dF c,if_neg (by decide)];omega
 unfold out;rw[SA e,ZP];have:((vs0 es st g).filter λy=>decide (0<rm r y XA)).length=(((lk r XA).map (·.1)).filter λy=>decide (0<rm r y XA)).length:=by refine NR (UF.sublist Q2) ((f.ndi XA).sublist Q2) λy=>?_;rw[QO,QO,decide_eq_true_iff];refine⟨λ⟨_,h⟩=>⟨?_,h⟩,λ⟨_,h⟩=>⟨(tI f.toBase h).1,h⟩⟩;obtain⟨v,hv⟩:=(f.adj XA y).mpr (CB (f.toBase.adjw h));exact QS.mpr ⟨(y,v),NG hv,rfl⟩
 rw[this]
theorem Xb(f:Flow es st g r)(hk:∀p,p∈ks↔Rch r p)(o:tO g∉ks){cut:LS}(hc:∀n,tO n∈ks->fR n∉ks->n∈cut):¬ ∃a,(a,g)∈es/\Led es st g cut a:=by
 have u:∀p∈ks,∀n v,(p,tO n,v)∈AZ es st g->tO n∈ks:=λp j n v m=>(hk _).mpr (.go ((hk _).mp j) ((nU f.ndi).mpr (kO f m)));have key:∀n,Led es st g cut n->fR n∈ks:=λn h=>by
  induction h with|@st s h k=>obtain⟨w,x⟩:=mB.mp k;have t:=u XA ((hk _).mpr .bg) s 2 (vE.mpr (.inl ⟨s,h,w,.inr rfl⟩));exact qM λz=>x (hc s t z)|@ed a b l m k i=>obtain⟨w,x⟩:=mB.mp k;by_cases e:a=b;rw[<- e];exact i;have t:=u (fR a) i b 2 (vE.mpr (.inr ⟨(a,b),m,⟨(iM l).1,e⟩,.inr (.inr rfl)⟩));exact qM λz=>x (hc b t z)
 rintro⟨a,m,l⟩;exact o (u (fR a) (key a l) g 2 (vE.mpr (.inr ⟨(a,g),m,⟨(iM l).1,(iM l).1⟩,.inr (.inr rfl)⟩)))
end
end
inductive Run(r:Rm)(g f:Str):LS->Str->Prop
 |nil:Run r g f [] f
 |go {c:LS}{n m:Str}:Run r g f c n->n≠g->j8 r n m->Run r g f (c++[n]) m
inductive Chn(es:JB)(st:LS)(g:Str):LS->Str->Prop
 |st {f:Str}:f∈st->f≠g->Chn es st g [] f
 |go {c:LS}{n m:Str}:Chn es st g c n->n≠g->(n,m)∈es->Chn es st g (c++[n]) m
section
variable{es:JB}{st:LS}{g:Str}{r:Rm}
section
variable{s n:Str}{c:LS}
theorem Run.chn(f:Flow es st g r)(x:fU r s)(h:Run r g s c n):Chn es st g c n:=by
 induction h with|nil=>exact .st (CJ f.toBase x).1 (CJ f.toBase x).2|go _ ng y z=>exact .go z ng (nh f.toBase y).1
theorem Run.thr1(f:Flow es st g r)(y:fU r s)(h:Run r g s c n)(ng:n≠g):JU r n=1:=by
 cases h with|nil=>exact zb f y|go _ _ x=>exact A9 f x ng
theorem Run.pred(h:Run r g s c n):∀x,x∈c∨x=n->x=s∨∃y∈c,j8 r y x:=by
 induction h with
 |nil=>intro x u;exact u.elim (λz=>(nomatch z)) .inl
 |@go c n m _ _ v w =>
  intro x u;rcases u with u|rfl;have:x∈c∨x=n:=(QT.mp u).imp_right QI.mp;rcases w x this with z|⟨y,k,z⟩
  exact .inl z;exact .inr ⟨y,Qf _ k,z⟩;exact .inr ⟨n,QU _ QD,v⟩
theorem Run.ng(h:Run r g s c n):∀x∈c,x≠g:=by
 induction h with
 |nil=>exact λx y=>(nomatch y)
 |go _ k _ u=>intro x y;rcases QT.mp y with z|z;exact u x z;rw[QI.mp z];exact k
theorem Run.nd(f:Flow es st g r)(w:fU r s)(h:Run r g s c n):c.Nodup/\n∉c:=by
 induction h with
 |nil=>exact⟨Qs,λz=>(nomatch z)⟩
 |@go c n m h k x u =>
  have nd:(c++[n]).Nodup:=qH.mpr ⟨u.1,Qi.mpr ⟨λz=>(nomatch z),Qs⟩,λa i b hb z=>by rw[QI.mp hb]at z;exact u.2 (z▸i)⟩;refine⟨nd,λz=>?_⟩;rcases QT.mp z with z|z;rcases h.pred m (.inl z) with e|⟨y,v,e⟩
  ·rw[e]at x;exact BQ f w x
  rw[gX f (h.ng m z) e x]at v;exact u.2 v;exact x.1 (QI.mp z).symm
theorem Run.apart(f:Flow es st g r){s':Str}(q:fU r s)(b:fU r s'){l:LS}{p:Str}(h:Run r g s c n)(h':Run r g s' l p):∀x∈c,x∈l->s=s':=by
 induction h with
 |nil=>exact λx a=>(nomatch a)
 |@go c n m h k X i =>
  intro x a v;rcases QT.mp a with z|z;exact i x z v;have z:=QI.mp z;subst z;rcases h.pred x (.inr rfl) with e|⟨y,j,e⟩<;>rcases h'.pred x (.inl v) with u|⟨o,w,u⟩
  exact e.symm.trans u;rw[e]at u;exact(BQ f q u).elim;rw[u]at e;exact(BQ f b e).elim;rw[gX f k e u]at j;exact i o j w
end
end
section
variable{es:JB}{st:LS}{g:Str}
theorem Cb{cut:LS}{c:LS}{n:Str}(h:Chn es st g c n)(hc:∀x∈c,x∉cut)(ng:n≠g)(y:n∉cut):Led es st g cut n:=by
 induction h with|st h _=>exact .st h (mB.mpr ⟨ng,y⟩)|@go c n m _ k e z=>exact .ed (z (λx u=>hc x (Qf _ u)) k (hc n (QU _ QD))) e (mB.mpr ⟨ng,y⟩)
theorem T6{cut:LS}{c:LS}(h:Chn es st g c g)(hl:¬ ∃a,(a,g)∈es/\Led es st g cut a):∃x∈c,x∈cut:=by
 refine qM λz=>?_;have hc:∀x∈c,x∉cut:=λx y m=>z ⟨x,y,m⟩;cases h with|st _ e=>exact e rfl|@go c n _ h k e=>exact hl ⟨n,e,Cb h (λx y=>hc x (Qf _ y)) k (hc n (QU _ QD))⟩
noncomputable def LK:List (LS)->Prop
 |[]=>True|c::cs=>(∀d∈cs,∀x∈c,x∉d)/\LK cs
theorem Cc{cut:LS}:∀{cs:List (LS)},LK cs->(∀c∈cs,∃x∈c,x∈cut)->∃u:LS,u.length=cs.length/\u.Nodup/\(∀p∈u,p∈cut)/\∀p∈u,∃c∈cs,p∈c
 |[],_,_=>⟨[],rfl,Qs,λ_ z=>(nomatch z),λ_ z=>(nomatch z)⟩
 |c::cs,a,h=>by
  obtain⟨u,f,e,b,k⟩:=Cc (cs:=cs) a.2 λd v=>h d (QC _ v);obtain⟨x,w,hc⟩:=h c QD;refine⟨x::u,by rw[QL,QL,f],Qi.mpr ⟨λz=>?_,e⟩,λp y=>?_,λp y=>?_⟩;obtain⟨d,v,y⟩:=k x z;exact a.1 d v x w y;rcases QM.mp y with z|z
  ·rw[z];exact hc
  exact b p z;rcases QM.mp y with z|z
  ·exact⟨c,QD,by rw[z];exact w⟩
  obtain⟨d,v,y⟩:=k p z;exact⟨d,QC _ v,y⟩
theorem UZ{cut:LS}{cs:List (LS)}(a:LK cs)(h:∀c∈cs,Chn es st g c g)(hl:¬ ∃a,(a,g)∈es/\Led es st g cut a):cs.length<=cut.length:=by obtain⟨u,z,y,x,_⟩:=Cc a λc hc=>T6 (h c hc) hl;rw[<- z];exact SF y x
end
section
variable{ks:List Pt}{vs:List D}{p:Pt}
noncomputable def TC(ks:List Pt)(vs:List D):List (D×D):=(ks.map pr).zip vs
theorem Mi(ks:List Pt)(vs:List D):(Lb ks vs).er=.dict (TC ks vs):=by show PyData.dict ((ks.map pr).zip (ersT (vs.map T.d)))=_;rw[IA];rfl
theorem gL(h:vs.length=ks.length):(TC ks vs).map (·.1)=ks.map pr:=Wj (by rw[QA];omega)
theorem Hb(h:vs.length=ks.length):(TC ks vs).map (·.2)=vs:=w9 (by rw[QA];omega)
theorem MI(h:vs.length=ks.length)(m:p∈ks):yD (TC ks vs)=some true:=by
 cases ks with
 |nil=>exact(nomatch m)
 |cons x ks=>cases vs with|nil=>cases h|cons y vs=>rfl
theorem kT{q:Pt}{u:List Pt}:∀{y:List Pt},q∉y->dA ((y++q::u).map pr) (pr q)=some y.length
 |[],_=>Xd rfl|x::y,h=>by show dA (pr x::(y++q::u).map pr) (pr q)=_;rw[Y6 (λz=>h (by rw[HP z];exact QD)),kT λz=>h (QC _ z)];rfl
theorem Fk{h z:List Pt}{y x:List D}{q:Pt}{n m:Bool}{R:T->Prop}(u:y.length=h.length)(w:x.length=z.length)(v:q∉h)(k:R (.d (pr p))):DA (.d (.dict (TC (h++q::z) (y++pr p::x)))) n (.d (pr q)) m R:=by
 have hl:(y++pr p::x).length=(h++q::z).length:=by rw[QH,QH,QL,QL,u,w]
 refine Ck (MI hl (p:=q) (QU _ QD)) (yC q) (by rw[gL hl];exact kT v) ?_ k;rw[Hb hl,<- u,qJ (Qa _),QBt];rfl
theorem GV(a b:Pt):Qx (pr a) (pr b)=decide (a=b):=by
 rw[Q7,decide_eq_true_iff];have e:Qx (pr a) (pr b)=(Qx (.str a.1) (.str b.1)&&(Qx (.str a.2) (.str b.2)&&true)):=by simp[pr,Qx,PyData.eqvAll]
 rw[e,FQ,FQ,QBM,Qg,decide_eq_true_iff,decide_eq_true_iff];exact⟨λh=>QCG h.1 h.2,λh=>by rw[h];exact⟨rfl,rfl⟩⟩
def xK(es:JB)(st:LS):Prop:=(∀s∈st,qX s=true)/\∀e∈es,qX e.1=true/\qX e.2=true
theorem MD{a b:Str}(x:qX a=true)(h:qX b=true):eF (pr (a,b)):=by refine⟨?_,?_⟩;simp only[pr,QAI,wR,x,h,Bool.and_self];simp only[pr,QAs,wt];decide
theorem UR:qX "to"=true:=by decide +kernel
theorem CW:qX "from"=true:=by decide +kernel
theorem cO:qX ""=true/\qX "begin"=true:=by decide +kernel
theorem P5{es:JB}{st:LS}{g:Str}(h:xK es st)(k:p∈vs0 es st g):eF (pr p):=by
 have k:Key (jA es st g) p:=yB.mpr k;rw[lE]at k;rcases uL.mp k with z|⟨⟨u,v,c⟩,m,z⟩
 rw[QI.mp (yB.mp z)];exact MD cO.1 cO.2;have z:p=u∨p=v:=z;rcases vE.mp m with⟨n,w,_,e|e⟩| ⟨e,x,_,y|y|y⟩
 cases e;rcases z with z|z<;>subst z;exact MD (h.1 n w) UR;exact MD (h.1 n w) CW;cases e;rcases z with z|z<;>subst z;exact MD cO.1 cO.2;exact MD (h.1 n w) UR;cases y;rcases z with z|z<;>subst z;exact MD (h.2 e x).1 UR;exact MD (h.2 e x).1 CW;cases y;rcases z with z|z<;>subst z;exact MD (h.2 e x).2 UR;exact MD (h.2 e x).2 CW;cases y;rcases z with z|z<;>subst z;exact MD (h.2 e x).1 CW;exact MD (h.2 e x).2 UR
noncomputable def lR(r:Rm)(x:List (D×D))(last:D)(h:Pt)(o4:Option Sl):kA:=[oW (xB r),bD (.dict x),bD last,bD (pr h),o4]
end
section
variable{Ψ:PEv}{Z:PEnds}{q:PT}{r:Rm}{h:List (D×D)}{last:D}{u v:Pt}
theorem Xr(hk:Key r u)(w:EH r u v)(hl:(lk r u).length<sizeLine)(k:pF Ψ q Z (lR (put r u (put (lk r u) v (rm r u v - 1))) h last v (bD (pr u)))) :
  pF Ψ (.seq (.six (.idx (.xz 0) (.xz 4)) (.xz 3) (.bin .Sub (.idx (.idx (.xz 0) (.xz 4)) (.xz 3)) (.int 1))) q) Z (lR r h last v (bD (pr u))):=by
 obtain⟨x,y⟩:=w;have e:rm r u v=x:=by unfold rm;rw[y];rfl
 rw[e]at k;delta lR at k ⊢;simp_arith[↓TH];refine VE hk ?_;simp_arith[↓bY];refine cP y ?_;simp_arith[↓yA];refine yI (pE hk) λf z=>mP hl ?_;rw[z];exact k
theorem Vr(hk:Key r v)(w:EH r v u)(hl:(lk r v).length<sizeLine)(k:pF Ψ q Z (lR (put r v (put (lk r v) u (rm r v u+1))) h last v (bD (pr u)))) :
  pF Ψ (.seq (.six (.idx (.xz 0) (.xz 3)) (.xz 4) (.bin .Add (.idx (.idx (.xz 0) (.xz 3)) (.xz 4)) (.int 1))) q) Z (lR r h last v (bD (pr u))):=by
 obtain⟨x,y⟩:=w;have e:rm r v u=x:=by unfold rm;rw[y];rfl
 rw[e]at k;delta lR at k ⊢;simp_arith[↓TH];refine VE hk ?_;simp_arith[↓bY];refine cP y ?_;simp_arith[↓yA];refine yI (pE hk) λf z=>mP hl ?_;rw[z];exact k
end
theorem Base.inn{es:JB}{st:LS}{g:Str}{r:Rm}(b:Base es st g r)(p:Pt):(lk r p).length<=(jA es st g).length:=by
 have:=MG (ns:=vs0 es st g) (b.ndi p) λq h=>by obtain⟨e,x,z⟩:=QS.mp h;have a:EH r p q:=gB.mpr ⟨e.2,by rw[<- z];exact x⟩;exact fB (CB ((b.adj p q).mp a))
 unfold vs0 at this;rw[QA,QA]at this;exact this
section
variable{Ψ:PEv}{Z:PEnds}{es:JB}{st:LS}{g:Str}
theorem Ua{m r:Rm}{ks:List Pt}{vs:List D}{x:Pt}{last:D}{o4:Option Sl}{z v:List Pt}{b u:List D}(hsz:(jA es st g).length<=1000)(R:yc m)(I:CF m z b)(S:ks=z++v)(ev:vs=b++u)(h9:u.length=v.length)(F:x∈z)(hb:x≠XA)(i:LC es st g m r x z)
  (k:∀h y n l p A,CF m h y->ks=h++n->vs=y++l->l.length=n.length->h.length<z.length->p∈h->LC es st g m A p h->Z.nx (lR A (TC ks vs) last p (bD (pr p)))) :
  pF Ψ bE Z (lR r (TC ks vs) last x o4):=by
 obtain⟨h,y,p,j,e,J,Q,w,B,X,G⟩:=I.find F hb;have M:=I.len;have L:=J.len;have H:e.length=j.length:=by rw[X,G,QH,QH,QL,QL]at M;omega
 have s:ks=h++x::(j++v):=by rw[S,X,Qw];rfl
 have o:vs=y++pr p::(e++u):=by rw[ev,G,Qw];rfl
 obtain⟨W,K⟩:=Ga R i F hb w B λq P=>by rw[X];exact Qf _ P
 have a:=i.adjw W;have C:=vR a;have O:Key r p:=by rw[yB,i.keys];exact fB a
 have N:Key r x:=by rw[yB,i.keys];exact fB (CB a)
 have E:=i.toBase.inn;have Y:pF Ψ %[.set 3 (.xz 4)|2] Z (lR (XY r p x) (TC ks vs) last x (bD (pr p))):=by have:=k h y (x::(j++v)) (pr p::(e++u)) p (XY r p x) J s o (by rw[QL,QL,QH,QH];omega) (by rw[X,QH,QL];omega) Q K;unfold lR at this;delta lR;simp_arith[↓yA];exact this
 have f:pF Ψ %[.six (.idx (.xz 0) (.xz 4)) (.xz 3) (.bin .Sub (.idx (.idx (.xz 0) (.xz 4)) (.xz 3)) (.int 1)),.six (.idx (.xz 0) (.xz 3)) (.xz 4) (.bin .Add (.idx (.idx (.xz 0) (.xz 3)) (.xz 4)) (.int 1)),.set 3 (.xz 4)|2] Z (lR r (TC ks vs) last x (bD (pr p))):=by have i1:=E p;have i2:=E x;refine Xr O ((i.adj _ _).mpr a) (by omega) (Vr ?_ ?_ ?_ Y);exact ZI.mpr (.inr N);show EH _ x p;have:=(i.adj x p).mpr (CB a);unfold EH at this ⊢;rw[kE,if_neg C];exact this;rw[kE,if_neg C];omega
 unfold lR at f;delta lR;delta bE;simp_arith[↓yA];rw[s,o]at f ⊢;refine Fk L (by rw[QH,QH];omega) B ?_;simp_arith[↓yA];exact f
end
section
variable{Ψ:PEv}{W:LT->Prop}{n m:Bool}{E:XE}{ρ:kA}{R:T->Prop}{a g f:Str}{es:JB}{st c:LS}{r:Rm}{Z:PEnds}{ks:List Pt}{vs:List D}{L:Bool->Prop}{Q:T->Bool->Prop}{i:Nat}{cs:List (LS)}
noncomputable def tP:PSp where
 md:=[.chg]
 run:=λy Q _=>∃(es:JB) (st:LS) (g:Str) (h:Rm) (ks:List Pt) (vs:List D),y=[xB h,.d (.dict (TC ks vs)),.d (pr (tO g))]/\((jA es st g).length<=1000/\xK es st/\Flow es st g h/\CF h ks vs/\tO g∈ks)/\∀x,Flow es st g x->out es st g x XA=out es st g h XA+1->Q (.d .none) [xB x]
theorem vh(B:Ψ.va "BEGIN"=some (pr XA)):XF Ψ dG tP GK oI:=by
 rintro _ Q _ ⟨es,st,g,k,ks,vs,rfl,⟨N,M,fl,H,I⟩,q⟩;refine MJ [oW (xB k),bD (.dict (TC ks vs)),bD (pr (tO g)),none,none] ?_;delta dG;simp_arith[↓yA];refine UE (λm ρ=>∃r h x v u y o4,m=h.length/\CF k h x/\ks=h++v/\vs=x++u/\u.length=v.length/\y∈h/\LC es st g k r y h/\ρ=lR r (TC ks vs) (pr (tO g)) y o4) ks.length ⟨k,ks,vs,[],[],tO g,_,rfl,H,by rw[Qu],by rw[Qu],rfl,I,B5 fl ks,rfl⟩ ?_;rintro m ρ ⟨r,h,x,v,u,y,o4,em,C,S,ev,J,K,Y,rfl⟩;have o:eF (pr y):=P5 M (by have:=fI fl.toBase.dom fl.toBase.bg (C.rch y K);rw[yB,fl.keys]at this;exact this);have s:eF (pr XA):=MD cO.1 cO.2;have z:∀L:Bool->Prop,L (!decide (y=XA))->rB .NotEq (.d (pr y)) (.d (pr XA)) L:=λL l=>by show eF (pr y)/\eF (pr XA)/\L (!PyData.eqv (pr y) (pr XA));rw[GV];exact⟨o,s,l⟩
 by_cases e:y=XA;subst e;delta lR;simp_arith[↓tH B];refine z _ ?_;rw[dT rfl];obtain⟨P,O⟩:=Fh Y;exact q r P O;have A:=λ(Z:PEnds) G=>Ua (Ψ:=Ψ) (Z:=Z) (last:=pr (tO g)) (o4:=o4) N fl.ndi C S ev J K e Y G;unfold lR at A;delta lR;simp_arith[↓tH B];refine z _ ?_;rw[dF e];refine A _ λw j X b p F a1 a2 a3 a4 a5 a6 a7=>⟨w.length,by omega,F,w,j,X,b,p,_,rfl,a1,a2,a3,a4,a6,a7,rfl⟩
theorem K1{l:Inn}:bL .val [(iD l,false)] W=W ((l.map λe=>pr e.1).map T.d):=FS _ _
theorem Ff{kvs:List (D×D)}(h:yD kvs=some true):bL .val [(.d (.dict kvs),n)] W=W ((kvs.map (·.1)).map T.d):=by unfold bL jC;rw[oA];show MB .val [DB kvs] W=_;unfold DB;rw[h];exact FS _ _
theorem xY{a b h:PX}{t:Str}{x:T}{R:Option T->Prop}:HI Ψ E [] [t] (.nm 0) (.and a b) h ρ x R=dR Ψ (.and a b) E (some (.ky x)::lockA ρ) λk z=>if k=true then pB Ψ h E z λy n _=>RC y n (R (some y)) else R none:=rfl
theorem zO{p:Pt}:DA (.d (pr p)) n (.d (.int 0)) m R=R (.d (.str p.1)):=by delta pr;rw[R0,pj,eB]
theorem kc{p:Pt}:DA (.d (pr p)) n (.d (.int 1)) m R=R (.d (.str p.2)):=by delta pr;rw[R0,Kt,eB]
theorem Bc:(T.d (.tuple [.str a,.str "from"]))=.d (pr (fR a)):=rfl
theorem M3:(T.d (.tuple [.str a,.str "to"]))=.d (pr (tO a)):=rfl
noncomputable def BG:PSp where
 md:=[.ky]
 run:=λh Q _=>∃(es:JB) (st:LS) (g:Str) (r:Rm) (n:Str),h=[xB r,.d (.str n)]/\((jA es st g).length<=1000/\Flow es st g r/\JU r n=1)/\∀m,j8 r n m->Q (.d (.str m)) []
theorem NY:XF Ψ uE BG rH LF:=by
 rintro _ Q _ ⟨es,st,g,r,n,rfl,⟨M,fl,A⟩,q⟩;have J:=fl.toBase.inn (fR n);obtain⟨b,k⟩:=mh fl A;have o:EH r (fR n) (tO b):=(fl.adj _ _).mpr (CB (fl.toBase.adjw k.2));have X:Key r (fR n):=by rw[yB,fl.keys];exact fB ((fl.adj _ _).mp o)
 refine fA [some (.ky (xB r)),bD (.str n),none] ?_;delta uE;simp_arith[Bc,↓TH];refine⟨by omega,VE X ?_⟩;simp_arith[↓D7,↓K1];have F:((lk r (fR n)).map λe=>pr e.1).map T.d=((lk r (fR n)).map (·.1)).map λp=>T.d (pr p):=by rw[Qc,Qc];rfl
 rw[F];refine bA (λp=>T.d (pr p)) (λ(p:Pt)=>T.d (.str p.1)) (λp=>!decide (p.1=n)&&decide (0<rm r p (fR n))) ((lk r (fR n)).map (·.1)) [] _ (λx K R u=>?_) (by show 0+((lk r (fR n)).map (·.1)).length<=_;rw[QA];omega) ?_;obtain⟨e,B,C⟩:=QS.mp K;have G:EH r (fR n) x:=gB.mpr ⟨e.2,by rw[<- C];exact B⟩;have w:EH r x (fR n):=(fl.adj _ _).mpr (CB ((fl.adj _ _).mp G));have s:Key r x:=by rw[yB,fl.keys];exact fB ((fl.adj _ _).mp w)
 obtain⟨v,hv⟩:=w;have ev:rm r x (fR n)=v:=by unfold rm;rw[hv];rfl
 rw[ev]at u;simp_arith[↓xY,↓zO,↓TH];by_cases c:x.1=n;rw[dT c]at u ⊢;exact u;rw[dF c]at u ⊢;simp only[qZ,↓reduceIte];refine VE s ?_;simp_arith[↓bY];refine cP hv ?_;simp_arith[↓zO];by_cases d:0<v;rw[dT d]at u ⊢;exact u;rw[dF d]at u ⊢;exact u;have j:tO b∈((lk r (fR n)).map (·.1)).filter λp=>!decide (p.1=n)&&decide (0<rm r p (fR n)):=by obtain⟨v,hv⟩:=o;refine QO.mpr ⟨QS.mpr ⟨_,NG hv,rfl⟩,?_⟩;rw[dF (show ¬ (tO b).1=n from λz=>k.1 z.symm),dT k.2];rfl
 cases l:((lk r (fR n)).map (·.1)).filter λp=>!decide (p.1=n)&&decide (0<rm r p (fR n)) with
 |nil=>rw[l]at j;exact(nomatch j)
 |cons y I =>
  have Y:y∈((lk r (fR n)).map (·.1)).filter λp=>!decide (p.1=n)&&decide (0<rm r p (fR n)):=by rw[l];exact QD
  have h:=(QO.mp Y).2;rw[Qg,qB,decide_eq_false_iff_not,decide_eq_true_iff]at h;obtain⟨m,rfl⟩:=Ec fl.toBase ((fl.adj _ _).mpr (fl.toBase.adjw h.2));rw[Qj,lA (λp:Pt=>Jx p.1)];simp_arith[↓yA];rw[QV,pj];simp_arith[↓yA];exact q m ⟨λz=>h.1 z.symm,h.2⟩
noncomputable def vI:PSp where
 md:=[.ky]
 run:=λh Q _=>∃(es:JB) (st:LS) (g:Str) (r:Rm) (f:Str),h=[xB r,.d (.str f),.d (.str g)]/\((jA es st g).length<=1000/\Flow es st g r/\fU r f)/\∀c,Run r g f c g->Q (.lst ((c.map Jx).map T.d)) []
theorem gg(fl:Flow es st g r)(w:fU r f){n:Str}(h:Run r g f c n):(∀x∈c,tO x∈vs0 es st g)/\tO n∈vs0 es st g:=by
 induction h with
 |nil=>exact⟨λx y=>(nomatch y),(tI fl.toBase w).1⟩
 |go _ _ v u=>refine⟨λx y=>?_,(tI fl.toBase v.2).1⟩;rcases QT.mp y with z|z;exact u.1 x z;rw[QI.mp z];exact u.2
theorem RW(fl:Flow es st g r)(y:fU r f){n:Str}(h:Run r g f c n):c.length<=(jA es st g).length:=by
 have nd:=(h.nd fl y).1;have:=MG (ks:=c.map tO) (ns:=vs0 es st g) (WY tO (λa b u z=>u (GB z)) nd) λp w=>by obtain⟨x,v,e⟩:=QS.mp w;rw[<- e];exact(gg fl y h).1 x v
 unfold vs0 at this;rw[QA,QA]at this;exact this
noncomputable def Hi(r:Rm)(f g:Str)(c:LS)(n:Str):kA:=[some (.ky (xB r)),bD (.str f),bD (.str g),oW (.lst ((c.map Jx).map T.d)),bD (.str n)]
theorem Db(y:Ψ.sp "name_behind"=BG){n:Str}(x:(jA es st g).length<=1000)(fl:Flow es st g r)(h:JU r n=1)(hl:c.length<=1000)(k:∀m,j8 r n m->Z.nx (Hi r f g (c++[n]) m)) :
  pF Ψ BD Z (Hi r f g c n):=by
 delta Hi at k ⊢;delta BD;simp_arith[↓xR,↓uA (md:=[.ky]) y rfl rfl];refine⟨by rw[QA,QA];omega,⟨_,_,_,_,_,rfl,⟨x,fl,h⟩,λm nx=>?_⟩⟩;have:=k m nx;rw[QJ,QJ]at this;simp_arith[↓yA];exact this
theorem L4(j:Ψ.sp "name_behind"=BG):XF Ψ mF vI bJ lH:=by
 rintro _ Q _ ⟨es,st,g,r,f,rfl,⟨b,fl,z⟩,q⟩;have u:sizeLine=16777216:=Q0;refine fA [some (.ky (xB r)),bD (.str f),bD (.str g),none,none] ?_;delta mF
 simp_arith[↓yA];refine⟨Q8 _,UE (λm ρ=>∃c n,m+c.length=1001/\Run r g f c n/\ρ=Hi r f g c n) 1001 ⟨[],f,rfl,.nil,rfl⟩ ?_⟩;rintro m ρ ⟨c,n,l,x,rfl⟩;have hl:=RW fl z x;by_cases e:n=g;subst e;delta Hi;simp_arith[↓yA];exact q c x;have v:=λ(Z:PEnds) u=>Db (Ψ:=Ψ) (Z:=Z) (f:=f) (g:=g) (c:=c) j b fl (x.thr1 fl z e) (by omega) u;unfold Hi at v;delta Hi;simp_arith[↓yA];rw[dF e];refine v _ λk w=>?_;have h:=x.go e w;have y:=RW fl z h;rw[QH,QY]at y;exact⟨m - 1,by omega,c++[n],k,by rw[QH,QY];omega,h,rfl⟩
theorem Ai{q:Pt}(hv:vs.length=ks.length)(hb:XA∈ks):rB .NotIn (.d (pr q)) (.d (.dict (TC ks vs))) L=L (!decide (q∈ks)):=by show(∃b,yD (TC ks vs)=some b/\FD b (pr q)/\L (!(dA ((TC ks vs).map (·.1)) (pr q)).isSome))=_;rw[MI hv hb,gL hv,BI];exact propext ⟨λ⟨_,_,_,h⟩=>h,λh=>⟨true,rfl,yC q,h⟩⟩
theorem Ad{q:Pt}(hv:vs.length=ks.length)(hb:XA∈ks):rB .In (.d (pr q)) (.d (.dict (TC ks vs))) L=L (decide (q∈ks)):=by show(∃b,yD (TC ks vs)=some b/\FD b (pr q)/\L (dA ((TC ks vs).map (·.1)) (pr q)).isSome)=_;rw[MI hv hb,gL hv,BI];exact propext ⟨λ⟨_,_,_,h⟩=>h,λh=>⟨true,rfl,yC q,h⟩⟩
theorem Lm{x:LS}(y:x.length<64)(q:∀h:LS,h.Perm x->sortedS h=true->Q (.lst ((h.map Jx).map T.d)) true):mL .sorted [(.lst ((x.map Jx).map T.d),n)] Q:=by unfold mL jC;rw[yE];exact .inl ⟨_,x,rfl,VA _,y,q⟩
theorem Mm{ls:List (LS)}(x:ls.length<64)(q:∀h:List (LS),h.Perm ls->Q (.lst ((h.map HB).map T.d)) true):mL .sorted [(.d (.list (ls.map HB)),n)] Q:=by unfold mL jC;rw[oA];exact .inr (.inl ⟨_,ls,rfl,VA _,x,q⟩)
def PM(ks:List Pt):LS:=(ks.filter (zH ks)).map λp=>p.1
noncomputable def aP:PSp where
 run:=λh Q _=>∃(ks:List Pt) (vs:List D),h=[.d (.dict (TC ks vs))]/\(vs.length=ks.length/\XA∈ks/\ks.length<=1000/\(ks.filter (zH ks)).length<64)/\∀cut:LS,cut.Perm (PM ks)->sortedS cut=true->Q (.lst ((cut.map Jx).map T.d)) []
theorem O9:XF Ψ lF aP uJ gH:=by rintro _ Q _ ⟨ks,vs,rfl,⟨hv,hb,k,v⟩,q⟩;refine fA [bD (.dict (TC ks vs))] ?_;delta lF;simp_arith[↓Ff (MI hv hb),gL hv];rw[<- lA];refine bA (λp=>T.d (pr p)) (λ(p:Pt)=>T.d (.str p.1)) (zH ks) ks [] _ (λx w R h=>?_) (by show 0+ks.length<=_;omega) ?_;have h:R (if(decide (x.2="to")&&!decide (fR x.1∈ks))=true then some (T.d (.str x.1)) else none):=h;simp_arith[↓xY,↓zO,↓kc,Bc,↓Ai hv hb];by_cases c:x.2="to";rw[dT c]at h ⊢;refine⟨by omega,?_⟩;by_cases d:fR x.1∈ks;rw[dT d]at h ⊢;exact h;rw[dF d]at h ⊢;exact h;rw[dF c]at h ⊢;exact h;rw[Qj,lA (λp:Pt=>Jx p.1),show((ks.filter (zH ks)).map λp=>Jx p.1)=(PM ks).map Jx by unfold PM;rw[Qc];rfl];refine Lm (by unfold PM;rw[QA];exact v) λy u z=>?_;simp_arith[↓yA];exact q y u z
theorem iZ(f:Flow es st g r):(((lk r XA).map (·.1)).filter λy=>decide (0<rm r y XA)).length<=st.length:=by
 have u:∀y∈((lk r XA).map (·.1)).filter (λy=>decide (0<rm r y XA)),y=tO y.1/\fU r y.1:=λy x=>by have h:=of_decide_eq_true (QO.mp x).2;obtain⟨n,rfl⟩:=u5 f.toBase ((f.adj _ _).mpr (f.toBase.adjw h));exact⟨rfl,h⟩
 have nd:(((lk r XA).map (·.1)).filter λy=>decide (0<rm r y XA)).Nodup:=(f.ndi XA).sublist Q2;have:=SF (ks:=(((lk r XA).map (·.1)).filter λy=>decide (0<rm r y XA)).map (·.1)) (ns:=st) (by
  refine WY _ (λa b h=>h) (wU (λ{a b} k hb v z=>?_) nd);exact v (by rw[(u a k).1,(u b hb).1,z])) λs w=>by
  obtain⟨y,x,e⟩:=QS.mp w;rw[<- e];exact(CJ f.toBase (u y x).2).1
 rw[QA]at this;exact this
theorem DO{α v:Type}{body:T->(Option T->Prop)->Prop}(P:α->v->Prop)(g:α->T)(f:v->T):∀(l:List α) (h:LT) (Q:LT->Prop),(∀x∈l,∀R:Option T->Prop,(∀y,P x y->R (some (f y)))->body (g x) R)->h.length+l.length<=sizeLine->(∀u,Paired P l u->Q (h++u.map f))->JD body (l.map g) h Q
 |[],h,Q,_,hl,q=>by have:=q [] .nil;rw[wJ,Qu]at this;exact⟨by rw[Qt]at hl;omega,this⟩|x::r,h,Q,hb,hl,q=>by
  rw[QL]at hl;refine hb x QD _ λy k=>⟨by omega,?_⟩
  refine DO P g f r _ Q (λz w=>hb z (QC _ w)) (by rw[QH,QY];omega) λu b=>?_;have:=q (y::u) (.cons k b);rw[QV]at this;rw[Qw];exact this
theorem Ie{r:PT}:cI Ψ E r Z i (Lb ks vs) true ρ=cB Ψ E r Z (ρ.set i (bD (.dict (TC ks vs)))):=by unfold cI;rw[Mi];exact propext ⟨λh=>h.2,λh=>⟨rfl,h⟩⟩
def i0(c:LS):T:=.lst ((c.map Jx).map T.d)
theorem A6(cs:List (LS)):ersT (cs.map i0)=cs.map HB:=by rw[DQ,Qc];congr 1;funext c;show PyData.list (ersT ((c.map Jx).map T.d))=_;rw[IA];rfl
theorem zp{r:PT}:cI Ψ E r Z i (.lst (cs.map i0)) true ρ=cB Ψ E r Z (ρ.set i (bD (.list (cs.map HB)))):=by
 have e:(T.lst (cs.map i0)).er=.list (cs.map HB):=by show PyData.list (ersT (cs.map i0))=_;rw[A6]
 unfold cI;rw[e];exact propext ⟨λh=>h.2,λh=>⟨rfl,h⟩⟩
theorem zn{a b:LT}:iF [.lst a,.lst b]=.tup [.lst a,.lst b]:=rfl
theorem kK:∀{cs:List (LS)},LK cs↔cs.Pairwise λc d=>∀x∈c,x∉d
 |[]=>⟨λ_=>.nil,λ_=>trivial⟩|c::cs=>by rw[List.pairwise_cons,<- kK];exact wY
theorem fW{ds:List (LS)}(h:ds.Perm cs)(a:LK cs):LK ds:=kK.mpr ((h.pairwise_iff (λ{a b} z x u y=>z x y u)).mpr (kK.mp a))
structure Good(es:JB)(st:LS)(g:Str)(cs:List (LS))(cut:LS):Prop where
 chn:∀c∈cs,Chn es st g c g/\c.Nodup/\∀x∈c,x≠g
 apart:LK cs
 len:cs.length=cut.length
 few:cut.length<=11
 nd:cut.Nodup
 srt:sortedS cut=true
 ng:g∉cut
 led:¬ ∃a,(a,g)∈es/\Led es st g cut a
 okn:∀s∈cut,qX s=true
end
section
variable{es:JB}{st:LS}{g:Str}{r:Rm}
theorem NL(f:Flow es st g r):∀{fs:LS}{cs:List (LS)},fs.Nodup->(∀s∈fs,fU r s)->Paired (λs c=>Run r g s c g) fs cs->LK cs/\(∀c∈cs,∃s∈fs,Run r g s c g)
 |_,_,_,_,.nil=>⟨trivial,λ_ h=>(nomatch h)⟩
 |s::fs,c::cs,nd,hf,.cons h t=>by
  obtain⟨b,a⟩:=Qi.mp nd;obtain⟨l,k⟩:=NL f a (λs j=>hf s (QC _ j)) t;refine⟨⟨λd w x i e=>?_,l⟩,λd w=>?_⟩;obtain⟨u,y,v⟩:=k d w;have:=Run.apart f (hf s QD) (hf u (QC _ y)) h v x i e;exact b (this▸y);rcases QM.mp w with z|z
  ·rw[z];exact⟨s,QD,h⟩
  obtain⟨u,y,v⟩:=k d z;exact⟨u,QC _ y,v⟩
noncomputable def Pp(r:Rm):List Pt:=((lk r XA).map λe=>e.1).filter λy=>decide (0<rm r y XA)
def XV(r:Rm):LS:=(Pp r).map λp=>p.1
theorem r6(f:Flow es st g r):∀y∈Pp r,y=tO y.1/\fU r y.1:=λy x=>by have h:=of_decide_eq_true (QO.mp x).2;obtain⟨n,rfl⟩:=u5 f.toBase ((f.adj _ _).mpr (f.toBase.adjw h));exact⟨rfl,h⟩
theorem Ln(f:Flow es st g r):(XV r).Nodup:=by have nd:(Pp r).Nodup:=(f.ndi XA).sublist Q2;refine WY _ (λa b h=>h) (wU (λ{a b} y hb x z=>?_) nd);exact x (by rw[(r6 f a y).1,(r6 f b hb).1,z])
theorem VV(f:Flow es st g r):∀s∈XV r,fU r s:=λs x=>by obtain⟨y,h,e⟩:=QS.mp x;rw[<- e];exact(r6 f y h).2
theorem DJ(f:Flow es st g r):out es st g r XA=(XV r).length/\(XV r).length<=st.length:=by have x:=vb f;have h:=iZ f;unfold XV;rw[QA];exact⟨x,h⟩
theorem dM{α x:Type}{P:α->x->Prop}{l:List α}{m:List x}(h:Paired P l m):l.length=m.length:=qK h
theorem Ia(f:Flow es st g r)(C:xK es st)(F:st.length<=11){ks:List Pt}{vs:List D}(W:CF r ks vs)(hk:∀p,p∈ks↔Rch r p)(q:tO g∉ks){cs ds:List (LS)}(Y:Paired (λs c=>Run r g s c g) (XV r) cs)(j:ds.Perm cs){cut:LS}(w:cut.Perm (PM ks))(sc:sortedS cut=true):Good es st g ds cut:=by
 obtain⟨J,I⟩:=NL f (Ln f) (VV f) Y;obtain⟨P,O⟩:=DJ f;have N:=bT f W.nd hk q;have M:(PM ks).length=(ks.filter (zH ks)).length:=by unfold PM;rw[QA]
 have L:=dM Y;have u:∀s,s∈PM ks↔tO s∈ks/\fR s∉ks:=λs=>by unfold PM;rw[QS];constructor;rintro⟨y,B,e⟩;obtain⟨v,x⟩:=QO.mp B;obtain⟨n,X,k⟩:=PD.mp x;subst X;have e:n=s:=e;subst e;exact⟨v,k⟩;rintro⟨v,x⟩;exact⟨tO s,QO.mpr ⟨v,PD.mpr ⟨s,rfl,x⟩⟩,rfl⟩
 have l:(PM ks).Nodup:=by unfold PM;refine WY _ (λa b h=>h) (wU (λ{a b} E hb A z=>?_) (W.nd.sublist (Q2 (p:=zH ks))));obtain⟨n,G,_⟩:=PD.mp (QO.mp E).2;obtain⟨m,X,_⟩:=PD.mp (QO.mp hb).2;subst G X;have z:n=m:=z;exact A (by rw[z])
 have K:=w.length_eq;refine⟨λc hc=>?_,fW j J,by rw[j.length_eq,K];omega,by omega,w.nodup_iff.mpr l,sc,λz=>q ((u g).mp (w.mem_iff.mp z)).1,?_,λs o=>?_⟩;obtain⟨s,o,i⟩:=I c (j.mem_iff.mp hc);have Z:=VV f s o;exact⟨i.chn f Z,(i.nd f Z).1,i.ng⟩;exact Xb f hk q λn v x=>w.mem_iff.mpr ((u n).mpr ⟨v,x⟩);have v:=((u s).mp (w.mem_iff.mp o)).1;have x:=yB.mp (fI f.toBase.dom f.toBase.bg ((hk _).mp v));rw[f.keys]at x;have k:=(P5 C x).1;simp only[pr,tO,QAI,wR,Qg]at k;exact k.1
end
noncomputable def yR(es:JB)(st:LS)(g:Str)(r:Rm)(h:List (D×D))(o5 o6:Option Sl):kA:=[bD (.list (es.map pr)),bD (.tuple (st.map Jx)),bD (.str g),oW (xB r),bD (.dict h),o5,o6]
section
variable{Ψ:PEv}{Z:PEnds}{es:JB}{st:LS}{g:Str}{r:Rm}
section
variable{q:PT}{h:List (D×D)}{o6:Option Sl}
theorem Ct(u:Ψ.sp "rooms_of"=kI)(z:Ψ.sp "points_reached"=GF)(y:es.length<=126)(x:st.length<=11)(k:∀ks vs,CF (jA es st g) ks vs->(∀p,p∈ks↔Rch (jA es st g) p)->pF Ψ q Z (yR es st g (jA es st g) (TC ks vs) none none)) :
  pF Ψ (.seq (.own 3 (.call "rooms_of" %[.xz 0,.xz 1,.xz 2|1])) (.seq (.set 4 (.call "points_reached" %[.xz 3|1])) q)) Z [bD (.list (es.map pr)),bD (.tuple (st.map Jx)),bD (.str g),none,none,none,none]:=by
 have ok:=bS (g:=g) y x;delta yR at k;simp_arith[↓uA (md:=[]) u rfl rfl,↓uA (md:=[.ky]) z rfl rfl];refine⟨_,_,_,rfl,⟨y,x⟩,?_⟩;simp_arith[↓xR,↓uA (md:=[.ky]) z rfl rfl];refine⟨_,_,rfl,⟨(.inl rfl),ok.dom,ok.bg,ok.sz.1⟩,λks vs hc hk=>?_⟩;simp_arith[↓Ie];exact k ks vs hc hk
theorem Bt(w:Ψ.sp "points_reached"=GF)(i:Ψ.sp "lay_chain"=tP){ks:List Pt}{vs:List D}(v:(jA es st g).length<=1000)(a:xK es st)(f:Flow es st g r)(j:CF r ks vs)(b:tO g∈ks)
  (k:∀z x y,Flow es st g z->out es st g z XA=out es st g r XA+1->CF z x y->(∀p,p∈x↔Rch z p)->Z.nx (yR es st g z (TC x y) none none)) :
  pF Ψ CC Z (yR es st g r (TC ks vs) none none):=by
 delta yR at k ⊢;delta CC;simp_arith[M3,↓SG (md:=[]) i rfl rfl,↓uA (md:=[.ky]) w rfl rfl];refine⟨by omega,⟨_,_,_,_,_,_,rfl,⟨v,a,f,j,b⟩,λz u e=>⟨_,rfl,?_⟩⟩⟩;simp_arith[↓xR,↓uA (md:=[.ky]) w rfl rfl];refine⟨_,_,rfl,⟨(.inl rfl),u.toBase.dom,u.toBase.bg,(by rw[u.toBase.len];exact v)⟩,λx y hc hk=>?_⟩;simp_arith[↓Ie];exact k z x y u e hc hk
theorem Ut(w:Ψ.va "BEGIN"=some (pr XA)){o5:Option Sl}(o:(jA es st g).length<=1000)(f:Flow es st g r)(k:pF Ψ q Z (yR es st g r h (bD (.list ((XV r).map Jx))) o6)) :
  pF Ψ (.seq (.set 5 (.comp [] ["point"] (.nm 0) .val %[.idx (.xz 3) (.glo "BEGIN")|1] (.cmp .Gt (.idx (.idx (.xz 4) (.xz 0)) (.glo "BEGIN")) (.int 0)) (.idx (.xz 0) (.int 0)))) q) Z (yR es st g r h o5 o6):=by
 have s:=f.toBase.inn XA;delta yR at k ⊢;simp_arith[↓TH,↓tH w];refine VE f.toBase.bg ?_;simp_arith[↓D7,↓K1];have m:((lk r XA).map λe=>pr e.1).map T.d=((lk r XA).map λe=>e.1).map λp=>T.d (pr p):=by rw[Qc,Qc];rfl
 rw[m];refine bA (λp=>T.d (pr p)) (λ(p:Pt)=>T.d (.str p.1)) (λy=>decide (0<rm r y XA)) ((lk r XA).map λe=>e.1) [] _ (λx b R z=>?_) (by show 0+((lk r XA).map λe=>e.1).length<=_;rw[QA];omega) ?_;obtain⟨e,i,j⟩:=QS.mp b;have n:EH r XA x:=gB.mpr ⟨e.2,by rw[<- j];exact i⟩;have u:EH r x XA:=(f.adj _ _).mpr (CB ((f.adj _ _).mp n));have a:Key r x:=by rw[yB,f.keys];exact fB ((f.adj _ _).mp u)
 obtain⟨v,hv⟩:=u;have ev:rm r x XA=v:=by unfold rm;rw[hv];rfl
 rw[ev]at z;simp_arith[↓TH,↓tH w];refine VE a ?_;simp_arith[↓bY,↓tH w];refine cP hv ?_;simp_arith[↓zO];by_cases d:0<v;rw[dT d]at z ⊢;exact z;rw[dF d]at z ⊢;exact z;rw[Qj,lA (λp:Pt=>Jx p.1)];have l:((((lk r XA).map λe=>e.1).filter λy=>decide (0<rm r y XA)).map λp=>Jx p.1)=(XV r).map Jx:=by unfold XV Pp;rw[Qc];rfl
 rw[l];simp_arith[↓yA];exact k
theorem Vt(a:Ψ.sp "chain_from"=vI)(u:(jA es st g).length<=1000)(b:st.length<=11)(f:Flow es st g r)(k:∀cs,Paired (λs c=>Run r g s c g) (XV r) cs->pF Ψ q Z (yR es st g r h (bD (.list ((XV r).map Jx))) (bD (.list (cs.map HB))))) :
  pF Ψ (.seq (.set 6 (.comp [] ["first"] (.nm 0) .val %[.xz 5|1] .nop (.call "chain_from" %[.xz 4,.xz 0,.xz 3|1]))) q) Z (yR es st g r h (bD (.list ((XV r).map Jx))) o6):=by
 have hl:=(DJ f).2;delta yR at k ⊢;simp_arith[↓yA];rw[<- lA Jx (XV r)];refine DO (λs c=>Run r g s c g) (λs=>T.d (.str s)) i0 (XV r) [] _ (λx z R w=>?_) (by show 0+(XV r).length<=_;omega) λcs v=>?_;simp_arith[↓xR,↓uA (md:=[.ky]) a rfl rfl];refine⟨_,_,_,_,_,rfl,⟨u,f,(VV f x z)⟩,λc y=>?_⟩;simp_arith[↓yA];exact w c y;rw[Qj];simp_arith[↓zp];exact k cs v
end
end
section
variable{es z:JB}{F sr u:LS}{x:Str}{n:Int}
noncomputable def xI:PSp where
 run:=λy Q _=>∃(es:JB) (st:LS) (g:Str),y=[.d (.list (es.map pr)),.d (.tuple (st.map Jx)),.d (.str g)]/\(es.length<=126/\st.length<=11/\xK es st)/\∀h cut,Good es st g h cut->Q (.tup [.lst ((h.map HB).map T.d),.lst ((cut.map Jx).map T.d)]) []
theorem M4{Ψ:PEv}(S:Ψ.sp "rooms_of"=kI)(G:Ψ.sp "points_reached"=GF)(R:Ψ.sp "lay_chain"=tP)(P:Ψ.sp "chain_from"=vI)(C:Ψ.sp "full_names"=aP)(O:Ψ.va "BEGIN"=some (pr XA))(ds Q E)(h:xI.run ds Q E):gw Ψ tG xI JG tF ds Q:=by
 obtain⟨es,st,g,rfl,⟨W,i,B⟩,q⟩:=h;have K:sizeLine=16777216:=Q0;have j:(jA es st g).length<=1000:=(bS (g:=g) W i).sz.1;refine fA [bD (.list (es.map pr)),bD (.tuple (st.map Jx)),bD (.str g),none,none,none,none] ?_;refine Ct S G W i λo w H M=>?_;have b0:=DJ (Vd (es:=es) (st:=st) (g:=g));delta yR;simp_arith[↓yA];refine UE (λm Y=>∃r v b,(m:Int)+out es st g r XA=12/\Flow es st g r/\CF r v b/\(∀p,p∈v↔Rch r p)/\Y=yR es st g r (TC v b) none none) (12 - out es st g (jA es st g) XA).toNat ⟨jA es st g,o,w,by omega,Vd,H,M,rfl⟩ ?_;rintro m Y ⟨r,v,b,em,f,y,hk,rfl⟩;have bd:=DJ f;by_cases a:tO g∈v;have k:=λ(Z:PEnds) K=>Bt (Ψ:=Ψ) (Z:=Z) G R j B f y a K;unfold yR at k;delta yR;simp_arith[M3,↓Ad y.len y.hb];refine⟨by omega,?_⟩;rw[dT a];refine k _ λI s l X e c' N=>⟨m - 1,?_,I,s,l,?_,X,c',N,rfl⟩
 have:=DJ X;omega;have:=DJ X;omega;have A:pF Ψ %[.set 5 (.comp [] ["point"] (.nm 0) .val %[.idx (.xz 3) (.glo "BEGIN")|1] (.cmp .Gt (.idx (.idx (.xz 4) (.xz 0)) (.glo "BEGIN")) (.int 0)) (.idx (.xz 0) (.int 0))),.set 6 (.comp [] ["first"] (.nm 0) .val %[.xz 5|1] .nop (.call "chain_from" %[.xz 4,.xz 0,.xz 3|1])),.ret (.tup %[.bi .sorted %[.xz 6|1],.call "full_names" %[.xz 4|1]|1])|2] (eZ Q) (yR es st g r (TC v b) none none):=by refine Ut O j f (Vt P j i f λcs k=>?_);have lc:=dM k;have l3:=bT f y.nd hk a;delta yR;simp_arith[↓uA (md:=[]) C rfl rfl];refine Mm (by omega) λds J=>?_;simp_arith[↓uA (md:=[]) C rfl rfl];refine⟨_,_,rfl,⟨y.len,y.hb,(QX (y.le f.toBase.dom f.toBase.bg) (by rw[f.toBase.len];exact j)),by omega⟩,λcut L sc=>?_⟩;simp_arith[zn];exact⟨by omega,q ds cut (Ia f B i y hk a k J L sc)⟩
 unfold yR at A;delta yR;simp_arith[M3,↓Ad y.len y.hb];refine⟨by omega,?_⟩;rw[dF a];exact A
def GJ(es:JB)(F:LS):JB:=es.filter λe=>decide (e.1∈F)
theorem pC{e:Str×Str}:e∈GJ es F↔e∈es/\e.1∈F:=by unfold GJ;rw[QO,decide_eq_true_iff]
def YE(es:JB)(sr:LS)(x:Str)(F:LS)(n:Int):Prop:=∀C:LS,(¬ ∃a,(a,x)∈GJ es F/\Led (GJ es F) sr x C a)->n<=(C.length:Int)
theorem Led.sub{g:Str}{C:LS}(w:∀e∈es,e∈z)(v:∀s∈sr,s∈u){n:Str}(h:Led es sr g C n):Led z u g C n:=by
 induction h with|st a b=>exact .st (v _ a) b|ed _ c b y=>exact .ed y (w _ c) b
theorem YE.sub{v:LS}{w:Int}(j:∀e∈es,e∈z)(i:∀s∈sr,s∈u)(g:∀y∈F,y∈v)(b:w<=n)(h:YE es sr x F n):YE z u x v w:=by have f:∀e∈GJ es F,e∈GJ z v:=λe k=>pC.mpr ⟨j e (pC.mp k).1,g _ (pC.mp k).2⟩;exact λC hc=>QAD b (h C λ⟨a,e,l⟩=>hc ⟨a,f _ e,l.sub f i⟩)
theorem V5{cs:List (LS)}{cut:LS}(y:Good (GJ es F) sr x cs cut):YE es sr x F n↔n<=(cs.length:Int):=by refine⟨λh=>?_,λl C hc=>QAD l (QAw.mpr (UZ y.apart (λc hc=>(y.chn c hc).1) hc))⟩;rw[y.len];exact h cut y.led
inductive Held(es:JB)(sr:LS)(nd:List (Str×Int)):Str->Prop
 |see {x:Str}{n:Int}:(x,n)∈nd->x∈sr->Held es sr nd x
 |tell {x:Str}{n:Int}(F:LS):(x,n)∈nd->(∀y∈F,Held es sr nd y)->YE es sr x F n->Held es sr nd x
end
section
variable{es v:JB}{sr y:LS}{nd u:List (Str×Int)}
theorem SS{S:LS}(f:∀x∈S,Held es sr nd x)(e:∀x n,(x,n)∈nd->x∈sr->x∈S)(k:∀x n,(x,n)∈nd->x∉S->¬ YE es sr x S n)(x:Str):x∈S↔Held es sr nd x:=by
 refine⟨f x,λh=>?_⟩;induction h with|see a b=>exact e _ _ a b|@tell x n F a _ m w=>by_cases z:x∈S;exact z;exact absurd (m.sub (λ_ h=>h) (λ_ h=>h) w (QAZ _)) (k x n a z)
theorem Held.sub(j:∀e∈es,e∈v)(g:∀s∈sr,s∈y)(f:∀x n,(x,n)∈nd->∃w,w<=n/\(x,w)∈u){x:Str}(h:Held es sr nd x):Held v y u x:=by
 induction h with|see a b=>obtain⟨w,_,m⟩:=f _ _ a;exact .see m (g _ b)|tell F a _ m i=>obtain⟨w,l,k⟩:=f _ _ a;exact .tell F k i (m.sub j g (λ_ z=>z) l)
theorem VQ{x:Str}(h:Held es sr nd x):∃n,(x,n)∈nd:=by
 cases h with|see a _=>exact⟨_,a⟩|tell _ a=>exact⟨_,a⟩
end
noncomputable def zI:PSp where
 md:=[.xx,.xx,.xy]
 run:=λz Q _=>∃(x:JB) (h F:LS) (g:Str),z=[.d (.tuple (x.map pr)),.d (.tuple (h.map Jx)),.lst ((F.map Jx).map T.d),.d (.str g)]/\(x.length<=126/\h.length<=11/\xK x h)/\∀y cut,Good (GJ x F) h g y cut->Q (.tup [.lst ((y.map HB).map T.d),.lst ((cut.map Jx).map T.d)]) []
theorem U9{Ψ:PEv}(w:Ψ.sp "apart_chains"=xI):XF Ψ YD zI eG rF:=by
 rintro _ Q _ ⟨h,u,F,g,rfl,⟨b,a,v⟩,q⟩;have k:(GJ h F).length<=126:=QX (Qk _ _) b;have z:xK (GJ h F) u:=⟨v.1,λe f=>v.2 e (pC.mp f).1⟩
 refine fA [bD (.tuple (h.map pr)),bD (.tuple (u.map Jx)),some (.ky (.lst ((F.map Jx).map T.d))),bD (.str g)] ?_;delta YD;simp_arith[↓uA (md:=[]) w rfl rfl];rw[<- lA pr h];refine bA (λp=>T.d (pr p)) (λ(p:Str×Str)=>T.d (pr p)) (λp=>decide (p.1∈F)) h [] _ (λx l R y=>?_) (by show 0+h.length<=_;omega) ?_;simp_arith[↓zO,cC,ZB,EA,true_or];by_cases d:x.1∈F;rw[dT d]at y ⊢;exact y;rw[dF d]at y ⊢;exact y;rw[Qj,lA pr];simp_arith[↓uA (md:=[]) w rfl rfl];refine⟨_,_,_,rfl,⟨k,a,z⟩,λj cut i=>?_⟩;simp_arith[↓yA];exact q j cut i
section
variable{Ψ:PEv}{E:XE}{ρ:kA}{K:TK}{a b c h:PX}{ds:List D}{n m:Bool}{L:Bool->Prop}
def Ml(x:T)(n:Bool)(Ψ:PEv)(b:PX)(E:XE)(ρ:kA)(K:TK):Prop:=sq (α:=Option Int) (rA x n) ρ (λρ R=>(pe Ψ b E).e ρ λu _ y=>NF u.er λo=>R o y) λu y=>VN (rA x n).vw none u λz k=>K z k y
def mH(x:T)(Q:Option Int->Prop):Prop:=NF x.er Q
theorem DU{i:Int}{Q:Option Int->Prop}:mH (.d (.int i)) Q=Q (some i):=rfl
theorem yg{x:T}{R:Option Int->kA->Prop}:sq (α:=Option Int) x ρ (λρ (R:Option Int->kA->Prop)=>R none ρ) R=R none ρ:=by unfold sq;split<;>rfl
theorem Oj{j:Nat}:pB Ψ (.slc a .nop (.xz j)) E ρ K=pB Ψ a E ρ λx n v=>Ml x n Ψ (.xz j) E v K:=by show(pe Ψ a E).e ρ (λx n v=>sq (α:=Option Int) (rA x n) v (λρ (R:Option Int->kA->Prop)=>R none ρ) λl w=>sq (α:=Option Int) (rA x n) w (λρ R=>(pe Ψ (.xz j) E).e ρ λu _ y=>NF u.er λo=>R o y) λu y=>VN (rA x n).vw l u λz k=>K z k y)=_;simp only[yg];rfl
theorem lu{x:D}:Ml (.d x) n Ψ b E ρ K=pB Ψ b E ρ λu _ y=>mH u λo=>rJ (.d x) n none o λz k=>K z k y:=by cases n<;>rfl
theorem gb(a b:List D):(T.tup [.lst (a.map T.d),.lst (b.map T.d)]).er=.tuple [.list a,.list b]:=by show PyData.tuple [.list (ersT (a.map T.d)),.list (ersT (b.map T.d))]=_;rw[IA,IA]
theorem kq{a b:List D}{m:Bool}{t:T}{R:T->Prop}:DA (.tup [.lst (a.map T.d),.lst (b.map T.d)]) true t m R=DA (.d (.tuple [.list a,.list b])) false t m R:=by
 have e:rA (.tup [.lst (a.map T.d),.lst (b.map T.d)]) true=.d (.tuple [.list a,.list b]):=by show T.d (T.tup [.lst (a.map T.d),.lst (b.map T.d)]).er=_;rw[gb]
 unfold DA;rw[e];rfl
end
section
variable{Ψ:PEv}{E:XE}{ρ:kA}{a c h:PX}{W:LT->Prop}{R:Option T->Prop}{C:LT->Prop}{xs:List (T×Bool)}{ds:List D}{n m:Bool}
section
variable{md:List Md}{ts:LT}{b:Bool}{t u:Str}
theorem vC{v:PX}{M:List (T×Bool)->kA->Prop}:bM Ψ (.ny a v) E (.xx::md) ρ M=pB Ψ a E ρ λx n z=>R7 x n Ψ v E md z λxs y=>M ((x,n)::xs) y:=rfl
theorem E7{d:D}:VB (.xx::md) ((.d d,n)::xs) C=VB md xs λts=>C (.d d::ts):=by
 have e:UA (.xx::md) ((.d d,n)::xs) []=(UA md xs []).map (.d d::·):=by cases n<;>rfl
 unfold VB;rw[e,OF]
theorem Nk:bL .val [(.lst ts,false)] W=W ts:=by unfold bL jC;exact KI ts
theorem Do{m:List Bool}{x y:D}{v:CmpOp}:HI Ψ E (b::m) [t,u] (.tp [0,1]) (.cmp v a c) h ρ (.d (.tuple [x,y])) R=dR Ψ (.cmp v a c) E (bD x::bD y::ZC (b::m) (lockA ρ)) λk z=>if k=true then pB Ψ h E z λy n _=>RC y n (R (some y)) else R none:=eB
theorem Dt{m:List Bool}{x y:T}:HI Ψ E (b::m) [t,u] (.tp [0,1]) .nop h ρ (.tup [x,y]) R=pB Ψ h E (some (.ky x)::some (.ky y)::ZC (b::m) (lockA ρ)) λy n _=>RC y n (R (some y)):=eB
theorem mw:eM ((.lst [],true)::xs) C=eM xs λts=>C (.lst []::ts):=xu (ds:=[])
theorem yn{d:D}:iF [.d d,.lst ts]=.tup [.d d,.lst ts]:=rfl
theorem Ii{i j:Int}{L:Bool->Prop}:rB .GtE (.d (.int i)) (.d (.int j)) L=L (decide (j<=i)):=rfl
end
end
noncomputable abbrev Rw:=Str×List (LS)
noncomputable def sJ(r:Rw):T:=.tup [.d (.str r.1),.lst ((r.2.map HB).map T.d)]
def gR(p:Str×Int):D:=.tuple [.str p.1,.int p.2]
noncomputable def aZ(es:JB)(sr:LS)(nd:List (Str×Int))(h:List Rw)(F:LS)(b:Bool)(o6 o7 o8:Option Sl):kA:=[bD (.tuple (es.map pr)),bD (.tuple (sr.map Jx)),bD (.list (nd.map gR)),oW (.lst (h.map sJ)),oW (.lst ((F.map Jx).map T.d)),bD (.bool b),o6,o7,o8]
section
variable{Ψ:PEv}{Z:PEnds}{es:JB}{sr:LS}{nd:List (Str×Int)}{q:PT}
section
variable{o5 o6 o7 o8:Option Sl}{h:List Rw}
noncomputable def LR(sr:LS)(nd:List (Str×Int)):List Rw:=(nd.filter λp=>decide (p.1∈sr)).map λp=>(p.1,[])
theorem Ys(hl:nd.length<=100){o4:Option Sl}(k:pF Ψ q Z [bD (.tuple (es.map pr)),bD (.tuple (sr.map Jx)),bD (.list (nd.map gR)),oW (.lst ((LR sr nd).map sJ)),o4,o5,o6,o7,o8]) :
  pF Ψ (.seq (.own 3 (.comp [false,false,false,false,false,false,true,true] ["name","number"] (.tp [0,1]) .val %[.xz 2|1] (.cmp .In (.xz 0) (.xz 3)) (.tup %[.xz 0,.lst .nz|1]))) q) Z [bD (.tuple (es.map pr)),bD (.tuple (sr.map Jx)),bD (.list (nd.map gR)),none,o4,o5,o6,o7,o8]:=by
 simp_arith[↓yA];rw[<- lA gR nd];refine bA (λp=>T.d (gR p)) (λ(p:Str×Int)=>sJ (p.1,[])) (λp=>decide (p.1∈sr)) nd [] _ (λx z R y=>?_) (by show 0+nd.length<=_;omega) ?_;obtain⟨x,n⟩:=x;delta gR;simp_arith[↓Do,cC,ZB,EA,true_or];by_cases d:x∈sr;rw[dT d]at y ⊢;simp_arith[↓mw,↓yn];exact⟨by omega,by omega,y⟩;rw[dF d]at y ⊢;exact y;rw[Qj];have e:(nd.filter λp=>decide (p.1∈sr)).map (λp=>sJ (p.1,[]))=(LR sr nd).map sJ:=by unfold LR;rw[Qc];rfl
 rw[e];exact k
theorem Js(hl:h.length<=100)(k:pF Ψ q Z [bD (.tuple (es.map pr)),bD (.tuple (sr.map Jx)),bD (.list (nd.map gR)),oW (.lst (h.map sJ)),oW (.lst (((h.map λr=>r.1).map Jx).map T.d)),o5,o6,o7,o8]) :
  pF Ψ (.seq (.own 4 (.comp [false,false,false,false,false,false,true,false,true] ["name","chains"] (.tp [0,1]) .val %[.xz 3|1] .nop (.xz 0))) q) Z [bD (.tuple (es.map pr)),bD (.tuple (sr.map Jx)),bD (.list (nd.map gR)),oW (.lst (h.map sJ)),none,o5,o6,o7,o8]:=by
 simp_arith[↓Nk];refine nC sJ (λr=>T.d (.str r.1)) h [] _ (λx z R y=>?_) (by show 0+h.length<=_;omega) ?_;delta sJ;simp_arith[↓Dt];exact y;rw[Qj,lA (λr:Rw=>Jx r.1)];have e:(h.map λr=>Jx r.1)=(h.map λr=>r.1).map Jx:=by rw[Qc];rfl
 rw[e];exact k
theorem js(f:Ψ.sp "told_through"=zI){F:LS}{b:Bool}{x:Str}{n:Int}(a:es.length<=126)(k:sr.length<=11)(e:xK es sr)(j:h.length<=100)(i:F.length<=100)
  (w:x∈F->∀o8,Z.nx (aZ es sr nd h F b (bD (.str x)) (bD (.int n)) o8))
  (v:x∉F->¬ YE es sr x F n->∀o8,Z.nx (aZ es sr nd h F b (bD (.str x)) (bD (.int n)) o8))
  (u:x∉F->YE es sr x F n->∀cs o8,Z.nx (aZ es sr nd (h++[(x,cs)]) (F++[x]) true (bD (.str x)) (bD (.int n)) o8)) :
  pF Ψ BC Z (aZ es sr nd h F b (bD (.str x)) (bD (.int n)) o8):=by
 delta aZ at w v u ⊢;delta BC;simp_arith[cC,ZB,EA,true_or];by_cases d:x∈F;rw[dT d];exact w d _;rw[dF d];simp_arith[↓vC,↓E7,↓uA (md:=[.xx,.xx,.xy]) f rfl rfl];refine⟨_,_,_,_,rfl,⟨a,k,e⟩,λcs cut g=>?_⟩;have y:=V5 (n:=n) g;simp_arith[↓kq,↓pj,↓Ii,QA];by_cases c:n<=(cs.length:Int);rw[dT c];simp_arith[↓Oj,↓lu,↓DU,↓yn];rw[FI];refine⟨by omega,by omega,by rw[QA,QA];omega,?_⟩;have:=u d (y.mpr c) (dC cs none (some n)) (bD (.list (cs.map HB)));rw[QJ,QJ,QJ]at this;exact this;rw[dF c];exact v d (λz=>c (y.mp z)) _
end
end
structure GI(es:JB)(sr:LS)(nd:List (Str×Int))(rs:List Rw)(F:LS):Prop where
 e:F=rs.map λr=>r.1
 ndp:F.Nodup
 held:∀x∈F,Held es sr nd x
 see:∀x n,(x,n)∈nd->x∈sr->x∈F
 non:∀r∈rs,r.1∈sr->r.2=[]
section
variable{es:JB}{sr:LS}{nd:List (Str×Int)}{u:List Rw}{F:LS}
theorem GI.len(g:GI es sr nd u F):F.length<=nd.length:=by
 have:=SF (ns:=nd.map λp=>p.1) g.ndp λs x=>by obtain⟨n,h⟩:=VQ (g.held s x);exact QS.mpr ⟨_,h,rfl⟩
 rw[QA]at this;exact this
theorem GI.rlen(g:GI es sr nd u F):u.length=F.length:=by rw[g.e,QA]
theorem Er(h:(nd.map λp=>p.1).Nodup):GI es sr nd (LR sr nd) ((LR sr nd).map λr=>r.1):=by
 have e:((LR sr nd).map λr=>r.1)=(nd.filter λp=>decide (p.1∈sr)).map λp=>p.1:=by unfold LR;rw[Qc];rfl
 refine⟨rfl,?_,λx y=>?_,λx n y v=>?_,λr z _=>?_⟩;rw[e];exact h.sublist (Q2.map _);rw[e]at y;obtain⟨p,w,rfl⟩:=QS.mp y;obtain⟨a,k⟩:=QO.mp w;exact .see (n:=p.2) a (of_decide_eq_true k);rw[e];exact QS.mpr ⟨(x,n),QO.mpr ⟨y,dT v⟩,rfl⟩;unfold LR at z;obtain⟨p,_,rfl⟩:=QS.mp z;rfl
theorem GI.add(g:GI es sr nd u F){x:Str}{n:Int}(w:(x,n)∈nd)(f:x∉F)(m:YE es sr x F n)(cs:List (LS)):GI es sr nd (u++[(x,cs)]) (F++[x]):=by
 refine⟨by rw[QJ,<- g.e];rfl,qH.mpr ⟨g.ndp,Qi.mpr ⟨λz=>(nomatch z),Qs⟩,λa j b hb e=>?_⟩,λy v=>?_,λy k v h=>Qf _ (g.see y k v h),λr i h=>?_⟩;rw[QI.mp hb]at e;exact f (e▸j);rcases QT.mp v with z|z
 ·exact g.held y z
 rw[QI.mp z];exact .tell F w g.held m;rcases QT.mp i with z|z
 ·exact g.non r z h
 rw[QI.mp z]at h;exact absurd (g.see x n w h) f
end
noncomputable def uI:PSp where
 run:=λu Q _=>∃(y:JB) (h:LS) (nd:List (Str×Int)),u=[.d (.tuple (y.map pr)),.d (.tuple (h.map Jx)),.d (.list (nd.map gR))]/\(y.length<=126/\h.length<=11/\xK y h/\nd.length<=90/\(nd.map λp=>p.1).Nodup)/\∀z F,GI y h nd z F->(∀x,x∈F↔Held y h nd x)->Q (.lst (z.map sJ)) []
theorem JY{es:JB}{sr:LS}{nd:List (Str×Int)}{K:T->LT->Prop}{E:XE}(l:es.length<=126/\sr.length<=11/\xK es sr/\nd.length<=90/\(nd.map λp=>p.1).Nodup)(q:∀h F,GI es sr nd h F->(∀x,x∈F↔Held es sr nd x)->K (.lst (h.map sJ)) []):OR uI [.d (.tuple (es.map pr)),.d (.tuple (sr.map Jx)),.d (.list (nd.map gR))] K E:=⟨es,sr,nd,rfl,l,q⟩
section
variable{Ψ:PEv}{Z:PEnds}{es:JB}{sr:LS}{nd:List (Str×Int)}{u:List Rw}{F:LS}
theorem Ir(L:Ψ.sp "told_through"=zI)(G:es.length<=126)(E:sr.length<=11)(J:xK es sr)(O:nd.length<=90){b:Bool}{o6 o7 o8:Option Sl}(g:GI es sr nd u F)
  (k:∀v w a o6 o7 o8,GI es sr nd v w->F.length<=w.length->(a=true->F.length<w.length)->(a=false->∀x n,(x,n)∈nd->x∉w->¬ YE es sr x w n)->Z.nx (aZ es sr nd v w a o6 o7 o8)) :
  pF Ψ UC Z (aZ es sr nd u F b o6 o7 o8):=by
 delta aZ;delta UC;simp_arith[↓yA];rw[<- lA gR nd];refine sA (λ(p:Str×Int)=>T.d (gR p)) (λl r=>∃v w a o6 o7 o8,GI es sr nd v w/\(∀p∈l,p∈nd)/\F.length<=w.length/\(a=true->F.length<w.length)/\(a=false->∀x n,(x,n)∈nd->(x,n)∈l∨x∈w∨¬ YE es sr x w n)/\r=aZ es sr nd v w a o6 o7 o8) ?_ ?_ _ _ ⟨u,F,false,_,_,_,g,λ_ z=>z,Qa _,λz=>(nomatch z),λ_ x n h=>.inl h,rfl⟩;rintro r ⟨v,w,a,B,A,K,f,_,q,o,j,rfl⟩;exact k v w a _ _ _ f q o λhb x n Y i=>((j hb x n Y).resolve_left λz=>(nomatch z)).resolve_left i;rintro⟨x,n⟩ l r N W ⟨v,w,a,B,A,K,f,m,q,o,j,rfl⟩;have Y:=m _ QD;have s:∀p∈l,p∈nd:=λp I=>m p (QC _ I);have Q:=f.len;have P:=f.rlen;refine DD.mk rfl ?_;refine js (x:=x) (n:=n) L G E J (by omega) (by omega) (λi o8=>W _ ⟨v,w,a,_,_,_,f,s,q,o,λhb y k X=>?_,rfl⟩) (λi nm o8=>W _ ⟨v,w,a,_,_,_,f,s,q,o,λhb y k X=>?_,rfl⟩) λi C M o8=>W _ ⟨_,_,true,_,_,_,f.add Y i C M,s,?_,λ_=>?_,λz=>(nomatch z),rfl⟩;rcases j hb y k X with z|z
 ·rcases QM.mp z with e|z
  ·cases e
   exact .inr (.inl i)
  exact .inl z
 exact .inr z;rcases j hb y k X with z|z
 ·rcases QM.mp z with e|z
  ·cases e
   exact .inr (.inr nm)
  exact .inl z
 exact .inr z;rw[QH,QY];omega;rw[QH,QY];omega
end
theorem N4{Ψ:PEv}(r:Ψ.sp "told_through"=zI):XF Ψ sG uI iG sF:=by
 rintro _ Q _ ⟨es,sr,nd,rfl,⟨j,i,o,f,p⟩,q⟩;refine fA [bD (.tuple (es.map pr)),bD (.tuple (sr.map Jx)),bD (.list (nd.map gR)),none,none,none,none,none,none] ?_;have u:=Er (es:=es) (sr:=sr) p;have A:=u.len;have K:=u.rlen;refine Ys (by omega) (Js (by omega) ?_);simp_arith[↓yA];refine UE (λm v=>∃h F b o6 o7 o8,m=2 * (nd.length - F.length)+(if b=true then 1 else 0)/\GI es sr nd h F/\(b=false->∀x n,(x,n)∈nd->x∉F->¬ YE es sr x F n)/\v=aZ es sr nd h F b o6 o7 o8) _ ⟨_,_,true,none,none,none,rfl,u,λz=>(nomatch z),rfl⟩ ?_;rintro m v ⟨h,F,b,o6,o7,o8,a,g,s,rfl⟩;cases b with
 |true =>
  have w:=λ(Z:PEnds) l=>Ir (Ψ:=Ψ) (Z:=Z) (b:=true) (o6:=o6) (o7:=o7) (o8:=o8) r j i o f g l;unfold aZ at w;delta aZ;simp_arith[↓yA];refine w _ λy W e o6 o7 o8 k B Y X=>⟨_,?_,y,W,e,o6,o7,o8,rfl,k,X,rfl⟩
  have:=k.len;cases e with|true=>have:=Y rfl;rw[a,if_pos rfl];omega|false=>rw[a,if_pos rfl,if_neg QG];omega
 |false=>delta aZ;simp_arith[↓yA];exact q h F g λx=>SS g.held g.see (s rfl) x
noncomputable def xD(p:Str×Int×Int×Int):D:=.tuple [.str p.1,.int p.2.1,.int p.2.2.1,.int p.2.2.2]
inductive Evt where
 |see (t:Int) (p m w:Str)|tell (t:Int) (a b m w:Str) (by_:LS)
noncomputable def zD:Evt->D
 | .see t p m w=>.tuple [.str "see",.int t,.str p,.str m,.str w]|.tell t a b m w q=>.tuple [.str "tell",.int t,.str a,.str b,.str m,.str w,.tuple (q.map Jx)]
structure Wd where
 ps:List (Str×Int×Int×Int)
 ms:LS
 ag:JB
 es:List Evt
noncomputable def wD(w:Wd):D:=.tuple [.list (w.ps.map xD),.list (w.ms.map Jx),.list (w.ag.map pr),.list (w.es.map zD)]
section
variable{w:Wd}{p:Str×Int×Int×Int}{n m:Bool}{R:T->Prop}
theorem GA{ds:List D}{i:Nat}{d:D}(h:ds[i]?=some d):DA (.d (.tuple ds)) n (.d (.int (i:Int))) m R=R (.d d):=by rw[R0,show pD ds (i:Int)=some d from gD h,eB]
theorem mR:DA (.d (wD w)) n (.d (.int 0)) m R=R (.d (.list (w.ps.map xD))):=GA (i:=0) rfl
theorem G0:DA (.d (wD w)) n (.d (.int 1)) m R=R (.d (.list (w.ms.map Jx))):=GA (i:=1) rfl
theorem yq:DA (.d (wD w)) n (.d (.int 2)) m R=R (.d (.list (w.ag.map pr))):=GA (i:=2) rfl
theorem gU:DA (.d (wD w)) n (.d (.int 3)) m R=R (.d (.list (w.es.map zD))):=GA (i:=3) rfl
theorem gJ:DA (.d (xD p)) n (.d (.int 0)) m R=R (.d (.str p.1)):=GA (i:=0) rfl
theorem dq:DA (.d (xD p)) n (.d (.int 1)) m R=R (.d (.int p.2.1)):=GA (i:=1) rfl
theorem cq:DA (.d (xD p)) n (.d (.int 2)) m R=R (.d (.int p.2.2.1)):=GA (i:=2) rfl
theorem bq:DA (.d (xD p)) n (.d (.int 3)) m R=R (.d (.int p.2.2.2)):=GA (i:=3) rfl
end
def UN(w:Wd):List (Str×Int):=w.ps.map λp=>(p.1,p.2.2.2)
noncomputable def KU:PSp where
 run:=λh Q _=>∃w:Wd,h=[.d (wD w)]/\w.ps.length<=90/\Q (.lst (((UN w).map gR).map T.d)) []
theorem yh{Ψ:PEv}:XF Ψ HH KU gN nK:=by
 rintro _ Q _ ⟨w,rfl,l,q⟩;refine fA [bD (wD w)] ?_;delta HH;simp_arith[↓mR];rw[<- lA xD];refine nC (λp=>T.d (xD p)) (λp=>T.d (gR (p.1,p.2.2.2))) w.ps [] _ (λx y R h=>?_) (by show 0+w.ps.length<=_;omega) ?_;simp_arith[↓gJ,↓bq];exact⟨by omega,h⟩;rw[Qj,lA λp:Str×Int×Int×Int=>gR (p.1,p.2.2.2)];have e:(w.ps.map λp=>gR (p.1,p.2.2.2))=(UN w).map gR:=by unfold UN;rw[Qc];rfl
 rw[e];exact q
noncomputable def fE(es:JB)(sr:LS):D:=.tuple [.tuple (sr.map Jx),.tuple (es.map pr)]
section
variable{es:JB}{sr:LS}{n m:Bool}{R:T->Prop}
theorem mq:DA (.d (fE es sr)) n (.d (.int 0)) m R=R (.d (.tuple (sr.map Jx))):=GA (i:=0) rfl
theorem lq:DA (.d (fE es sr)) n (.d (.int 1)) m R=R (.d (.tuple (es.map pr))):=GA (i:=1) rfl
end
noncomputable def zL:PSp where
 run:=λz Q _=>∃(w:Wd) (y:JB) (h:LS),z=[.d (wD w),.d (fE y h)]/\(y.length<=126/\h.length<=11/\xK y h/\w.ps.length<=90/\(w.ps.map λp=>p.1).Nodup)/\∀l:LS,(∀x,x∈l↔Held y h (UN w) x)->l.length<=90->Q (.lst ((l.map Jx).map T.d)) []
theorem Mk{ts:LT}{W:LT->Prop}:bL .val [(.lst ts,true)] W=W ((ersT ts).map T.d):=KI _
theorem Yi(r:Rw):(sJ r).er=.tuple [.str r.1,.list (ersT ((r.2.map HB).map T.d))]:=rfl
theorem L9{Ψ:PEv}(l:Ψ.sp "ground_alone"=uI)(j:Ψ.sp "needs_of"=KU):XF Ψ fF zL vJ dH:=by
 rintro _ Q _ ⟨w,m,z,rfl,⟨a,k,b,y,nd⟩,q⟩;have v:(UN w).length<=90:=by unfold UN;rw[QA];exact y
 have u:((UN w).map λp=>p.1).Nodup:=by unfold UN;rw[Qc];exact nd
 refine fA [bD (wD w),bD (fE m z)] ?_;delta fF;simp_arith[↓mq,↓lq,↓uA (md:=[]) l rfl rfl,↓uA (md:=[]) j rfl rfl];refine⟨_,rfl,y,?_⟩;simp_arith[↓yA];refine JY ⟨a,k,b,v,u⟩ λh F g i=>?_;rw[Mk];have fl:=g.len;have rl:h.length=F.length:=by rw[g.e,QA]
 rw[DQ,Qc,Qc];refine⟨rfl,?_⟩;refine nC (λr=>T.d (sJ r).er) (λr=>T.d (.str r.1)) h [] _ (λx n R f=>?_) (by show 0+h.length<=_;omega) ?_;rw[Yi];simp_arith[↓yA];exact f;rw[Qj,lA (λr:Rw=>Jx r.1)];have e:(h.map λr=>Jx r.1)=F.map Jx:=by rw[g.e,Qc];rfl
 rw[e];exact q F i (by omega)
noncomputable def aA(h:List Evt)(n:Nat):Evt:=(h[n]?).getD (.see 0 "" "" "")
def FC(e:Evt):Prop:=∃t a b m w q,e=.tell t a b m w q
def xZ:Evt->Str
 | .see _ _ m _=>m|.tell _ _ _ m _ _=>m
noncomputable def aC:Evt->Str×Str
 | .see _ p m _=>(p,m)|.tell _ a b _ _ _=>(a,b)
def nD(n:Nat):D:=.int (n:Int)
theorem dP{x:List Evt}{i:Nat}{n m:Bool}{R:T->Prop}(h:i<x.length):DA (.d (.list (x.map zD))) n (.d (nD i)) m R=R (.d (zD (aA x i))):=by delta nD;rw[Uf,show pD (x.map zD) (i:Int)=some (zD (aA x i)) from gD (by rw[Qe,Qn h];unfold aA;rw[Qn h];rfl),eB]
section
variable{e:Evt}{n m:Bool}{R:T->Prop}
theorem rW(h:FC e):DA (.d (zD e)) n (.d (.int 2)) m R=R (.d (.str (aC e).1)):=by obtain⟨t,a,b,x,w,q,rfl⟩:=h;exact GA (i:=2) rfl
theorem pW(h:FC e):DA (.d (zD e)) n (.d (.int 3)) m R=R (.d (.str (aC e).2)):=by obtain⟨t,a,b,x,w,q,rfl⟩:=h;exact GA (i:=3) rfl
theorem zc(h:FC e):DA (.d (zD e)) n (.d (.int 4)) m R=R (.d (.str (xZ e))):=by obtain⟨t,a,b,x,w,q,rfl⟩:=h;exact GA (i:=4) rfl
end
section
variable{Ψ:PEv}{ks:List Pt}{L:Bool->Prop}
theorem Ic{ds:List D}{Q:T->Bool->Prop}:mL .tuple [(.lst (ds.map T.d),true)] Q=Q (.d (.tuple ds)) false:=by unfold mL jC;show OT .tuple [.ls ((ersT (ds.map T.d)).map T.d)] Q=_;rw[IA,ke];exact propext ⟨λ⟨_,e,q⟩=>by rw[VA]at e;cases e;exact q,λq=>⟨_,VA _,q⟩⟩
noncomputable def uG(h:List Evt)(x:LN)(m:Str):JB:=(x.filter λn=>decide (xZ (aA h n)=m)).map λn=>aC (aA h n)
noncomputable def eP:PSp where
 run:=λy Q _=>∃(h:List Evt) (x:LN) (m:Str),y=[.d (.list (h.map zD)),.d (.list (x.map nD)),.d (.str m)]/\x.length<=100/\(∀n∈x,n<h.length/\FC (aA h n))/\Q (.d (.tuple ((uG h x m).map pr))) []
theorem gh:XF Ψ RH eP tN eK:=by
 rintro _ Q _ ⟨h,y,m,rfl,l,a,q⟩;refine fA [bD (.list (h.map zD)),bD (.list (y.map nD)),bD (.str m),none] ?_;delta RH;simp_arith[↓yA];rw[<- lA nD];refine bA (λn=>T.d (nD n)) (λn=>T.d (zD (aA h n))) (λn=>decide (xZ (aA h n)=m)) y [] _ (λx v R u=>?_) (by show 0+y.length<=_;omega) ?_;simp_arith[↓dP (a x v).1,↓zc (a x v).2];split at u;rename_i c;rw[if_pos c];exact u;rename_i c;rw[if_neg c];exact u;rw[Qj,lA λn=>zD (aA h n)];simp_arith[↓yA];rw[<- lA λn=>zD (aA h n)];refine nC (λn=>T.d (zD (aA h n))) (λn=>T.d (pr (aC (aA h n)))) _ [] _ (λx v R u=>?_) (by show 0+(List.filter _ y).length<=_;have:=Qk (λn=>decide (xZ (aA h n)=m)) y;omega) ?_;have z:=(QO.mp v).1;simp_arith[↓rW (a x z).2,↓pW (a x z).2];exact⟨by omega,u⟩;rw[Qj,lA λn=>pr (aC (aA h n)),Ic];have e:((y.filter λn=>decide (xZ (aA h n)=m)).map λn=>pr (aC (aA h n)))=(uG h y m).map pr:=by unfold uG;rw[Qc];rfl
 rw[e];simp_arith[↓yA];exact q
noncomputable def gK(w:Wd)(x:Str):LJ:=(w.ps.filter λp=>decide (p.1=x)).map λp=>p.2.1
noncomputable def rP:PSp where
 run:=λh Q _=>∃(w:Wd) (x:Str) (r:Int),h=[.d (wD w),.d (.str x)]/\w.ps.length<=90/\(gK w x)[0]?=some r/\Q (.d (.int r)) []
theorem D9:XF Ψ NJ rP yP EL:=by
 rintro _ Q _ ⟨w,x,r,rfl,l,a,q⟩;refine fA [bD (wD w),bD (.str x)] ?_;delta NJ;simp_arith[↓mR];rw[<- lA xD];refine bA (λp=>T.d (xD p)) (λp=>T.d (.int p.2.1)) (λp=>decide (p.1=x)) w.ps [] _ (λp z R h=>?_) (by show 0+w.ps.length<=_;omega) ?_;simp_arith[↓gJ,↓dq];split at h;rename_i c;rw[if_pos c];exact h;rename_i c;rw[if_neg c];exact h;rw[Qj,lA λp:Str×Int×Int×Int=>Jy p.2.1];have e:((w.ps.filter λp=>decide (p.1=x)).map λp=>Jy p.2.1)=(gK w x).map Jy:=by unfold gK;rw[Qc];rfl
 rw[e];have y:pD ((gK w x).map Jy) 0=some (.int r):=gD (j:=0) (by rw[Qe,a];rfl);simp_arith[y];exact q
noncomputable def zG(w:Wd)(x:Str):LJ:=(w.ps.filter λp=>decide (p.1=x)).map λp=>p.2.2.1
noncomputable def GL:PSp where
 run:=λh Q _=>∃(w:Wd) (x:Str) (r:Int),h=[.d (wD w),.d (.str x)]/\w.ps.length<=90/\(zG w x)[0]?=some r/\Q (.d (.int r)) []
theorem G4:XF Ψ PH GL sN aK:=by
 rintro _ Q _ ⟨w,x,r,rfl,l,a,q⟩;refine fA [bD (wD w),bD (.str x)] ?_;delta PH;simp_arith[↓mR];rw[<- lA xD];refine bA (λp=>T.d (xD p)) (λp=>T.d (.int p.2.2.1)) (λp=>decide (p.1=x)) w.ps [] _ (λp z R h=>?_) (by show 0+w.ps.length<=_;omega) ?_;simp_arith[↓gJ,↓cq];split at h;rename_i c;rw[if_pos c];exact h;rename_i c;rw[if_neg c];exact h;rw[Qj,lA λp:Str×Int×Int×Int=>Jy p.2.2.1];have e:((w.ps.filter λp=>decide (p.1=x)).map λp=>Jy p.2.2.1)=(zG w x).map Jy:=by unfold zG;rw[Qc];rfl
 rw[e];have y:pD ((zG w x).map Jy) 0=some (.int r):=gD (j:=0) (by rw[Qe,a];rfl);simp_arith[y];exact q
noncomputable def RK(ks:List Pt):T:=.dct true (ks.map pr) (ks.map λ_=>T.d (.bool true))
noncomputable def xN(ks:List Pt)(p:Pt):List Pt:=if p∈ks then ks else ks++[p]
theorem zU(ks:List Pt)(p:Pt):(xN ks p).length<=ks.length+1:=by unfold xN;split;omega;simp
theorem fO{α h:Type}(c:h):∀(l:List α) (n:Nat),(l.map λ_=>c).set n c=l.map λ_=>c
 |[],_=>rfl|_::_,0=>rfl|x::l,n+1=>by show c::(l.map λ_=>c).set n c=_;rw[fO c l n];rfl
theorem ec{p:Pt}{Q:T->Prop}(hl:ks.length<sizeLine)(q:Q (RK (xN ks p))):J8 (RK ks) (.d (pr p)) (.d (.bool true)) Q:=by
 refine⟨yC p,by rw[QA];exact hl,?_⟩;show Q (ZH true (ks.map pr) (ks.map λ_=>T.d (.bool true)) (pr p) (.d (.bool true)));unfold xN at q;unfold ZH;by_cases c:p∈ks;rw[if_pos c]at q;cases e:dA (ks.map pr) (pr p) with|none=>exact absurd (GP.mpr c) (FA.mp e)|some n=>show Q (.dct true (ks.map pr) ((ks.map λ_=>T.d (.bool true)).set n (.d (.bool true))));rw[fO];exact q
 rw[if_neg c]at q;rw[FA.mpr λz=>c (GP.mp z)];unfold RK at q;rw[QJ,QJ]at q;exact q
theorem oo{q:Pt}:rB .In (.d (pr q)) (RK ks) L=L (decide (q∈ks)):=by unfold RK;rw[u7,BI];exact propext ⟨λh=>h.2,λh=>⟨yC q,h⟩⟩
theorem Si{q:Pt}:rB .NotIn (.d (pr q)) (RK ks) L=L (!decide (q∈ks)):=by unfold RK;rw[HJ,BI];exact propext ⟨λh=>h.2,λh=>⟨yC q,h⟩⟩
noncomputable def zC(h:List Evt)(ks:List Pt)(n:Nat):List Pt:=match aA h n with
 | .see _ p m _=>xN ks (p,m)|_=>ks
def YB(h:List Evt)(l:LN):List Pt:=l.foldl (zC h) []
noncomputable def o0:Evt->Str
 | .see _ _ _ _=>"see"|.tell _ _ _ _ _ _=>"tell"
end
section
variable{e:Evt}{n m:Bool}{R:T->Prop}{t:Int}{p h w:Str}
theorem YN:DA (.d (zD e)) n (.d (.int 0)) m R=R (.d (.str (o0 e))):=by cases e;exact GA (i:=0) rfl;exact GA (i:=0) rfl
theorem tW:DA (.d (zD (.see t p h w))) n (.d (.int 2)) m R=R (.d (.str p)):=GA (i:=2) rfl
theorem sW:DA (.d (zD (.see t p h w))) n (.d (.int 3)) m R=R (.d (.str h)):=GA (i:=3) rfl
end
section
variable{Ψ:PEv}{ks z:List Pt}{a b:Str}{L:Bool->Prop}{ns:LJ}
theorem BJ{c a b:Prop}[Decidable c](h:¬ c)(q:b):if c then a else b:=by rw[if_neg h];exact q
noncomputable def Nq(h:List Evt)(l:LN)(ks:List Pt)(o3:Option Sl):kA:=[bD (.list (h.map zD)),some (.ky (.lst (l.map λn=>T.d (nD n)))),oW (RK ks),o3]
noncomputable def yL:PSp where
 md:=[.xx,.xy]
 run:=λx Q _=>∃(h:List Evt) (l:LN),x=[.d (.list (h.map zD)),.lst ((l.map nD).map T.d)]/\l.length<=100/\(∀n∈l,n<h.length)/\Q (RK (YB h l)) []
theorem C9:XF Ψ jF yL zJ bH:=by
 rintro _ Q _ ⟨h,l,rfl,hl,j,q⟩;refine fA [bD (.list (h.map zD)),some (.ky (.lst ((l.map nD).map T.d))),none,none] ?_;delta jF;simp_arith[↓yA];rw[<- lA nD];refine sA (λn=>T.d (nD n)) (λr y=>∃ks u,r.foldl (zC h) ks=YB h l/\ks.length+r.length<=100/\(∀n∈r,n<h.length)/\y=Nq h l ks u) ?_ ?_ l _ ⟨[],none,rfl,by simpa using hl,j,rfl⟩;rintro y ⟨ks,u,e,_,_,rfl⟩;have e:ks=YB h l:=e;subst e;delta Nq;simp_arith[↓yA];exact q;rintro n r y N i ⟨ks,u,e,hk,k,rfl⟩;have g:ks.length+(r.length+1)<=100:=hk;have f:=k n QD;delta Nq;delta cG;simp_arith[↓dP f,↓YN];have e:r.foldl (zC h) (zC h ks n)=YB h l:=e;unfold zC at e;cases ev:aA h n with|see t p m w=>rw[ev]at e;simp_arith[o0,↓tW,↓sW];rw[dP f,ev];simp_arith[↓sW];exact⟨by omega,ec (p:=(p,m)) (by omega) (i _ ⟨xN ks (p,m),_,e,by have:=zU ks (p,m);omega,λx v=>k x (QC _ v),rfl⟩)⟩|tell t a b m w o=>rw[ev]at e;refine BJ (show decide ((QW "tell")=(QW "see"))≠true by decide) ?_;exact i _ ⟨ks,_,e,by omega,λx v=>k x (QC _ v),rfl⟩
theorem uW:rB .In (.d (.tuple [.str a,.str b])) (RK ks) L=L (decide ((a,b)∈ks)):=oo (q:=(a,b))
theorem IX:rB .NotIn (.d (.tuple [.str a,.str b])) (RK ks) L=L (!decide ((a,b)∈ks)):=Si (q:=(a,b))
noncomputable def DF(w:Wd)(ks:List Pt)(m:Str):LS:=(w.ps.filter λp=>decide ((p.1,m)∈ks)).map λp=>p.1
noncomputable def pP:PSp where
 md:=[.xx,.ky]
 run:=λh Q _=>∃(w:Wd) (ks:List Pt) (m:Str),h=[.d (wD w),RK ks,.d (.str m)]/\w.ps.length<=90/\Q (.d (.tuple ((DF w ks m).map Jx))) []
theorem Ig:XF Ψ GH pP dN lK:=by
 rintro _ Q _ ⟨w,ks,m,rfl,l,q⟩;refine fA [bD (wD w),some (.ky (RK ks)),bD (.str m)] ?_;delta GH;simp_arith[↓mR];rw[<- lA xD];refine bA (λp=>T.d (xD p)) (λp=>T.d (.str p.1)) (λp=>decide ((p.1,m)∈ks)) w.ps [] _ (λp x R h=>?_) (by show 0+w.ps.length<=_;omega) ?_;simp_arith[↓gJ,↓uW];refine⟨by omega,?_⟩;split at h;rename_i c;rw[if_pos c];exact h;rename_i c;rw[if_neg c];exact h;rw[Qj,lA λp:Str×Int×Int×Int=>Jx p.1,Ic];have e:((w.ps.filter λp=>decide ((p.1,m)∈ks)).map λp=>Jx p.1)=(DF w ks m).map Jx:=by unfold DF;rw[Qc];rfl
 rw[e];simp_arith[↓yA];exact q
theorem Go{E:XE}{ρ:kA}{a c h:PX}{t u:Str}{x y:D}{w:CmpOp}{R:Option T->Prop}:HI Ψ E [] [t,u] (.tp [0,1]) (.cmp w a c) h ρ (.d (.tuple [x,y])) R=dR Ψ (.cmp w a c) E (bD x::bD y::lockA ρ) λk v=>if k=true then pB Ψ h E v λy n _=>RC y n (R (some y)) else R none:=eB
theorem rX:∀{l:List D},(∀x∈l,x.canLay0=true/\x.depth<=1)->wR l=true/\wt l<=1
 |[],_=>by simp[wR,wt]|x::l,h=>by obtain⟨w,e⟩:=h x QD;obtain⟨u,k⟩:=rX (l:=l) λy v=>h y (QC _ v);simp only[wR,wt,w,u,Bool.and_self,true_and];omega
theorem kh{l:List D}(h:∀x∈l,x.canLay0=true/\x.depth<=1):eF (.list l):=by obtain⟨y,u⟩:=rX h;refine⟨?_,?_⟩;simp only[QAI];exact y;simp only[QAs];omega
noncomputable def OK(w:Wd)(m:Str):LS:=(w.ag.filter λp=>decide (p.1=m)).map λp=>p.2
noncomputable def MK(w:Wd)(m:Str):LS:=(w.ag.filter λp=>decide (p.2=m)).map λp=>p.1
def OkS(a:Str):Prop:=qX a=true
def Hj(h:T)(f:Pt->Bool):Prop:=∀a b (L:Bool->Prop),OkS a->OkS b->L (f (a,b))->rB .In (.d (.tuple [.str a,.str b])) h L
theorem Yn(ks:List Pt):Hj (RK ks) λq=>decide (q∈ks):=λa b L _ _ h=>by rw[uW];exact h
theorem C4(h:∀p∈z,OkS p.1/\OkS p.2):eF (.list (z.map pr)):=kh λx u=>by obtain⟨p,y,rfl⟩:=QS.mp u;have q:=MD (h p y).1 (h p y).2;exact⟨q.1,by simp[pr,QAs,wt]⟩
theorem JV(h:∀p∈z,OkS p.1/\OkS p.2):Hj (.d (.list (z.map pr))) λq=>decide (q∈z):=λa b L u hb q=>by
 refine⟨.inr ⟨MD u hb,C4 h⟩,?_⟩;have e:((z.map pr).any λy=>Qx y (.tuple [.str a,.str b]))=decide ((a,b)∈z):=by rw[QBu,Q7,Wk,decide_eq_true_iff];constructor;rintro⟨p,x,e⟩;have e:Qx (pr p) (pr (a,b))=true:=e;rw[GV,decide_eq_true_iff]at e;exact e▸x;intro x;refine⟨(a,b),x,?_⟩;show Qx (pr (a,b)) (pr (a,b))=true;rw[GV];exact dT rfl
 show L ((z.map pr).any λy=>Qx y (.tuple [.str a,.str b]));rw[e];exact q
noncomputable def iP:PSp where
 md:=[.xx,.ky]
 run:=λy Q _=>∃(w:Wd) (h:T) (f:Pt->Bool) (x m:Str),y=[.d (wD w),h,.d (.str x),.d (.str m)]/\(Hj h f/\OkS x/\∀p∈w.ag,OkS p.1/\OkS p.2)/\w.ag.length<=100/\Q (.d (.bool ((OK w m++MK w m).any λr=>f (x,r)))) []
theorem lh:XF Ψ dE iP sH MF:=by
 rintro _ Q _ ⟨w,v,f,x,m,rfl,⟨i,k,u⟩,l,q⟩;have Y:=Qk (λp:Str×Str=>decide (p.1=m)) w.ag;have X:=Qk (λp:Str×Str=>decide (p.2=m)) w.ag;have s:(OK w m).length<=100:=by unfold OK;rw[QA];omega
 have o:(MK w m).length<=100:=by unfold MK;rw[QA];omega
 refine fA [bD (wD w),some (.ky v),bD (.str x),bD (.str m),none] ?_;delta dE;simp_arith[↓yq];rw[<- lA pr w.ag];refine bA (λp=>T.d (pr p)) (λ(p:Str×Str)=>T.d (.str p.2)) (λp=>decide (p.1=m)) w.ag [] _ (λp e R y=>?_) (by show 0+w.ag.length<=_;omega) ?_;delta pr;simp_arith[↓Go];split at y;rename_i c;rw[if_pos c];exact y;rename_i c;rw[if_neg c];exact y;rw[Qj,lA λp:Str×Str=>Jx p.2];have n:((w.ag.filter λp=>decide (p.1=m)).map λp=>Jx p.2)=(OK w m).map Jx:=by unfold OK;rw[Qc];rfl
 rw[n];refine bA (λp=>T.d (pr p)) (λ(p:Str×Str)=>T.d (.str p.1)) (λp=>decide (p.2=m)) w.ag [] _ (λp e R y=>?_) (by show 0+w.ag.length<=_;omega) ?_;delta pr;simp_arith[↓Go];split at y;rename_i c;rw[if_pos c];exact y;rename_i c;rw[if_neg c];exact y;rw[Qj,lA λp:Str×Str=>Jx p.1];have j:((w.ag.filter λp=>decide (p.2=m)).map λp=>Jx p.1)=(MK w m).map Jx:=by unfold MK;rw[Qc];rfl
 rw[j,<- QJ,<- QJ];refine⟨by rw[QA,QA,QA,QA];omega,?_⟩;simp_arith[↓yA];rw[<- lA Jx];refine nC (λr=>T.d (.str r)) (λr=>T.d (.bool (f (x,r)))) (OK w m++MK w m) [] _ (λr e R y=>?_) (by show 0+(OK w m++MK w m).length<=_;rw[QH];omega) ?_;simp_arith[↓yA];refine⟨by omega,i _ _ _ k ?_ y⟩;rcases QT.mp e with h|h;obtain⟨p,g,rfl⟩:=QS.mp h;exact(u p (QO.mp g).1).2;obtain⟨p,g,rfl⟩:=QS.mp h;exact(u p (QO.mp g).1).1;rw[Qj,lA λr=>PyData.bool (f (x,r)),Em];refine⟨(OK w m++MK w m).map λr=>f (x,r),by rw[Qc];rfl,?_⟩;rw[QBu];simp_arith[↓yA];exact q
theorem Nm{n:Bool}{Q:T->Bool->Prop}(x:ns.length<64)(q:∀h:LJ,h.Perm ns->h.Pairwise (·<=·)->Q (.lst ((h.map Jy).map T.d)) true):mL .sorted [(.lst ((ns.map Jy).map T.d),n)] Q:=by unfold mL jC;rw[yE];exact .inr (.inr ⟨_,ns,rfl,VA _,x,q⟩)
theorem ba{l:LN}(h:ns.Perm (l.map λ(n:Nat)=>(n:Int)))(u:ns.Pairwise (·<=·)):∃y:LN,ns=y.map (λ(n:Nat)=>(n:Int))/\y.Perm l/\y.Pairwise (·<=·):=by
 have e:ns=(ns.map QCK).map λ(n:Nat)=>(n:Int):=by rw[Qc];refine(QCE ns).symm.trans (wF λx v=>?_);obtain⟨n,_,rfl⟩:=QS.mp (h.mem_iff.mp v);rfl
 refine⟨ns.map QCK,e,?_,?_⟩;have:=h.map QCK;rw[Qc]at this;refine this.trans (QCD.of_eq ?_);exact(wF λn _=>rfl).trans (QCE l);rw[e]at u;exact(QBl.mp u).imp λh=>by omega
noncomputable def jH(h:List Evt)(x:LN)(ks:List Pt):LN:=x.filter λn=>!decide (((aC (aA h n)).1,(aC (aA h n)).2)∈ks)
noncomputable def UG:PSp where
 md:=[.xx,.xy,.ky]
 run:=λu Q _=>∃(h:List Evt) (x:LN) (ks:List Pt),u=[.d (.list (h.map zD)),.lst ((x.map nD).map T.d),RK ks]/\x.length<64/\(∀n∈x,n<h.length/\FC (aA h n))/\∀y:LN,y.Perm (jH h x ks)->y.Pairwise (·<=·)->Q (.lst ((y.map nD).map T.d)) []
theorem G9:XF Ψ kF UG kJ cH:=by
 rintro _ Q _ ⟨h,x,ks,rfl,l,a,q⟩;refine fA [bD (.list (h.map zD)),some (.ky (.lst ((x.map nD).map T.d))),some (.ky (RK ks))] ?_;delta kF;simp_arith[↓yA];rw[<- lA nD];refine bA (λn=>T.d (nD n)) (λn=>T.d (nD n)) (λn=>!decide (((aC (aA h n)).1,(aC (aA h n)).2)∈ks)) x [] _ (λn u R v=>?_) (by show 0+x.length<=_;omega) ?_;simp_arith[↓dP (a n u).1,↓rW (a n u).2,↓pW (a n u).2,↓IX];refine⟨by omega,?_⟩;split at v;rename_i c;rw[if_pos c];exact v;rename_i c;rw[if_neg c];exact v;rw[Qj,lA nD];have e:(jH h x ks).map nD=((jH h x ks).map λ(n:Nat)=>(n:Int)).map Jy:=by rw[Qc];rfl
 have fl:=Qk (λn=>!decide (((aC (aA h n)).1,(aC (aA h n)).2)∈ks)) x;show mL .sorted [(.lst (((jH h x ks).map nD).map T.d),true)] _;rw[e];refine Nm (by rw[QA];unfold jH;omega) λf k w=>?_;obtain⟨y,rfl,i,g⟩:=ba k w;have j:(y.map λ(n:Nat)=>(n:Int)).map Jy=y.map nD:=by rw[Qc];rfl
 rw[j];simp_arith[↓yA];exact q y i g
noncomputable def T0(w:Wd)(h:List Pt)(b m:Str):Bool:=!decide ((b,m)∈h)&&(OK w m++MK w m).any λr=>decide ((b,r)∈h)
noncomputable def aL(w:Wd)(h ks:List Pt)(n:Nat):List Pt:=match aA w.es n with
 | .tell _ a b m _ _=>if T0 w h b m=true then xN ks (a,b) else ks|_=>ks
def ZN(w:Wd)(l:LN):List Pt:=l.foldl (aL w (YB w.es l)) []
def V0(w:Wd)(x:Str):Prop:=∃p∈w.ps,p.1=x
noncomputable def Mj(w:Wd):Evt->Prop
 | .see _ p m h=>V0 w p/\m∈w.ms/\OkS h|.tell _ a b m h q=>V0 w a/\V0 w b/\m∈w.ms/\a≠b/\OkS h/\∀x∈q,V0 w x
structure WOk(w:Wd):Prop where
 ag:∀p∈w.ag,OkS p.1/\OkS p.2
 al:w.ag.length<=100
 pl:w.ps.length<=11
 pn:(w.ps.map λp=>p.1).Nodup
 po:∀p∈w.ps,OkS p.1
 ml:w.ms.length<=10
 mo:∀m∈w.ms,OkS m
 mn:w.ms.Nodup
 el:w.es.length<=60
 eo:∀e∈w.es,Mj w e
theorem WOk.ev{w:Wd}(h:WOk w){n:Nat}(x:n<w.es.length):Mj w (aA w.es n):=by unfold aA;rw[Qn x];exact h.eo _ (wH x)
theorem WOk.nm{w:Wd}(h:WOk w){x:Str}(y:V0 w x):OkS x:=by obtain⟨p,u,rfl⟩:=y;exact h.po p u
end
section
variable{Ψ:PEv}{E:XE}{ρ:kA}{M:List (T×Bool)->kA->Prop}{a z:PX}{md:List Md}{d:D}{n m:Bool}{xs:List (T×Bool)}{C:LT->Prop}{R:T->Prop}{t:Int}{x b h y:Str}{q:LS}
theorem xp{ks:List Pt}:R7 (RK ks) false Ψ z E md ρ M=bM Ψ z E md (lockA ρ) λxs _=>M xs ρ:=rfl
theorem O0:DA (.d (zD (.tell t x b h y q))) n (.d (.int 2)) m R=R (.d (.str x)):=GA (i:=2) rfl
theorem N0:DA (.d (zD (.tell t x b h y q))) n (.d (.int 3)) m R=R (.d (.str b)):=GA (i:=3) rfl
theorem L0:DA (.d (zD (.tell t x b h y q))) n (.d (.int 4)) m R=R (.d (.str h)):=GA (i:=4) rfl
end
section
variable{Ψ:PEv}{x:Str}{es:List Pt}{sr:LS}{u:Kn}
noncomputable def aq(w:Wd)(l:LN)(ks:List Pt)(o4 o5:Option Sl):kA:=[bD (wD w),some (.ky (.lst (l.map λn=>T.d (nD n)))),oW (RK (YB w.es l)),oW (RK ks),o4,o5]
noncomputable def FF:PSp where
 md:=[.xx,.xy]
 run:=λh Q _=>∃(w:Wd) (l:LN),h=[.d (wD w),.lst ((l.map nD).map T.d)]/\WOk w/\l.length<=100/\(∀n∈l,n<w.es.length)/\Q (RK (ZN w l)) []
theorem X4(K:Ψ.sp "seen_among"=yL)(W:Ψ.sp "has_against"=iP):XF Ψ xE FF pH HF:=by
 rintro _ Q _ ⟨w,l,rfl,k,hl,X,q⟩;refine fA [bD (wD w),some (.ky (.lst ((l.map nD).map T.d))),none,none,none,none] ?_;delta xE;simp_arith[↓gU,↓uA (md:=[.xx,.xy]) K rfl rfl,↓vC,↓E7];refine⟨_,_,rfl,hl,X,?_⟩;simp_arith[↓yA];rw[<- lA nD];refine sA (λn=>T.d (nD n)) (λr i=>∃h o j,r.foldl (aL w (YB w.es l)) h=ZN w l/\h.length+r.length<=100/\(∀n∈r,n<w.es.length)/\i=aq w l h o j) ?_ ?_ l _ ⟨[],none,none,rfl,by simpa using hl,X,rfl⟩;rintro i ⟨h,o,j,e,_,_,rfl⟩;have e:h=ZN w l:=e;subst e;delta aq;simp_arith[↓yA];exact q;rintro n r i N f ⟨h,o,j,e,hk,z,rfl⟩;have Y:h.length+(r.length+1)<=100:=hk;have s:=z n QD;have v:=k.ev s;have e:r.foldl (aL w (YB w.es l)) (aL w (YB w.es l) h n)=ZN w l:=e;unfold aL at e;delta aq;delta ZF;simp_arith[↓gU,↓dP s,↓YN];cases ev:aA w.es n with|see t p m Z=>rw[ev]at e;refine BJ (show decide ((QW "see")=(QW "tell"))≠true by decide) ?_;exact f _ ⟨h,_,_,e,by omega,λx y=>z x (QC _ y),rfl⟩|tell t a b m Z A=>rw[ev]at e v;obtain⟨C,hb,B,_⟩:=v;simp_arith[o0,↓O0,↓N0,↓L0,↓IX,↓uA (md:=[.xx,.ky]) W rfl rfl,↓vC,↓E7,↓xp];refine⟨by omega,?_⟩;unfold T0 at e;by_cases c:(b,m)∈YB w.es l;simp_arith[dT c];simp only[dT c,Wp,Wa,Qo,if_false]at e;exact f _ ⟨h,_,_,e,by omega,λx y=>z x (QC _ y),rfl⟩;simp_arith[dF c];refine⟨_,_,_,_,_,rfl,⟨Yn _,k.nm hb,k.ag⟩,k.al,?_⟩;simp_arith[↓yA];by_cases g:((OK w m++MK w m).any λr=>decide ((b,r)∈YB w.es l))=true;simp_arith[g];simp only[dF c,g,qZ,wx,if_true]at e;exact⟨by omega,ec (p:=(a,b)) (by omega) (f _ ⟨xN h (a,b),_,_,e,by have:=zU h (a,b);omega,λx y=>z x (QC _ y),rfl⟩)⟩;rw[if_neg g];simp only[dF c,qZ,wx]at e;rw[if_neg g]at e;exact f _ ⟨h,_,_,e,by omega,λx y=>z x (QC _ y),rfl⟩
theorem lX{y:List Pt}(h:∀p∈y,OkS p.1/\OkS p.2){a b:Str}{L:Bool->Prop}(z:OkS a)(hb:OkS b)(q:L (!decide ((a,b)∈y))):rB .NotIn (.d (.tuple [.str a,.str b])) (.d (.list (y.map pr))) L:=JV h a b (λc=>L (!c)) z hb q
def SR(w:Wd)(x:Str):Int:=((gK w x)[0]?).getD 0
def DM(w:Wd)(x:Str):Int:=((zG w x)[0]?).getD 0
theorem L8{w:Wd}(h:V0 w x):(gK w x)[0]?=some (SR w x):=by
 obtain⟨p,z,rfl⟩:=h;have y:p.2.1∈gK w p.1:=QS.mpr ⟨p,QO.mpr ⟨z,dT rfl⟩,rfl⟩;unfold SR;cases e:gK w p.1 with|nil=>rw[e]at y;cases y|cons x r=>rfl
theorem i6{w:Wd}(h:V0 w x):(zG w x)[0]?=some (DM w x):=by
 obtain⟨p,z,rfl⟩:=h;have y:p.2.2.1∈zG w p.1:=QS.mpr ⟨p,QO.mpr ⟨z,dT rfl⟩,rfl⟩;unfold DM;cases e:zG w p.1 with|nil=>rw[e]at y;cases y|cons x r=>rfl
noncomputable def Jq(w:Wd)(wr h:List Pt):Evt->Bool
 | .see _ _ _ _=>true|.tell _ a b m _ _=>decide ((a,m)∈h)&&!decide ((a,b)∈wr)&&decide (DM w b<=SR w a)&&!((OK w m++MK w m).any λr=>decide ((b,r)∈h))
def AH(h:List Pt):Prop:=∀p∈h,OkS p.1/\OkS p.2
noncomputable def BW:PSp where
 md:=[.xx,.xx,.ky,.xx]
 run:=λz Q _=>∃(w:Wd) (e:Evt) (y h:List Pt),z=[.d (wD w),.d (zD e),RK y,.d (.list (h.map pr))]/\WOk w/\Mj w e/\AH h/\Q (.d (.bool (Jq w y h e))) []
theorem Um(Y:Ψ.sp "rank_of"=rP)(X:Ψ.sp "floor_of"=GL)(s:Ψ.sp "has_against"=iP):XF Ψ cF BW rN tK:=by
 rintro _ Q _ ⟨w,e,f,y,rfl,h,o,i,q⟩;refine fA [bD (wD w),bD (zD e),some (.ky (RK f)),bD (.list (y.map pr)),none,none,none] ?_;cases e with|see t p m l=>delta cF;simp_arith[↓YN,o0];exact q|tell t a b m l Z=>obtain⟨j,hb,n,_⟩:=o;delta cF;simp_arith[↓YN,o0];refine BJ (show decide ((QW "tell")=(QW "see"))≠true by decide) ?_;simp_arith[↓O0,↓N0,↓L0,↓Xj];refine⟨by omega,lX i (h.nm j) (h.mo _ n) ?_⟩;have q:Q (.d (.bool (decide ((a,m)∈y)&&!decide ((a,b)∈f)&&decide (DM w b<=SR w a)&&!((OK w m++MK w m).any λr=>decide ((b,r)∈y))))) []:=q;by_cases k:(a,m)∈y;simp_arith[dT k,↓uW];rw[dT k]at q;refine⟨by omega,?_⟩;by_cases v:(a,b)∈f;simp_arith[dT v];rw[dT v]at q;exact q;simp_arith[dF v,↓uA (md:=[]) Y rfl rfl,↓uA (md:=[]) X rfl rfl];rw[dF v]at q;have g:w.ps.length<=90:=QX h.pl (by decide);refine⟨_,_,_,rfl,g,(L8 j),?_⟩;simp_arith[↓yA];refine⟨_,_,_,rfl,g,(i6 hb),?_⟩;simp_arith[↓Ii];by_cases z:DM w b<=SR w a;simp_arith[dT z,↓uA (md:=[.xx,.ky]) s rfl rfl,↓vC,↓E7];rw[dT z]at q;refine⟨_,_,_,_,_,rfl,⟨JV i,h.nm hb,h.ag⟩,h.al,?_⟩;simp_arith[↓yA];exact q;simp_arith[dF z];rw[dF z]at q;exact q;simp_arith[dF k];rw[dF k]at q;exact q
noncomputable abbrev Kn:=List ((List Pt×LS)×LS)
def dZ(u:Kn):List D:=u.map λx=>fE x.1.1 x.1.2
def Nh(u:Kn):LT:=u.map λx=>T.d (.list (x.2.map Jx))
def z0(u:Kn):T:=.dct true (dZ u) (Nh u)
def eN(w:Wd)(u:Kn):Prop:=∀x∈u,∀y,y∈x.2↔Held x.1.1 x.1.2 (UN w) y
theorem cc:∀l:LS,tDs (l.map NK.s)=l.map Jx
 |[]=>rfl|x::l=>by show Jx x::tDs (l.map NK.s)=_;rw[cc l];rfl
theorem fc:∀l:List Pt,tDs (l.map λp=>NK.t [.s p.1,.s p.2])=l.map pr
 |[]=>rfl|x::l=>by show pr x::tDs (l.map λp=>NK.t [.s p.1,.s p.2])=_;rw[fc l];rfl
theorem Fm:∀l:LS,nkds (l.map NK.s)=0
 |[]=>rfl|x::l=>by show max 0 (nkds (l.map NK.s))=0;rw[Fm l];rfl
theorem Gm:∀l:List Pt,nkds (l.map λp=>NK.t [.s p.1,.s p.2])<=1
 |[]=>Q8 _|x::l=>by show max 1 (nkds (l.map λp=>NK.t [.s p.1,.s p.2]))<=1;have:=Gm l;omega
theorem rQ(es:List Pt)(sr:LS):FD true (fE es sr):=by refine⟨[.t (sr.map NK.s),.t (es.map λp=>NK.t [.s p.1,.s p.2])],?_,?_⟩;show _=PyData.tuple [.tuple (tDs (sr.map NK.s)),.tuple (tDs (es.map λp=>NK.t [.s p.1,.s p.2]))];rw[cc,fc];rfl;show max (nkds (sr.map NK.s)+1) (max (nkds (es.map λp=>NK.t [.s p.1,.s p.2])+1) 0)+1<=6;rw[Fm];have:=Gm es;omega
theorem u8{v:List Pt}{z:LS}(h:fE es sr=fE v z):es=v/\sr=z:=by injection h with h;injection h with h1 h2;injection h2 with h2 _;injection h1 with h1;injection h2 with h2;refine⟨(WQ λx y e=>?_).mp h2,(WQ λx y e=>?_).mp h1⟩;injection e with e;injection e with e1 e2;injection e2 with e2 _;injection e1 with e1;injection e2 with e2;exact QCG e1 e2;injection e
theorem Mh{v:LS}{Q:T->Prop}(hl:u.length<sizeLine)(h:dA (dZ u) (fE es sr)=none)(q:Q (z0 (u++[((es,sr),v)]))):J8 (z0 u) (.d (fE es sr)) (.lst ((v.map Jx).map T.d)) Q:=by refine⟨rQ es sr,by unfold dZ;rw[QA];exact hl,?_⟩;show Q (ZH true (dZ u) (Nh u) (fE es sr) (.d (.list (ersT ((v.map Jx).map T.d)))));unfold ZH;rw[h,IA];unfold z0 dZ Nh at q;rw[QJ,QJ]at q;exact q
theorem td{k:Nat}(h:dA (dZ u) (fE es sr)=some k):∃v,((es,sr),v)∈u/\(Nh u)[k]?=some (T.d (.list (v.map Jx))):=by
 have e:=PC h;unfold dZ at e;unfold Nh;rw[Qe]at e ⊢;cases z:u[k]? with|none=>rw[z]at e;cases e|some x=>rw[z]at e;obtain⟨w,y⟩:=u8 (Qv e);obtain⟨⟨a,b⟩,v⟩:=x;cases w;cases y;exact⟨v,qT z,rfl⟩
end
section
variable{Ψ:PEv}{E:XE}{ρ:kA}{K:TK}{M:List (T×Bool)->kA->Prop}{a b c i g:PX}{md:List Md}{m:Bool}{f:Kn}{es:List Pt}{sr:LS}{L:Bool->Prop}{R:T->Prop}
section
variable{u:List (Str×LS)}{w:Str}
theorem Nb:rB .NotIn (.d (.tuple [.tuple (sr.map Jx),.tuple (es.map pr)])) (z0 f) L=L (!(dA (dZ f) (fE es sr)).isSome):=by unfold z0;rw[HJ];exact propext ⟨λh=>h.2,λh=>⟨rQ es sr,h⟩⟩
theorem gq{v:LS}{k:Nat}(h:dA (dZ f) (fE es sr)=some k)(hv:(Nh f)[k]?=some (T.d (.list (v.map Jx))))(q:R (.d (.list (v.map Jx)))):DA (z0 f) false (.d (.tuple [.tuple (sr.map Jx),.tuple (es.map pr)])) m R:=.inr ⟨true,_,_,k,_,rfl,rQ es sr,h,hv,q⟩
theorem cw:P7 (z0 f) false Ψ b E ρ K=pB Ψ b E (lockA ρ) λy m _=>K y m ρ:=rfl
noncomputable def pZ(u:List (Str×LS)):T:=.dct false (u.map λx=>.str x.1) (u.map λx=>T.d (.list (x.2.map Jx)))
theorem Fn{v:LS}{Q:T->Prop}(hl:u.length<sizeLine)(h:w∉u.map λx=>x.1)(q:Q (pZ (u++[(w,v)]))):J8 (pZ u) (.d (.str w)) (.d (.list (v.map Jx))) Q:=by refine⟨⟨w,rfl⟩,by rw[QA];exact hl,?_⟩;show Q (ZH false (u.map λx=>.str x.1) (u.map λx=>T.d (.list (x.2.map Jx))) (.str w) (.d (.list (v.map Jx))));unfold ZH;rw[FA.mpr λz=>h (by obtain⟨x,y,e⟩:=QS.mp z;injection e with e;exact QS.mpr ⟨x,y,e⟩)];unfold pZ at q;rw[QJ,QJ]at q;exact q
theorem Gn(h:w∈u.map λx=>x.1)(q:∀v,(w,v)∈u->R (.d (.list (v.map Jx)))):DA (pZ u) false (.d (.str w)) m R:=by
 cases e:dA (u.map λx=>Jx x.1) (.str w) with
 |none=>obtain⟨x,l,j⟩:=QS.mp h;exact absurd (QS.mpr ⟨x,l,congrArg Jx j⟩) (FA.mp e)|some k =>
  have j:=PC e;rw[Qe]at j;cases z:u[k]? with|none=>rw[z]at j;cases j|some x=>rw[z]at j;have j:Jx x.1=.str w:=Qv j;injection j with j;obtain⟨y,v⟩:=x;cases j;exact .inr ⟨false,_,_,k,T.d (.list (v.map Jx)),rfl,⟨_,rfl⟩,e,by rw[Qe,z];rfl,q v (qT z)⟩
theorem fw:P7 (pZ u) false Ψ b E ρ K=pB Ψ b E (lockA ρ) λy m _=>K y m ρ:=rfl
theorem Fo{v:Bool}{mk:List Bool}{t:Str}{x:T}{z:CmpOp}{R:Option T->Prop}:HI Ψ E (v::mk) [t] (.nm 0) (.cmp z a c) g ρ x R=dR Ψ (.cmp z a c) E (some (.ky x)::ZC (v::mk) (lockA ρ)) λk h=>if k=true then pB Ψ g E h λy n _=>RC y n (R (some y)) else R none:=rfl
end
end
theorem Pa{c a b:Prop}[Decidable c](h:c)(q:a):if c then a else b:=by rw[if_pos h];exact q
def ZG(w:Wd)(l h:LN)(m x:Str):Prop:=Held (uG w.es h m) (DF w (YB w.es l) m) (UN w) x
open Classical in
def gk(w:Wd)(l h:LN)(x m:Str):Bool:=decide (ZG w l h m x)
open Classical in
section
variable{Ψ:PEv}{Z:PEnds}{w:Wd}{l u:LN}{f:Kn}{g:List (Str×LS)}{m:Str}{o8 i o7:Option Sl}
theorem XX(w:Wd)(l u:LN)(x m:Str):gk w l u x m=true↔ZG w l u m x:=by unfold gk;exact decide_eq_true_iff
noncomputable def tZ(w:Wd)(l u:LN)(x:Str):List Pt:=(w.ms.filter (gk w l u x)).map λm=>(x,m)
def YF(w:Wd)(l u:LN):List Pt:=w.ps.flatMap λp=>tZ w l u p.1
def SZ(w:Wd)(u:LN):Prop:=u.length<=100/\∀n∈u,n<w.es.length/\FC (aA w.es n)
noncomputable def Cu(Q:T->LT->Prop):PEnds:={ nx:=λh=>LU (CA [3] h) (Q (.d .none)),rt:=λt h=>LU (CA [3] h) (Q t) }
noncomputable def sZ(w:Wd)(l u:LN)(f:Kn)(g:List (Str×LS))(o6 o7 o8 i:Option Sl):kA:=[bD (wD w),some (.ky (.lst ((l.map nD).map T.d))),bD (.list (u.map nD)),oW (z0 f),oW (RK (YB w.es l)),oW (pZ g),o6,o7,o8,i]
noncomputable def b8(w:Wd)(l u:LN)(m:Str):T:=.d (fE (uG w.es u m) (DF w (YB w.es l) m))
theorem Zd{k:Nat}{v:LS}(hl:g.length<sizeLine)(y:m∉g.map λx=>x.1)(h:dA (dZ f) (fE (uG w.es u m) (DF w (YB w.es l) m))=some k)(hv:(Nh f)[k]?=some (T.d (.list (v.map Jx))))(q:Z.nx (sZ w l u f (g++[(m,v)]) (bD (.str m)) (some (.ky (b8 w l u m))) o8 i)):pF Ψ jD Z (sZ w l u f g (bD (.str m)) (some (.ky (b8 w l u m))) o8 i):=by delta sZ b8 fE;delta jD;simp_arith[↓cw];refine gq h hv ?_;simp_arith[↓yA];exact Fn hl y q
theorem jg(w:Wd)(ks:List Pt)(m:Str):(DF w ks m).length<=w.ps.length:=by unfold DF;rw[QA];exact Qk _ _
theorem Vi(h:List Evt)(u:LN)(m:Str):(uG h u m).length<=u.length:=by unfold uG;rw[QA];exact Qk _ _
theorem Bf(h:WOk w)(hv:SZ w u)(m:Str):xK (uG w.es u m) (DF w (YB w.es l) m):=by constructor;intro s z;obtain⟨p,v,rfl⟩:=QS.mp z;exact h.po p (QO.mp v).1;intro e k;obtain⟨n,y,rfl⟩:=QS.mp k;have y:=(QO.mp y).1;obtain⟨a,t,x,b,o,j,q,e⟩:=hv.2 n y;have:=h.ev a;rw[e]at this ⊢;exact⟨h.nm this.1,h.nm this.2.1⟩
theorem Rr(F:Ψ.sp "seers_of"=pP)(E:Ψ.sp "edges_of"=eP)(r:Ψ.sp "holders_in"=zL)(b:WOk w)(hv:SZ w u)(hk:eN w f)(C:f.length<=20000)(hl:g.length<1000)(p:m∉g.map λx=>x.1)(q:∀h v,eN w h->h.length<=f.length+1->(∀y,y∈v↔ZG w l u m y)->Z.nx (sZ w l u h (g++[(m,v)]) (bD (.str m)) (some (.ky (b8 w l u m))) o8 i)):pF Ψ UD Z (sZ w l u f g (bD (.str m)) o7 o8 i):=by
 have L:=b.pl;have J:=jg w (YB w.es l) m;have I:=Vi w.es u m;have G:=hv.1;delta sZ;delta UD;simp_arith[↓gU,↓uA (md:=[.xx,.ky]) F rfl rfl,↓uA (md:=[]) E rfl rfl,↓uA (md:=[]) r rfl rfl,↓vC,↓E7,↓xp];refine⟨_,_,_,rfl,by omega,?_⟩;simp_arith[↓yA];refine⟨_,_,_,rfl,hv.1,hv.2,?_⟩;simp_arith[↓Nb];refine⟨by omega,?_⟩;cases e:dA (dZ f) (fE (uG w.es u m) (DF w (YB w.es l) m)) with
 |some k=>obtain⟨v,X,s⟩:=td e;refine BJ (λz=>by cases z) ?_;exact Zd (by omega) p e s (q f v hk (by omega) (hk _ X))|none =>
  refine Pa rfl ?_;simp_arith[↓uA (md:=[]) r rfl rfl];refine⟨_,_,_,rfl,⟨by omega,by omega,Bf b hv m,by omega,b.pn⟩,λv j B=>?_⟩;simp_arith[↓yA];refine Mh (by omega) e ?_;have A:dA (dZ (f++[((uG w.es u m,DF w (YB w.es l) m),v)])) (fE (uG w.es u m) (DF w (YB w.es l) m))≠none:=λz=>FA.mp z (QS.mpr ⟨_,QU _ (QI.mpr rfl),rfl⟩);have o:eN w (f++[((uG w.es u m,DF w (YB w.es l) m),v)]):=λx a=>by rcases QT.mp a with a|a;exact hk x a;rw[QI.mp a];exact j
  cases n:dA (dZ (f++[((uG w.es u m,DF w (YB w.es l) m),v)])) (fE (uG w.es u m) (DF w (YB w.es l) m)) with|none=>exact absurd n A|some k=>obtain⟨Y,K,W⟩:=td n;exact Zd (by omega) p n W (q _ Y o (by rw[QH];exact Qa _) (o _ K))
theorem MZ{b:PT}{p:PSp}{N x:LS}{ds:LT}{Q:T->LT->Prop}(ρ:kA)(h:pF Ψ b (Cu Q) ρ)(hl:ds.length=x.length:=by rfl)(hc:BB 0 p.md x.length=[3]:=by rfl)(y:bB N p.md ds=ρ:=by rfl):ds.length=x.length/\pF Ψ b (vD p x.length Q) (bB N p.md ds):=by
 have e:vD p x.length Q=Cu Q:=by unfold vD;rw[hc];rfl
 rw[e,y];exact⟨hl,h⟩
noncomputable def GD:PSp where
 md:=[.xx,.xy,.xx,.chg]
 run:=λx Q _=>∃(w:Wd) (l u:LN) (f:Kn),x=[.d (wD w),.lst ((l.map nD).map T.d),.d (.list (u.map nD)),z0 f]/\(WOk w/\l.length<=100/\∀n∈l,n<w.es.length)/\SZ w u/\(eN w f/\f.length<=10000)/\∀h,eN w h->h.length<=f.length+10->Q (.lst (((YF w l u).map pr).map T.d)) [z0 h]
theorem VX(h:WOk w)(l u:LN)(x:Str):(tZ w l u x).length<=10:=by unfold tZ;rw[QA];exact QX (Qk _ _) h.ml
theorem Pr{h:List Pt}{o6:Option Sl}{p:Str×Int×Int×Int}(k:WOk w)(n:g.map (λx=>x.1)=w.ms)(j:∀x∈g,∀y,y∈x.2↔ZG w l u x.1 y)(hl:h.length<=1000)(q:Z.nx (sZ w l u f g o6 o7 (oW (.lst (((h++tZ w l u p.1).map pr).map T.d))) (bD (xD p)))):pF Ψ VD Z (sZ w l u f g o6 o7 (oW (.lst ((h.map pr).map T.d))) (bD (xD p))):=by
 have o:=k.ml;have a:=VX k l u p.1;delta sZ;delta VD;simp_arith[↓G0];rw[<- lA Jx];refine bA (λm=>T.d (.str m)) (λm=>T.d (pr (p.1,m))) (gk w l u p.1) w.ms [] _ (λm b R z=>?_) (by show 0+w.ms.length<=_;omega) ?_;simp_arith[↓Fo,↓gJ,↓fw];refine Gn (n▸b) λv hv=>?_;have e:decide (p.1∈v)=gk w l u p.1 m:=by rw[Q7,decide_eq_true_iff];exact(j _ hv p.1).trans (XX w l u p.1 m).symm
 simp_arith[cC,ZB,EA,true_or,e];split at z;rename_i c;rw[if_pos c];exact⟨by omega,z⟩;rename_i c;rw[if_neg c];exact z;rw[Qj,lA λm=>pr (p.1,m)];have e:((w.ms.filter (gk w l u p.1)).map λm=>pr (p.1,m))=(tZ w l u p.1).map pr:=by unfold tZ;rw[Qc];rfl
 rw[e,<- QJ,<- QJ];exact⟨by rw[QA,QA,QA,QA];omega,q⟩
theorem M9(L:Ψ.sp "seen_among"=yL)(J:Ψ.sp "seers_of"=pP)(I:Ψ.sp "edges_of"=eP)(G:Ψ.sp "holders_in"=zL):XF Ψ gF GD xJ fH:=by
 rintro _ Q _ ⟨w,l,u,f,rfl,⟨n,hl,E⟩,hv,⟨hk,F⟩,q⟩;have R:=n.ml;have P:=n.pl;refine MZ [bD (wD w),some (.ky (.lst ((l.map nD).map T.d))),bD (.list (u.map nD)),oW (z0 f),none,none,none,none,none,none] ?_;delta gF;simp_arith[↓gU,↓G0,↓uA (md:=[.xx,.xy]) L rfl rfl,↓vC,↓E7];refine⟨_,_,rfl,hl,E,?_⟩;simp_arith[↓G0];rw[<- lA Jx];refine sA (λm=>T.d (.str m)) (λr b=>∃h g a o7,g.map (λx=>x.1)++r=w.ms/\(eN w h/\h.length+r.length<=f.length+w.ms.length)/\(∀x∈g,∀y,y∈x.2↔ZG w l u x.1 y)/\b=sZ w l u h g a o7 none none) ?_ ?_ w.ms _ ⟨f,[],none,none,rfl,⟨hk,Qa _⟩,(λx j=>by cases j),rfl⟩;rintro b ⟨h,g,a,o7,e,⟨Y,o⟩,K,rfl⟩;have e:g.map (λx=>x.1)=w.ms:=by rw[<- e,Qu]
 have o:h.length<=f.length+w.ms.length:=o;delta sZ;simp_arith[↓mR];rw[<- lA xD];refine⟨by omega,?_⟩;refine sA (λp=>T.d (xD p)) (λr b=>∃k a o7 i,k++r.flatMap (λp=>tZ w l u p.1)=YF w l u/\k.length+10 * r.length<=200/\b=sZ w l u h g a o7 (oW (.lst ((k.map pr).map T.d))) i) ?_ ?_ w.ps _ ⟨[],_,_,none,rfl,by show 0+10 * w.ps.length<=200;omega,rfl⟩;rintro b ⟨k,a,o7,i,s,_,rfl⟩;have s:k=YF w l u:=by rw[<- s];exact(Qu k).symm
 subst s;delta sZ;simp_arith[↓yA];exact q h Y (by omega);rintro p r b N W ⟨k,a,o7,i,s,A,rfl⟩;have A:k.length+10 * (r.length+1)<=200:=A;have B:=VX n l u p.1;refine Pr n e K (by omega) (W _ ⟨k++tZ w l u p.1,a,o7,_,?_,by rw[QH];omega,rfl⟩);rw[Qw];exact s;rintro m r b N W ⟨h,g,a,o7,e,⟨Y,o⟩,K,rfl⟩;have o:h.length+(r.length+1)<=f.length+w.ms.length:=o;have C:g.length+(r.length+1)=w.ms.length:=by rw[<- e,QH,QA];rfl
 have nd:=n.mn;rw[<- e]at nd;refine Rr J I G n hv Y (by omega) (by omega) (λz=>(qH.mp nd).2.2 m z m QD rfl) λX v O S M=>W _ ⟨X,g++[(m,v)],_,_,?_,⟨O,by omega⟩,?_,rfl⟩;rw[QJ,Qw];exact e;intro x j;rcases QT.mp j with j|j;exact K x j;rw[QI.mp j];exact M
end
end L2.L3.K33
namespace L2.L3
open PySem PySem.Spec PyProof.Rows PySem.W PySem.SeqAt
def CD(h:Heap)(v:Value)(p:Int×Int):Prop:=∃a o n t u,v=.ref a/\h.get? a=some o/\o.cls=.type "tuple"/\o.data=.seq (qI [Value.int p.1 t,Value.int p.2 u]) n
theorem CD.keep{h h':Heap}{v:Value}{x:Int×Int}{c:Addr}{u:Obj}(e:h.get? c=some u)(hc:u.cls≠.type "tuple")(k:∀b o,b≠c->h.get? b=some o->h'.get? b=some o)(t:CD h v x):CD h' v x:=by obtain⟨a,o,n,t,r,f,y,w,d⟩:=t;exact⟨a,o,n,t,r,f,k _ _ (λz=>by rw[z,e]at y;cases y;exact hc w) y,w,d⟩
section
variable{prog:Program}{w:World}{A:Around}{E:YC}{s:Shared}
section
variable{vs:LW}{r f:Addr}{a b c:Int}{t u v:Tok}{n:Nat}{kz:List (Int×Int)}
theorem Xh{v u:Value}{x y:Int×Int}{Q:Bool->Shared->Prop}(hv:CD s.heap v x)(z:CD s.heap u y)(q:Q (decide (x.1<y.1∨x.1=y.1/\x.2<y.2)) s):wpAny (model prog w) A (keyLt' (tuples' true) v u) Q E s:=by obtain⟨a,o,n,t,r,rfl,g,_,j⟩:=hv;obtain⟨b,p,X,l,m,rfl,k,_,i⟩:=z;refine kat_lt g j k i (kat_cons (QAe ?_));by_cases e:x.1=y.1;rw[e,beq_self_eq_true];refine kat_yes (kat_cons (QAe ?_));by_cases h:x.2=y.2;rw[h,beq_self_eq_true];refine kat_yes (kat_nil ?_);rw[show decide (x.1<y.1∨x.1=y.1/\x.2<y.2)=false from dF (by omega)]at q;exact q;rw[beq_false_of_ne h];refine kat_no (kat_one _ _ (PyProof.Rows.lt_int ?_));rw[show decide (x.1<y.1∨x.1=y.1/\x.2<y.2)=decide (x.2<y.2) from decide_eq_decide.mpr (by omega)]at q;exact q;rw[beq_false_of_ne e];refine kat_no (oneLt_int ?_);rw[show decide (x.1<y.1∨x.1=y.1/\x.2<y.2)=decide (x.1<y.1) from decide_eq_decide.mpr (by omega)]at q;exact q
theorem N5{ns:List (Int×Int)}{Q:SortKind->Shared->Prop}(l:Paired (CD s.heap) vs ns)(K:2<=vs.length)(q:Q (tuples' true) s):wpAny (model prog w) A (keyKind' vs.toArray) Q E s:=by
 have key:∀{vs:LW}{ns:List (Int×Int)},Paired (CD s.heap) vs ns->∃fs,KatTups s.heap vs fs/\fs.length=vs.length/\∀f∈fs,∃x t,f=.int x t:=by
  intro vs ns h;induction h with
  |nil=>exact⟨[],.nil,rfl,λ_ z=>(nomatch z)⟩
  |@cons v x Z Y h _ e=>obtain⟨fs,j,i,g⟩:=e;obtain⟨a,o,n,t,r,rfl,p,hc,X⟩:=h;refine⟨.int x.1 t::fs,.cons (f:=.int x.1 t) p hc X (by simp) j,by rw[QL,QL,i],λf m=>?_⟩;rcases QM.mp m with rfl|z;exact⟨_,_,rfl⟩;exact g f z
 obtain⟨fs,k,W,y⟩:=key l;exact kat_kind (T:=.type "int") k (by omega) (λv hv=>by obtain⟨x,t,rfl⟩:=y v hv;exact .of_pure rfl) (by decide) q
theorem VH{α x:Type}{R:α->x->Prop}{d:α}{e:x}:∀{l:List α}{m:List x},Paired R l m->∀i,i<l.length->R (l.getD i d) (m.getD i e)
 |_,_,.nil,i,h=>absurd h (Nat.not_lt_zero _)|_,_,.cons r _,0,_=>r|_,_,.cons _ t,i+1,h=>VH t i (wg h)
theorem JK{α x:Type}{R:α->x->Prop}:∀{l z:List α}{m y:List x},Paired R l m->Paired R z y->Paired R (l++z) (m++y)
 |_,_,_,_,.nil,h=>h|_,_,_,_,.cons r t,h=>.cons r (JK t h)
theorem NN{Q:LW->Shared->Prop}(Y:A.handled=none)(q:IsRange s.heap r a b c t u v)(x:QBH a b c=true)
  (X:WG a b c=n) (z:n<=2 ^ 24)
  (h:∀h' g y,(∀b o,s.heap.get? b=some o->h'.get? b=some o)->s.heap.objs.size<h'.objs.size->ItemsOf (λi v=>∃t,v=.int (a+i * c) t) y n->Q y.toList { s with heap:=h',toks:=g }) :
  wpAny (model prog w) A (collect (.ref r)) Q E s:=by
 unfold collect;refine QF (wpAny_runValue (Ww F.entry_proto_collect ?_));rw[w6 F.plain_proto_collect _];show wpAny _ A.in1 (newList [] >>= λl=>again (.builtin "list.__iadd__" ⟨[l,.ref r],[]⟩)) _ _ s;refine QF (qL ?_);refine QN ⟨QBY QBm _,Ww F.entry_list_iadd ?_⟩;rw[w6 QBm _];have Z:(s.heap.push { cls:=.type "list",data:=.seq ([]:LW).toArray }).get? s.heap.objs.size=some { cls:=.type "list",data:=.seq #[] }:=QZ _ rfl;show wpAny _ A.in1 (Builtin.List.listExtendWith (.ref s.heap.objs.size) (.ref r) (.ref s.heap.objs.size)) _ _ _;refine wpAny_extend_range (R:=λr j=>match r with | .ok (.ret v)=>wpAny (model prog w) A (match v with | .ref a=>(do let o <- load a;match o.data with | .seq m _=>pure m.toList|_=>unsupported "internal:collect")|_=>unsupported "internal:collect") Q E j | .ok _=>False | .error e=>E e j) (s:={ s with heap:=s.heap.push { cls:=.type "list",data:=.seq ([]:LW).toArray } }) Y (QK _ q) x X z _ _ _ Z λh' g y W p k it=>?_;show wpAny _ A (load s.heap.objs.size >>= _) _ _ _;refine QF (wpAny_load k ?_);exact QN (h h' g y (λb o e=>p b o (Qm (Qb e)) (QK _ e)) (Qb k) it)
theorem Bh{a:Addr}{P:PySem.Fin->Shared->Prop}(ho:s.heap.get? a=some (seqObj "list" vs.toArray n))(h64:vs.length<64)(hl:kz.length=vs.length)
  (hf:∀(h:Heap) (g:Nat),(∀b o,b≠a->s.heap.get? b=some o->h.get? b=some o)->∀(i:Nat) (x:Value) (p:Int×Int),vs[i]?=some x->kz[i]?=some p->∀C:Value->Shared->Prop,
   (∀W m k,(∀b o,h.get? b=some o->W.get? b=some o)->CD W k p->C k { s with heap:=W,toks:=m })->wpAny (model prog w) A (call (.ref f) [x]) C (λ_ _=>False) { s with heap:=h,toks:=g })
  (k:∀(p:Array Nat) (h':Heap) (g c:Nat),Pm vs.length p->True->(∀b o,b≠a->s.heap.get? b=some o->h'.get? b=some o)->h'.get? a=some (seqObj "list" (p.toList.map λi=>vs.getD i Jz).toArray c)->P (.done (.ret .none)) { s with heap:=h',toks:=g }) :
  wpAny (model prog w) A (ksk_tree a (.ref f) false) P E s:=by
 have ha:a<s.heap.objs.size:=Qb ho;have s1:=Q9 s.heap a (qA λ_=>(#[]:Array Value));obtain⟨G,ho1⟩:∃G,(s.heap.update a (qA λ_=>(#[]:Array Value))).get? a=some (seqObj "list" #[] G):=⟨_,Wz ho λ_=>#[]⟩
 generalize hH:((s.heap.update a (qA λ_=>(#[]:Array Value))).push (seqObj "tuple" vs.toArray 0))=hT;have S:hT.objs.size=s.heap.objs.size+1:=by rw[<- hH,size_push',QB3]
 have kS0:(hT.push (seqObj "list" #[] 0)).get? hT.objs.size=some (seqObj "list" #[] 0):=QZ _ rfl;have a0:(hT.push (seqObj "list" #[] 0)).get? a=some (seqObj "list" #[] G):=QK _ (by rw[<- hH];exact QK _ ho1);have kp0:∀b o,b≠a->s.heap.get? b=some o->(hT.push (seqObj "list" #[] 0)).get? b=some o:=λb o hb e=>QK _ (by rw[<- hH];exact QK _ ((s1.2 b hb).trans e));have naK:a≠hT.objs.size:=by rw[S];exact Qm (wz ha)
 unfold ksk_tree;refine QF (QBr ho rfl (QF (WK ho rfl ?_ (by rw[QR];omega) (Q8 _))));refine QF (QBG ho1 rfl (QF (QA9 ?_ (by show vs.length<=_;omega))));refine QF (QAX (qy ?_) (Q8 _));rw[hH];generalize hK:hT.objs.size=kS at *;have fin:∀(y:LW) (e:Nat) (h:Heap) (g:Nat) (st:SortSt) (p:Array Nat),y.length=vs.length->h.get? kS=some (seqObj "list" (qI y) e)->h.get? a=some (seqObj "list" #[] G)->(∀b o,b≠a->s.heap.get? b=some o->h.get? b=some o)->Pm vs.length p->True ->
   (arrOf st).map (·.2)=qI (p.toList.map λi=>vs.getD i Jz)->failedOf st=none->wpAny (model prog w) A (ksk_tail a false G (.ref kS) st) P E { s with heap:=h,toks:=g }:=by
  intro y e h g st p Z hk l I pm H hout N;have t1:=Q9 h kS (qA λ_=>(#[]:Array Value));have R:=(t1.2 a naK).trans l;have t2:=Q9 (h.update kS (qA λ_=>(#[]:Array Value))) a (qA λ_=>qI (p.toList.map λi=>vs.getD i Jz));have hps:(p.toList.map λi=>vs.getD i Jz).length=vs.length:=by rw[QA,(qR.mp pm).length_eq];simp
  unfold ksk_tail;dsimp only;rw[hout];refine QF (WK hk rfl ?_ (by rw[QR,Q0];omega) (Q8 _));refine QF (wpAny_letGo (QF (QBG R rfl (QF (WK R rfl ?_ (Q8 _) (by simp only[Qo,if_false];rw[QR,Q0];omega))))));rw[N];simp only[bne_self_eq_false,Qo,if_false];refine QN (k p _ g _ pm H (λb o hb e=>?_) (Wz R λ_=>qI (p.toList.map λi=>vs.getD i Jz)));have O:b≠kS:=λz=>by have:=Qb e;rw[z,S]at this;exact absurd this (Nat.not_lt.mpr (wC _))
  exact(t2.2 b hb).trans ((t1.2 b O).trans (I b o hb e))
 have L:∀(y:LW) (e:Nat) (h:Heap) (g:Nat),Paired (CD h) y kz->h.get? kS=some (seqObj "list" (qI y) e)->h.get? a=some (seqObj "list" #[] G)->(∀b o,b≠a->s.heap.get? b=some o->h.get? b=some o) ->
   wpAny (model prog w) A (ksk_end a false vs.toArray G (.ref kS) (qI y)) P E { s with heap:=h,toks:=g }:=by
  intro y e h g Y hk l I;have Z:y.length=vs.length:=(qK Y).trans hl;unfold ksk_end;dsimp only;simp only[Qo,if_false];by_cases h2:vs.length<2;have F:vs.toArray.size<2:=by rw[QR];exact h2
  rw[if_pos F,if_pos F];refine QF (QN ?_);rw[QCC];refine QF (QN ?_);refine fin y e h g _ (qI (Qr vs.length)) Z hk l I (QCB _) trivial ?_ rfl;show((qI y).zip vs.toArray).map (·.2)=_;rw[oO];apply w8.mp;simp[w9,Z];have F:¬ vs.toArray.size<2:=by rw[QR];exact h2
  rw[if_neg F,if_neg F];refine QF (N5 (s:={ s with heap:=h,toks:=g }) Y (by omega) ?_);have tree:(kas_sort vs.length).kasWp (kas_ask prog w A (tuples' true) y) (λp K=>K={ s with heap:=h,toks:=g }/\Pm vs.length p/\True) { s with heap:=h,toks:=g } :=
   AC.wp (λi j hi hj C hC=>Xh (s:={ s with heap:=h,toks:=g }) (VH (e:=(0,0)) Y i (by omega)) (VH (e:=(0,0)) Y j (by omega)) (hC _)) (λp Y=>⟨rfl,Y,trivial⟩) (jU (by omega))
  refine QF (qq (kat_run (Q:=λB K=>∃p:Array Nat,arrOf B=p.map (kas_item ((qI y).zip vs.toArray))/\failedOf B=none/\K={ s with heap:=h,toks:=g }/\Pm vs.length p/\True) Z (by omega) h64 (λp B K _ a2 a3 a4=>⟨p,a2,a3,a4⟩) tree) ?_ λ_ _ x=>x);rintro⟨⟨⟩,B⟩ K ⟨p,har,N,rfl,pm,H⟩;exact fin y e h g B p Z hk l I pm H (kat_snds Z har) N
 unfold ksk_rest;refine QF (QBg ?_);rw[List.forIn_toArray];refine QF (ksk_fold (λj K=>∃(y:LW) (e:Nat) (h:Heap) (g:Nat),K={ s with heap:=h,toks:=g }/\Paired (CD h) y (kz.take j)/\h.get? kS=some (seqObj "list" (qI y) e)/\h.get? a=some (seqObj "list" #[] G)/\(∀b o,b≠a->s.heap.get? b=some o->h.get? b=some o)/\j<=vs.length) vs 0 _ ⟨[],0,_,s.toks,rfl,.nil,kS0,a0,kp0,Q8 _⟩ (λj x K hx hI=>?_) λK hI=>?_);obtain⟨y,e,h,g,rfl,Y,hk,l,I,jl⟩:=hI;rw[Wc]at Y jl ⊢;have jv:j<vs.length:=(Qh.mp hx).1;have hkl:y.length=j:=by rw[qK Y,wb];omega
 have hzj:kz[j]?=some (kz[j]'(by omega)):=Qn _;refine QF (Wr (qq (hf h g I j x _ hx hzj (λJ K=>∃W m,K={ s with heap:=W,toks:=m }/\(∀b o,h.get? b=some o->W.get? b=some o)/\CD W J (kz[j]'(by omega))) λW m J X ka=>⟨W,m,rfl,X,ka⟩) (λJ K hc=>?_) λ_ _ z=>z.elim));obtain⟨W,m,rfl,X,ka⟩:=hc;have ea:(qI y).push J=qI (y++[J]):=by simp
 have s5:=Q9 W kS (qA (·.push J));have M:=X _ _ hk;dsimp only;refine QF (WK M rfl ?_ (by rw[QR,Q0];omega) (QX (wq (Array.size_push ..)) (by rw[QR,Q0];omega)));refine QN ⟨rfl,y++[J],_,_,m,rfl,?_,by rw[<- ea];exact Wz M (·.push J),(s5.2 a naK).trans (X _ _ l),λb o hb q=>?_,jv⟩;have H:∀{v:Value}{x:Int×Int},CD W v x->CD (W.update kS (qA (·.push J))) v x:=λt=>t.keep M (by show Value.type "list"≠Value.type "tuple";decide) λb o hb q=>(s5.2 b hb).trans q;rw[List.take_succ,hzj];exact JK (L2.Paired.mapP Y λ_ _ ⟨a1,o1,n1,t1,r1,G,g1,c1,d1⟩=>H ⟨a1,o1,n1,t1,r1,G,X _ _ g1,c1,d1⟩) (.cons (H ka) .nil);have O:b≠kS:=λz=>by have:=Qb q;rw[z,S]at this;exact absurd this (Nat.not_lt.mpr (wC _))
 exact(s5.2 b O).trans (X _ _ (I b o hb q));obtain⟨y,e,h,g,rfl,Y,hk,l,I,_⟩:=hI;rw[Wc,<- hl,List.take_length]at Y;exact QF (QBr hk rfl (L y e h g Y hk l I))
theorem V8{Q:YC}(S:A.handled=none)(N:IsRange s.heap r a b c t u v)(y:QBH a b c=true)
  (R:WG a b c=n) (h64:n<64) (hl:kz.length=n)
  (H:∀(Y:Heap) (z:Nat),(∀b o,s.heap.get? b=some o->Y.get? b=some o)->∀(i:Nat) (Z:Tok) (p:Int×Int),kz[i]?=some p->∀C:Value->Shared->Prop,
   (∀I W k,(∀b o,Y.get? b=some o->I.get? b=some o)->CD I k p->C k { s with heap:=I,toks:=W })->wpAny (model prog w) A.in1.in1 (call (.ref f) [Value.int (a+i * c) Z]) C (λ_ _=>False) { s with heap:=Y,toks:=z })
  (k:∀(p:Array Nat) (vs:LW) (D:Addr) (h':Heap) (z e:Nat),Pm n p->True->(∀b o,s.heap.get? b=some o->h'.get? b=some o)->s.heap.objs.size<=D->vs.length=n->(∀(i:Nat) x,vs[i]?=some x->∃t,x=Value.int (a+i * c) t) ->
   h'.get? D=some (seqObj "list" (p.toList.map λi=>vs.getD i Jz).toArray e)->Q (.ref D) { s with heap:=h',toks:=z }) :
  wpAny (model prog w) A (call (.builtin "sorted") [.ref r] [(QW "key",.ref f)]) Q E s:=by
 refine call_function_entry_kw kind_sorted plain_sorted entry_sorted (ksk_s1 _ _) ?_;unfold Builtin.«sorted»;refine QF (m:=checkCount "sorted" 1 1 _) (QN ?_);refine QF (NN S N y R (by omega) λg K h l G it=>?_);have L:h.toList.length=n:=by rw[Q1];exact it.1
 refine QF (QAX ?_ (by rw[Q0];omega));have X:(g.push (seqObj "list" h.toList.toArray 0)).get? g.objs.size=some (seqObj "list" h.toList.toArray 0):=QZ _ rfl;have j:∀b o,s.heap.get? b=some o->(g.push (seqObj "list" h.toList.toArray 0)).get? b=some o:=λb o q=>QK _ (l b o q);refine QF (qy (wpAny_call_entry_kw slot_list_sort ⟨_,X,rfl⟩ entry_list_sort ?body (ksk_l1 _ _)))
 case body =>
  show wpAny (model prog w) A.in1.in1 (Builtin.«list.sort» ⟨[.ref g.objs.size],[(QW "key",.ref f)]⟩) _ _ _;rw[ksk_t1];have nD:∀b o,s.heap.get? b=some o->b≠g.objs.size:=λb o q=>Qm (Qb (l b o q));refine Bh (s:={ s with heap:=g.push (seqObj "list" h.toList.toArray 0),toks:=K }) (kz:=kz) X (by omega) (by omega) (λY z B i x p F O C hC=>?_) λp h' z c J M B P=>⟨_,rfl,QN ⟨_,rfl,?_⟩⟩
  obtain⟨Z,rfl⟩:=it.2 i x (by rw[<- F,wo]);exact H Y z (λb o q=>B b o (nD b o q) (j b o q)) i Z p O C hC;rw[L]at J;exact k p h.toList _ h' z c J M (λb o q=>B b o (nD b o q) (j b o q)) (QAp G) L (λi x F=>it.2 i x (by rw[<- F,wo])) P
end
end
section
variable{U Z p2 W V Y X K:Pos}
noncomputable abbrev M5(U Z p2 W V Y X:Pos):Expr:=.Tuple [.Subscript (.Subscript (.Name "events" U) (.Name "number" Z) p2) (.Constant (.int 1) 0 W) V,.Name "number" Y] 0 X
noncomputable abbrev La(K:Pos):Arguments:={ posonlyargs:=[],args:=[{ arg:="number",annotation:=none,pos:=K }],vararg:=none,kwonlyargs:=[],kw_defaults:=[],kwarg:=none,defaults:=[] }
noncomputable abbrev pV:Scope:={ kind:=.function,names:=[(QW "number",.local),(QW "events",.free)],isGenerator:=false,isCoroutine:=false,more:=[] }
variable{prog:Program}{w:World}{A:Around}{E:YC}{s:Shared}
section
variable{h h':Heap}{y n:Addr}{i:Nat}{g:Int}{l:Tok}
def yO(h:Heap)(y:Addr)(i:Nat)(g:Int):Prop:=∃(x z:Array Value) (t:Addr) (u:Tok),(h.IsList y x∨IsTup h y x)/\x[i]?=some (.ref t)/\i<2 ^ 62/\x.size<2 ^ 62/\IsTup h t z/\z[1]?=some (.int g u)/\z.size<2 ^ 62
theorem yO.keepB{P:Addr}{m:Array Value}(p:h.get? P=some (tabObj m))(k:∀b o,b≠P->h.get? b=some o->h'.get? b=some o)(x:yO h y i g):yO h' y i g:=by
 obtain⟨f,j,t,u,a,b,c,q,⟨o,d⟩,e⟩:=x;have v:∀{b:Addr}{o:Obj}{T:String},h.get? b=some o->o.cls=.type T->b≠P:=λe c z=>by rw[z,p]at e;cases e;cases c
 refine⟨f,j,t,u,?_,b,c,q,⟨o,k _ _ (v d.1 d.2.1) d.1,d.2⟩,e⟩;rcases a with⟨o,a⟩| ⟨o,a⟩
 exact .inl ⟨o,k _ _ (v a.1 a.2.1) a.1,a.2⟩;exact .inr ⟨o,k _ _ (v a.1 a.2.1) a.1,a.2⟩
theorem yO.keep(z:∀b o,h.get? b=some o->h'.get? b=some o)(x:yO h y i g):yO h' y i g:=by
 obtain⟨v,k,t,u,a,b,c,f,⟨o,d⟩,e⟩:=x;refine⟨v,k,t,u,?_,b,c,f,⟨o,z _ _ d.1,d.2⟩,e⟩;rcases a with⟨o,a⟩| ⟨o,a⟩
 exact .inl ⟨o,z _ _ a.1,a.2⟩;exact .inr ⟨o,z _ _ a.1,a.2⟩
theorem G5{env:Env}{L:Addr}{m:Str->Option Value}{Q:YC}(hk:env.scope=pV)(G:env.cells.lookup (QW "events")=some n)(hc:s.heap.IsCell n (some (.ref y)))
  (S:env.locals=L) (P:s.heap.Ns L m) (R:m "number"=some (.int i l)) (F:yO s.heap y i g)
  (q:∀J u,Q (.ref s.heap.objs.size) { s with heap:=s.heap.push { cls:=.type "tuple",data:=.seq (qI [Value.int g u,Value.int i l]) },toks:=J }) :
  wpAny (model prog w) A (eval (M5 U Z p2 W V Y X) env) Q E s:=by
 have N:env.kindOf "number"=some .local:=by show env.scope.names.lookup _=_;rw[hk];rfl
 have O:env.kindOf "events"=some .free:=by show env.scope.names.lookup _=_;rw[hk];rfl
 have k:env.scope.kind=.function:=by rw[hk]
 obtain⟨C,B,t,u,a,b,c,c2,d,e,c3⟩:=F;subst S;have v:∀{p:Pos}{Q:YC}(z:Shared),z.heap=s.heap->Q (.int i l) z->wpAny (model prog w) A (eval (.Name "number" p) env) Q E z:=λz I q=>QAz (QA1 k N (by rw[I];exact P) R q) (by decide);refine QBD ?_;show wpAny _ _ (spliced ((false,eval (.Subscript (.Subscript (.Name "events" U) (.Name "number" Z) p2) (.Constant (.int 1) 0 W) V) env)::backTo X (starEach [.Name "number" Y] env))) _ _ s;refine WH (QBd (QBd (QAz (QBC k O G hc (v _ rfl ?_) (by decide)) (by decide))));have o:(0:Int)<=(i:Int):=QBa i;have f:(i:Int)<2 ^ 63:=by omega (config:={})
 have M:∀{Q:YC},Q (.ref t) s->wpAny (model prog w) A (subscriptTail (.Name "events" U) (.Name "number" Z) (.ref y) (.int i l)) Q E s:=λ{Q} q=>by rcases a with a|a;exact item_listR a o f (by simpa using b) q;have I:i<C.size:=(W9.mp b).1;exact qf (x:=.ref t) a.typeIs QAA.lookup (QBU (j:=i) (Q:=λr z=>r=.ref t/\Q r z) a (by omega (config:={})) f (by rw[QAV o (by omega (config:={}))];simp) b ⟨rfl,q⟩)
 refine M (QBR ?_);have H:1<B.size:=(W9.mp e).1;refine qf (x:=.int g u) (s:={ s with toks:=s.toks+1 }) (show IsTup s.heap t B from d).typeIs QAA.lookup (QBU (j:=1) (show IsTup s.heap t B from d) (by decide) (by decide) (by rw[QAV (by decide) (by omega (config:={}))];rfl) e ⟨rfl,?_⟩);show wpAny _ _ (spliced ((false,eval (.Name "number" Y) env)::backTo X (starEach [] env))) _ _ _;exact WH (v _ rfl (QAO ⟨by rw[Q0];show 2<=_;decide,q _ _⟩))
theorem L5{f L:Addr}{z:Str}{N I:Value}{C:YC}(j:A.depth<recursionLimit)(P:s.heap.get? f=some (kla_obj "<lambda>" z (La K) (M5 U Z p2 W V Y X) pV [(QW "events",n)] N L I))
  (F:s.heap.CodeRec (.ref L) z) (r:s.heap.NoLimit) (hc:s.heap.IsCell n (some (.ref y))) (B:yO s.heap y i g)
  (k:∀G p v,(∀b o,s.heap.get? b=some o->G.get? b=some o)->CD G v (g,(i:Int))->C v { s with heap:=G,toks:=p }) :
  wpAny (model prog w) A (call (.ref f) [.int i l]) C E s:=by
 refine wpAny_call (kla_callFunE j P rfl rfl rfl rfl F ?_);show wpAny _ _ (pure [(QW "number",Value.int i l)]) _ _ _;refine QN (QA2 (show ∀x∈pV.names,x.2≠NameKind.cell by decide) (by intro x O;rcases QI.mp O with rfl;rfl) (λJ q m=>⟨r.fresh _ m,kla_codeExpr ?_⟩) rfl);have a:∀b o,s.heap.get? b=some o->J.get? b=some o:=λb o e=>m.extBut b o (Qm (Qb e)) (QK _ e);refine G5 (s:={ s with heap:=J,toks:=s.toks+1 }) rfl rfl (hc.keeps a) rfl q rfl (B.keep a) λM u=>?_;exact k _ M _ (λb o e=>QK _ (a b o e)) ⟨_,_,_,_,_,rfl,QZ _ rfl,rfl,rfl⟩
end
end
theorem gW{pos:Pos}{a b:Int}{c y:Value}(l:LW)(h:TriplesOk l)(g:codeAmong pos (l++[rawInt a,rawInt b,c])=some y):codeAmong pos l=some y∨y=c:=by
 fun_induction TriplesOk l with
 |case1=>right;have g:codeAmong pos [rawInt a,rawInt b,c]=some y:=g;unfold rawInt codeAmong at g;split at g;exact(Qv g).symm;cases g|case2 i t f u x v w=>simp only[QAa,codeAmong]at g ⊢;split at g;rename_i z;rw[if_pos z];exact .inl g;rename_i z;rw[if_neg z];exact w h g|case3 l e k=>exact h.elim
section
variable{X:Cx}{h:TB}{σ:St}{H:Hp}{s:Shared}
theorem _root_.L2.Inv.tabbed{P x:Addr}{q:Str}{y:Array Value}{K W:Int}{h':Heap}{t':Nat}(I:Inv X h σ H s)(m:H P=some (.tbl q))(N:s.heap.get? P=some (tabObj y))(A:TriplesOk y.toList)(p:∀pos l,codeAmong pos y.toList=some l->∃c,l=.ref c/\H c=some (.own P)/\s.heap.CodeRec l q)
  (a:Wv P s.heap h') (i:s.heap.objs.size<=x) (B:h'.CodeRec (.ref x) q) (f:h'.get? P=some (tabObj (y++#[rawInt K,rawInt W,.ref x]))):H x=none/\Inv X h σ (BA H x (.own P)) { s with heap:=h',toks:=t' }:=by
 have C:H x=none:=I.hok.fresh i;have w:∀b o,H b=some o->b≠x:=λb o e z=>by rw[z,C]at e;cases e
 have Z:∀b,H b=none->b≠P:=λb e z=>by rw[z,m]at e;cases e
 refine⟨C,I.un ⟨λb o e n _ _=>a b o (Z b n) e,λb o e n _ _=>⟨o.slots,a b o (Z b n) e⟩,λb o e n _=>?_,λb o e _=>?_,λb F e=>?_,λb o u e=>?_,λb q e=>?_⟩ λb u e=>?_⟩;rw[vA (Qm (Ql (Qb e) i))];exact n;by_cases hb:b=P
 ·exact⟨_,hb▸f⟩
 exact⟨o,a b o hb e⟩;rw[vA (w b _ e)];exact e;rw[vA (w b _ e)];exact e;rw[vA (w b _ e)];exact e;by_cases hb:b=x
 ·subst hb
  rw[ZA]at e;cases e;obtain⟨c,o,Y,t,M,L,_⟩:=B;cases M;exact⟨o,L⟩
 rw[vA hb]at e;by_cases j:b=P;subst j;rw[m]at e;cases e;refine⟨_,f,?_,λpos l g=>?_⟩;simpa using TriplesOk_snoc K W _ y.toList A;rcases gW y.toList A (by simpa using g) with g|rfl
 ·obtain⟨c,rfl,o,O,ob,Y,G,E,J,r⟩:=p pos l g
  cases E;refine⟨c,rfl,by rw[vA (w c _ o)];exact o,c,ob,Y,G,rfl,a _ _ (λz=>?_) J,r⟩;rw[z,m]at o;cases o
 exact⟨x,rfl,ZA,B⟩;refine(I.hok b u e).stay (λd v k g=>a d v (λz=>?_) g) (λd g=>by rw[vA (w d _ g)];exact g) λd F g=>by rw[vA (w d _ g)];exact g
 rcases k with k|k;exact j (k.symm.trans z);rw[z,m]at k;cases k
end
def Uu(K:QE)(H:Hp)(xs:LV)(kz:List (Int×Int)):Prop:=kz.length=xs.length/\∀(j:Nat) p,kz[j]?=some p->p.2=j/\∃t h,xs[j]?=some (.ref t)/\AD K H t h/\h[1]?=some (.int p.1)
noncomputable def Zu(K:QE)(P:Addr)(i:Nat):TE:=λy H Q=>∃ev h z,y[i]?=some (some (.ref ev))/\(EC K H ev h∨AD K H ev h)/\Uu K H h z/\h.length<64 /\
 ∀(p:Array Nat) x l,Pm h.length p->True->(x=H∨∃c,H c=none/\x=BA H c (.own P))->x l=none->Q (.ref l) (BA x l (.lst (p.toList.map λ(i:Nat)=>V.int i)))
section
variable{X:Cx}{J G p2 F E B W U Z S M Y g d a O L:Pos}
section
variable{x:TB}{σ:St}{H:Hp}{s:Shared}{y:Addr}{kz:List (Int×Int)}{i:Nat}{q:Str}
theorem An{xs:LV}(I:Inv X x σ H s)(k:EC X.K H y xs∨AD X.K H y xs)(C:Uu X.K H xs kz):∀(j:Nat) p,kz[j]?=some p->yO s.heap y j p.1:=λj p N=>by obtain⟨_,t,ys,f,Q,P⟩:=C.2 j p N;have hz:=Q0;obtain⟨h,n,w,R⟩:=I.tuple Q;obtain⟨u2,o,A⟩:=n.get P;obtain⟨m,rfl⟩:=A;have l2:=n.length;have jl:j<xs.length:=(Qh.mp f).1;rcases k with k|k;obtain⟨v,r,b,z⟩:=I.list k;obtain⟨u,e,q⟩:=r.get f;cases q;have l:=r.length;exact⟨v.toArray,h.toArray,t,m,.inl b.isList,by simpa using e,by omega,by rw[QR];omega,w,by simpa using o,by rw[QR];omega⟩;obtain⟨v,r,b,z⟩:=I.tuple k;obtain⟨u,e,q⟩:=r.get f;cases q;have l:=r.length;exact⟨v.toArray,h.toArray,t,m,.inr b,by simpa using e,by omega,by rw[QR];omega,w,by simpa using o,by rw[QR];omega⟩
theorem Fb(I:Inv X x σ H s)(w:X.N[i]?=some (QW "events"))(h:X.env.scope.names.lookup (QW "events")=some .cell)(hv:σ[i]?=some (some (.ref y))):∃v,X.env.cells.lookup (QW "events")=some v/\s.heap.IsCell v (some (.ref y)):=by
 obtain⟨m,_,hl⟩:=I.loc;obtain⟨u,r,l⟩:=hl i "events" _ w hv (.inr (.inl h));cases r;rcases l with⟨k,_⟩| ⟨_,c,e,z⟩
 have k:X.env.scope.names.lookup (QW "events")=some .local:=k;rw[h]at k;cases k;exact⟨c,e,z⟩
theorem fK{n:Nat}{vs:LW}(hv:∀i,i<n->∃t,vs.getD i Jz=.int (i:Int) t):∀l:LN,(∀i∈l,i<n)->nA (l.map λ(i:Nat)=>V.int i) (l.map λi=>vs.getD i Jz)
 |[],_=>.nil|i::l,h=>.cons (hv i (h i QD)) (fK hv l λj z=>h j (QC _ z))
theorem AS{R f ce c':Addr}{b ctv:Value}{t u v:Tok}{Q:VK}{n:Nat}(I:Inv X x σ H s)(hh:X.A.handled=none)(z:X.A.in1.in1.depth<recursionLimit)
  (ho:s.heap.get? f=some (kla_obj "<lambda>" q (La U) (M5 J G p2 F E B W) pV [(QW "events",ce)] b c' ctv)) (m:s.heap.CodeRec (.ref c') q) (hc:s.heap.IsCell ce (some (.ref y))) (hev:∀(j:Nat) p,kz[j]?=some p->p.2=j/\yO s.heap y j p.1)
  (hl:kz.length=n) (h64:n<64) (hr:IsRange s.heap R 0 n 1 t u v) (k:∀(p:Array Nat) l,Pm n p->True->H l=none->Q (.ref l) (BA H l (.lst (p.toList.map λ(i:Nat)=>V.int i)))) :
  wpAny (model X.prog X.w) X.A (call (.builtin "sorted") [.ref R] [(QW "key",.ref f)]) (EP X x σ Q) X.xe s:=by
 refine V8 (n:=n) hh hr (small_one (by decide) (by decide) (by omega) (by omega)) (by rw[rangeSize_one];split<;>omega) h64 hl (λh3 P h j tx p hj C hC=>?_) λp K D h' P e b up h r vl hvs ho'=>?_;obtain⟨e2,ev'⟩:=hev j p hj;have e3:(0:Int)+(j:Int) * 1=(j:Int):=by omega
 rw[e3];refine L5 (s:={ s with heap:=h3,toks:=P }) z (h _ _ ho) (m.keeps h) (I.nolimit.keeps h) (hc.keeps h) (ev'.keep h) λh4 N v kp4 ka=>hC h4 N v kp4 ?_;rw[<- e2]at ka;exact ka;have pl:∀i∈p.toList,i<n:=λi hi=>by simpa using(qR.mp b).mem_iff.mp hi
 have ps:p.toList.length=n:=by rw[(qR.mp b).length_eq];simp
 refine⟨.ref D,BA H D (.lst (p.toList.map λ(i:Nat)=>V.int i)),I.laid (t':=P) h r ⟨by rw[QA,ps,Q0];omega,_,e,fK (λi hi=>?_) p.toList pl,ho'⟩,rfl,k p D b up (I.hok.fresh r)⟩;have o:i<K.length:=by omega
 obtain⟨t,e⟩:=hvs i (K[i]) (Qn o);refine⟨t,?_⟩;have:K.getD i Jz=K[i]:=by simp[o]
 rw[this,e,show(0:Int)+(i:Int) * 1=(i:Int) by omega]
theorem u9{c P:Addr}(hN:X.N[i]?=some (QW "events"))(hs:X.env.scope.names.lookup (QW "events")=some .cell)(n:X.env.code=.ref c)(hC:CodeHd X.base c P)(hT:jP X.mg X.base P q)(hq:q=X.env.qual++"<lambda>")(hb:X.base.BuiltinsAt X.mg P)(hgP:mainGlobals≠P)
  (g1:Gl X "sorted") (m1:X.mg "sorted"=none) (g2:Gl X "range") (m2:X.mg "range"=none) (g3:Gl X "len") (m3:X.mg "len"=none) (hh:X.A.handled=none) (f:X.A.in1.in1.depth<recursionLimit) :
  PE X (.Call (.Name "sorted" S) [.Call (.Name "range" M) [.Call (.Name "len" Y) [.Name "events" g] [] d] [] a] [⟨some "key",.Lambda (La U) (M5 J G p2 F E B W) pV Z,O⟩] L) (Zu X.K P i):=by
 rintro x s σ H Q I ⟨y,xs,kz,hv,hsq,m,h64,k⟩;refine wj (XJ I g1 m1 boot_sorted ?_);refine callWith_kw ?_;show wpAny _ _ (spliced ((false,eval (.Call (.Name "range" M) [.Call (.Name "len" Y) [.Name "events" g] [] d] [] a) X.env)::backTo L (starEach [] X.env))) _ _ s;have paL:PA X [.Call (.Name "len" Y) [.Name "events" g] [] d] _:=LP (IR NI g3 m3 boot_len (LP (O3 hN (.inr (.inl hs))) HU)) HU;refine WH (Call_ (XJ I g2 m2 boot_range (callWith_type1 (AB (paL a x s σ H (λvs H1=>vs=[.int xs.length]/\H1=H) I ?_) λus h ⟨vs,H1,I1,r1,q1⟩=>?_) rfl rfl)));exact⟨_,hv,y,xs,rfl,hsq,rfl,rfl⟩;obtain⟨rfl,rfl⟩:=q1;cases r1 with
 |cons r rr =>
 cases rr;obtain⟨t,rfl⟩:=r;refine call_range_1 (QAO (kws_cons (kla_eval rfl ?_)));have w:Inv X x σ H1 { h with heap:=h.heap.push { cls:=.type "range",data:=.fields #[.int 0 h.toks,.int xs.length t,.int 1 (h.toks+1)] },toks:=h.toks+1+1 }:=I1.kept λb o e=>QK _ e;have hr2:IsRange (h.heap.push { cls:=.type "range",data:=.fields #[.int 0 h.toks,.int xs.length t,.int 1 (h.toks+1)] }) h.heap.objs.size 0 xs.length 1 h.toks t (h.toks+1):=QZ _ rfl;have hP:=w.tb P q hT;obtain⟨ps,hp,ht,hps⟩:=w.hok P _ hP;obtain⟨ce,hce,hcl⟩:=Fb w hN hs hv;have R:closureFor pV X.env=pure [(QW "events",ce)]:=by unfold closureFor cellOf;simp[hce]
 obtain⟨bm,ob,b1,b2,b3,b4,b5,b6⟩:=hb;have hb2:=And.intro b1 (And.intro b2 (And.intro b3 (And.intro b4 (And.intro (w.bk _ _ b5) b6))));have evs:=An w hsq m;subst hq;cases e:codeAmong Z ps.toList with|none=>refine kla_makeFunction (mg:=X.mg) R I.ok.glob (w.mod.glob.keeps w.bk) n (hC.keeps w.bk) hp ht e hgP ⟨bm,ob,hb2⟩ λc' ctv h' tk hx hge hlt v htb=>evalAll_nil ?_;obtain⟨hn,I3⟩:=w.tabbed (t':=tk) hP hp ht hps hx hge v htb;have C:∀{oN:Obj}(b:Addr) (o:Obj),h'.get? b=some o->(h'.push oN).get? b=some o:=λb o e=>QK _ e;obtain⟨oc,c1,c2⟩:=hcl;show wpAny _ _ (call (.builtin "sorted") [.ref h.heap.objs.size] [(QW "key",.ref h'.objs.size)]) _ _ _;refine AS (I3.kept C) hh f (QZ _ rfl) (v.push _) ⟨oc,C _ _ (hx _ _ (λz=>?_) c1),c2⟩ (λj p hj=>⟨(m.2 j p hj).1,((evs j p hj).keepB hp hx).keep C⟩) m.1 h64 (C _ _ (hx _ _ (λz=>?_) hr2)) λp l pm u hl=>k p _ l pm u (.inr ⟨c',hn,rfl⟩) hl;rw[z,hp]at c1;cases c1;cases c2;have z2:=hp.symm.trans (z▸hr2);cases z2|some cv=>obtain⟨c',rfl,_,v⟩:=hps _ _ e;refine kla_makeFunctionHit (mg:=X.mg) R I.ok.glob (w.mod.glob.keeps w.bk) n (hC.keeps w.bk) hp ht e ⟨bm,ob,hb2⟩ λctv h' tk kp hge=>evalAll_nil ?_;have C:∀{oN:Obj}(b:Addr) (o:Obj),(h.heap.push { cls:=.type "range",data:=.fields #[.int 0 h.toks,.int xs.length t,.int 1 (h.toks+1)] }).get? b=some o->(h'.push oN).get? b=some o:=λb o e=>QK _ (kp b o e);show wpAny _ _ (call (.builtin "sorted") [.ref h.heap.objs.size] [(QW "key",.ref h'.objs.size)]) _ _ _;exact AS (w.kept C) hh f (QZ _ rfl) (v.keeps C) (hcl.keeps C) (λj p hj=>⟨(m.2 j p hj).1,(evs j p hj).keep C⟩) m.1 h64 (C _ _ hr2) λp l pm u hl=>k p _ l pm u (.inl rfl) hl
end
end
noncomputable def LM:D->Option Int
 | .tuple h=>(match h[1]? with|some (Jy t)=>some t|_=>none)
 |_=>none
noncomputable def NM(h:List D):List (Int×Int):=(Qr h.length).map λ(i:Nat)=>(((h[i]?).bind LM).getD 0,(i:Int))
theorem JZ{x:List D}{j:Nat}{p:Int×Int}(h:(NM x)[j]?=some p):j<x.length/\p=(((x[j]?).bind LM).getD 0,(j:Int)):=by unfold NM at h;rw[Qe]at h;by_cases c:j<x.length;rw[Wx c]at h;exact⟨c,(Qv h).symm⟩;rw[qC (by simpa using c)]at h;cases h
def bp(h:List D)(ns:LN):Prop:=ns.Perm (Qr h.length)/\True
noncomputable def Jm:PSp where
 run:=λy Q _=>∃h:List D,y=[.d (.list h)]/\h.length<64/\(∀e∈h,∃t,LM e=some t)/\∀x,bp h x->Q (.lst (x.map λ(i:Nat)=>.d (.int i))) []
theorem O2{K:QE}{H x:Hp}{a:Addr}{xs:LV}(e:Same H x)(h:AD K H a xs):AD K x a xs:=by rcases h with(h|⟨o,h⟩)|h;exact .inl (.inl (e _ _ h));exact .inl (.inr ⟨o,e _ _ h⟩);exact .inr h
section
variable{P:Program}{w:World}{K:QE}{mg:Str->Option Value}{base:Heap}{Ψ:PEv}{D C p2 B W U n m g a0 a1 R O N L J I y:Pos}
noncomputable abbrev Sr:Scope:={ kind:=.function,names:=[(QW "events",.cell),(QW "sorted",.globalImplicit),(QW "range",.globalImplicit),(QW "len",.globalImplicit)],isGenerator:=false,isCoroutine:=false,more:=[] }
noncomputable abbrev Bu(D C p2 B W U n m g a0 a1 R O N L J I y:Pos):List Stmt:=[.Return (some (.Call (.Name "sorted" a0) [.Call (.Name "range" a1) [.Call (.Name "len" R) [.Name "events" O] [] N] [] L] [⟨some "key",.Lambda (La m) (M5 D C p2 B W U n) pV g,J⟩] I)) y]
theorem UX{H F:Hp}{vs:LV}{Q:VK}{E:XK}{T:Addr}(h:lift K Jm vs H Q E):vs.length=1/\Zu K T 0 (rD [QW "events"] vs) H λv H'=>Q v H':=by
 obtain⟨F,ts,M,Y,h1,h2,h3,h4,x,rfl,h64,he,q⟩:=h;cases h2 with
 |chg hm=>cases hm|@rd _ v vs' _ _ Z _ hr _ r =>
 cases r;refine⟨rfl,?_⟩;cases hr with
 |d rp hz =>
 cases rp with
 |@lst a xs _ hq rs =>
 have S:xs.length=x.length:=rs.length;have kl:(NM x).length=xs.length:=by unfold NM;rw[QA,Q4,S]
 refine⟨a,xs,NM x,rfl,.inl (h1.seq hq),⟨kl,λj p hj=>?_⟩,by rw[S];exact h64,λp H1 l pm up hH hl=>?_⟩;obtain⟨jl,rfl⟩:=JZ hj;have A:x[j]?=some (x[j]'jl):=Qn jl;obtain⟨t,k⟩:=he _ (wH jl);obtain⟨v,v1,v2⟩:=rs.get A;refine⟨rfl,?_⟩;rw[A];show ∃t ys,_/\_/\ys[1]?=some (V.int ((LM x[j]).getD 0));rw[k];generalize x[j]=e at *;cases v2 with
 |@tup b ys ds sq rs2 =>
  have k:(match ds[1]? with|some (Jy t)=>some t|_=>none)=some t:=k;cases hd:ds[1]? with
  |none=>rw[hd]at k;cases k|some d =>
   rw[hd]at k;obtain⟨u,u1,u2⟩:=rs2.get hd;cases u2 with|int i=>cases k;exact⟨b,ys,v1,O2 h1 sq,u1⟩|_=>cases k
 |_=>cases k
 have pn:p.size=x.length:=by have:=pm.size_eq;simpa[S]using this
 have f:H l=none:=by
  rcases hH with rfl|⟨c,hc,rfl⟩
  exact hl;by_cases z:l=c
  ·rw[z];exact hc
  rw[vA z]at hl;exact hl
 have hs:Same H H1:=by
  rcases hH with rfl|⟨c,hc,rfl⟩
  exact λ_ _ e=>e;exact λb o e=>by rw[vA (JA e hc)];exact e
 have s:Same H (BA H1 l (.lst (p.toList.map λ(i:Nat)=>V.int i))):=λb o e=>by rw[vA (JA e f)];exact hs b o e
 have fl:F l=none:=by
  cases z:F l with|none=>rfl|some o=>rw[h1 l o z]at f;cases f
 have X:∀G:LN,Trs K F (BA H1 l (.lst (p.toList.map λ(i:Nat)=>V.int i))) true (G.map λ(i:Nat)=>V.int i) (G.map λ(i:Nat)=>.d (.int i)) λ_=>False:=λG=>by
  induction G with|nil=>exact .nil λ_ z=>z|cons i r ih=>exact .cons (.d (.int _) λ_ (z:False)=>z) ih (λ_ z=>z.elim) λb=>⟨Qd,λz=>z.elim id id⟩
 refine q p.toList ⟨?_,?_⟩ (.ref l) F (BA H1 l (.lst (p.toList.map λ(i:Nat)=>V.int i))) (λb=>b=l) (λ_=>False) ⟨λ_ _ e=>e,λb o e=>s b o (h1 b o e),λb u e _=>s b u e,λb e=>?_,λb e z=>absurd e z⟩ (.lst ZA fl (X _) (λz=>z) λb=>⟨.inl,λz=>z.elim id Qd⟩) (.nil λ_ z=>z) (λ_ _ z=>z) λb z=>.inr (z.elim (λz=>z▸f) Qd);rw[S]at pm;exact qR.mp pm;trivial;cases z:H b with|none=>rfl|some o=>rw[s b o z]at e;cases e
theorem Ea{f c T:Addr}{oc kV v l ct:Value}{M Y:Option Addr}{b:Array (Option Value)}{z:Arguments}{k:Nat}(X:K.In base)(G:base.Ns mainGlobals mg)(p:mg "going_order"=some (.ref f))
  (lk:K.lookup f=some ⟨oc,M,.func (fnOf "going_order" "going_order" z (Bu D C p2 B W U n m g a0 a1 R O N L J I y) Sr .none kV v l Y (.ref c) ct),b⟩)
  (j:codeIn K (.ref c) "going_order"=true) (e:keepIn K (.ref f)=true) (r:CodeHd base c T) (hb:base.BuiltinsAt mg T) (i:mainGlobals≠T) (m1:mg "sorted"=none) (m2:mg "range"=none) (m3:mg "len"=none)
  (u:∀us:LW,us.length=1->bindArgs (fnOf "going_order" "going_order" z (Bu D C p2 B W U n m g a0 a1 R O N L J I y) Sr .none kV v l Y (.ref c) ct) ⟨us,[]⟩=pure ([QW "events"].zip us)) (hR:Ψ.sp "going_order"=Jm):KG P w K mg base Ψ (k+1) "going_order":=by
 have S:FnScope [QW "events"] [QW "events"] Sr:=⟨rfl,rfl,rfl,by decide,rfl,by intro x hx;rcases QI.mp hx with rfl;exact .inr rfl,by decide⟩
 refine⟨f,_,[QW "events"],?_,p,e,.all u⟩;rw[hR];refine Kd lk j S (λZ H Q E h=>(UX (T:=T) (F:=H) h).1) λA a s H Z Q E o h=>⟨_,jX (U3 (u9 (q:=(QW "going_order")++(QW ".<locals>.<lambda>")) rfl rfl rfl r ?_ ?_ hb i rfl m1 rfl m2 rfl m3 o.hd ?_)),(UX (F:=H) h).2⟩
 exact⟨f,_,_,c,p,X _ _ lk,rfl,rfl,r,rfl⟩;show QW "going_order"++QW ".<locals>.<lambda>"=(QW "going_order"++QW ".<locals>.")++QW "<lambda>";decide;exact WF (QX (QAh _ (3 * k)) (QAh _ 5)) o.dp
end
end L2.L3
namespace L2.L3.K33
open PySem PySem.Spec PyProof.Rows L2 L2.L3
def FN(a b:Nat):Bool:=decide (a<=b)
def srt(l:LN):LN:=l.mergeSort FN
theorem cn(a b c:Nat)(x:FN a b=true)(y:FN b c=true):FN a c=true:=dT (QX (of_decide_eq_true x) (of_decide_eq_true y))
theorem dn(a b:Nat):(FN a b||FN b a)=true:=by rcases Nat.le_total a b with z|z;rw[show FN a b=true from dT z];rfl;rw[show FN b a=true from dT z,QBn]
theorem Af(l:LN):(srt l).Pairwise λa b=>a<=b:=(List.pairwise_mergeSort cn dn l).imp λz=>of_decide_eq_true z
theorem Ef{z l:LN}(h:z.Perm l)(u:z.Pairwise (·<=·)):z=srt l:=QCD.eq_of_pairwise (λa b _ _ x y=>Nat.le_antisymm x y) u (Af l) (h.trans (QBI l FN).symm)
theorem ZR(l:LN):(srt l).Perm l:=QBI l FN
noncomputable abbrev Stp:=Nat×Bool×LN×List Pt
structure Gs where
 past:LN
 taken:LN
 held:List Pt
 steps:List Stp
noncomputable def Sj(w:Wd)(g:Gs)(n:Nat):Bool:=Jq w (ZN w g.past) g.held (aA w.es n)
noncomputable def sY(w:Wd)(g:Gs)(n:Nat):LN:=if(Sj w g n&&decide (o0 (aA w.es n)="tell"))=true then g.taken++[n] else g.taken
noncomputable def Cr(w:Wd)(g:Gs)(n:Nat):LN:=srt (jH w.es (sY w g n) (ZN w (g.past++[n])))
noncomputable def Op(w:Wd)(g:Gs)(n:Nat):List Pt:=YF w (g.past++[n]) (Cr w g n)
noncomputable def EE(w:Wd)(g:Gs)(n:Nat):Gs:=⟨g.past++[n],sY w g n,Op w g n,g.steps++[(n,Sj w g n,Cr w g n,Op w g n)]⟩
def KM(w:Wd)(ns:LN):Gs:=ns.foldl (EE w) ⟨[],[],[],[]⟩
noncomputable def aY(s:Stp):D:=.tuple [nD s.1,.bool s.2.1,.list (s.2.2.1.map nD),.list (s.2.2.2.map pr)]
def S7(l:LN):T:=.lst ((l.map nD).map T.d)
noncomputable def yb(w:Wd)(past taken:LN)(wr held:List Pt)(x:Kn)(st:List Stp)(o8 h o10:Option Sl):kA:=[bD (wD w),bD (.list (w.es.map zD)),oW (S7 past),oW (S7 taken),oW (RK wr),bD (.list (held.map pr)),oW (z0 x),oW (.lst ((st.map aY).map T.d)),o8,h,o10]
theorem x5(l:LN)(n:Nat):S7 (l++[n])=.lst ((l.map nD).map T.d++[T.d (nD n)]):=by unfold S7;rw[QJ,QJ];rfl
theorem Tf(l:List Stp)(n:Stp):((l++[n]).map aY).map T.d=(l.map aY).map T.d++[T.d (aY n)]:=by rw[QJ,QJ];rfl
theorem T2{h:List Evt}{x:LN}{ks:List Pt}{K:T->LT->Prop}{E:XE}(l:x.length<64)(a:∀n∈x,n<h.length/\FC (aA h n))(q:K (.lst (((srt (jH h x ks)).map nD).map T.d)) []):OR UG [.d (.list (h.map zD)),.lst ((x.map nD).map T.d),RK ks] K E:=⟨h,x,ks,rfl,l,a,λu z y=>by rw[Ef z y];exact q⟩
section
variable{Ψ:PEv}{E:XE}{K:TK}{y x:D}{u:List D}{k:T}{g f e c b w v:Option Sl}
theorem jb(h:Ψ.sp "held_among"=GD)(q:OR GD [.d y,.lst (u.map T.d),.d x,k] (λr j=>∃n,j=[n]/\K r true [bD y,g,oW (.lst (u.map T.d)),f,e,c,oW n,b,w,v,bD x]) E):pB Ψ (.call "held_among" %[.xz 0,.xz 2,.xz 10,.xz 6|1]) E [bD y,g,oW (.lst (u.map T.d)),f,e,c,oW k,b,w,v,bD x] K:=by show ∃j,CA (cA (Ψ.sp "held_among").md %[.xz 0,.xz 2,.xz 10,.xz 6|1]) [bD y,g,oW (.lst (u.map T.d)),f,e,c,oW k,b,w,v,bD x]=some j/\(cA (Ψ.sp "held_among").md %[.xz 0,.xz 2,.xz 10,.xz 6|1]).Nodup/\(pe Ψ %[.xz 0,.xz 2,.xz 10,.xz 6|1] E).a (Ψ.sp "held_among").md (clear (cA (Ψ.sp "held_among").md %[.xz 0,.xz 2,.xz 10,.xz 6|1]) [bD y,g,oW (.lst (u.map T.d)),f,e,c,oW k,b,w,v,bD x]) λp l=>∃o,UA (Ψ.sp "held_among").md p j=some o/\(Ψ.sp "held_among").run o (λr m=>∃i,uC (cA (Ψ.sp "held_among").md %[.xz 0,.xz 2,.xz 10,.xz 6|1]) m l=some i/\K r true i) E;rw[h];refine⟨[k],rfl,Qi.mpr ⟨wf,Qs⟩,?_⟩;refine⟨rfl,?_⟩;refine⟨[.d y,.lst (u.map T.d),.d x,k],?_,?_⟩;show(match gE (T.lst (u.map T.d)) with|some t=>(some [T.d x,k]).map (t::·)|none=>none).map (T.d y::·)=_;rw[V2];rfl;refine GD.mono (λr j z=>?_) (λ_ z=>z) q;obtain⟨n,rfl,z⟩:=z;exact⟨_,rfl,z⟩
end
section
variable{Ψ:PEv}{Z:PEnds}{w:Wd}{u:Kn}{n:Nat}{o10:Option Sl}{g:Gs}{ns:LN}{K:T->LT->Prop}{E:XE}{i k m:Int}{cs:LJ}
theorem Hn(r:Ψ.sp "wrong_among"=FF)(a:Ψ.sp "live_among"=UG)(p:Ψ.sp "held_among"=GD){past taken:LN}{wr held:List Pt}{st:List Stp}{b:Bool}(y:WOk w)(Y:past.length<=60)(v:∀n∈past,n<w.es.length)(s:taken.length<=60)(z:∀n∈taken,n<w.es.length/\FC (aA w.es n))(hk:eN w u)(f:u.length<=10000)(X:st.length<=60)
  (q:∀h,eN w h->h.length<=u.length+10->Z.nx (yb w past taken (ZN w past) (YF w past (srt (jH w.es taken (ZN w past)))) h (st++[(n,b,srt (jH w.es taken (ZN w past)),YF w past (srt (jH w.es taken (ZN w past))))]) (bD (nD n)) (bD (.bool b)) (bD (.list ((srt (jH w.es taken (ZN w past))).map nD))))) :
  pF Ψ zK Z (yb w past taken wr held u st (bD (nD n)) (bD (.bool b)) o10):=by
 have x:=ZR (jH w.es taken (ZN w past));have fl:=Qk (λn=>!decide (((aC (aA w.es n)).1,(aC (aA w.es n)).2)∈ZN w past)) taken;have e:SZ w (srt (jH w.es taken (ZN w past))):=⟨by rw[x.length_eq];unfold jH;omega,λn o=>z n (QO.mp (x.mem_iff.mp o)).1⟩
 delta yb S7;delta zK;simp_arith[↓uA (md:=[.xx,.xy]) r rfl rfl,↓uA (md:=[.xx,.xy,.ky]) a rfl rfl,↓vC,↓E7,↓xp];refine⟨_,_,rfl,y,by omega,v,?_⟩;simp_arith[↓uA (md:=[.xx,.xy,.ky]) a rfl rfl,↓vC,↓E7,↓xp];refine T2 (by omega) z ?_;simp_arith[↓yA];refine jb p (⟨_,_,_,_,rfl,⟨y,by omega,v⟩,e,⟨hk,f⟩,λh l j=>⟨_,rfl,?_⟩⟩);simp_arith[↓yA];rw[QA,QA];refine⟨by omega,by omega,?_⟩;have q:=q h l j;unfold yb S7 at q;rw[Tf]at q;exact q
structure GsOk(w:Wd)(g:Gs):Prop where
 p:∀n∈g.past,n<w.es.length
 tl:g.taken.length<=g.past.length
 t:∀n∈g.taken,n<w.es.length/\FC (aA w.es n)
 h:AH g.held
 s:g.steps.length=g.past.length
theorem ZX(y:WOk w)(l z:LN):AH (YF w l z):=by intro p h;obtain⟨x,v,h⟩:=wI.mp h;obtain⟨m,a,rfl⟩:=QS.mp h;exact⟨y.po x v,y.mo m (QO.mp a).1⟩
theorem r8{e:Evt}(h:o0 e="tell"):FC e:=by
 cases e with|see t p m x=>exact absurd (show QW "see"=QW "tell" from h) (by decide)|tell t a b m x q=>exact⟨t,a,b,m,x,q,rfl⟩
theorem L1(h:GsOk w g)(x:n<w.es.length):(sY w g n).length<=g.past.length+1/\∀k∈sY w g n,k<w.es.length/\FC (aA w.es k):=by have:=h.tl;unfold sY;split;rename_i c;rw[Qg,decide_eq_true_iff]at c;refine⟨by rw[QH];exact QAg this,λk hk=>?_⟩;rcases QT.mp hk with hk|hk;exact h.t k hk;rw[QI.mp hk];exact⟨x,r8 c.2⟩;exact⟨by omega,h.t⟩
theorem XQ(v:WOk w)(h:GsOk w g)(x:n<w.es.length):GsOk w (EE w g n):=by
 obtain⟨z,y⟩:=L1 h x;refine⟨λk hk=>?_,?_,y,ZX v _ _,?_⟩;rcases QT.mp hk with hk|hk
 ·exact h.p k hk
 rw[QI.mp hk];exact x;show(sY w g n).length<=(g.past++[n]).length;rw[QH];exact z;show(g.steps++_).length=(g.past++[n]).length;rw[QH,QH,h.s];rfl
theorem Ar(I:Ψ.sp "is_taken"=BW)(G:Ψ.sp "wrong_among"=FF)(F:Ψ.sp "live_among"=UG)(C:Ψ.sp "held_among"=GD){l:Option Sl}(j:WOk w)(a:GsOk w g)(J:g.past.length<60)(v:n<w.es.length)(hk:eN w u)(W:u.length<=10000)
  (q:∀x l o10,eN w x->x.length<=u.length+10->Z.nx (yb w (g.past++[n]) (sY w g n) (ZN w (g.past++[n])) (Op w g n) x (EE w g n).steps (bD (nD n)) l o10)) :
  pF Ψ vN Z (yb w g.past g.taken (ZN w g.past) g.held u g.steps (bD (nD n)) l o10):=by
 have L:=a.tl;have N:=a.s;obtain⟨M,X⟩:=L1 a v;have Y:∀k∈g.past++[n],k<w.es.length:=(XQ j a v).p;have r:=λ{o10}=>Hn (Z:=Z) (wr:=ZN w g.past) (held:=g.held) (st:=g.steps) (n:=n) (b:=Sj w g n) (o10:=o10) G F C j (past:=g.past++[n]) (by rw[QH];exact J) Y (taken:=sY w g n) (by omega) X hk W (by omega) λx B A=>q x _ _ B A;delta yb S7;delta vN;simp_arith[↓dP v,↓uA (md:=[.xx,.xx,.ky,.xx]) I rfl rfl,↓vC,↓E7,↓xp];refine⟨_,_,_,_,rfl,j,(j.ev v),a.h,?_⟩;simp_arith[↓dP v,↓YN];rw[QA,QA,<- x5];refine⟨by omega,?_⟩;have e:Jq w (ZN w g.past) g.held (aA w.es n)=Sj w g n:=rfl;rw[e];cases y:Sj w g n with
 |false=>have f:sY w g n=g.taken:=if_neg (by rw[y];exact λz=>by cases z);rw[f,y]at r;exact r|true =>
  cases o:decide (o0 (aA w.es n)="tell") with|false=>have f:sY w g n=g.taken:=if_neg (by rw[y,o];exact λz=>by cases z);rw[f,y]at r;exact r|true=>have f:sY w g n=g.taken++[n]:=if_pos (by rw[y,o];rfl);rw[f,y]at r;simp_arith[↓yA];rw[QA,QA,<- x5];exact⟨by omega,r⟩
theorem db(e:Evt):∃t,LM (zD e)=some t:=by
 cases e with|see t p m h=>exact⟨t,rfl⟩|tell t a b m h q=>exact⟨t,rfl⟩
def B7(w:Wd)(ns:LN):Prop:=bp (w.es.map zD) ns
theorem Pc(h:B7 w ns):∀n∈ns,n<w.es.length:=λn x=>by
 have:=Q3.mp (h.1.mem_iff.mp x)
 rwa [QA]at this
theorem T4(h:B7 w ns):ns.length=w.es.length:=by rw[h.1.length_eq,Q4,QA]
theorem lg(x:WOk w)(q:∀ns,B7 w ns->K (S7 ns) []):OR Jm [.d (.list (w.es.map zD))] K E:=⟨_,rfl,by rw[QA];exact WF x.el (by decide),λe y=>by
 obtain⟨v,_,rfl⟩:=QS.mp y;exact db v,λns h=>by
 have:=q ns h;unfold S7 at this;rw[Qc]at this;exact this⟩
noncomputable def kL:PSp where
 run:=λh Q _=>∃w:Wd,h=[.d (wD w)]/\WOk w/\∀ns,B7 w ns->Q (.lst (((KM w ns).steps.map aY).map T.d)) []
theorem fu{r:PT}{i:Nat}{ρ:kA}:cI Ψ E r Z i (.lst []) true ρ=cB Ψ E r Z (ρ.set i (bD (.list []))):=vp (ds:=[])
theorem N9(p:Ψ.sp "going_order"=Jm)(J:Ψ.sp "is_taken"=BW)(I:Ψ.sp "wrong_among"=FF)(G:Ψ.sp "live_among"=UG)(F:Ψ.sp "held_among"=GD):XF Ψ cW kL C7 yX:=by rintro _ Q _ ⟨w,rfl,a,q⟩;have P:=a.el;refine fA [bD (wD w),none,none,none,none,none,none,none,none,none,none] ?_;delta cW;simp_arith[↓gU,↓uA (md:=[]) p rfl rfl];refine⟨by omega,by omega,by omega,?_⟩;simp_arith[↓fu,↓uA (md:=[]) p rfl rfl];refine⟨by omega,lg a λns y=>?_⟩;delta S7;simp_arith[↓yA];rw[<- lA nD];have L:=T4 y;refine sA (λn=>T.d (nD n)) (λr b=>∃g u l j o10,r.foldl (EE w) g=KM w ns/\(GsOk w g/\g.past.length+r.length<=60/\∀n∈r,n<w.es.length)/\(eN w u/\u.length<=10 * g.past.length)/\b=yb w g.past g.taken (ZN w g.past) g.held u g.steps l j o10) ?_ ?_ ns _ ⟨⟨[],[],[],[]⟩,[],none,none,none,rfl,⟨⟨λ_ z=>(by cases z),Qa _,λ_ z=>(by cases z),λ_ z=>(by cases z),rfl⟩,by show 0+ns.length<=60;omega,Pc y⟩,⟨λ_ z=>(by cases z),Qa _⟩,rfl⟩;rintro b ⟨g,u,l,j,o10,e,_,_,rfl⟩;have e:g=KM w ns:=e;subst e;delta yb;simp_arith[↓yA];exact q ns y;rintro n r b N C ⟨g,u,l,j,o10,e,⟨Y,X,s⟩,⟨W,M⟩,rfl⟩;have X:g.past.length+(r.length+1)<=60:=X;have o:=s n QD;refine Ar J I G F a Y (by omega) o W (by omega) λh f v A O=>C _ ⟨EE w g n,h,_,f,v,e,⟨XQ a Y o,?_,λx B=>s x (QC _ B)⟩,⟨A,?_⟩,rfl⟩;show(g.past++[n]).length+r.length<=60;rw[QH];show g.past.length+1+r.length<=60;omega;show h.length<=10 * (g.past++[n]).length;rw[QH];show h.length<=10 * (g.past.length+1);omega
def gI{α:Type}(l:List α)(i:Int)(d:α):α:=(pD l i).getD d
theorem bC{α:Type}{l:List α}{d:α}(z:0<=i)(y:i<l.length):pD l i=some (gI l i d)/\gI l i d∈l:=by obtain⟨v,x,h⟩:=EQ z y;unfold gI;rw[x];exact⟨rfl,qT h⟩
theorem IC{α:Type}{f:α->D}{l:List α}(d:α){K:D->Prop}(x:0<=i)(h:i<l.length)(q:K (f (gI l i d))):DD (pD (l.map f) i) K:=by rw[SD,(bC (d:=d) x h).1];exact⟨_,rfl,q⟩
noncomputable def MO(cs:LJ)(k:Int):Int:=if 0<cs.length then gI cs (k % cs.length) 0 else 0
noncomputable def Kr(c k:Int):Int:=(c % 2147483647+7 * k+3) * (48271+1103 * k * k) % 2147483629
def xA(cs:LJ)(k m:Int):Int:=Kr (MO cs k) k / 64 % m
theorem pA(h:0<m):0<=xA cs k m/\xA cs k m<m:=⟨wv _ (by omega),wL _ h⟩
theorem dj{j:Nat}(h:j<100)(c:Int)(hc:decide (0<=c/\c<=4000)=true):0<=c+(j:Int)/\c+(j:Int)<=5000:=by have:=of_decide_eq_true hc;omega
theorem dk(h:0<=k/\k<=100)(c:Int)(hc:decide (0<=c/\c<=40)=true):0<=11 * k+c/\11 * k+c<=5000:=by have:=of_decide_eq_true hc;omega
noncomputable def tB:PSp where
 md:=[.xy]
 run:=λh Q _=>∃(cs:LJ) (k m:Int),h=[.lst ((cs.map Jy).map T.d),.d (.int k),.d (.int m)]/\((0<=k/\k<=5000)/\0<m)/\Q (.d (.int (xA cs k m))) []
theorem k6{a b:LJ}(h:(a.map Jy).map T.d=(b.map Jy).map T.d):a=b:=(WQ λx y e=>by injection e).mp ((WQ λx y e=>by injection e).mp h)
theorem LA:OR tB [.lst ((cs.map Jy).map T.d),.d (.int k),.d (.int m)] K E=(((0<=k/\k<=5000)/\0<m)/\K (.d (.int (xA cs k m))) []):=propext ⟨λ⟨h,_,_,e,a,q⟩=>by injection e with e1 e2;injection e1 with e1;cases k6 e1;cases e2;exact⟨a,q⟩,λq=>⟨cs,k,m,rfl,q⟩⟩
theorem vH{ds:List D}{n:Bool}{md:List Md}{xs:List (T×Bool)}{C:LT->Prop}:VB (.xy::md) ((.d (.list ds),n)::xs) C=VB md xs λts=>C (.lst (ds.map T.d)::ts):=Nu (by rw[oA];simp only[gE,T.vw,VA,Q6])
theorem P9:XF Ψ kN tB kU pO:=by
 rintro _ Q _ ⟨cs,k,m,rfl,⟨⟨v,y⟩,x⟩,q⟩;refine fA [some (.ky (.lst ((cs.map Jy).map T.d))),bD (.int k),bD (.int m),none,none] ?_;have r:∀c,c=MO cs k->pF Ψ rG (eZ Q) [some (.ky (.lst ((cs.map Jy).map T.d))),bD (.int k),bD (.int m),bD (.int c),none]:=by rintro c rfl;delta rG;simp_arith[↓yA];have a:=wv (MO cs k) (show(2147483647:Int)≠0 by decide);have b:=wL (MO cs k) (show(0:Int)<2147483647 by decide);exact⟨cK.ok (.inl ⟨by decide,by decide⟩),cK.ok (.inl ⟨by decide,by decide⟩),cK.ok (.inr ⟨by omega,by omega⟩),cK.ok (.inl ⟨by omega,by omega⟩),x,q⟩
 delta kN;simp_arith[QA];by_cases c:0<cs.length;have h:(0:Int)<cs.length:=by omega
 rw[if_pos (dT h)];refine⟨h,IC 0 (wv _ (by omega)) (wL _ h) ?_⟩;exact r _ (by unfold MO;rw[if_pos c]);rw[if_neg (λz=>by have:=of_decide_eq_true z;omega)];exact r _ (by unfold MO;rw[if_neg c])
noncomputable def kC(m:Int)(cs:LJ)(p:Int×Nat):LJ:=if(p.2:Int)<m then cs++[p.1] else cs.set ((p.2:Int) % m).toNat (gI cs ((p.2:Int) % m) 0 * 31+p.1)
def UB(m:Int)(l:LJ):LJ:=l.zipIdx.foldl (kC m) []
theorem BM{m:Int}(y:0<m):∀(l:LJ) (i:Nat) (cs:LJ),(cs.length:Int)<=m->cs.length<=i->((i:Int)<m->cs.length=i)->((l.zipIdx i).foldl (kC m) cs).length<=m.toNat
 |[],i,cs,h,_,_=>by show cs.length<=_;omega|x::l,i,cs,h,h2,h3=>by show((l.zipIdx (i+1)).foldl (kC m) (kC m cs (x,i))).length<=_;unfold kC;split;rename_i c;have c:(i:Int)<m:=c;have:=h3 c;refine BM y l (i+1) _ ?_ ?_ λ_=>?_;rw[QH];show((cs.length+1:Nat):Int)<=m;omega;rw[QH];show cs.length+1<=i+1;omega;rw[QH];show cs.length+1=i+1;omega;rename_i c;have c:¬ (i:Int)<m:=c;refine BM y l (i+1) _ ?_ ?_ λz=>?_;rw[qa];exact h;rw[qa];omega;omega
noncomputable def nJ:PSp where
 md:=[.xy]
 run:=λh Q _=>∃(ns:LJ) (m:Int),h=[.lst ((ns.map Jy).map T.d),.d (.int m)]/\(0<m/\m<=100)/\Q (.lst (((UB m ns).map Jy).map T.d)) []
noncomputable def Mn(ns:LJ)(m:Int)(cs:LJ)(o3 o4:Option Sl):kA:=[some (.ky (.lst ((ns.map Jy).map T.d))),bD (.int m),oW (.lst ((cs.map Jy).map T.d)),o3,o4]
noncomputable def jo{α:Type}(f:α->D)(p:α×Nat):T:=.d (.tuple [.int (p.2:Int),f p.1])
theorem C6{α:Type}(f:α->D)(l:List α):((l.map f).zipIdx.map λp=>T.d (.tuple [.int (p.2:Int),p.1]))=l.zipIdx.map (jo f):=by rw[List.zipIdx_map,Qc];rfl
theorem Cj{c:PX}{s y r:PT}{o:Option Sl}{σ:kA}:cB Ψ E (.seq (.ife c s y) r) Z (o::σ)=dR Ψ c E (o::σ) λk x=>if k=true then cB Ψ E s { Z with nx:=λh=>cB Ψ E r Z h } x else cB Ψ E y { Z with nx:=λh=>cB Ψ E r Z h } x:=rfl
theorem MY:XF Ψ MH nJ mN pK:=by
 rintro _ Q _ ⟨ns,m,rfl,⟨p,W⟩,q⟩;refine fA [some (.ky (.lst ((ns.map Jy).map T.d))),bD (.int m),none,none,none] ?_;delta MH;simp_arith[↓yA];refine⟨by omega,?_⟩;rw[C6];refine sA (jo Jy) (λr v=>∃l i cs o f,r=List.zipIdx l i/\r.foldl (kC m) cs=UB m ns/\((cs.length:Int)<=m/\((i:Int)<m->cs.length=i)/\(m<=(i:Int)->(cs.length:Int)=m))/\v=Mn ns m cs o f) ?_ ?_ _ _ ⟨ns,0,[],none,none,rfl,rfl,⟨by show(0:Int)<=m;omega,λ_=>rfl,λz=>by omega⟩,rfl⟩;rintro v ⟨l,i,cs,o,f,_,e,_,rfl⟩;have e:cs=UB m ns:=e;subst e;delta Mn;simp_arith[↓yA];exact q;rintro⟨x,j⟩ r v N s ⟨l,i,cs,o,f,h,e,⟨A,Y,X⟩,rfl⟩;cases l with|nil=>cases h|cons y l=>injection h with h e3;injection h with e4 e5;subst e4;subst e5;have e:r.foldl (kC m) (kC m cs (x,j))=UB m ns:=e;delta Mn jo;delta AI;simp_arith[↓Cj];by_cases c:(j:Int)<m;rw[show kC m cs (x,j)=cs++[x] from if_pos c]at e;have:=Y c;simp_arith[dT c,QA];refine⟨by omega,s _ ⟨l,j+1,cs++[x],bD (.int (j:Int)),bD (.int x),e3,e,⟨?_,?_,?_⟩,?_⟩⟩;rw[QH];show((cs.length+1:Nat):Int)<=m;omega;rw[QH];intro z;show cs.length+1=j+1;omega;rw[QH];intro z;show((cs.length+1:Nat):Int)=m;omega;delta Mn;rw[QJ,QJ];rfl;rw[show kC m cs (x,j)=cs.set ((j:Int) % m).toNat (gI cs ((j:Int) % m) 0 * 31+x) from if_neg c]at e;have B:(cs.length:Int)=m:=X (by omega);have a:=wv (j:Int) (show m≠0 by omega);have b:=wL (j:Int) p;rw[if_neg (λz=>c (of_decide_eq_true z))];refine⟨p,IC 0 a (by omega) ?_⟩;simp_arith[↓yA];refine⟨cK.ok (.inr ⟨by decide,by decide⟩),p,Hq a (by rw[QA];omega) (s _ ⟨l,j+1,cs.set ((j:Int) % m).toNat (gI cs ((j:Int) % m) 0 * 31+x),bD (.int (j:Int)),bD (.int x),e3,e,⟨?_,?_,?_⟩,?_⟩)⟩;rw[qa];omega;intro z;omega;intro z;rw[qa];omega;delta Mn;rw[QAv,QAv,QAv]
end
section
variable{Ψ:PEv}{E:XE}{ρ:kA}{K:TK}{a y v h b:PX}{x:D}{n:Bool}{f:Str}{w:Operator}{g:Bi}{i:Int}
def VP(x:T)(n:Bool)(Ψ:PEv)(y v:PX)(E:XE)(p:kA)(K:TK):Prop:=sq (α:=Option Int) (rA x n) p (if isNop y=true then λρ (R:Option Int->kA->Prop)=>R none ρ else λρ R=>(pe Ψ y E).e ρ λl _ m=>NF l.er λo=>R o m) λl m =>
   sq (α:=Option Int) (rA x n) m (if isNop v=true then λρ (R:Option Int->kA->Prop)=>R none ρ else λρ R=>(pe Ψ v E).e ρ λu _ j=>NF u.er λo=>R o j) λu j=>VN (rA x n).vw l u λz k=>K z k j
theorem uK:pB Ψ (.slc a y v) E ρ K=pB Ψ a E ρ λx n z=>VP x n Ψ y v E z K:=rfl
theorem Us:VP (.d x) n Ψ .nop (.call f h) E ρ K=pB Ψ (.call f h) E ρ λu _ e=>mH u λo=>rJ (.d x) n none o λz k=>K z k e:=by cases n<;>rfl
theorem Bs:VP (.d x) n Ψ .nop (.bin w a b) E ρ K=pB Ψ (.bin w a b) E ρ λu _ e=>mH u λo=>rJ (.d x) n none o λz k=>K z k e:=by cases n<;>rfl
theorem Xs:VP (.d x) n Ψ .nop (.bi g h) E ρ K=pB Ψ (.bi g h) E ρ λu _ e=>mH u λo=>rJ (.d x) n none o λz k=>K z k e:=by cases n<;>rfl
theorem Ds:VP (.d x) n Ψ (.call f h) .nop E ρ K=pB Ψ (.call f h) E ρ λu _ e=>mH u λo=>rJ (.d x) n o none λz k=>K z k e:=by cases n<;>rfl
theorem Cs:VP (.d x) n Ψ (.int i) (.bin w a b) E ρ K=pB Ψ (.bin w a b) E ρ λu _ e=>mH u λo=>rJ (.d x) n (some i) o λz k=>K z k e:=by cases n<;>rfl
end
section
variable{a b k most:Int}{Ψ:PEv}{n m:Bool}{Q:T->Bool->Prop}{d e c:D}{R:T->Prop}{i:Nat}{w:Ps}{o:LS}{cs:LJ}{X:Option (Str×Str)}{p:Str×Str}
def oQ:Str:="bcdfgjkmnpqvwxyz"
noncomputable def Tc(a b f:Int)(k:Nat):Str:=aJ "zq" a++⟨#[gI oQ.cps.toList ((f+(k:Int)) % 16) 0]⟩++we "vzb" none (some b)
def Dm(a b f:Int):LS:=(Qr 16).map (Tc a b f)
noncomputable def Aj(s:Str):Bool:=decide (s.length<=3)&&s.cps.toList.all λc=>decide (c<128)
theorem A8:((Qr 2).all λ(a:Nat)=>Aj (aJ "zq" (a:Int)))=true:=by decide +kernel
theorem i8:((Qr 4).all λ(b:Nat)=>Aj (we "vzb" none (some (b:Int))))=true:=by decide +kernel
theorem Da:(decide oQ.cps.toList.Nodup&&oQ.cps.toList.all λc=>decide (c<128))=true:=by decide +kernel
theorem G3(h:0<=a)(x:a<2):Aj (aJ "zq" a)=true:=by obtain⟨a,rfl⟩:=qQ h;exact Qy.mp A8 a (Q3.mpr (by omega))
theorem T1(h:0<=a)(x:a<4):Aj (we "vzb" none (some a))=true:=by obtain⟨a,rfl⟩:=qQ h;exact Qy.mp i8 a (Q3.mpr (by omega))
theorem oM(a b f:Int)(k:Nat):(Tc a b f k).cps.toList=(aJ "zq" a).cps.toList++([gI oQ.cps.toList ((f+(k:Int)) % 16) 0]++(we "vzb" none (some b)).cps.toList):=by show((aJ "zq" a).cps++#[gI oQ.cps.toList ((f+(k:Int)) % 16) 0]++(we "vzb" none (some b)).cps).toList=_;rw[QBJ,QBJ,Qw]
theorem vi{l:LN}(h:l.Nodup){x y:Int}(j:0<=x)(g:x<l.length)(f:0<=y)(z:y<l.length)(e:gI l x 0=gI l y 0):x=y:=by obtain⟨v,Y,s⟩:=EQ j g;obtain⟨u,r,q⟩:=EQ f z;unfold gI at e;rw[Y,r]at e;have e:v=u:=e;subst e;have:=(List.getElem?_inj (i:=x.toNat) (by omega) h).mp (s.trans q.symm);omega
theorem ZK(f:Int)(k:Nat):0<=(f+(k:Int)) % 16/\(f+(k:Int)) % 16<oQ.cps.toList.length:=⟨wv _ (by decide),wL _ (by decide)⟩
theorem eh{f:Int}(q:0<=a)(l:a<2)(g:0<=b)(v:b<4)(Y:0<=f)(r:f<16):(Dm a b f).Nodup/\∀x∈Dm a b f,OkS x:=by
 have X:=Da;rw[Qg,decide_eq_true_iff]at X;have p:=G3 q l;have s:=T1 g v;unfold Aj at p s;rw[Qg]at p s;constructor;refine QBl.mpr (wU (λ{i j} u z h e=>h ?_) List.nodup_range);have e:=congrArg (λs:Str=>s.cps.toList) e;have e:(Tc a b f i).cps.toList=(Tc a b f j).cps.toList:=e;rw[oM,oM]at e;have e:=List.append_cancel_left e;injection e with e _;have:=vi X.1 (ZK f i).1 (ZK f i).2 (ZK f j).1 (ZK f j).2 e;have:=Q3.mp u;have:=Q3.mp z;omega;intro x y;obtain⟨k,_,rfl⟩:=QS.mp y;show(Tc a b f k).cps.all _=true;rw[<- Array.all_toList,oM,Qy];intro c hc;have:c<128:=by
  rcases QT.mp hc with hc|hc;exact of_decide_eq_true (Qy.mp p.2 c hc);rcases QT.mp hc with hc|hc
  ·rw[QI.mp hc]
   exact of_decide_eq_true (Qy.mp X.2 _ (bC (ZK f k).1 (ZK f k).2).2)
  exact of_decide_eq_true (Qy.mp s.2 c hc)
 exact dT (by omega)
noncomputable def KC(cs:LJ):LS:=Dm (xA cs 901 2) (xA cs 902 4) (xA cs 903 16)
theorem TF(cs:LJ):(KC cs).Nodup/\(∀x∈KC cs,OkS x)/\(KC cs).length=16:=by have a:=pA (cs:=cs) (k:=901) (m:=2) (by decide);have b:=pA (cs:=cs) (k:=902) (m:=4) (by decide);have c:=pA (cs:=cs) (k:=903) (m:=16) (by decide);obtain⟨y,h⟩:=eh a.1 a.2 b.1 b.2 c.1 c.2;exact⟨y,h,by unfold KC Dm;rw[QA,Q4]⟩
noncomputable def FL:PSp where
 run:=λh Q _=>∃cs:LJ,h=[.d (.list (cs.map Jy))]/\Q (.lst (((KC cs).map Jx).map T.d)) []
theorem D4(u:Ψ.sp "_law_draw"=tB):XF Ψ PJ FL kP yM:=by
 rintro _ Q _ ⟨cs,rfl,q⟩;have a:=pA (cs:=cs) (k:=901) (m:=2) (by decide);have b:=pA (cs:=cs) (k:=902) (m:=4) (by decide);have c:=pA (cs:=cs) (k:=903) (m:=16) (by decide);refine fA [bD (.list (cs.map Jy)),none,none,none,none] ?_;delta PJ;simp_arith[↓uK,↓Us,↓DU,↓uA (md:=[.xy]) u rfl rfl,↓vH,↓LA];have y:(QW "zq").length=2:=rfl;have x:(QW "vzb").length=3:=rfl;have h:(QW "bcdfgjkmnpqvwxyz").length=16:=rfl;rw[y,x];refine⟨by omega,by omega,by omega,by omega,?_⟩;refine nC (λ(i:Nat)=>T.d (.int (i:Int))) (λi=>T.d (.str (Tc (xA cs 901 2) (xA cs 902 4) (xA cs 903 16) i))) _ [] _ (λi j R z=>?_) (by show 0+(Qr 16).length<=_;rw[Q4];omega) ?_;simp_arith[↓yA];have Y:=wv (xA cs 903 16+(i:Int)) (show(16:Int)≠0 by decide);have r:=wL (xA cs 903 16+(i:Int)) (show(0:Int)<16 by decide);rw[h];refine⟨by omega,?_⟩;have v:pD (QW "bcdfgjkmnpqvwxyz").cps.toList ((xA cs 903 16+(i:Int)) % 16)=some (gI oQ.cps.toList ((xA cs 903 16+(i:Int)) % 16) 0):=(bC (l:=oQ.cps.toList) (ZK _ i).1 (ZK _ i).2).1;refine⟨_,v,?_⟩;simp_arith[↓yA];have p:=G3 a.1 a.2;have s:=T1 b.1 b.2;unfold Aj at p s;rw[Qg,decide_eq_true_iff]at p s;have e:(aJ (QW "zq") (xA cs 901 2)++⟨#[gI oQ.cps.toList ((xA cs 903 16+(i:Int)) % 16) 0]⟩:Str).length=(aJ (QW "zq") (xA cs 901 2)).length+1:=Array.size_append;have g:(aJ (QW "zq") (xA cs 901 2)).length<=3:=p.1;have f:(we (QW "vzb") none (some (xA cs 902 4))).length<=3:=s.1;rw[e];exact⟨by show _+1<=_;omega,by omega,z⟩;rw[Qj,lA λi=>Jx (Tc (xA cs 901 2) (xA cs 902 4) (xA cs 903 16) i)];have e:((Qr 16).map λi=>Jx (Tc (xA cs 901 2) (xA cs 902 4) (xA cs 903 16) i))=(KC cs).map Jx:=by unfold KC Dm;rw[Qc];rfl
 exact e▸q
def O7(b:Bool):Int:=if b then 1 else 0
theorem n5{b:Bool}:mL .int [(.d (.bool b),n)] Q=Q (.d (.int (O7 b))) false:=by unfold mL jC;rw[oA];exact Xo b
theorem fq{f g h k:D}{t:T}:DA (.lst [.d d,.d e,.d f,.d g,.d h,.d k]) n t m R=DA (.lst ([d,e,f,g,h,k].map T.d)) n t m R:=rfl
noncomputable def Bg(cs:LJ)(h:Int)(p:Str×Nat):Str×Int×Int×Int:=(p.1,xA cs (910+(p.2:Int)) h,xA cs (920+(p.2:Int)) h * O7 (decide (xA cs (930+(p.2:Int)) 3=0)),gI [1,1,2,2,3,4] (xA cs (940+(p.2:Int)) 6) 0)
def eL(cs:LJ):Int:=gI [4,100] (xA cs 904 2) 0
noncomputable def XN(cs:LJ)(ns:LS):List (Str×Int×Int×Int):=ns.zipIdx.map (Bg cs (eL cs))
noncomputable def ZU:PSp where
 run:=λx Q _=>∃(cs:LJ) (h:LS),x=[.d (.list (cs.map Jy)),.d (.list (h.map Jx))]/\h.length<=100/\Q (.lst (((XN cs h).map xD).map T.d)) []
noncomputable def Gp(cs:LJ)(ns:LS)(w:List (Str×Int×Int×Int))(o4 o5 o6 o7:Option Sl):kA:=[bD (.list (cs.map Jy)),bD (.list (ns.map Jx)),oW (.lst ((w.map xD).map T.d)),bD (.int (eL cs)),o4,o5,o6,o7]
theorem J1(cs:LJ):0<eL cs:=by have a:=pA (cs:=cs) (k:=904) (m:=2) (by decide);have:=(bC (l:=[(4:Int),100]) (d:=0) a.1 a.2).2;show 0<gI _ _ _;rcases QM.mp this with e|e;rw[e];decide;rw[QI.mp e];decide
theorem Vk(b:Bool):-(2 ^ 64)<O7 b/\O7 b<2 ^ 64:=by cases b<;>decide
theorem Ka{α:Type}{l:List α}{p:α×Nat}(h:p∈l.zipIdx i):p.1∈l/\p.2<i+l.length:=by obtain⟨z,y,x⟩:=List.mem_zipIdx h;exact⟨x▸wH _,y⟩
theorem jh(Z:Ψ.sp "_law_draw"=tB):XF Ψ LH ZU lN oK:=by
 rintro _ Q _ ⟨cs,h,rfl,hl,q⟩;have a:=pA (cs:=cs) (k:=904) (m:=2) (by decide);have wp:=J1 cs;refine fA [bD (.list (cs.map Jy)),bD (.list (h.map Jx)),none,none,none,none,none,none] ?_;delta LH;simp_arith[↓uA (md:=[.xy]) Z rfl rfl,↓vH,↓LA];refine⟨by omega,by omega,IC (f:=Jy) (l:=[4,100]) 0 a.1 a.2 ?_⟩;rw[C6];refine sA (jo Jx) (λr z=>∃w s g v u,w++r.map (Bg cs (eL cs))=XN cs h/\(w.length+r.length<=100/\∀p∈r,p.2<100)/\z=Gp cs h w s g v u) ?_ ?_ _ _ ⟨[],none,none,none,none,rfl,⟨by rw[List.length_zipIdx];show 0+_<=_;omega,λp Y=>by have:=(Ka Y).2;omega⟩,rfl⟩;rintro z ⟨w,s,g,v,u,e,_,rfl⟩;have e:w=XN cs h:=by rw[<- e];exact(Qu _).symm
 subst e;delta Gp;simp_arith[↓yA];exact q;rintro⟨x,j⟩ r z N F ⟨w,s,g,v,u,e,⟨K,W⟩,rfl⟩;have K:w.length+(r.length+1)<=100:=K;have y:j<100:=W (x,j) QD;have b:=pA (cs:=cs) (k:=940+(j:Int)) (m:=6) (by decide);delta Gp jo;delta RI;simp?[↓uA (md:=[.xy]) Z rfl rfl,↓vH,↓LA,↓n5,↓fq,QA];have E:=dj y 910 rfl;have C:=dj y 920 rfl;have B:=dj y 930 rfl;have A:=dj y 940 rfl;refine⟨E.1,E.2,wp,C.1,C.2,wp,B.1,B.2,cK.ok (.inr (Vk _)),by omega,A.1,A.2,IC (f:=Jy) (l:=[1,1,2,2,3,4]) 0 b.1 b.2 ⟨by omega,by omega,F _ ⟨w++[Bg cs (eL cs) (x,j)],bD (.int (j:Int)),bD (.str x),bD (.int (xA cs (910+(j:Int)) (eL cs))),bD (.int (xA cs (920+(j:Int)) (eL cs) * O7 (decide (xA cs (930+(j:Int)) 3=0)))),?_,⟨?_,λp Y=>W p (QC _ Y)⟩,?_⟩⟩⟩;rw[Qw];exact e;rw[QH];show w.length+1+r.length<=100;omega;delta Gp;rw[QJ,QJ];rfl
theorem sO(cs:LJ)(ns:LS):(XN cs ns).map (λp=>p.1)=ns:=by unfold XN;rw[Qc];exact List.zipIdx_map_fst 0 ns
noncomputable abbrev Ps:=List (Str×Int×Int×Int)
def Ij:Str×Int×Int×Int:=("",0,0,0)
def mS(w:Ps)(i:Int):Str:=(gI w i Ij).1
noncomputable def m4(w:Ps)(x:Str):LS:=(w.filter λp=>!decide (p.1=x)).map λp=>p.1
noncomputable def Of(cs:LJ)(k:Int):Int:=gI [k,2 * (k / 2),xA cs (11 * k+3) 9,100 - k] (xA cs 905 4) 0
noncomputable def Hk(cs:LJ)(k:Int):Str:=we "abcdef" (some (xA cs (11 * k+2) 6)) none
noncomputable def vk(cs:LJ)(k:Int)(o:LS):Str:=gI o (xA cs (11 * k+1) (o.length:Int)) ""
noncomputable def ft(cs:LJ)(k:Int)(w:Ps):LS:=(Qr (xA cs (11 * k+7) 3).toNat).map λ(j:Nat)=>mS w (xA cs (11 * k+8+(j:Int)) (w.length:Int))
noncomputable def MX(cs:LJ)(k:Int)(w:Ps)(o:LS):Evt:=.see (Of cs k) (mS w (xA cs (11 * k) (w.length:Int))) (vk cs k o) (Hk cs k)
noncomputable def vG(cs:LJ)(k:Int)(w:Ps)(a m:Str):Evt:=.tell (Of cs k) a (gI (m4 w a) (xA cs (11 * k+6) ((m4 w a).length:Int)) "") m (Hk cs k) (ft cs k w)
noncomputable def Ji(cs:LJ)(k:Int)(w:Ps)(o:LS):Option (Str×Str)->Evt
 |none=>MX cs k w o|some (a,b)=>if xA cs (11 * k+4) 4=0 then MX cs k w o else if 0<xA cs (11 * k+5) 3 then vG cs k w a b else vG cs k w (mS w (xA cs (11 * k) (w.length:Int))) (vk cs k o)
def Ba:Option (Str×Str)->D
 |none=>.none|some p=>pr p
noncomputable def Dj(w:Ps)(o:LS):Option (Str×Str)->Prop
 |none=>True|some (a,b)=>(∃p∈w,p.1=a)/\b∈o
structure BdOk(w:Ps)(o:LS):Prop where
 p2:2<=w.length
 pl:w.length<=11
 nd:(w.map λp=>p.1).Nodup
 m1:1<=o.length
 ml:o.length<=10
theorem u4(h:BdOk w o)(x:Str):0<(m4 w x).length:=by
 have y:=h.p2;have nd:=h.nd;cases w with
 |nil=>simp at y|cons p r=>cases r with|nil=>simp at y|cons q r=>have z:p.1≠q.1:=λe=>(Qi.mp nd).1 (show p.1∈_ from e.symm▸QD);refine WU (a:=if p.1=x then q.1 else p.1) ?_;unfold m4;split;rename_i c;exact QS.mpr ⟨q,QO.mpr ⟨QC _ QD,by rw[dF λe=>z (c.trans e.symm)];rfl⟩,rfl⟩;rename_i c;exact QS.mpr ⟨p,QO.mpr ⟨QD,by rw[dF c];rfl⟩,rfl⟩
noncomputable def HL:PSp where
 run:=λh Q _=>∃(cs:LJ) (k:Int) (w:Ps) (o:LS) (X:Option (Str×Str)),h=[.d (.list (cs.map Jy)),.d (.int k),.d (.list (w.map xD)),.d (.list (o.map Jx)),.d (Ba X)]/\(0<=k/\k<=100)/\BdOk w o/\Q (.d (zD (Ji cs k w o X))) []
theorem vn{a b:D}:iF [.d a,.d b,.d c,.d d,.d e]=.d (.tuple [a,b,c,d,e]):=rfl
theorem Yr{a b f g:D}:iF [.d a,.d b,.d c,.d d,.d e,.d f,.d g]=.d (.tuple [a,b,c,d,e,f,g]):=rfl
theorem Hm{ds:List D}:mL .tuple [(.lst (ds.map T.d),n)] Q=Q (.d (.tuple ds)) false:=by unfold mL jC;rw[yE];show OT .tuple [.ls (ds.map T.d)] Q=_;rw[ke];exact propext ⟨λ⟨_,e,q⟩=>by rw[VA]at e;cases e;exact q,λq=>⟨_,VA _,q⟩⟩
theorem Cf:(QW "abcdef").length=6:=rfl
noncomputable def pk(cs:LJ)(k:Int)(w:Ps)(o:LS)(X:Option (Str×Str))(mt:Str)(o8:Option Sl)(o10 z y x h:Option Sl):kA:=[bD (.list (cs.map Jy)),bD (.int k),bD (.list (w.map xD)),bD (.list (o.map Jx)),bD (Ba X),bD (.int (xA cs (11 * k) (w.length:Int))),bD (.str mt),bD (.str (Hk cs k)),o8,bD (.int (Of cs k)),o10,z,y,x,h]
theorem Xa:IntMulOk 11 k:=cK.ok (.inl ⟨by decide,by decide⟩)
theorem Cd(g:Ψ.sp "_law_draw"=tB){Q:T->LT->Prop}{a mt:Str}{o8 u z y h:Option Sl}(hk:0<=k/\k<=100)(hb:BdOk w o)(q:Q (.d (zD (vG cs k w a mt))) []):pF Ψ bF (eZ Q) (pk cs k w o X mt o8 (bD (.str a)) u z y h):=by
 have E:=u4 hb a;have B:=hb.pl;have C:=hb.p2;delta pk;delta bF;simp_arith[↓yA];rw[<- lA xD];refine bA (λp=>T.d (xD p)) (λ(p:Str×Int×Int×Int)=>T.d (.str p.1)) (λp=>!decide (p.1=a)) w [] _ (λp f R v=>?_) (by show 0+w.length<=_;omega) ?_;simp_arith[↓gJ];split at v;rename_i c;rw[if_pos c];exact v;rename_i c;rw[if_neg c];exact v;rw[Qj,lA λp:Str×Int×Int×Int=>Jx p.1];have e:((w.filter λp=>!decide (p.1=a)).map λp=>Jx p.1)=(m4 w a).map Jx:=by unfold m4;rw[Qc];rfl
 rw[e];simp_arith[↓uA (md:=[.xy]) g rfl rfl,↓vH,↓LA,QA];have W:=pA (cs:=cs) (k:=11 * k+6) (m:=((m4 w a).length:Int)) (by omega);have G:=pA (cs:=cs) (k:=11 * k+7) (m:=3) (by decide);have Y:=dk hk 7 rfl;refine⟨Xa,(dk hk 6 rfl).1,(dk hk 6 rfl).2,by omega,IC (α:=Str) "" W.1 W.2 ?_⟩;refine⟨by omega,Xa,Y.1,Y.2,by omega,by omega,?_⟩;refine sA (λ(i:Nat)=>T.d (.int (i:Int))) (λr x=>∃bs h,bs++r.map (λ(j:Nat)=>mS w (xA cs (11 * k+8+(j:Int)) (w.length:Int)))=ft cs k w/\(bs.length+r.length<=3/\∀j∈r,j<3)/\x=pk cs k w o X mt o8 (bD (.str a)) (bD (.list ((m4 w a).map Jx))) (bD (.str (gI (m4 w a) (xA cs (11 * k+6) ((m4 w a).length:Int)) ""))) (oW (.lst ((bs.map Jx).map T.d))) h) ?_ ?_ _ _ ⟨[],h,rfl,⟨by rw[Q4];show 0+_<=3;omega,λj K=>by have:=Q3.mp K;omega⟩,rfl⟩;rintro x ⟨bs,h,e,_,rfl⟩;have e:bs=ft cs k w:=by rw[<- e];exact(Qu _).symm
 subst e;delta pk;simp_arith[↓Hm,↓Yr];exact⟨by omega,q⟩;rintro j r x N A ⟨bs,h,e,⟨s,l⟩,rfl⟩;have s:bs.length+(r.length+1)<=3:=s;have F:j<3:=l j QD;have Z:=pA (cs:=cs) (k:=11 * k+8+(j:Int)) (m:=(w.length:Int)) (by omega);delta pk;delta FK;simp?[↓uA (md:=[.xy]) g rfl rfl,↓vH,↓LA,QA];refine⟨Xa,by omega,by omega,by omega,IC Ij Z.1 Z.2 ?_⟩;simp_arith[↓gJ,QA];refine⟨by omega,A _ ⟨bs++[mS w (xA cs (11 * k+8+(j:Int)) (w.length:Int))],bD (.int (j:Int)),?_,⟨?_,λp f=>l p (QC _ f)⟩,?_⟩⟩;rw[Qw];exact e;rw[QH];show bs.length+1+r.length<=3;omega;delta pk;rw[QJ,QJ];rfl
theorem Od{L:Bool->Prop}:rB .Is (.d (Ba X)) (.d .none) L=L X.isNone:=by cases X<;>rfl
theorem Uk:DA (.d (Ba (some p))) n (.d (.int 0)) m R=R (.d (.str p.1)):=GA (i:=0) rfl
theorem Xk:DA (.d (Ba (some p))) n (.d (.int 1)) m R=R (.d (.str p.2)):=GA (i:=1) rfl
theorem bu{E:XE}{r:PT}{Z:PEnds}{ρ:kA}{a b:D}:cI Ψ E r Z i (.lst [.d a,.d b,.d c,.d d]) true ρ=cB Ψ E r Z (ρ.set i (bD (.list [a,b,c,d]))):=vp (ds:=[a,b,c,d])
theorem bh(x:Ψ.sp "_law_draw"=tB):XF Ψ TJ HL uP vM:=by
 rintro _ Q _ ⟨cs,k,w,o,X,rfl,hk,hb,q⟩;have W:=hb.pl;have K:=hb.p2;have A:=hb.m1;have h:=pA (cs:=cs) (k:=11 * k) (m:=(w.length:Int)) (by omega);have Z:=pA (cs:=cs) (k:=11 * k+1) (m:=(o.length:Int)) (by omega);have B:=pA (cs:=cs) (k:=11 * k+2) (m:=6) (by decide);have Y:=pA (cs:=cs) (k:=905) (m:=4) (by decide);refine fA [bD (.list (cs.map Jy)),bD (.int k),bD (.list (w.map xD)),bD (.list (o.map Jx)),bD (Ba X),none,none,none,none,none,none,none,none,none,none] ?_;delta TJ;simp?[↓uK,↓Ds,↓DU,↓uA (md:=[.xy]) x rfl rfl,↓vH,↓LA,QA,↓Xj,↓Od];have s:=dk hk 1 rfl;have r:=dk hk 2 rfl;have j:=dk hk 3 rfl;refine⟨Xa,by omega,by omega,by omega,Xa,s.1,s.2,by omega,IC (α:=Str) "" Z.1 Z.2 ?_⟩;rw[Cf];refine⟨Xa,r.1,r.2,by omega,cK.ok (.inl ⟨by decide,by decide⟩),Xa,j.1,j.2,by omega,?_⟩;simp_arith[↓bu,↓uA (md:=[.xy]) x rfl rfl,↓vH,↓LA,↓Xj,↓Od];refine IC (f:=Jy) (l:=[k,2 * (k / 2),xA cs (11 * k+3) 9,100 - k]) 0 Y.1 Y.2 ?_;cases X with|none=>simp_arith[Option.isNone_none];refine IC Ij h.1 h.2 ?_;simp_arith[↓gJ,↓vn];exact⟨by omega,q⟩|some p=>simp_arith[Option.isNone_some];have g:=dk hk 4 rfl;refine⟨Xa,g.1,g.2,?_⟩;have q:Q (.d (zD (if xA cs (11 * k+4) 4=0 then MX cs k w o else if 0<xA cs (11 * k+5) 3 then vG cs k w p.1 p.2 else vG cs k w (mS w (xA cs (11 * k) (w.length:Int))) (vk cs k o)))) []:=q;by_cases u:xA cs (11 * k+4) 4=0;rw[if_pos u]at q;rw[if_pos (dT u)];refine IC Ij h.1 h.2 ?_;simp_arith[↓gJ,↓vn];exact⟨by omega,q⟩;rw[if_neg u]at q;rw[if_neg (λz=>u (of_decide_eq_true z))];refine IC Ij h.1 h.2 ?_;simp_arith[↓gJ,↓uA (md:=[.xy]) x rfl rfl,↓vH,↓LA,↓Uk,↓Xk];have v:=dk hk 5 rfl;refine⟨Xa,v.1,v.2,?_⟩;by_cases y:0<xA cs (11 * k+5) 3;rw[if_pos y]at q;rw[if_pos (dT y)];exact Cd (mt:=p.2) x hk hb q;rw[if_neg y]at q;rw[if_neg (λz=>y (of_decide_eq_true z))];exact Cd (mt:=vk cs k o) x hk hb q
theorem Rc{i:Int}(x:0<=i)(h:i<(w.length:Int)):∃p∈w,p.1=mS w i:=⟨_,(bC (d:=Ij) x h).2,rfl⟩
noncomputable def Kk(w:Ps)(o:LS):Evt->Prop
 | .see _ p m h=>(∃x∈w,x.1=p)/\m∈o/\OkS h|.tell _ a b m h q=>(∃x∈w,x.1=a)/\(∃x∈w,x.1=b)/\m∈o/\a≠b/\OkS h/\∀y∈q,∃x∈w,x.1=y
theorem Df:((Qr 6).all λ(a:Nat)=>qX (we "abcdef" (some (a:Int)) none))=true:=by decide +kernel
theorem Y1(cs:LJ)(k:Int):OkS (Hk cs k):=by have h:=pA (cs:=cs) (k:=11 * k+2) (m:=6) (by decide);unfold Hk;obtain⟨a,e⟩:=qQ h.1;rw[e]at h ⊢;exact Qy.mp Df a (Q3.mpr (by omega))
noncomputable def F5:Evt->Str×Str
 | .see _ p m _=>(p,m)|.tell _ _ b m _ _=>(b,m)
theorem Sn(hb:BdOk w o)(hl:Dj w o X):Kk w o (Ji cs k w o X):=by
 have A:=hb.p2;have C:=hb.m1;have r:=pA (cs:=cs) (k:=11 * k) (m:=(w.length:Int)) (by omega);have q:=pA (cs:=cs) (k:=11 * k+1) (m:=(o.length:Int)) (by omega);have u:=Rc r.1 r.2;have h:vk cs k o∈o:=(bC q.1 q.2).2;have v:∀a m,(∃x∈w,x.1=a)->m∈o->Kk w o (vG cs k w a m):=λa m W Z=>by have B:=u4 hb a;have l:=pA (cs:=cs) (k:=11 * k+6) (m:=((m4 w a).length:Int)) (by omega);obtain⟨x,Y,e⟩:=QS.mp (bC (d:=("":Str)) l.1 l.2).2;obtain⟨K,f⟩:=QO.mp Y;refine⟨W,⟨x,K,e⟩,Z,λz=>?_,Y1 cs k,λy s=>?_⟩;rw[dT (e.trans z.symm)]at f;cases f;obtain⟨j,_,rfl⟩:=QS.mp s;have g:=pA (cs:=cs) (k:=11 * k+8+(j:Int)) (m:=(w.length:Int)) (by omega);exact Rc g.1 g.2
 cases X with
 |none=>exact⟨u,h,Y1 cs k⟩|some p =>
  obtain⟨a,b⟩:=p;show Kk w o (if xA cs (11 * k+4) 4=0 then MX cs k w o else if 0<xA cs (11 * k+5) 3 then vG cs k w a b else vG cs k w (mS w (xA cs (11 * k) (w.length:Int))) (vk cs k o));split;exact⟨u,h,Y1 cs k⟩;split
  ·exact v a b hl.1 hl.2
  exact v _ _ u h
theorem Ha{e:Evt}(h:Kk w o e):Dj w o (some (F5 e)):=by
 cases e with|see t p m x=>exact⟨h.1,h.2.1⟩|tell t a b m x q=>exact⟨h.2.1,h.2.2.1⟩
theorem IE{α:Type}(xs:List α)(a b:Option Int):(dC xs a b).Sublist xs:=(QBc _ _).trans (List.drop_sublist _ _)
theorem Vb{α:Type}{xs:List α}(y:0<=a)(x:a<=b)(h:b<=xs.length):(dC xs (some a) (some b)).length=(b - a).toNat:=by obtain⟨a,rfl⟩:=qQ y;obtain⟨b,rfl⟩:=qQ (QAD y x);have x:a<=b:=QAw.mp x;have h:b<=xs.length:=QAw.mp h;unfold dC;rw[HT.sIx_nat,HT.sIx_nat,wb,QAf,ww h,ww (QX x h),ww (Nat.sub_le_sub_right h a),<- Int.ofNat_sub x];rfl
theorem cT{α:Type}{xs:List α}(x:0<=b)(h:b<=xs.length):(dC xs none (some b)).length=b.toNat:=by obtain⟨b,rfl⟩:=qQ x;have h:b<=xs.length:=QAw.mp h;unfold dC;rw[HT.sIx_nat,HT.sIx_none,wb,QAf,ww h,QBv,QBv,ww h];rfl
theorem CQ{α z:Type}{f:α->List z}{c:Nat}:∀(l:List α),(∀x∈l,(f x).length<=c)->(l.flatMap f).length<=c * l.length
 |[],_=>Q8 _|x::l,h=>by have a:=h x QD;have b:=CQ l λy u=>h y (QC _ u);rw[WX,QH,QL,Nat.mul_add];omega
noncomputable def Ab(cs:LJ)(o:LS)(k j:Nat):JB:=if 0<xA cs (950+3 * (k:Int)+(j:Int)) 3 then[gI [(gI o (k:Int) "",gI o (j:Int) ""),(gI o (j:Int) "",gI o (k:Int) "")] (xA cs (960+3 * (k:Int)+(j:Int)) 2) ("","")] else[]
def Yj(cs:LJ)(o:LS)(k:Nat):JB:=(Qr k).flatMap (Ab cs o k)
def Jk(cs:LJ)(o:LS):JB:=(Qr o.length).flatMap (Yj cs o)
theorem kY(cs:LJ)(o:LS)(k j:Nat):(Ab cs o k j).length<=1:=by unfold Ab;split;exact Qa _;exact Q8 _
theorem vY(cs:LJ)(o:LS)(k:Nat):(Yj cs o k).length<=k:=by have:=CQ (Qr k) λj _=>kY cs o k j;rw[Q4]at this;show(QBw _ _).length<=k;omega
theorem Eb(h:o.length<=10):(Jk cs o).length<=100:=by have:=CQ (c:=10) (Qr o.length) λk hk=>QX (vY cs o k) (by have:=Q3.mp hk;omega);rw[Q4]at this;show(QBw _ _).length<=100;omega
theorem XM{α:Type}{l:List α}{k:Nat}{d:α}(h:k<l.length):pD l (k:Int)=some (gI l (k:Int) d)/\gI l (k:Int) d∈l:=bC (QBa k) (by omega)
theorem Zj(h:p∈Jk cs o):p.1∈o/\p.2∈o:=by obtain⟨k,hk,h⟩:=wI.mp h;obtain⟨j,x,h⟩:=wI.mp h;have hk:=Q3.mp hk;have x:=Q3.mp x;have a:=(XM (d:=("":Str)) hk).2;have b:=(XM (d:=("":Str)) (show j<o.length by omega)).2;unfold Ab at h;split at h;have d:=pA (cs:=cs) (k:=960+3 * (k:Int)+(j:Int)) (m:=2) (by decide);have g:=(bC (l:=[(gI o (k:Int) ("":Str),gI o (j:Int) ""),(gI o (j:Int) "",gI o (k:Int) "")]) (d:=("","")) d.1 d.2).2;rw[<- QI.mp h]at g;rcases QM.mp g with g|g;rw[g];exact⟨a,b⟩;rw[QI.mp g];exact⟨b,a⟩;cases h
noncomputable def MM(cs:LJ)(w:Ps)(o:LS)(s:List Evt×Option (Str×Str))(k:Nat):List Evt×Option (Str×Str):=(s.1++[Ji cs (k:Int) w o s.2],some (F5 (Ji cs (k:Int) w o s.2)))
noncomputable def Ts(cs:LJ)(w:Ps)(o:LS):List Evt:=((Qr cs.length).foldl (MM cs w o) ([],none)).1
theorem Dd{cs:LJ}{w:Ps}{o:LS}(hb:BdOk w o):∀(l:LN) (s:List Evt×Option (Str×Str)),(∀e∈s.1,Kk w o e)->Dj w o s.2->(∀e∈(l.foldl (MM cs w o) s).1,Kk w o e)/\(l.foldl (MM cs w o) s).1.length=s.1.length+l.length
 |[],s,h,_=>⟨h,rfl⟩|k::l,s,h,h2=>by have e:=Sn (cs:=cs) (k:=(k:Int)) hb h2;obtain⟨a,b⟩:=Dd hb l (MM cs w o s k) (λx y=>by rcases QT.mp y with y|y;exact h x y;rw[QI.mp y];exact e) (Ha e);refine⟨a,b.trans ?_⟩;show(s.1++[_]).length+l.length=s.1.length+(l.length+1);rw[QH];show s.1.length+1+l.length=_;omega
noncomputable def UK(cs:LJ)(most:Int):Int:=if xA cs 897 8=0 then 7+xA cs 898 2 else 2+xA cs 906 (most - 1)
noncomputable def ph(cs:LJ)(most:Int):LS:=dC (KC cs) none (some (UK cs most))
noncomputable def mV(cs:LJ):LS:=dC (KC cs) (some 8) (some (9+xA cs 907 3+3 * O7 (decide (xA cs 899 4=0))))
noncomputable def T7(cs:LJ):LS:=if xA cs 908 3=0 then dC (KC cs) none (some ((mV cs).length:Int)) else mV cs
def iq(cs:LJ)(w:Ps)(o:LS):Wd:=⟨w,o,Jk cs o,Ts cs w o⟩
noncomputable def lJ(ns:LJ)(most:Int):Wd:=iq (UB 24 ns) (XN (UB 24 ns) (ph (UB 24 ns) most)) (T7 (UB 24 ns))
theorem Va(cs:LJ)(h:2<=most/\most<=10):2<=UK cs most/\UK cs most<=11:=by have d:=pA (cs:=cs) (k:=906) (m:=most - 1) (by omega);have e:=pA (cs:=cs) (k:=898) (m:=2) (by decide);unfold UK;split<;>omega
theorem oX(cs:LJ):1<=(mV cs).length/\(mV cs).length<=6:=by
 have d:=pA (cs:=cs) (k:=907) (m:=3) (by decide);have n:=(TF cs).2.2;have z:0<=O7 (decide (xA cs 899 4=0))/\O7 (decide (xA cs 899 4=0))<=1:=by cases decide (xA cs 899 4=0)<;>exact⟨by decide,by decide⟩
 unfold mV;rw[Vb (by decide) (by omega) (by rw[n];omega)];omega
theorem zd(cs:LJ):(1<=(T7 cs).length/\(T7 cs).length<=6)/\(T7 cs).Sublist (KC cs):=by have n:=(TF cs).2.2;have m:=oX cs;unfold T7;split;rw[cT (by omega) (by rw[n];omega)];exact⟨by omega,IE _ _ _⟩;exact⟨m,IE _ _ _⟩
theorem c7(cs:LJ)(h:2<=most/\most<=10):BdOk (XN cs (ph cs most)) (T7 cs):=by have n:=TF cs;have d:=Va cs h;have e:=sO cs (ph cs most);have l:=congrArg wN e;have c:(ph cs most).length=(UK cs most).toNat:=cT (by omega) (by rw[n.2.2];omega);rw[QA,c]at l;have m:=(zd cs).1;exact⟨by omega,by omega,by rw[e];exact(IE _ _ _).nodup n.1,m.1,by omega⟩
theorem t6(ns:LJ):(UB 24 ns).length<=24:=BM (by decide) ns 0 [] (by decide) (Qa _) (λ_=>rfl)
theorem A0(ns:LJ)(h:2<=most/\most<=10):WOk (lJ ns most):=by
 have n:=TF (UB 24 ns);have hb:=c7 (UB 24 ns) h;have m:=zd (UB 24 ns);have f:=t6 ns;have y:∀x∈T7 (UB 24 ns),OkS x:=λx j=>n.2.1 x (m.2.mem j);obtain⟨r,v⟩:=Dd (cs:=UB 24 ns) hb (Qr (UB 24 ns).length) ([],none) (λ_ z=>by cases z) trivial;rw[Q4]at v;refine⟨λp u=>?_,Eb hb.ml,hb.pl,hb.nd,λp u=>?_,hb.ml,y,m.2.nodup n.1,?_,λe l=>?_⟩;obtain⟨a,b⟩:=Zj u;exact⟨y _ a,y _ b⟩;have:p.1∈ph (UB 24 ns) most:=(sO (UB 24 ns) (ph (UB 24 ns) most))▸QS.mpr ⟨p,u,rfl⟩;exact n.2.1 _ ((IE _ _ _).mem this);exact QX (wq v) (by show 0+_<=60;omega);have:=r e l;cases e with|see t p m g=>exact this|tell t a b m g q=>exact this
end
section
variable{x:D}{n:Bool}{Ψ:PEv}{E:XE}{ρ:kA}{K:TK}{j:Nat}{i:Int}
theorem Zs:VP (.d x) n Ψ .nop (.xz j) E ρ K=pB Ψ (.xz j) E ρ λu _ h=>mH u λo=>rJ (.d x) n none o λz k=>K z k h:=by cases n<;>rfl
theorem Ks:VP (.d x) n Ψ .nop (.ng i) E ρ K=pB Ψ (.ng i) E ρ λu _ h=>mH u λo=>rJ (.d x) n none o λz k=>K z k h:=by cases n<;>rfl
theorem Vs:VP (.d x) n Ψ .nop (.int i) E ρ K=pB Ψ (.int i) E ρ λu _ h=>mH u λo=>rJ (.d x) n none o λz k=>K z k h:=by cases n<;>rfl
end
noncomputable def oR(cs:LJ)(most:Int)(nm:LS)(h:Int)(z:Ps)(v:LS)(w o7 o8 u o10 y x:Option Sl):kA:=[bD (.list (cs.map Jy)),bD (.int most),bD (.list (nm.map Jx)),bD (.int h),bD (.list (z.map xD)),bD (.list (v.map Jx)),w,o7,o8,u,o10,y,x]
noncomputable def i7(h:JB):Option Sl:=some (.own (.lst ((h.map pr).map T.d)))
noncomputable def V6(es:List Evt):Option Sl:=some (.own (.lst ((es.map zD).map T.d)))
theorem vT(ds:List D):(T.lst (ds.map T.d)).er=.list ds:=by show PyData.list (ersT (ds.map T.d))=_;rw[IA]
theorem du{Ψ:PEv}{E:XE}{r:PT}{Z:PEnds}{i:Nat}{ρ:kA}{a b:D}:cI Ψ E r Z i (.lst [.d a,.d b]) true ρ=cB Ψ E r Z (ρ.set i (bD (.list [a,b]))):=vp (ds:=[a,b])
section
variable{Ψ:PEv}{Z:PEnds}{cs:LJ}{most y:Int}{n:LS}{w:Ps}{h:LS}{o7 o8 v o10 g u:Option Sl}
theorem pq(e:Ψ.sp "_law_draw"=tB){x:JB}{k j:Nat}(hk:k<h.length)(b:j<h.length)(p:h.length<=10)(r:x.length<=200)(q:∀v,Z.nx (oR cs most n y w h (i7 (x++Ab cs h k j)) (bD (.int (k:Int))) (bD (.int (j:Int))) v o10 g u)):pF Ψ hG Z (oR cs most n y w h (i7 x) (bD (.int (k:Int))) (bD (.int (j:Int))) v o10 g u):=by
 have i:pD (h.map Jx) (k:Int)=some (.str (gI h (k:Int) "")):=by rw[SD,(XM (d:=("":Str)) hk).1];rfl
 have o:pD (h.map Jx) (j:Int)=some (.str (gI h (j:Int) "")):=by rw[SD,(XM (d:=("":Str)) b).1];rfl
 have d:=pA (cs:=cs) (k:=960+3 * (k:Int)+(j:Int)) (m:=2) (by decide);have a:IntMulOk 3 (k:Int):=cK.ok (.inl ⟨by decide,by decide⟩);delta oR i7;delta hG;simp_arith[i,o,↓du,↓uA (md:=[.xy]) e rfl rfl,↓vH,↓LA,QA];refine⟨by omega,by omega,by omega,a,by omega,by omega,?_⟩;by_cases c:0<xA cs (950+3 * (k:Int)+(j:Int)) 3;rw[show Ab cs h k j=_ from if_pos c]at q;rw[if_pos (dT c)];refine⟨a,by omega,by omega,IC (f:=pr) (l:=[(gI h (k:Int) ("":Str),gI h (j:Int) ""),(gI h (j:Int) "",gI h (k:Int) "")]) ("","") d.1 d.2 ⟨by omega,?_⟩⟩;have q:=q (bD (.list [pr (gI h (k:Int) ("":Str),gI h (j:Int) ""),pr (gI h (j:Int) ("":Str),gI h (k:Int) "")]));unfold i7 at q;rw[QJ,QJ]at q;exact q;rw[show Ab cs h k j=_ from if_neg c,Qu]at q;rw[if_neg (λz=>c (of_decide_eq_true z))];exact q _
theorem oq(X:Ψ.sp "_law_draw"=tB){z:JB}{k:Nat}(hk:k<h.length)(m:h.length<=10)(W:z.length<=100)(q:∀o8 v,Z.nx (oR cs most n y w h (i7 (z++Yj cs h k)) (bD (.int (k:Int))) o8 v o10 g u)):pF Ψ gG Z (oR cs most n y w h (i7 z) (bD (.int (k:Int))) o8 v o10 g u):=by
 delta oR i7;delta gG;simp_arith[qP];refine⟨by omega,by omega,?_⟩;refine sA (λ(i:Nat)=>T.d (.int (i:Int))) (λr b=>∃a o8 v,a++r.flatMap (Ab cs h k)=z++Yj cs h k/\(a.length+r.length<=200/\∀j∈r,j<h.length)/\b=oR cs most n y w h (i7 a) (bD (.int (k:Int))) o8 v o10 g u) ?_ ?_ _ _ ⟨z,o8,v,rfl,⟨by rw[Q4];omega,λj p=>by have:=Q3.mp p;omega⟩,rfl⟩;rintro b ⟨a,o8,v,e,_,rfl⟩;have e:a=z++Yj cs h k:=by rw[<- e];exact(Qu _).symm
 subst e;delta oR;simp_arith[↓yA];exact q _ _;rintro j r b N s ⟨a,o8,v,e,⟨l,f⟩,rfl⟩;have l:a.length+(r.length+1)<=200:=l;have Y:=kY cs h k j;refine pq X hk (f j QD) m (by omega) λv=>s _ ⟨a++Ab cs h k j,_,v,?_,⟨by rw[QH];omega,λx o=>f x (QC _ o)⟩,rfl⟩;rw[Qw];exact e
theorem nq(i:Ψ.sp "_law_event"=HL){z:Option Sl}{k:Nat}{es:List Evt}{x:Option (Str×Str)}(hk:k<=100)(hb:BdOk w h)(l:es.length<=100)(q:∀u,Z.nx (oR cs most n y w h z (bD (.int (k:Int))) o8 v (V6 (es++[Ji cs (k:Int) w h x])) (bD (Ba (some (F5 (Ji cs (k:Int) w h x))))) u)):pF Ψ fG Z (oR cs most n y w h z (bD (.int (k:Int))) o8 v (V6 es) (bD (Ba x)) u):=by
 delta oR V6;delta fG;simp?[↓uA (md:=[]) i rfl rfl];refine⟨_,_,_,_,_,rfl,⟨by omega,by omega⟩,hb,?_⟩;generalize Ji cs (k:Int) w h x=e at *;simp_arith[↓YN,QA];refine⟨by omega,?_⟩;have q:=λo=>q o;unfold V6 at q;rw[QJ,QJ]at q;cases e with|see t p m f=>simp_arith[↓YN,o0,↓tW,↓sW];refine⟨by omega,BJ (show decide ((QW "see")=(QW "tell"))≠true by decide) ?_⟩;exact q _|tell t a b m f j=>simp_arith[↓YN,o0,↓O0,↓N0,↓L0];exact⟨by omega,by omega,q _⟩
theorem vc(K:Ψ.sp "_law_draw"=tB)(W:Ψ.sp "_law_event"=HL){Q:T->LT->Prop}(A:cs.length<=100)(hb:BdOk w h)(q:Q (.d (wD (iq cs w h))) []):pF Ψ xF (eZ Q) (oR cs most n y w h none none none none none none none):=by
 have X:=hb.ml;delta oR;delta xF;simp_arith[QA,qP];refine⟨by omega,by omega,by omega,?_⟩;refine sA (λ(i:Nat)=>T.d (.int (i:Int))) (λr b=>∃a o7 o8 v,a++r.flatMap (Yj cs h)=Jk cs h/\(a.length+10 * r.length<=100/\∀j∈r,j<h.length)/\b=oR cs most n y w h (i7 a) o7 o8 v none none none) ?_ ?_ _ _ ⟨[],none,none,none,rfl,⟨by rw[Q4];show 0+_<=100;omega,λj p=>Q3.mp p⟩,rfl⟩;rintro b ⟨a,o7,o8,v,e,_,rfl⟩;have e:a=Jk cs h:=by rw[<- e];exact(Qu _).symm
 subst e;delta oR;simp_arith[QA,qP];refine⟨by omega,by omega,by omega,?_⟩;refine sA (λ(i:Nat)=>T.d (.int (i:Int))) (λr b=>∃z m o7 u,(r.foldl (MM cs w h) (z,m)).1=Ts cs w h/\(z.length+r.length<=100/\∀j∈r,j<=100)/\b=oR cs most n y w h (i7 (Jk cs h)) o7 o8 v (V6 z) (bD (Ba m)) u) ?_ ?_ _ _ ⟨[],none,_,_,rfl,⟨by rw[Q4];show 0+_<=100;omega,λj p=>by have:=Q3.mp p;omega⟩,rfl⟩;rintro b ⟨z,m,o7,u,e,_,rfl⟩;have e:z=Ts cs w h:=e;subst e;delta oR i7 V6;simp_arith[↓yA];rw[vT,vT];exact⟨by omega,q⟩;rintro j r b N s ⟨z,m,o7,u,e,⟨l,f⟩,rfl⟩;have l:z.length+(r.length+1)<=100:=l;refine nq W (f j QD) hb (by omega) λu=>s _ ⟨_,_,_,u,e,⟨?_,λx o=>f x (QC _ o)⟩,rfl⟩;rw[QH];show z.length+1+r.length<=100;omega;rintro k r b N s ⟨a,o7,o8,v,e,⟨l,f⟩,rfl⟩;have l:a.length+10 * (r.length+1)<=100:=l;have Y:=f k QD;have B:=vY cs h k;refine oq K Y X (by omega) λo8 v=>s _ ⟨a++Yj cs h k,_,o8,v,?_,⟨by rw[QH];omega,λx o=>f x (QC _ o)⟩,rfl⟩;rw[Qw];exact e
end
noncomputable def DL:PSp where
 md:=[.xy]
 run:=λy Q _=>∃(x:LJ) (h:Int),y=[.lst ((x.map Jy).map T.d),.d (.int h)]/\(2<=h/\h<=10)/\Q (.d (wD (lJ x h))) []
theorem U4{Ψ:PEv}(u:Ψ.sp "_law_draw"=tB)(v:Ψ.sp "_law_event"=HL)(b:Ψ.sp "_law_folded"=nJ)(a:Ψ.sp "_law_names"=FL)(k:Ψ.sp "_law_people"=ZU):XF Ψ OJ DL zP jM:=by
 rintro _ Q _ ⟨x,h,rfl,w,q⟩;have fl:=t6 x;refine fA [some (.ky (.lst ((x.map Jy).map T.d))),bD (.int h),none,none,none,none,none,none,none,none,none,none,none] ?_;delta OJ;simp_arith[↓uA (md:=[.xy]) b rfl rfl];refine⟨_,_,rfl,by decide,?_⟩;have q:Q (.d (wD (iq (UB 24 x) (XN (UB 24 x) (ph (UB 24 x) h)) (T7 (UB 24 x))))) []:=q;generalize UB 24 x=cs at *;have f:=(TF cs).2.2;have hb:=c7 cs w;have g:=oX cs;simp_arith[↓uA (md:=[]) a rfl rfl];refine⟨_,rfl,?_⟩;have y:pF Ψ vF (eZ Q) [bD (.list (cs.map Jy)),bD (.int h),bD (.list ((KC cs).map Jx)),bD (.int (UK cs h)),none,none,none,none,none,none,none,none,none]:=by delta vF;simp?[↓uA (md:=[]) k rfl rfl,↓uK,↓Zs,↓DU,FI];refine⟨_,_,rfl,(QX ((IE _ _ _).length_le) (by omega)),?_⟩;simp?[↓uK,↓Cs,↓Xs,↓DU,↓n5,↓uA (md:=[.xy]) u rfl rfl,↓vH,↓LA,FI,QA];refine⟨cK.ok (.inl ⟨by decide,by decide⟩),?_⟩;by_cases c:xA cs 908 3=0;rw[if_pos (dT c)];have e:T7 cs=dC (KC cs) none (some ((mV cs).length:Int)):=if_pos c;rw[e]at q hb;exact vc u v (by omega) hb q;rw[if_neg (λz=>c (of_decide_eq_true z))];have e:T7 cs=mV cs:=if_neg c;rw[e]at q hb;exact vc u v (by omega) hb q
 simp_arith[↓uA (md:=[.xy]) u rfl rfl,↓vH,↓LA];by_cases c:xA cs 897 8=0;rw[if_pos (dT c)];rw[show UK cs h=_ from if_pos c]at y;exact⟨by omega,y⟩;rw[if_neg (λz=>c (of_decide_eq_true z))];rw[show UK cs h=_ from if_neg c]at y;exact⟨by omega,y⟩
noncomputable def VZ(ks:LS):T:=.dct false (ks.map Jx) (ks.map λ_=>T.d (.bool true))
theorem Z6(ks:LS)(z:Str):(dA (ks.map Jx) (.str z)).isSome=decide (z∈ks):=by rw[Q7,HM,UW,decide_eq_true_iff]
theorem Rf{ks:LS}{s:Str}{Q:T->Prop}(n:s∉ks)(hl:ks.length<sizeLine)(k:Q (VZ (ks++[s]))):J8 (VZ ks) (.d (.str s)) (.d (.bool true)) Q:=by refine⟨⟨s,rfl⟩,by rw[QA];exact hl,?_⟩;show Q (ZH false (ks.map Jx) (ks.map λ_=>T.d (.bool true)) (.str s) (.d (.bool true)));unfold ZH;rw[FA.mpr λz=>n (UW.mp z)];unfold VZ at k;rw[QJ,QJ]at k;exact k
theorem Ri{ks:LS}{z:Str}{L:Bool->Prop}:rB .NotIn (.d (.str z)) (VZ ks) L=L (!decide (z∈ks)):=by unfold VZ;rw[HJ,Z6];exact propext ⟨λh=>h.2,λh=>⟨⟨z,rfl⟩,h⟩⟩
section
variable{es:JB}{st u ks ws:LS}{g x:Str}
structure Mts(es:JB)(st:LS)(g:Str)(u:LS)(ks ws:LS)(x:Str)(l:JB):Prop where
 lk:∀x∈ks,Led es st g u x
 lw:∀x∈ws,Led es st g u x
 nd:ks.Nodup
 cl:∀y∈ks,∀z,(y,z)∈es->y=x/\(y,z)∈l∨z≠g/\(z∉u->z∈ks∨z∈ws)
 st:∀s∈st,VM g u s=true->s∈ks∨s∈ws
theorem Mts.end(h:Mts es st g u ks [] x []):¬ ∃a,(a,g)∈es/\Led es st g u a:=by
 have v:∀y∈ks,∀z,(y,z)∈es->z≠g/\(z∉u->z∈ks):=λy f z k=>(h.cl y f z k).elim (λa=>nomatch a.2) λa=>⟨a.1,λn=>(a.2 n).elim id λz=>nomatch z⟩
 have i:∀{y},Led es st g u y->y∈ks:=λ{y} l=>by
  induction l with
  |st a b=>exact(h.st _ a b).elim id λz=>nomatch z
  |ed _ e b w=>exact(v _ w _ e).2 (mB.mp b).2
 rintro⟨a,e,l⟩;exact(v a (i l) g e).1 rfl
theorem Mts.old(h:Mts es st g u ks (ws++[x]) g [])(k:x∈ks):Mts es st g u ks ws g []:=by have f:∀{z},z∈ks∨z∈ws++[x]->z∈ks∨z∈ws:=λ{z} a=>a.elim .inl λa=>(QT.mp a).elim .inr λe=>.inl (QI.mp e▸k);exact⟨h.lk,λy v=>h.lw y (Qf _ v),h.nd,λy v z w=>(h.cl y v z w).imp id λa=>⟨a.1,λn=>f (a.2 n)⟩,λs b i=>f (h.st s b i)⟩
theorem Mts.new(h:Mts es st g u ks (ws++[x]) g [])(i:x∉ks):Mts es st g u (ks++[x]) ws x es:=by
 have f:∀{z},z∈ks∨z∈ws++[x]->z∈ks++[x]∨z∈ws:=λ{z} a=>a.elim (λa=>.inl (Qf _ a)) λa=>(QT.mp a).elim .inr λe=>.inl (QU _ e);have k:=h.lw x (QU _ (QI.mpr rfl));refine⟨λy v=>(QT.mp v).elim (h.lk y) λe=>QI.mp e▸k,λy v=>h.lw y (Qf _ v),?_,λy v z w=>?_,λs j l=>f (h.st s j l)⟩;exact qH.mpr ⟨h.nd,Qi.mpr ⟨λz=>(nomatch z),Qs⟩,λa m b hb e=>i (QI.mp hb▸e▸m)⟩;rcases QT.mp v with a|a
 ·exact(h.cl y a z w).elim (λa=>nomatch a.2) λa=>.inr ⟨a.1,λn=>f (a.2 n)⟩
 exact .inl ⟨QI.mp a,w⟩
theorem Mts.skip{a b:Str}{l:JB}(h:Mts es st g u ks ws x ((a,b)::l))(v:a=x->b≠g/\(b∉u->b∈ws)):Mts es st g u ks ws x l:=by
 refine⟨h.lk,h.lw,h.nd,λy k z w=>?_,h.st⟩;rcases h.cl y k z w with⟨e,m⟩| m;rcases QM.mp m with m|m
 ·cases m
  exact .inr ⟨(v e).1,λn=>.inr ((v e).2 n)⟩
 exact .inl ⟨e,m⟩;exact .inr m
theorem Mts.add{l:JB}{b:Str}(h:Mts es st g u ks ws x l)(hb:Led es st g u b):Mts es st g u ks (ws++[b]) x l:=by have f:∀{z},z∈ks∨z∈ws->z∈ks∨z∈ws++[b]:=λ{z} a=>a.imp id (Qf _);exact⟨h.lk,λy v=>(QT.mp v).elim (h.lw y) λe=>QI.mp e▸hb,h.nd,λy v z w=>(h.cl y v z w).imp id λa=>⟨a.1,λn=>f (a.2 n)⟩,λs k i=>f (h.st s k i)⟩
theorem Dh{y:Str}(h:Led es st g u y):y∈st++es.map λe=>e.2:=by
 cases h with|st a _=>exact Qf _ a|ed _ e _=>exact QU _ (QS.mpr ⟨_,e,rfl⟩)
theorem Mts.len{l:JB}(h:Mts es st g u ks ws x l)(w:es.length<=126)(v:st.length<=11):ks.length<=137:=by have:=SF h.nd λy z=>Dh (h.lk y z);rw[QH,QA]at this;omega
end
noncomputable def j0(es:JB)(st:LS)(g:Str)(cut ws ks:LS)(o6 o7 o8:Option Sl):kA:=[bD (.list (es.map pr)),bD (.list (st.map Jx)),bD (.str g),bD (.list (cut.map Jx)),oW (.lst ((ws.map Jx).map T.d)),oW (VZ ks),o6,o7,o8]
section
variable{Ψ:PEv}{Z:PEnds}{es:JB}{st u ks ws:LS}{g x:Str}{o6 o7 o8:Option Sl}
theorem nr{a b:Str}(hl:ws.length<100000)(e:a=x->b=g->∀ρ,Z.rt (.d (.bool false)) ρ)
  (w:(a=x->b≠g/\b∈u)->Z.nx (j0 es st g u ws ks (bD (.str x)) (bD (.str a)) (bD (.str b))))
  (k:a=x->b≠g->b∉u->Z.nx (j0 es st g u (ws++[b]) ks (bD (.str x)) (bD (.str a)) (bD (.str b)))) :
  pF Ψ nG Z (j0 es st g u ws ks (bD (.str x)) (bD (.str a)) (bD (.str b))):=by
 delta j0 at w k ⊢;delta nG;simp_arith[cC,ZB,EA,true_or];by_cases y:a=x;rw[dT y];by_cases h:b=g;rw[dT h];simp_arith[↓reduceIte];exact e y h _;rw[dF h];simp_arith[Qo,↓reduceIte,cC,ZB,EA,true_or];by_cases v:b∈u;rw[dT v];exact w λ_=>⟨h,v⟩
 rw[dF v];simp_arith[qZ,↓reduceIte,QA];refine⟨by omega,?_⟩;have:=k y h v;rw[QJ,QJ]at this;exact this;rw[dF y];simp_arith[Qo,↓reduceIte,cC,ZB,EA,true_or];exact w λz=>absurd z y
theorem lr(W:es.length<=126)(Y:st.length<=11)(I:ws.length<=50000)(h:Mts es st g u ks (ws++[x]) g [])(F:(∃a,(a,g)∈es/\Led es st g u a)->∀ρ,Z.rt (.d (.bool false)) ρ)
  (k:∀w v o6 o7 o8,Mts es st g u w v g []->w.length<=137->200 * (137 - w.length)+v.length<=200 * (137 - ks.length)+ws.length->Z.nx (j0 es st g u v w o6 o7 o8)) :
  pF Ψ mG Z (j0 es st g u (ws++[x]) ks o6 o7 o8):=by
 have K:sizeLine=16777216:=Q0;have C:=h.len W Y;delta j0;rw[QJ,QJ];delta mG;simp_arith[QV,wJ,↓Zh,↓Ri];by_cases f:x∈ks;rw[dT f];exact k ks ws _ _ _ (h.old f) C (Qa _);rw[dF f];simp_arith[qZ,↓reduceIte];refine Rf f (by omega) ?_;have n:=h.new f;have s:=n.len W Y;rw[QH,QY]at s;have X:=h.lw x (QU _ (QI.mpr rfl));rw[<- lA pr];refine sA (λ(p:Str×Str)=>T.d (pr p)) (λl ρ=>∃v o7 o8,Mts es st g u (ks++[x]) v x l/\(∀p∈l,p∈es)/\v.length+l.length<=ws.length+126/\ρ=j0 es st g u v (ks++[x]) (bD (.str x)) o7 o8) ?_ ?_ _ _ ⟨ws,_,_,n,λ_ z=>z,by omega,rfl⟩;rintro ρ ⟨v,r,q,m,_,e,rfl⟩;rw[Qt]at e;exact k _ v _ (nH r) (nH q) ⟨m.lk,m.lw,m.nd,λy E z K=>(m.cl y E z K).elim (λa=>nomatch a.2) .inr,m.st⟩ (by rw[QH,QY];exact s) (by rw[QH,QY];omega);rintro⟨a,b⟩ l ρ N B ⟨v,r,q,m,hl,e,rfl⟩;rw[QL]at e;have A:=hl _ QD;refine DD.mk rfl ?_;refine nr (a:=a) (b:=b) (by omega) (λo i=>F ⟨x,o▸i▸A,X⟩) (λc=>B _ ⟨v,_,_,m.skip λe=>⟨(c e).1,λn=>absurd (c e).2 n⟩,λp j=>hl p (QC _ j),by omega,rfl⟩) λo i G=>?_;exact B _ ⟨v++[b],_,_,(m.add (.ed X (o▸A) (mB.mpr ⟨i,G⟩))).skip λ_=>⟨i,λ_=>QU _ (QI.mpr rfl)⟩,λp j=>hl p (QC _ j),by rw[QH,QY];omega,rfl⟩
end
noncomputable def VU:PSp where
 run:=λx Q _=>∃(h:JB) (st:LS) (g:Str) (cut:LS),x=[.d (.list (h.map pr)),.d (.list (st.map Jx)),.d (.str g),.d (.list (cut.map Jx))]/\(h.length<=126/\st.length<=11)/\∀b,(b=true↔¬ ∃a,(a,g)∈h/\Led h st g cut a)->Q (.d (.bool b)) []
theorem zh{Ψ:PEv}:XF Ψ RJ VU vP zM:=by
 rintro _ Q _ ⟨w,st,g,cut,rfl,⟨Y,i⟩,q⟩;have j:sizeLine=16777216:=Q0;refine fA [bD (.list (w.map pr)),bD (.list (st.map Jx)),bD (.str g),bD (.list (cut.map Jx)),none,none,none,none,none] ?_;delta RJ;simp_arith[↓yA];rw[<- lA Jx st];refine bA (λ(p:Str)=>T.d (.str p)) (λp=>T.d (.str p)) (λp=>VM g cut p) st _ _ (λx v R y=>?_) (by rw[Qt];omega) ?_;simp_arith[↓xY,cC,ZB,EA,true_or];have e:VM g cut x=(!decide (x=g)&&!decide (x∈cut)):=by rw[Q7,mB];simp
 rw[e]at y;by_cases o:x=g;rw[dT o]at y ⊢;exact y;rw[dF o]at y ⊢;by_cases h:x∈cut;rw[dT h]at y ⊢;exact y;rw[dF h]at y ⊢;exact y;rw[Qj,lA Jx];have B:(st.filter λp=>VM g cut p).length<=11:=QX (Qk _ _) i;generalize hw:(st.filter λp=>VM g cut p)=w0 at *;have X:Mts w st g cut [] w0 g []:=⟨λ_ z=>(nomatch z),λx v=>by rw[<- hw]at v;exact .st (QO.mp v).1 (QO.mp v).2,Qs,λ_ z=>(nomatch z),λs W A=>.inr (by rw[<- hw];exact QO.mpr ⟨W,A⟩)⟩
 refine UE (λm k=>m<=40000/\∃u ws o6 o7 o8,Mts w st g cut u ws g []/\u.length<=137/\m=200 * (137 - u.length)+ws.length/\k=j0 w st g cut ws u o6 o7 o8) (200 * 137+w0.length) ⟨by omega,[],w0,none,none,none,X,by decide,rfl,rfl⟩ ?_;rintro m k ⟨G,u,ws,o6,o7,o8,s,F,e,rfl⟩;rcases QAx ws with rfl|⟨C,x,rfl⟩
 delta j0;simp_arith[↓yA];rw[dF (by decide)];simp_arith[↓yA];exact q true ⟨λ_=>s.end,λ_=>rfl⟩;rw[QAy]at *;rw[QH,QY]at e;have l:=λ(Z:PEnds) K j=>lr (Ψ:=Ψ) (Z:=Z) (o6:=o6) (o7:=o7) (o8:=o8) Y i (by omega) s K j;unfold j0 at l;delta j0;simp_arith[QA,QH,QY];rw[dT (by omega)];refine l _ (λz k=>q false ⟨λz=>(by cases z),λn=>absurd z n⟩) λb a o6 o7 o8 r f E=>⟨_,?_,?_,b,a,o6,o7,o8,r,f,rfl,rfl⟩<;>omega
noncomputable def sD(n:Int)(h:List (LS))(x:Str):List (LS):=h++(h.filter λr=>decide ((r.length:Int)<n)).map λr=>r++[x]
def Ej(n:Int)(ns:LS):List (LS):=ns.foldl (sD n) [[]]
theorem dg(n:Int)(h:List (LS))(x:Str):(sD n h x).length<=2 * h.length:=by have:=Qk (λr:LS=>decide ((r.length:Int)<n)) h;unfold sD;rw[QH,QA];omega
theorem OW{n:Int}(C:LS):∀(l d:LS) (z:List (LS)),(∀C:LS,C∈z↔C.Sublist d/\(C.length:Int)<=n)->(C∈l.foldl (sD n) z↔C.Sublist (d++l)/\(C.length:Int)<=n)
 |[],d,z,h=>by rw[Qu];exact h C|x::l,d,z,h=>by
  rw[List.append_cons];refine OW C l (d++[x]) (sD n z x) λC=>?_;unfold sD;rw[QT,QS,List.sublist_append_iff];constructor;rintro(a|⟨r,k,rfl⟩)
  ·exact⟨⟨C,[],(Qu C).symm,((h C).mp a).1,List.nil_sublist _⟩,((h C).mp a).2⟩
  obtain⟨v,u⟩:=QO.mp k;have u:=of_decide_eq_true u;exact⟨⟨r,[x],rfl,((h r).mp v).1,List.Sublist.refl _⟩,by rw[QH,QY];omega⟩;rintro⟨⟨a,b,rfl,v,u⟩,w⟩;rw[QH]at w;cases b with
  |nil=>rw[Qu];exact .inl ((h a).mpr ⟨v,by omega⟩)|cons y b =>
   have e:y::b=[x]:=by
    have:=u.length_le;rw[QL,QY]at this;cases b with|nil=>exact u.eq_of_length rfl|cons _ _=>rw[QL]at this;omega
   rw[e]at w ⊢;rw[QY]at w;exact .inr ⟨a,QO.mpr ⟨(h a).mpr ⟨v,by omega⟩,dT (by omega)⟩,rfl⟩
theorem N2{n:Int}(h:0<=n)(ns C:LS):C∈Ej n ns↔C.Sublist ns/\(C.length:Int)<=n :=
 OW C ns [] [[]] λC=>by rw[QI,List.sublist_nil];exact⟨λe=>⟨e,by rw[e];exact h⟩,λe=>e.1⟩
noncomputable def Pl(ns:LS)(n:Int)(h:List (LS))(o3:Option Sl):kA:=[bD (.list (ns.map Jx)),bD (.int n),bD (.list (h.map HB)),o3]
section
variable{ds es:List D}{n m:Bool}{Q:T->Bool->Prop}
theorem Kj{t:T}:JC .Add (.d (.list ds)) n t m Q=JC .Add (.lst (ds.map T.d)) false t m Q:=by unfold JC;rw[oA];rfl
theorem Ht{t:T}:JC .Add t n (.d (.list ds)) m Q=JC .Add t n (.lst (ds.map T.d)) false Q:=by unfold JC;rw[oA];rfl
theorem Nt{t:T}{h:List (LS)}:JC .Add t n (.lst (h.map i0)) true Q=JC .Add t n (.lst ((h.map HB).map T.d)) false Q:=by rw[<- Ht (m:=true)];unfold JC;rw[oA];show binT _ _ (T.d (PyData.list (ersT (h.map i0)))).vw Q=_;rw[A6]
end
theorem Oq{Ψ:PEv}{Z:PEnds}{ns:LS}{n:Int}{h:List (LS)}{x:Str}(hl:h.length<=2048)(hc:∀r∈h,r.length<=100)(q:Z.nx (Pl ns n (sD n h x) (bD (.str x)))):pF Ψ cE Z (Pl ns n h (bD (.str x))):=by have fl:=Qk (λr:LS=>decide ((r.length:Int)<n)) h;delta Pl at q ⊢;delta cE;simp_arith[↓yA];rw[<- lA HB h];refine bA (λr=>T.d (HB r)) (λr=>i0 (r++[x])) (λr=>decide ((r.length:Int)<n)) h _ _ (λr z R y=>?_) (by rw[Qt];omega) ?_;have:=hc r z;unfold HB;simp_arith[QA,↓Kj];by_cases c:(r.length:Int)<n;rw[dT c]at y ⊢;rw[if_pos rfl]at y ⊢;refine⟨by omega,by omega,?_⟩;unfold i0 at y;rw[QJ]at y;exact y;rw[dF c]at y ⊢;exact y;rw[Qj,show(λr=>i0 (r++[x]))=i0∘λr=>r++[x] from rfl,<- Qc];unfold sD at q;rw[QJ]at q;simp_arith[↓Nt,↓Kj,QA];exact⟨by omega,q⟩
noncomputable def oP:PSp where
 run:=λx Q _=>∃(h:LS) (n:Int),x=[.d (.list (h.map Jx)),.d (.int n)]/\h.length<=11/\Q (.d (.list ((Ej n h).map HB))) []
theorem B9{Ψ:PEv}:XF Ψ lG oP HK pI:=by rintro _ Q _ ⟨y,n,rfl,l,q⟩;refine fA [bD (.list (y.map Jx)),bD (.int n),none,none] ?_;delta lG;simp_arith[↓yA];refine⟨by omega,by omega,rfl,?_⟩;show cI Ψ _ _ _ 2 (.lst (([[]]:List (LS)).map i0)) true _;simp_arith[↓zp];rw[<- lA];refine sA (λ(s:Str)=>T.d (.str s)) (λl v=>∃h w k,l.foldl (sD n) h=Ej n y/\(h.length * 2 ^ l.length<=2048/\(∀r∈h,r.length<=k)/\k+l.length<=11)/\v=Pl y n h w) ?_ ?_ _ _ ⟨[[]],none,0,rfl,⟨?_,λr z=>by rw[QI.mp z];exact Qa _,by omega⟩,rfl⟩;rintro v ⟨h,w,k,e,_,rfl⟩;have e:h=Ej n y:=e;subst e;delta Pl;simp_arith[↓yA];exact q;rintro x r v N g ⟨h,w,k,e,⟨u,b,j⟩,rfl⟩;rw[QL]at u j;rw[Nat.pow_succ]at u;have m:1<=2 ^ r.length:=Nat.one_le_two_pow;have i:h.length<=2048:=QX (Nat.le_mul_of_pos_right _ (by omega)) u;refine Oq (x:=x) i (λr z=>QX (b r z) (by omega)) (g _ ⟨sD n h x,_,k+1,e,⟨?_,λC f=>?_,by omega⟩,rfl⟩);have:=Nat.mul_le_mul_right (2 ^ r.length) (dg n h x);rw[Nat.mul_comm 2,Nat.mul_assoc,Nat.mul_comm 2]at this;exact QX this u;unfold sD at f;rcases QT.mp f with a|a;exact Nat.le_succ_of_le (b C a);obtain⟨r,z,rfl⟩:=QS.mp a;rw[QH,QY];exact QAg (b r (QO.mp z).1);show 1 * 2 ^ y.length<=2048;rw[Nat.one_mul];exact QX (Nat.pow_le_pow_right (by decide) l) (by decide)
noncomputable def JQ(es:JB)(F:LS)(g:Str):JB:=es.filter λe=>decide (e.1∈F)&&decide (e.2∈F++[g])
def x4(F:LS)(g:Str):LS:=F.filter λx=>!decide (x=g)
section
variable{es:JB}{sr F:LS}{g:Str}
theorem CH{e:Str×Str}:e∈JQ es F g↔e∈es/\e.1∈F/\(e.2∈F∨e.2=g):=by unfold JQ;rw[QO,Qg,decide_eq_true_iff,decide_eq_true_iff,QT,QI]
theorem Fa{C:LS}{a:Str}(h:Led (GJ es F) sr g C a):∀{b:Str},(a,b)∈GJ es F->Led (JQ es F g) sr g C a:=by
 induction h with|st m x=>exact λ_=>.st m x|ed l e x y=>exact λz=>.ed (y e) (CH.mpr ⟨(pC.mp e).1,(pC.mp e).2,.inl (pC.mp z).2⟩) x
theorem U5{C:LS}{a:Str}(w:∀s∈sr,s∈F)(h:Led (JQ es F g) sr g (F.filter λx=>decide (x∈C)) a):Led (GJ es F) sr g C a:=by
 have f:∀{x},x∈F->VM g (F.filter λx=>decide (x∈C)) x=true->VM g C x=true:=λ{x} v y=>mB.mpr ⟨(mB.mp y).1,λz=>(mB.mp y).2 (QO.mpr ⟨v,dT z⟩)⟩;induction h with|st m y=>exact .st m (f (w _ m) y)|ed _ e y u=>exact .ed u (pC.mpr ⟨(CH.mp e).1,(CH.mp e).2.1⟩) (f ((CH.mp e).2.2.elim id λz=>absurd z (mB.mp y).1) y)
theorem ub{n:Int}(f:1<=n)(k:F.Nodup)(v:∀s∈sr,s∈F)(w:g∉F):YE es sr g F n↔∀C∈Ej (n - 1) (x4 F g),∃a,(a,g)∈JQ es F g/\Led (JQ es F g) sr g C a:=by
 have b:x4 F g=F:=List.filter_eq_self.mpr λx y=>by rw[dF λ(e:x=g)=>w (e▸y)];rfl
 rw[b];constructor;intro h C u;have u:=(N2 (by omega) F C).mp u;refine qM λz=>?_;have:=h C λ⟨a,e,l⟩=>z ⟨a,CH.mpr ⟨(pC.mp e).1,(pC.mp e).2,.inr rfl⟩,Fa l e⟩;omega;intro h C hc;refine qM λz=>?_;have fl:(F.filter λx=>decide (x∈C)).length<=C.length:=SF (Q2.nodup k) λx y=>of_decide_eq_true (QO.mp y).2;obtain⟨a,e,l⟩:=h (F.filter λx=>decide (x∈C)) ((N2 (by omega) F _).mpr ⟨Q2,by omega⟩);exact hc ⟨a,pC.mpr ⟨(CH.mp e).1,(CH.mp e).2.1⟩,U5 v l⟩
end
noncomputable def Ki(es:JB)(sr:LS)(g:Str)(n:Int)(F:LS)(o5 o6 o7:Option Sl):kA:=[bD (.list (es.map pr)),bD (.list (sr.map Jx)),bD (.str g),bD (.int n),some (.ky (.lst ((F.map Jx).map T.d))),o5,o6,o7]
noncomputable def LL:PSp where
 md:=[.xx,.xx,.xx,.xx,.xy]
 run:=λy Q _=>∃(x:JB) (h:LS) (g:Str) (n:Int) (F:LS),y=[.d (.list (x.map pr)),.d (.list (h.map Jx)),.d (.str g),.d (.int n),.lst ((F.map Jx).map T.d)]/\(x.length<=126/\h.length<=11/\F.length<=11)/\(1<=n/\F.Nodup/\(∀s∈h,s∈F)/\g∉F)/\∀b,(b=true↔YE x h g F n)->Q (.d (.bool b)) []
theorem dh{Ψ:PEv}(J:Ψ.sp "_law_subsets"=oP)(I:Ψ.sp "_law_meets"=VU):XF Ψ OH LL pN sK:=by
 rintro _ Q _ ⟨es,sr,g,n,F,rfl,⟨Y,X,s⟩,⟨A,G,K,B⟩,q⟩;refine fA (Ki es sr g n F none none none) ?_;delta Ki;delta OH;simp_arith[↓yA];rw[<- lA pr es];refine bA (λ(p:Str×Str)=>T.d (pr p)) (λp=>T.d (pr p)) (λe=>decide (e.1∈F)&&decide (e.2∈F++[g])) es _ _ (λx W R y=>?_) (by rw[Qt];omega) ?_;obtain⟨a,b⟩:=x;simp_arith[↓xY,↓zO,↓kc,cC,ZB,EA,true_or];by_cases v:a∈F;rw[show decide ((a,b).1∈F)=true from dT v,wx]at y;rw[dT v,if_pos rfl,show F.map Jx++[Jx g]=(F++[g]).map Jx by rw[QJ];rfl,cC,ZB];refine⟨by omega,by rw[QA];omega,.inl rfl,?_⟩;by_cases u:b∈F++[g];rw[show decide ((a,b).2∈F++[g])=true from dT u]at y;rw[dT u];exact y;rw[show decide ((a,b).2∈F++[g])=false from dF u]at y;rw[dF u];exact y;rw[show decide ((a,b).1∈F)=false from dF v,Wa]at y;rw[dF v];exact y;rw[Qj,lA pr];simp_arith[↓yA];rw[<- lA Jx F];refine bA (λ(p:Str)=>T.d (.str p)) (λp=>T.d (.str p)) (λp=>!decide (p=g)) F _ _ (λx W R y=>?_) (by rw[Qt];omega) ?_;simp_arith[↓yA];by_cases c:x=g;rw[dT c]at y ⊢;exact y;rw[dF c]at y ⊢;exact y;rw[Qj,lA Jx (F.filter _),lA Jx F];have r:(x4 F g).length<=11:=QX (Qk _ _) s;have Z:(JQ es F g).length<=126:=QX (Qk _ _) Y;have o:=ub (es:=es) (sr:=sr) A G K B;show cI Ψ _ _ _ 6 (.lst (((x4 F g).map Jx).map T.d)) true (Ki es sr g n F (bD (.list ((JQ es F g).map pr))) none none);delta Ki;simp_arith[↓uA (md:=[]) J rfl rfl];refine⟨_,_,rfl,r,?_⟩;generalize Ej (n - 1) (x4 F g)=rows at *;generalize JQ es F g=ie at *;simp_arith[↓yA];rw[<- lA HB rows];refine sA (λC=>T.d (HB C)) (λl w=>(∀C∈rows,C∈l∨∃a,(a,g)∈ie/\Led ie sr g C a)/\(∀C∈l,C∈rows)/\∃f k,w=Ki es sr g n F (bD (.list (ie.map pr))) f k) ?_ ?_ _ _ ⟨λC j=>.inl j,λ_ z=>z,_,_,rfl⟩;rintro w ⟨h,_,f,k,rfl⟩;delta Ki;simp_arith[↓yA];exact q true ⟨λ_=>o.mpr λC j=>(h C j).elim (λz=>nomatch z) id,λ_=>rfl⟩;rintro C l w N E ⟨h,hl,f,k,rfl⟩;delta Ki;unfold HB;delta EI;simp_arith[↓uA (md:=[]) I rfl rfl];refine⟨_,_,_,_,rfl,⟨Z,X⟩,λb hb=>?_⟩;simp_arith[↓yA];cases b with|true=>exact q false ⟨λz=>(by cases z),λm=>absurd (o.mp m C (hl C QD)) (hb.mp rfl)⟩|false=>have:=qM λz=>absurd (hb.mpr z) (by decide);exact E _ ⟨λD i=>(h D i).elim (λz=>(QM.mp z).elim (λe=>.inr (e▸this)) .inl) .inr,λD i=>hl D (QC _ i),_,_,rfl⟩
def ndP(h:Ps):List (Str×Int):=h.map λp=>(p.1,p.2.2.2)
structure LsI(ps:Ps)(es:JB)(sr F:LS):Prop where
 nd:F.Nodup
 see:∀s∈sr,s∈F
 held:∀x∈F,Held es sr (ndP ps) x
section
variable{u:Ps}{es:JB}{sr F:LS}
theorem LsI.len(h:LsI u es sr F):F.length<=u.length:=by
 have:=SF (ns:=(ndP u).map λp=>p.1) h.nd λx y=>by obtain⟨n,m⟩:=VQ (h.held x y);exact QS.mpr ⟨_,m,rfl⟩
 unfold ndP at this;rw[QA,QA]at this;exact this
theorem LsI.add(h:LsI u es sr F){x:Str}{n:Int}(w:(x,n)∈ndP u)(g:x∉F)(m:YE es sr x F n):LsI u es sr (F++[x]):=by refine⟨qH.mpr ⟨h.nd,Qi.mpr ⟨λz=>(nomatch z),Qs⟩,λa f b hb e=>g (QI.mp hb▸e▸f)⟩,λs k=>Qf _ (h.see s k),λy v=>?_⟩;rcases QT.mp v with z|z;exact h.held y z;rw[QI.mp z];exact .tell F w h.held m
end
noncomputable def lsS(h:Ps)(es:JB)(sr F:LS)(k:Int)(o5 o6 o7 o8:Option Sl):kA:=[bD (.list (h.map xD)),bD (.list (es.map pr)),bD (.list (sr.map Jx)),oW (.lst ((F.map Jx).map T.d)),bD (.int k),o5,o6,o7,o8]
section
variable{Ψ:PEv}{Z:PEnds}{y:Ps}{es:JB}{sr F:LS}{k:Int}{o5 o6 o7 o8:Option Sl}
theorem Gr(v:Ψ.sp "_law_enough"=LL)(l:es.length<=126/\sr.length<=11/\y.length<=11)(h:LsI y es sr F){p:Str×Int×Int×Int}(u:1<=p.2.2.2)
  (x:(p.1∈F∨¬ YE es sr p.1 F p.2.2.2)->Z.nx (lsS y es sr F k (bD (.str p.1)) (bD (.int p.2.1)) (bD (.int p.2.2.1)) (bD (.int p.2.2.2))))
  (z:p.1∉F->YE es sr p.1 F p.2.2.2->Z.nx (lsS y es sr (F++[p.1]) k (bD (.str p.1)) (bD (.int p.2.1)) (bD (.int p.2.2.1)) (bD (.int p.2.2.2)))) :
  pF Ψ pG Z (lsS y es sr F k (bD (.str p.1)) (bD (.int p.2.1)) (bD (.int p.2.2.1)) (bD (.int p.2.2.2))):=by
 have fl:=h.len;delta lsS at x z ⊢;delta pG;simp_arith[↓uA (md:=[.xx,.xx,.xx,.xx,.xy]) v rfl rfl,↓vC,↓E7,cC,ZB,EA,true_or];by_cases c:p.1∈F;rw[dT c];exact x (.inl c);rw[dF c];simp_arith[qZ,↓reduceIte];refine⟨_,_,_,_,_,rfl,⟨l.1,l.2.1,by omega⟩,⟨u,h.nd,h.see,c⟩,λb hb=>?_⟩;simp_arith[↓yA];cases b with|false=>exact x (.inr λm=>by cases hb.mpr m)|true=>have:=z c (hb.mp rfl);rw[QJ,QJ]at this;simp_arith[↓reduceIte,QA];exact⟨by omega,this⟩
theorem Dr(B:Ψ.sp "_law_enough"=LL)(l:es.length<=126/\sr.length<=11/\y.length<=11)(K:∀p∈y,1<=p.2.2.2)(h:LsI y es sr F)
  (q:∀u o5 o6 o7 o8,LsI y es sr u->F.length<=u.length->(u.length=F.length->∀x n,(x,n)∈ndP y->x∉u->¬ YE es sr x u n)->Z.nx (lsS y es sr u (F.length:Int) o5 o6 o7 o8)) :
  pF Ψ oG Z (lsS y es sr F k o5 o6 o7 o8):=by
 delta lsS;delta oG;simp_arith[QA];rw[<- lA xD y];refine sA (λp=>T.d (xD p)) (λr a=>∃u o5 o6 o7 o8,LsI y es sr u/\(∀p∈r,p∈y)/\F.length<=u.length/\(u.length=F.length->∀x n,(x,n)∈ndP y->(x,n)∈ndP r∨x∈u∨¬ YE es sr x u n)/\a=lsS y es sr u (F.length:Int) o5 o6 o7 o8) ?_ ?_ _ _ ⟨F,_,_,_,_,h,λ_ z=>z,Qa _,λ_ x n v=>.inl v,rfl⟩;rintro a ⟨u,Y,X,s,o,g,_,f,b,rfl⟩;exact q u _ _ _ _ g f λe x n v A=>((b e x n v).resolve_left λz=>(nomatch z)).resolve_left A;rintro p r a N j ⟨u,Y,X,s,o,g,m,f,b,rfl⟩;have w:=m p QD;have i:∀p∈r,p∈y:=λp w=>m p (QC _ w);refine DD.mk rfl ?_;refine Gr (p:=p) B l g (K p w) (λc=>j _ ⟨u,_,_,_,_,g,i,f,λe x n v=>?_,rfl⟩) λc W=>j _ ⟨u++[p.1],_,_,_,_,g.add (QS.mpr ⟨p,w,rfl⟩) c W,i,?_,λe=>?_,rfl⟩;rcases b e x n v with z|z
 ·rcases QM.mp z with e|z
  ·cases e
   exact .inr c
  exact .inl z
 exact .inr z;rw[QH,QY];omega;rw[QH,QY]at e;omega
end
noncomputable def sP:PSp where
 run:=λu Q _=>∃(y:Ps) (z:JB) (h:LS),u=[.d (.list (y.map xD)),.d (.list (z.map pr)),.d (.list (h.map Jx))]/\(z.length<=126/\h.length<=11/\y.length<=11)/\((∀p∈y,1<=p.2.2.2)/\h.Nodup/\∀s∈h,∃n,(s,n)∈ndP y)/\∀F:LS,F.length<=11->(∀x,x∈F↔Held z h (ndP y) x)->Q (.lst ((F.map Jx).map T.d)) []
theorem F9{Ψ:PEv}(o:Ψ.sp "_law_enough"=LL):XF Ψ SJ sP xP kM:=by
 rintro _ Q _ ⟨y,u,h,rfl,l,⟨j,w,v⟩,q⟩;have b:sizeLine=16777216:=Q0;refine fA [bD (.list (y.map xD)),bD (.list (u.map pr)),bD (.list (h.map Jx)),none,none,none,none,none,none] ?_;delta SJ;simp_arith[↓yA];have p:LsI y u h h:=⟨w,λ_ z=>z,λx e=>(v x e).elim λn m=>.see m e⟩
 refine UE (λm a=>∃F k o5 o6 o7 o8,m=2 * (11 - F.length)+(if k<(F.length:Int) then 1 else 0)/\LsI y u h F/\(¬ k<(F.length:Int)->∀x n,(x,n)∈ndP y->x∉F->¬ YE u h x F n)/\a=lsS y u h F k o5 o6 o7 o8) _ ⟨h,-1,none,none,none,none,rfl,p,λz=>absurd (by omega) z,rfl⟩ ?_;rintro m a ⟨F,k,o5,o6,o7,o8,r,g,s,rfl⟩;have fl:=g.len;by_cases c:k<(F.length:Int);have v:=λ(Z:PEnds) b=>Dr (Ψ:=Ψ) (Z:=Z) (k:=k) (o5:=o5) (o6:=o6) (o7:=o7) (o8:=o8) o l j g b;unfold lsS at v;delta lsS;simp_arith[QA];rw[dT c,if_pos rfl];rw[if_pos c]at r;refine v _ λi o5 o6 o7 o8 f Y X=>⟨_,?_,i,_,o5,o6,o7,o8,rfl,f,λz=>X (by omega),rfl⟩
 have:=f.len;by_cases d:(F.length:Int)<(i.length:Int);rw[if_pos d];omega;rw[if_neg d];omega;delta lsS;simp_arith[QA];rw[dF c,if_neg QG];exact q F (by omega) λx=>SS g.held (λx n _ w=>g.see x w) (s c) x
theorem K5{ks:List Pt}{p q:Pt}:q∈xN ks p↔q∈ks∨q=p:=by unfold xN;split;rename_i c;exact⟨.inl,λh=>h.elim id λe=>e▸c⟩;rw[QT,QI]
def KF(h:List Evt)(x m:Str)(n:Nat):Prop:=∃t y,aA h n=.see t x m y
theorem JO{y:List Evt}{x m:Str}:∀(l:LN) (ks:List Pt),(x,m)∈l.foldl (zC y) ks↔(x,m)∈ks∨∃n∈l,KF y x m n
 |[],ks=>⟨.inl,λh=>h.elim id λ⟨_,h,_⟩=>by cases h⟩|n::l,ks=>by
  show(x,m)∈l.foldl (zC y) (zC y ks n)↔_;rw[JO l];have e:(x,m)∈zC y ks n↔(x,m)∈ks∨KF y x m n:=by
   unfold zC KF;cases aA y n with|see t p z u=>show _∈xN ks (p,z)↔_;rw[K5];exact or_congr wY ⟨λe=>by cases e;exact⟨_,_,rfl⟩,λ⟨_,_,e⟩=>by cases e;rfl⟩|tell t a b z u q=>exact⟨.inl,λh=>h.elim id λ⟨_,_,e⟩=>by cases e⟩
  rw[e,or_assoc];refine or_congr wY ⟨λh=>?_,λ⟨k,hk,h⟩=>?_⟩;rcases h with h|⟨k,hk,h⟩
  ·exact⟨n,QD,h⟩
  exact⟨k,QC _ hk,h⟩;rcases QM.mp hk with rfl|hk
  ·exact .inl h
  exact .inr ⟨k,hk,h⟩
theorem HR{y:List Evt}{l:LN}{x m:Str}:(x,m)∈YB y l↔∃n∈l,KF y x m n:=(JO l []).trans ⟨λh=>h.elim (λh=>by cases h) id,.inr⟩
section
variable{d:D}{ds:List D}{x:List Pt}{p:Pt}{L:Bool->Prop}{y:CmpOp}
theorem fo:rB y (.d d) (.lst (ds.map T.d)) L=rB y (.d d) (.d (.list ds)) L:=by show RV y d (PyData.list (ersT (ds.map T.d))) L=_;rw[IA];rfl
theorem so(h:AH x)(z:OkS p.1/\OkS p.2)(q:L (decide (p∈x))):rB .In (.d (.tuple [.str p.1,.str p.2])) (.lst ((x.map pr).map T.d)) L:=by rw[fo];exact JV h p.1 p.2 L z.1 z.2 q
theorem Ti(h:AH x)(z:OkS p.1/\OkS p.2)(q:L (!decide (p∈x))):rB .NotIn (.d (.tuple [.str p.1,.str p.2])) (.lst ((x.map pr).map T.d)) L:=by rw[fo];exact lX h z.1 z.2 q
end
def nX(l:LN):Option Sl:=bD (.list (l.map nD))
noncomputable def DE(h:List Pt):Option Sl:=some (.own (.lst ((h.map pr).map T.d)))
noncomputable def szS(h:LS):Option Sl:=some (.own (.lst ((h.map Jx).map T.d)))
noncomputable def GQ(w:Wd)(l z:LN)(x:List Pt)(m:Str)(o5 o6 o7 o8 y o10 h:Option Sl):kA:=[bD (wD w),nX l,nX z,DE x,bD (.str m),o5,o6,o7,o8,y,o10,h]
section
variable{Ψ:PEv}{Z:PEnds}{w:Wd}{l f:LN}{v:List Pt}{m:Str}{o5 o6 o7 o8 c o10 u:Option Sl}
theorem zt{n:Nat}{sr:LS}(r:n<w.es.length)(X:sr.length<=1000)(nd:sr.Nodup)(q:∀(y:LS) o8,y.Nodup->y.length<=sr.length+1->(∀x,x∈y↔x∈sr∨KF w.es x m n)->Z.nx (GQ w l f v m (szS y) o6 (bD (nD n)) o8 c o10 u)) :
  pF Ψ yK Z (GQ w l f v m (szS sr) o6 (bD (nD n)) o8 c o10 u):=by
 unfold KF at q;delta GQ szS DE nX at q ⊢;delta yK;simp_arith[↓gU,↓dP r];generalize aA w.es n=e at *;have j:(∀x,(∃t k,e=.see t x m k)->x∈sr)->_:=λh=>q sr (bD (zD e)) nd (wC _) λx=>⟨.inl,λz=>z.elim id (h x)⟩
 cases e with
 |tell t a b o k Y=>simp_arith[↓YN,o0];exact BJ (show decide ((QW "tell")=(QW "see"))≠true by decide) (j λx ⟨_,_,e⟩=>by cases e)|see t p o k =>
  simp_arith[↓YN,o0,↓tW,↓sW,cC,ZB,EA,true_or];by_cases i:o=m;rw[dT i];by_cases g:p∈sr;rw[dT g];exact j λx ⟨_,_,e⟩=>by cases e;exact g
  rw[dF g];simp_arith[qZ,↓reduceIte,↓tW,QA];refine⟨by omega,?_⟩;have:=q (sr++[p]) (bD (zD (.see t p o k))) (qH.mpr ⟨nd,Qi.mpr ⟨λz=>(nomatch z),Qs⟩,λa s b hb e=>g (QI.mp hb▸e▸s)⟩) (by rw[QH];exact Qa _) λx=>by rw[QT,QI];exact or_congr wY ⟨λe=>⟨t,k,by rw[e,i]⟩,λ⟨_,_,e⟩=>by cases e;rfl⟩
  rw[QJ,QJ]at this;exact this;rw[dF i];exact j λx ⟨_,_,e⟩=>by cases e;exact absurd rfl i
theorem yt{n:Nat}{k:List Pt}(s:n<w.es.length)(a:FC (aA w.es n))(o:OkS (aC (aA w.es n)).1/\OkS (aC (aA w.es n)).2)(g:AH k)(X:k.length<=1000)(q:∀(y:List Pt) o8,AH y->y.length<=k.length+1->(∀x,x∈y↔x∈k∨xZ (aA w.es n)=m/\x=aC (aA w.es n))->Z.nx (GQ w l f v m o5 (DE y) (bD (nD n)) o8 c o10 u)) :
  pF Ψ jK Z (GQ w l f v m o5 (DE k) (bD (nD n)) o8 c o10 u):=by
 delta GQ DE nX at q ⊢;delta jK;simp_arith[↓gU,↓dP s,↓rW a,↓pW a,↓zc a];have j:(xZ (aA w.es n)=m->aC (aA w.es n)∈k)->_:=λh=>q k (bD (zD (aA w.es n))) g (wC _) λx=>⟨.inl,λz=>z.elim id λz=>z.2▸h z.1⟩
 by_cases b:xZ (aA w.es n)=m;rw[dT b,if_pos rfl];refine⟨by omega,Ti g o ?_⟩;by_cases i:aC (aA w.es n)∈k;rw[dT i];exact j λ_=>i;rw[dF i];simp_arith[qZ,↓reduceIte,↓rW a,↓pW a,QA];refine⟨by omega,by omega,?_⟩;have:=q (k++[aC (aA w.es n)]) (bD (zD (aA w.es n))) (λp r=>(QT.mp r).elim (g p) λe=>QI.mp e▸o) (by rw[QH];exact Qa _) λx=>by rw[QT,QI];exact or_congr wY ⟨λe=>⟨b,e⟩,λe=>e.2⟩
 rw[QJ,QJ]at this;exact this;rw[dF b];exact j λz=>absurd z b
theorem jt{F:LS}(W:OkS m)(A:∀x∈F,OkS x)(fl:F.length<=11)(X:AH v)(C:v.length<=1000)(q:∀(h:List Pt) c,AH h->h.length<=v.length+11->(∀x k,(x,k)∈h↔(x,k)∈v∨k=m/\x∈F)->Z.nx (GQ w l f h m o5 o6 o7 o8 c o10 u)) :
  yH (pF Ψ IJ) (.nm 9) { Z with nx:=λb=>Z.nx (kill [9] b) } (F.map λx=>T.d (.str x)) (GQ w l f v m o5 o6 o7 o8 c o10 u):=by
 refine sA (λ(x:Str)=>T.d (.str x)) (λr g=>∃h c,AH h/\h.length+r.length<=v.length+11/\(∀x∈r,OkS x)/\(∀x k,(x,k)∈v∨k=m/\x∈F↔(x,k)∈h∨k=m/\x∈r)/\g=GQ w l f h m o5 o6 o7 o8 c o10 u) ?_ ?_ _ _ ⟨v,_,X,by omega,A,λ_ _=>wY,rfl⟩;rintro g ⟨h,n,j,i,_,a,rfl⟩;exact q h (nH n) j i λx k=>⟨λz=>(a x k).mpr (.inl z),λz=>((a x k).mp z).elim id λz=>(nomatch z.2)⟩
 rintro x r g N K ⟨h,n,j,i,a,B,rfl⟩;rw[QL]at i;have s:=a x QD;have:=K (GQ w l f (h++[(x,m)]) m o5 o6 o7 o8 (bD (.str x)) o10 u) ⟨_,_,λp Y=>(QT.mp Y).elim (j p) λe=>QI.mp e▸⟨s,W⟩,by rw[QH,QY];omega,λy o=>a y (QC _ o),λy k=>?_,rfl⟩;unfold GQ DE nX at this;delta GQ DE nX;rw[QJ,QJ]at this;delta IJ;simp_arith[QA];exact⟨by omega,by omega,this⟩;rw[B,QT,QI,QM,Prod.mk.injEq];constructor;rintro(z|⟨rfl,rfl|z⟩)
 ·exact .inl (.inl z)
 exact .inl (.inr ⟨rfl,rfl⟩);exact .inr ⟨rfl,z⟩;rintro((z|⟨rfl,rfl⟩)|⟨rfl,z⟩)
 ·exact .inl z
 exact .inr ⟨rfl,.inl rfl⟩;exact .inr ⟨rfl,.inr z⟩
end
section
variable{w:Wd}{l y:LN}{m:Str}
theorem D6{e:Str×Str}:e∈uG w.es y m↔∃n∈y,xZ (aA w.es n)=m/\e=aC (aA w.es n):=by unfold uG;rw[QS];exact⟨λ⟨n,h,e⟩=>⟨n,(QO.mp h).1,of_decide_eq_true (QO.mp h).2,e.symm⟩,λ⟨n,h,a,e⟩=>⟨n,QO.mpr ⟨h,dT a⟩,e.symm⟩⟩
theorem G2(x:WOk w)(hl:∀n∈l,n<w.es.length){s:Str}(h:∃n∈l,KF w.es s m n):V0 w s:=by obtain⟨n,z,t,u,e⟩:=h;have:=x.ev (hl n z);rw[e]at this;exact this.1
theorem y2(x:WOk w)(hl:∀n∈l,n<w.es.length){s:Str}:s∈DF w (YB w.es l) m↔∃n∈l,KF w.es s m n:=by unfold DF;rw[QS];constructor;rintro⟨p,h,rfl⟩;exact HR.mp (of_decide_eq_true (QO.mp h).2);intro h;obtain⟨p,z,e⟩:=G2 x hl h;exact⟨p,QO.mpr ⟨z,dT (by rw[e];exact HR.mpr h)⟩,e⟩
theorem Aa(v:WOk w)(hl:∀n∈l,n<w.es.length){b:JB}{sr:LS}(a:∀e,e∈b↔∃n∈y,xZ (aA w.es n)=m/\e=aC (aA w.es n))(k:∀s,s∈sr↔∃n∈l,KF w.es s m n)(x:Str):Held b sr (ndP w.ps) x↔ZG w l y m x :=
  ⟨λh=>h.sub (λe u=>D6.mpr ((a e).mp u)) (λs z=>(y2 v hl).mpr ((k s).mp z)) λx n h=>⟨n,QAZ _,h⟩,
   λh=>h.sub (λe u=>(a e).mpr (D6.mp u)) (λs z=>(k s).mpr ((y2 v hl).mp z)) λx n h=>⟨n,QAZ _,h⟩⟩
end
structure DuOk(w:Wd)(l lv:LN):Prop where
 hw:WOk w
 hn:∀p∈w.ps,1<=p.2.2.2
 hl:∀n∈l,n<w.es.length
 ll:l.length<=60
 hv:SZ w lv
section
variable{Ψ:PEv}{Z:PEnds}{w:Wd}{l y:LN}{h:List Pt}{m:Str}{o5 o6 o7 o8 v o10 u:Option Sl}
theorem Es(h1:Ψ.sp "_law_least"=sP)(f:DuOk w l y)(hm:OkS m)(o:AH h)(sl:h.length<=500)(q:∀(g:List Pt) o5 o6 o7 o8 v,AH g->g.length<=h.length+11->(∀x k,(x,k)∈g↔(x,k)∈h∨k=m/\ZG w l y m x)->Z.nx (GQ w l y g m o5 o6 o7 o8 v o10 u)) :
  pF Ψ EJ Z (GQ w l y h m o5 o6 o7 o8 v o10 u):=by
 have ll:=f.ll;have vl:=f.hv.1;delta GQ nX DE;delta EJ;simp_arith[↓yA];refine⟨by omega,by omega,?_⟩;rw[<- lA nD l];refine sA (λn=>T.d (nD n)) (λr j=>∃(i:LS) (o7 o8:Option Sl),i.Nodup/\i.length+r.length<=60/\(∀n∈r,n<w.es.length)/\(∀x,(∃n∈l,KF w.es x m n)↔x∈i∨∃n∈r,KF w.es x m n)/\j=GQ w l y h m (szS i) (DE []) o7 o8 v o10 u) ?_ ?_ _ _ ⟨[],_,_,Qs,by rw[Qt];omega,f.hl,λx=>⟨.inr,λz=>z.elim (λz=>(nomatch z)) id⟩,rfl⟩;rintro j ⟨i,L,J,G,b2,_,E,rfl⟩;delta GQ nX DE szS;simp_arith[↓yA];rw[<- lA nD y];refine sA (λn=>T.d (nD n)) (λr j=>∃(X:List Pt) (o7 o8:Option Sl),AH X/\X.length+r.length<=100/\(∀n∈r,n<w.es.length/\FC (aA w.es n))/\(∀x,(∃n∈y,xZ (aA w.es n)=m/\x=aC (aA w.es n))↔x∈X∨∃n∈r,xZ (aA w.es n)=m/\x=aC (aA w.es n))/\j=GQ w l y h m (szS i) (DE X) o7 o8 v o10 u) ?_ ?_ _ _ ⟨[],_,_,λ_ z=>(nomatch z),by rw[Qt];omega,f.hv.2,λx=>⟨.inr,λz=>z.elim (λz=>(nomatch z)) id⟩,rfl⟩;rintro j ⟨X,L,J,d1,Q,_,C,rfl⟩;have S:∀s,s∈i↔∃n∈l,KF w.es s m n:=λs=>⟨λz=>(E s).mpr (.inl z),λz=>((E s).mp z).elim id λ⟨_,z,_⟩=>(nomatch z)⟩
 have e1:∀e,e∈X↔∃n∈y,xZ (aA w.es n)=m/\e=aC (aA w.es n):=λe=>⟨λz=>(C e).mpr (.inl z),λz=>((C e).mp z).elim id λ⟨_,z,_⟩=>(nomatch z)⟩
 have sp:∀s∈i,V0 w s:=λs o=>G2 f.hw f.hl ((S s).mp o);have sl2:i.length<=w.ps.length:=by have:=SF (ns:=w.ps.map λp=>p.1) G λs o=>QS.mpr ((sp s o).elim λp Y=>⟨p,Y⟩);rw[QA]at this;exact this
 have pl:=f.hw.pl;rw[Qt]at Q;delta GQ nX DE szS;simp_arith[↓mR,↓uA (md:=[]) h1 rfl rfl];rw[vT,vT];refine⟨_,_,_,rfl,⟨by omega,by omega,pl⟩,⟨f.hn,G,λs o=>(sp s o).elim λp Y=>⟨p.2.2.2,QS.mpr ⟨p,Y.1,by rw[Y.2]⟩⟩⟩,λF fl B=>?_⟩;have B:∀x,x∈F↔ZG w l y m x:=λx=>(B x).trans (Aa f.hw f.hl e1 S x);have oF:∀x∈F,OkS x:=λx hx=>by obtain⟨n,A⟩:=VQ ((B x).mp hx);obtain⟨p,Y,e⟩:=QS.mp A;cases e;exact f.hw.po p Y
 simp_arith[↓yA];rw[<- lA Jx F];exact jt hm oF fl o (by omega) λg v K O W=>q g _ _ _ _ v K O λx k=>by rw[W,B]
 rintro n r j N M ⟨X,L,J,d1,Q,H,C,rfl⟩;obtain⟨A,R⟩:=H n QD;rw[QL]at Q;have ho:OkS (aC (aA w.es n)).1/\OkS (aC (aA w.es n)).2:=by have:=f.hw.ev A;obtain⟨t,a,b,m',wd,q',e⟩:=R;rw[e]at this ⊢;exact⟨f.hw.nm this.1,f.hw.nm this.2.1⟩
 refine yt A R ho d1 (by omega) λP o8 K O W=>M _ ⟨P,_,_,K,by omega,λk hk=>H k (QC _ hk),λx=>?_,rfl⟩;rw[C,W];simp only[QM,exists_eq_or_imp,or_assoc];rintro n r j N M ⟨i,L,J,G,b2,b4,E,rfl⟩;rw[QL]at b2;refine zt (b4 n QD) (by omega) G λI o8 K O W=>M _ ⟨I,_,_,K,by omega,λk hk=>b4 k (QC _ hk),λx=>?_,rfl⟩;rw[E,W];simp only[QM,exists_eq_or_imp,or_assoc]
noncomputable def Xi(w:Wd)(l y:LN)(h:List Pt)(o4 o5 o6 o7 o8 v o10 u:Option Sl):kA:=[bD (wD w),nX l,nX y,DE h,o4,o5,o6,o7,o8,v,o10,u]
theorem As{o4:Option Sl}{x:List Pt}{p:Str×Int×Int×Int}(b:OkS p.1)(e:∀k∈w.ms,OkS k)(f:w.ms.length<=10)(a:AH h)(g:x.length<=500)(q:Z.nx (Xi w l y h o4 o5 o6 o7 o8 v (DE (x++(w.ms.filter λk=>decide ((p.1,k)∈h)).map λk=>(p.1,k))) (bD (xD p)))) :
  pF Ψ AJ Z (Xi w l y h o4 o5 o6 o7 o8 v (DE x) (bD (xD p))):=by
 have fl:=Qk (λk=>decide ((p.1,k)∈h)) w.ms;delta Xi nX DE at q ⊢;delta AJ;simp_arith[↓G0];rw[<- lA Jx w.ms];refine bA (λk=>T.d (.str k)) (λk=>T.d (pr (p.1,k))) (λk=>decide ((p.1,k)∈h)) w.ms _ _ (λk hk R z=>?_) (by rw[Qt];omega) ?_;simp_arith[↓Fo,↓gJ,ZC,QV,wJ,JF];refine⟨by omega,so (p:=(p.1,k)) a ⟨b,e k hk⟩ ?_⟩;by_cases c:(p.1,k)∈h;rw[dT c]at z ⊢;simp_arith[↓gJ];exact⟨by omega,z⟩;rw[dF c]at z ⊢;exact z;rw[Qj,show ∀l:LS,l.map (λk=>T.d (pr (p.1,k)))=((l.map λk=>(p.1,k)).map pr).map T.d from λl=>by rw[Qc,Qc];rfl];rw[QJ]at q;simp_arith[QA];exact⟨by omega,q⟩
end
noncomputable def XR:PSp where
 run:=λx Q _=>∃(w:Wd) (l h:LN),x=[.d (wD w),.d (.list (l.map nD)),.d (.list (h.map nD))]/\DuOk w l h/\Q (.lst (((YF w l h).map pr).map T.d)) []
theorem Bm{Ψ:PEv}(S:Ψ.sp "_law_least"=sP):XF Ψ AQ XR dY ER:=by
 rintro _ Q _ ⟨w,l,v,rfl,g,q⟩;have I:=g.hw.ml;have pl:=g.hw.pl;refine fA [bD (wD w),bD (.list (l.map nD)),bD (.list (v.map nD)),none,none,none,none,none,none,none,none,none] ?_;delta AQ;simp_arith[↓G0];refine⟨by omega,?_⟩;rw[<- lA Jx w.ms];refine sA (λk=>T.d (.str k)) (λr b=>∃(a:List Pt) (j Z Y X s o:Option Sl),AH a/\a.length+11 * r.length<=110/\(∀k∈r,k∈w.ms)/\(∀x k,(k∈w.ms/\ZG w l v k x)↔(x,k)∈a∨k∈r/\ZG w l v k x)/\b=Xi w l v a j Z Y X s o none none) ?_ ?_ _ _ ⟨[],none,none,none,none,none,none,λ_ z=>(nomatch z),by rw[Qt];omega,λ_ z=>z,λx k=>⟨.inr,λz=>z.elim (λz=>(nomatch z)) id⟩,rfl⟩;rintro b ⟨a,P,G,F,E,C,B,A,M,_,i,rfl⟩;have i:∀x k,k∈w.ms->((x,k)∈a↔ZG w l v k x):=λx k hk=>⟨λz=>((i x k).mpr (.inl z)).2,λz=>((i x k).mp ⟨hk,z⟩).elim id λz=>(nomatch z.1)⟩
 delta Xi nX DE;simp_arith[↓mR];refine⟨by omega,?_⟩;rw[<- lA xD w.ps];refine sA (λp=>T.d (xD p)) (λr b=>∃(u:List Pt) (j f:Option Sl),u++(r.flatMap λp=>tZ w l v p.1)=YF w l v/\u.length+10 * r.length<=110/\(∀p∈r,p∈w.ps)/\b=Xi w l v a j G F E C B (DE u) f) ?_ ?_ _ _ ⟨[],_,_,rfl,by rw[Qt];omega,λ_ z=>z,rfl⟩;rintro b ⟨u,j,f,e,_,_,rfl⟩;have e:u=YF w l v:=by rw[<- e];exact(Qu _).symm
 subst e;delta Xi nX DE;simp_arith[↓yA];exact q;rintro p r b N K ⟨u,j,f,e,a1,O,rfl⟩;rw[QL]at a1;have R:=O p QD;have J:(w.ms.filter λk=>decide ((p.1,k)∈a)).map (λk=>(p.1,k))=tZ w l v p.1:=by unfold tZ;congr 1;refine List.filter_congr λk hk=>?_;rw[Q7,decide_eq_true_iff,XX];exact i p.1 k hk
 have hl:(tZ w l v p.1).length<=10:=by unfold tZ;rw[QA];exact QX (Qk _ _) I
 refine As (p:=p) (g.hw.po p R) g.hw.mo I A (by omega) (K _ ⟨_,_,_,?_,?_,λx W=>O x (QC _ W),rfl⟩);rw[J,Qw];exact e;rw[J,QH];omega;rintro k r b N K ⟨a,P,G,F,E,C,B,A,M,L,i,rfl⟩;rw[QL]at M;refine Es (m:=k) S g (g.hw.mo k (L k QD)) A (by omega) λn Z Y X s o g1 g2 H=>K _ ⟨n,_,Z,Y,X,s,o,g1,by omega,λx W=>L x (QC _ W),λx y=>?_,rfl⟩;rw[i,H,QM];constructor;rintro(z|⟨rfl|z,h⟩)
 ·exact .inl (.inl z)
 exact .inl (.inr ⟨rfl,h⟩);exact .inr ⟨z,h⟩;rintro((z|⟨rfl,h⟩)|⟨z,h⟩)
 ·exact .inl z
 exact .inr ⟨.inl rfl,h⟩;exact .inr ⟨.inr z,h⟩
noncomputable abbrev Pn:=Str×Int×Int×Int
def Rn(h:Ps)(k:Nat):Str:=(gI h (k:Int) ("",0,0,0)).1
noncomputable def ai(h:Ps)(p:Pn)(m:Str)(k:Nat):List Evt:=[.see 0 (Rn h k) m "a",.tell 0 (Rn h k) p.1 m "b" []]
noncomputable def Ud(cs:LJ)(h:Ps):Nat:=(1+xA cs 991 ((h.length:Int))).toNat
noncomputable def cb(cs:LJ)(h:Ps)(p:Pn)(x:LS)(y:List Pt)(es:List Evt):Wd:=⟨h++[(p.1,p.2.1,0,2+xA cs 992 3)],x,y,(Qr (Ud cs h)).flatMap (ai (h++[p]) p (gI x 0 ""))++dC es none (some 16)⟩
noncomputable def Ss(w:Wd):T:=.tup [.d (.list (w.ps.map xD)),.d (.list (w.ms.map Jx)),.d (.list (w.ag.map pr)),.lst ((w.es.map zD).map T.d)]
section
variable{cs:LJ}{y:Ps}{p:Pn}{u:LS}{v:List Pt}{es:List Evt}
theorem K6(h:1<=y.length):Ud cs y<=y.length:=by have:=pA (cs:=cs) (k:=991) (m:=(y.length:Int)) (by omega);unfold Ud;omega
theorem On{k:Nat}(h:k<y.length):Rn (y++[p]) k∈y.map λp=>p.1:=by
 have e:gI (y++[p]) (k:Int) ("",0,0,0)=y[k]:=by unfold gI;rw[show pD (y++[p]) (k:Int)=some y[k] from gD (by rw[qF h,Qn h])];rfl
 unfold Rn;rw[e];exact QS.mpr ⟨_,wH h,rfl⟩
theorem Nn(w:WOk ⟨y++[p],u,v,es⟩)(B:1<=y.length)(E:1<=u.length):WOk (cb cs y p u v es):=by
 have m:=w.pl;have K:=K6 (cs:=cs) B;have X:((cb cs y p u v es).ps.map λp=>p.1)=(y++[p]).map λp=>p.1:=by show(y++[_]).map _=_;rw[QJ,QJ];rfl
 have m:y.length+1<=11:=by rw[show(Wd.mk (y++[p]) u v es).ps=y++[p] from rfl,QH]at m;exact m
 have o:∀{x},x∈((y++[p]).map λp=>p.1)->V0 (cb cs y p u v es) x:=λ{x} h=>by rw[<- X]at h;obtain⟨q,l,e⟩:=QS.mp h;exact⟨q,l,e⟩
 have n:∀{x},V0 ⟨y++[p],u,v,es⟩ x->V0 (cb cs y p u v es) x:=λ⟨q,l,e⟩=>o (QS.mpr ⟨q,l,e⟩);have Y:gI u 0 ""∈u:=(bC (i:=0) (by decide) (by omega)).2;refine⟨w.ag,w.al,?_,by rw[X];exact w.pn,λq l=>?_,w.ml,w.mo,w.mn,?_,λe g=>?_⟩;show(y++[_]).length<=11;rw[QH];exact m;have:q.1∈((y++[p]).map λp=>p.1):=by rw[<- X];exact QS.mpr ⟨q,l,rfl⟩
 obtain⟨r,A,e⟩:=QS.mp this;rw[<- e];exact w.po r A;have f:=CQ (c:=2) (Qr (Ud cs y)) λk _=>Qa (ai (y++[p]) p (gI u 0 "") k).length;have e:(dC es none (some ((16:Nat):Int))).length<=16:=by unfold dC;rw[HT.sIx_nat,HT.sIx_none,wb];omega
 have e:(dC es none (some 16)).length<=16:=e;show(QBw (ai (y++[p]) p (gI u 0 "")) (Qr (Ud cs y))++dC es none (some 16)).length<=60;rw[QH];rw[Q4]at f;omega;rcases QT.mp g with g|g
 ·obtain⟨k,hk,g⟩:=wI.mp g
  have hk:k<y.length:=Ql (Q3.mp hk) K;have s:=On (p:=p) hk;have j:Rn (y++[p]) k∈((y++[p]).map λp=>p.1):=by rw[QJ];exact Qf _ s
  rcases QM.mp g with rfl|g;exact⟨o j,Y,(by decide +kernel:qX "a"=true)⟩;rw[QI.mp g];refine⟨o j,o (by rw[QJ];exact QU _ QD),Y,λe=>?_,(by decide +kernel:qX "b"=true),λ_ z=>(nomatch z)⟩;have nd:=w.pn;rw[show(Wd.mk (y++[p]) u v es).ps=y++[p] from rfl,QJ]at nd;exact(qH.mp nd).2.2 _ s _ QD e
 have:=w.eo e ((IE _ _ _).mem g);cases e with|see t C W Z=>exact⟨n this.1,this.2⟩|tell t a b W Z q=>exact⟨n this.1,n this.2.1,this.2.2.1,this.2.2.2.1,this.2.2.2.2.1,λx s=>n (this.2.2.2.2.2 x s)⟩
end
noncomputable def XU:PSp where
 md:=[.xy]
 run:=λv Q _=>∃(z:LJ) (h:Ps) (p:Pn) (x:LS) (u:List Pt) (y:List Evt),v=[.lst ((z.map Jy).map T.d),.d (wD ⟨h++[p],x,u,y⟩)]/\(1<=h.length/\h.length<=10/\1<=x.length/\y.length<=60)/\Q (Ss (cb z h p x u y)) []
noncomputable def si(cs:LJ)(y:Ps)(p:Pn)(z:LS)(u:List Pt)(es:List Evt)(o10 x h:Option Sl):kA:=[some (.ky (.lst ((cs.map Jy).map T.d))),bD (wD ⟨y++[p],z,u,es⟩),bD (.list ((y++[p]).map xD)),bD (.list (z.map Jx)),bD (.list (u.map pr)),bD (.list (es.map zD)),bD (.str p.1),bD (.int p.2.1),bD (.int p.2.2.1),bD (.int p.2.2.2),o10,x,h]
theorem Rs{Ψ:PEv}{Z:PEnds}{cs:LJ}{x:Ps}{p:Pn}{y:LS}{u:List Pt}{es h:List Evt}{k:Nat}{z:Option Sl}(hk:k<x.length)(a:1<=y.length)(e:h.length<=100)(q:Z.nx (si cs x p y u es (V6 (h++ai (x++[p]) p (gI y 0 "") k)) (bD (.int (k:Int))) z)):pF Ψ uF Z (si cs x p y u es (V6 h) (bD (.int (k:Int))) z):=by
 have w:pD ((x++[p]).map xD) (k:Int)=some (xD (gI (x++[p]) (k:Int) ("",0,0,0))):=by rw[SD,(XM (d:=(("",0,0,0):Pn)) (show k<(x++[p]).length by rw[QH];omega)).1];rfl
 have v:pD (y.map Jx) 0=some (.str (gI y 0 "")):=by rw[SD,(bC (i:=0) (d:=("":Str)) (by decide) (by omega)).1];rfl
 delta si V6 at q ⊢;delta uF;simp?[w,v,↓eB,↓gJ,QA,QH,QL,Qt];refine⟨by omega,by omega,by omega,by omega,rfl,by omega,?_⟩;rw[show ∀b:List Evt,((h++b).map zD).map T.d=(h.map zD).map T.d++(b.map zD).map T.d from λb=>by rw[QJ,QJ]]at q;rw[Qw];exact q
theorem uh{Ψ:PEv}(b:Ψ.sp "_law_draw"=tB):XF Ψ NH XU nN rK:=by
 rintro _ Q _ ⟨cs,h,p,z,w,u,rfl,⟨n,W,l,j⟩,q⟩;refine fA [some (.ky (.lst ((cs.map Jy).map T.d))),bD (wD ⟨h++[p],z,w,u⟩),none,none,none,none,none,none,none,none,none,none,none] ?_;delta NH;simp_arith[↓uA (md:=[.xy]) b rfl rfl,↓vH,↓LA];refine DD.mk rfl ?_;show pF Ψ _ _ [some (.ky (.lst ((cs.map Jy).map T.d))),bD (wD ⟨h++[p],z,w,u⟩),bD (.list ((h++[p]).map xD)),bD (.list (z.map Jx)),bD (.list (w.map pr)),bD (.list (u.map zD)),none,none,none,none,none,none,none];have Z:pD ((h++[p]).map xD) (-1)=some (xD p):=by unfold pD UO;rw[if_neg (by decide),QA,QH,QY,if_pos (by omega)];show((h++[p]).map xD)[((-1:Int)+((h.length+1:Nat):Int)).toNat]?=_;rw[show((-1:Int)+((h.length+1:Nat):Int)).toNat=h.length by omega,Qe,wG];rfl
 simp_arith[Z,↓eB];refine DD.mk rfl ?_;show pF Ψ _ _ (si cs h p z w u none none none);delta si;simp_arith[↓uA (md:=[.xy]) b rfl rfl,↓vH,↓LA,QA,QH,QY];rw[show((h.length+1:Nat):Int) - 1=(h.length:Int) by omega];have K:=pA (cs:=cs) (k:=991) (m:=(h.length:Int)) (by omega);have o:=K6 (cs:=cs) n;refine⟨by omega,by omega,by omega,by omega,?_⟩;refine sA (λ(i:Nat)=>T.d (.int (i:Int))) (λr a=>∃(y:List Evt) (v:Option Sl),y++r.flatMap (ai (h++[p]) p (gI z 0 ""))=(Qr (Ud cs h)).flatMap (ai (h++[p]) p (gI z 0 ""))/\y.length+2 * r.length<=20/\(∀k∈r,k<h.length)/\a=si cs h p z w u (V6 y) v none) ?_ ?_ _ _ ⟨[],none,rfl,by show 0+2 * (Qr (Ud cs h)).length<=20;rw[Q4];omega,λk hk=>Ql (Q3.mp hk) o,rfl⟩;rintro a ⟨y,v,e,f,_,rfl⟩;have e:y=(Qr (Ud cs h)).flatMap (ai (h++[p]) p (gI z 0 "")):=by rw[<- e];exact(Qu _).symm
 have q:Q (Ss ⟨h++[(p.1,p.2.1,0,2+xA cs 992 3)],z,w,y++dC u none (some 16)⟩) []:=by rw[e];exact q
 rw[Qt]at f;have Y:dC ((h++[p]).map xD) none (some (-1))=h.map xD:=by unfold dC HT.sIx;rw[QJ,QH,QA];show((h.map xD++[xD p]).drop 0).take (((-1:Int)+((h.length+1:Nat):Int)).toNat - 0)=_;rw[show((-1:Int)+((h.length+1:Nat):Int)).toNat - 0=(h.map xD).length by rw[QA];omega,List.drop_zero,List.take_left]
 delta si V6;simp?[↓uK,↓Ks,↓Vs,↓DU,↓uA (md:=[.xy]) b rfl rfl,↓vH,↓LA,Y,QA,↓Kj];have A:(dC (u.map zD) none (some 16)).length<=60:=QX (IE _ _ _).length_le (by rw[QA];exact j);refine⟨by omega,by omega,by omega,by omega,by omega,?_⟩;have q:Q (.tup [.d (.list ((h++[(p.1,p.2.1,0,2+xA cs 992 3)]).map xD)),.d (.list (z.map Jx)),.d (.list (w.map pr)),.lst (((y++dC u none (some 16)).map zD).map T.d)]) []:=q;rw[QJ,QJ,<- FI]at q;exact q;rintro k r a N X ⟨y,v,e,f,g,rfl⟩;rw[QL]at f;refine Rs (k:=k) (g k QD) l (by omega) (X _ ⟨_,_,?_,?_,λx s=>g x (QC _ s),rfl⟩);rw[Qw];exact e;rw[QH];show y.length+2+_<=_;omega
structure SI(w:Wd)(st:List Stp):Prop where
 h:∀k s,st[k]?=some s->s.2.2.2=YF w ((st.take (k+1)).map λs=>s.1) s.2.2.1/\SZ w s.2.2.1
 n:∀s∈st,s.1<w.es.length
theorem B8{w:Wd}{g:Gs}{n:Nat}(b:GsOk w g)(i:g.past.length<60)(u:n<w.es.length)(a:g.past=g.steps.map λs=>s.1)(h:SI w g.steps):SI w (EE w g n).steps:=by
 obtain⟨f,v⟩:=L1 b u;refine⟨λk s x=>?_,λs x=>?_⟩;show s.2.2.2=YF w (((g.steps++[_]).take (k+1)).map _) _/\_;have x:(g.steps++[(n,Sj w g n,Cr w g n,Op w g n)])[k]?=some s:=x;by_cases c:k<g.steps.length;rw[qF c]at x;rw[List.take_append_of_le_length c];exact h.h k s x;have e:k=g.steps.length:=by have:=(Qh.mp x).1;rw[QH,QY]at this;omega
 subst e;rw[wG]at x;cases x;rw[List.take_of_length_le (by rw[QH];exact Qa _),QJ,<- a];have z:=ZR (jH w.es (sY w g n) (ZN w (g.past++[n])));refine⟨rfl,?_,λk hk=>v k (QO.mp (z.mem_iff.mp hk)).1⟩;show(srt _).length<=100;rw[z.length_eq];have:=Qk (λy=>!decide (((aC (aA w.es y)).1,(aC (aA w.es y)).2)∈ZN w (g.past++[n]))) (sY w g n);unfold jH;omega;rcases QT.mp x with x|x
 ·exact h.n s x
 rw[QI.mp x];exact u
theorem FW{w:Wd}(x:WOk w):∀(ns:LN) (g:Gs),GsOk w g->g.past.length+ns.length<=60->(∀n∈ns,n<w.es.length)->g.past=(g.steps.map λs=>s.1)->SI w g.steps->SI w (ns.foldl (EE w) g).steps/\(ns.foldl (EE w) g).steps.length=g.steps.length+ns.length
 |[],g,_,_,_,_,h=>⟨h,rfl⟩|n::ns,g,hg,gl,hn,hp,h=>by rw[QL]at gl;have:=FW x ns (EE w g n) (XQ x hg (hn n QD)) (by show(g.past++[n]).length+_<=_;rw[QH,QY];omega) (λk hk=>hn k (QC _ hk)) (by show g.past++[n]=(g.steps++[_]).map _;rw[QJ,<- hp];rfl) (B8 hg (by omega) (hn n QD) hp h);refine⟨this.1,this.2.trans ?_⟩;show(g.steps++[_]).length+_=_;rw[QH,QY,QL];omega
theorem C8{w:Wd}(x:WOk w){ns:LN}(h:B7 w ns):SI w (KM w ns).steps/\(KM w ns).steps.length<=60:=by have u:=x.el;have y:=T4 h;have:=FW x ns ⟨[],[],[],[]⟩ ⟨λ_ z=>(nomatch z),Qa _,λ_ z=>(nomatch z),λ_ z=>(nomatch z),rfl⟩ (by show 0+_<=_;omega) (Pc h) rfl ⟨λk s z=>(by cases z),λ_ z=>(nomatch z)⟩;refine⟨this.1,?_⟩;have e:(KM w ns).steps.length=0+ns.length:=this.2;omega
section
variable{s:Stp}{n m:Bool}{R:T->Prop}
theorem uq:DA (.d (aY s)) n (.d (.int 0)) m R=R (.d (nD s.1)):=GA (i:=0) rfl
theorem xq:DA (.d (aY s)) n (.d (.int 2)) m R=R (.d (.list (s.2.2.1.map nD))):=GA (i:=2) rfl
theorem vq:DA (.d (aY s)) n (.d (.int 3)) m R=R (.d (.list (s.2.2.2.map pr))):=GA (i:=3) rfl
end
noncomputable def A7(h:LJ)(w:Wd)(st:List Stp)(o3 o4 o5 o6:Option Sl):kA:=[some (.ky (.lst ((h.map Jy).map T.d))),bD (wD w),bD (.list (st.map aY)),o3,o4,o5,o6]
section
variable{Ψ:PEv}{Z:PEnds}{is:LJ}{w:Wd}{st:List Stp}{o3 o4 o5 o6:Option Sl}
theorem Ur(o:Ψ.sp "_law_due"=XR)(v:WOk w)(u:∀p∈w.ps,1<=p.2.2.2)(a:SI w st)(g:st.length<=60){p:Int}(i:0<=p->0<st.length->p<st.length)(q:∀o6,Z.nx (A7 is w st o3 o4 (bD (.int p)) o6)):pF Ψ SQ Z (A7 is w st o3 o4 (bD (.int p)) o6):=by
 delta A7 at q ⊢;delta SQ;simp_arith[↓Ii,QA];by_cases y:0<=p;rw[dT y];by_cases e:(0:Int)<(st.length:Int);rw[dT e];have lt:=i y (by omega);obtain⟨k,rfl⟩:=qQ y;have z:k<st.length:=by omega
 have Y:pD (st.map aY) (k:Int)=some (aY st[k]):=gD (by rw[Qe,Qn z];rfl);simp_arith[↓reduceIte,↓uK,↓Bs,↓DU,FI];have X:dC st none (some ((k:Int)+1))=st.take (k+1):=by show dC st none (some ((k+1:Nat):Int))=_;unfold dC;rw[HT.sIx_nat,HT.sIx_none,List.drop_zero,QBv,ww z]
 have f:(st.take (k+1)).length<=60:=QX (List.length_take_le' _ _) g;rw[X,<- lA aY (st.take (k+1))];refine nC (λs=>T.d (aY s)) (λs=>T.d (nD s.1)) (st.take (k+1)) [] _ (λx W R j=>?_) (by rw[Qt];omega) ?_;simp_arith[↓uq];exact j;rw[Qj,show ∀l:List Stp,l.map (λs=>T.d (nD s.1))=((l.map λs=>s.1).map nD).map T.d from λl=>by rw[Qc,Qc];rfl];obtain⟨b,r⟩:=a.h k st[k] (Qn z);simp_arith[Y,↓eB,↓xq,↓vq,↓uA (md:=[]) o rfl rfl];refine⟨_,_,_,rfl,⟨v,u,λn u=>?_,by rw[QA];exact f,r⟩,?_⟩;obtain⟨s,m,rfl⟩:=QS.mp u;exact a.n s (List.mem_of_mem_take m);rw[<- b];have ok:eF (.list (st[k].2.2.2.map pr)):=C4 (by rw[b];exact ZX v _ _);simp_arith[↓yA];refine⟨ok,ok,?_⟩;rw[PySem.SeqAt.eqv_refl _ ok.1];exact q _;rw[dF e];exact q _;rw[dF y];exact q _
theorem Br(y:Ψ.sp "_law_draw"=tB){x:LJ}{k:Nat}(hk:k<=3)(b:x.length<=10)(v:∀p∈x,0<=p->0<st.length->p<st.length)(q:∀h:LJ,h.length=x.length+1->(∀p∈h,0<=p->0<st.length->p<st.length)->Z.nx (A7 is w st (oW (.lst ((h.map Jy).map T.d))) (bD (.int (k:Int))) o5 o6)):pF Ψ TQ Z (A7 is w st (oW (.lst ((x.map Jy).map T.d))) (bD (.int (k:Int))) o5 o6):=by
 delta A7 at q ⊢;delta TQ;simp_arith[↓uA (md:=[.xy]) y rfl rfl,↓vH,↓LA,QA];have u:0<(if(st.length:Int) > 1 then(st.length:Int) else 1)/\(0<st.length->(if(st.length:Int) > 1 then(st.length:Int) else 1)<=st.length):=by split<;>omega
 generalize (if(st.length:Int) > 1 then(st.length:Int) else 1)=M at *;have d:=pA (cs:=is) (k:=970+(k:Int)) u.1;have:=q (x++[xA is (970+(k:Int)) M]) (by rw[QH];rfl) (λp z a y=>by rcases QT.mp z with m|m;exact v p m a y;rw[QI.mp m];have:=u.2 y;omega);rw[QJ,QJ]at this;exact⟨by omega,by omega,u.1,by omega,this⟩
theorem ud(A:Ψ.sp "_law_due"=XR)(K:Ψ.sp "_law_draw"=tB)(W:Ψ.sp "gone"=kL){Q:T->LT->Prop}(b:WOk w)(X:∀p∈w.ps,1<=p.2.2.2)(q:Q (.d (.bool true)) []):pF Ψ zN (eZ Q) [some (.ky (.lst ((is.map Jy).map T.d))),bD (wD w),none,none,none,none,none]:=by
 delta zN;simp_arith[↓uA (md:=[]) W rfl rfl];refine⟨_,rfl,b,λn e=>?_⟩;obtain⟨o,l⟩:=C8 b e;generalize (KM w n).steps=st at *;simp?[↓mR,↓n5,QA];have z:0<=O7 (decide (5<(w.ps.length:Int)))/\O7 (decide (5<(w.ps.length:Int)))<=1:=by cases decide (5<(w.ps.length:Int))<;>exact⟨by decide,by decide⟩
 refine⟨by omega,cK.ok (.inl ⟨by decide,by decide⟩),by omega,by omega,?_⟩;refine sA (λ(i:Nat)=>T.d (.int (i:Int))) (λr h=>∃(y:LJ) (o4:Option Sl),(∀p∈y,0<=p->0<st.length->p<st.length)/\y.length+r.length<=10/\(∀k∈r,k<=3)/\h=A7 is w st (oW (.lst ((y.map Jy).map T.d))) o4 none none) ?_ ?_ _ _ ⟨[(st.length:Int) - 1],none,λp s _ _=>by rw[QI.mp s];omega,by show 1+(Qr _).length<=10;rw[Q4];omega,λk hk=>by have:=Q3.mp hk;omega,rfl⟩;rintro h ⟨y,m,g,_,_,rfl⟩;delta A7;simp_arith[↓yA];rw[<- lA Jy y];refine sA (λ(p:Int)=>T.d (.int p)) (λr h=>(∀p∈r,0<=p->0<st.length->p<st.length)/\∃o4 o5 o6,h=A7 is w st (some (.ky (.lst (y.map λc=>T.d (.int c))))) o4 o5 o6) ?_ ?_ _ _ ⟨g,_,_,_,rfl⟩;rintro h ⟨_,o4,o5,o6,rfl⟩;delta A7;simp_arith[↓yA];refine⟨λi Y=>by rw[QI.mp Y];exact⟨by decide,rfl⟩,?_⟩;show pF Ψ %[.ret (.bl true)|2] (eZ Q) (_::_);simp_arith[↓yA];exact q;rintro p r h N f ⟨u,o4,o5,o6,rfl⟩;exact Ur A b X o l (u p QD) λo6=>f _ ⟨λx a=>u x (QC _ a),_,_,_,rfl⟩;rintro k r h N f ⟨y,m,g,B,j,rfl⟩;rw[QL]at B;exact Br (k:=k) K (j k QD) (by omega) g λv C u=>f _ ⟨v,_,u,by omega,λx a=>j x (QC _ a),rfl⟩
end
theorem xa(cs:LJ)(ns:LS):∀p∈XN cs ns,1<=p.2.2.2:=by intro p h;unfold XN at h;obtain⟨x,_,rfl⟩:=QS.mp h;have b:=pA (cs:=cs) (k:=940+(x.2:Int)) (m:=6) (by decide);have m:=(bC (l:=[1,1,2,2,3,4]) (d:=(0:Int)) b.1 b.2).2;show 1<=gI [1,1,2,2,3,4] (xA cs (940+(x.2:Int)) 6) 0;generalize gI [1,1,2,2,3,4] (xA cs (940+(x.2:Int)) 6) 0=v at *;simp only[QM,wf,or_false]at m;omega
theorem xh{Ψ:PEv}(s:Ψ.sp "_law_due"=XR)(j:Ψ.sp "_law_draw"=tB)(r:Ψ.sp "gone"=kL)(W:Ψ.sp "_law_world"=DL)(Z:Ψ.sp "_law_fanned"=XU):XF Ψ f7 yS Ae B3:=by
 rintro _ Q _ ⟨h,B,hb,rfl,q⟩;refine fA [some (.ky (.lst ((h.map Jy).map T.d))),none,none,none,none,none,none] ?_;delta f7;simp_arith[↓uA (md:=[.xy]) W rfl rfl];refine⟨_,_,rfl,⟨by decide,by decide⟩,?_⟩;have b:=A0 h (most:=5) ⟨by decide,by decide⟩;have o:=c7 (UB 24 h) (most:=5) ⟨by decide,by decide⟩;have n:∀p∈(lJ h 5).ps,1<=p.2.2.2:=xa _ _;have v:2<=(lJ h 5).ps.length:=o.p2;have l:1<=(lJ h 5).ms.length:=o.m1;generalize lJ h 5=w at *;simp_arith[↓uA (md:=[.xy]) j rfl rfl,↓uA (md:=[.xy]) Z rfl rfl,↓vH,↓LA];by_cases c:xA h 990 3=0;rw[if_pos (dT c)];obtain⟨i,a,g,f⟩:=w;have v:2<=i.length:=v;have X:i.length<=11:=b.pl;rcases QAx i with rfl|⟨u,p,rfl⟩
 exact absurd v (by decide);rw[QAy]at *;rw[QH,QY]at v X;refine⟨_,_,_,_,_,_,rfl,⟨by omega,by omega,l,b.el⟩,⟨rfl,?_⟩⟩;have A:=Nn (cs:=h) b (by omega) l;have K:∀y∈(cb h u p a g f).ps,1<=y.2.2.2:=λx Y=>by rcases QT.mp Y with m|m;exact n x (Qf _ m);rw[QI.mp m];have:=pA (cs:=h) (k:=992) (m:=3) (by decide);show 1<=2+xA h 992 3;omega
 have e:(Ss (cb h u p a g f)).er=wD (cb h u p a g f):=by show PyData.tuple [_,_,_,(T.lst (((cb h u p a g f).es.map zD).map T.d)).er]=_;rw[vT];rfl
 unfold cI;rw[e];exact⟨rfl,ud s j r A K q⟩;rw[if_neg (λz=>c (of_decide_eq_true z))];exact ud s j r b n q
end L2.L3.K33
namespace L2.L3
open PySem PySem.Spec PyProof.Rows L2.L3.Q
section
variable{K:QE}{x:Str}{st:Stmt}
theorem BV{h:Heap}:∀(y:List Addr),(Rp y h).In h
 |[],a,o,e=>nomatch e
 |b::y,a,o,e=>by
  unfold Rp at e;rw[WB]at e;cases c:h.get? b with
  |none=>rw[c]at e;exact BV y a o e|some z =>
   rw[c]at e;have e:QB6 a ((b,z)::Rp y h)=some o:=e;rw[wc]at e;cases d:a==b with|true=>rw[d]at e;cases e;rw[beq_iff_eq.mp d];exact c|false=>rw[d]at e;exact BV y a o e
theorem xi{q:Str}{f:Addr}{y:FuncData}{w:Value}{v:Option Addr}{z:Array (Option Value)}(hl:K.lookup f=some ⟨w,v,.func y,z⟩)(h:nk y (Wb K y.code q&&wM K (.ref f))=nk (ql x q (dD st) (sC st) (MA st) .none .none .none .none none .none .none) true):∃y,Fun K x q st f y:=by obtain⟨Y,X,s,r,p,o,n,m,l,j,i,g,e,b,a⟩:=y;unfold nk at h;injection h with h1 h2;injection h2 with h2 h3;injection h1 with b1 h1;injection h1 with b2 h1;injection h1 with b3 h1;injection h1 with b4 b5;injection h2 with c1 h2;injection h2 with c2 h2;injection h2 with c3 c4;obtain⟨u,k⟩:=Wo.mp h3;simp only at b1 b2 b3 b4 b5 c1 c2 c3 c4 u;subst b1 b2 b3 b4 b5 c1 c2 c3 c4;exact⟨_,ui hl u k⟩
theorem D2(h:CV K x=jT x st)(y:(jT x st).isSome=true):fY K x st:=by
 have z:jT x st=some (nk (ql x x (dD st) (sC st) (MA st) .none .none .none .none none .none .none) true):=by cases st<;>first|rfl|cases y
 rw[z]at h;unfold CV at h;split at h;rename_i f hf;split at h;rename_i hl;obtain⟨u,F⟩:=xi hl (Qv h);exact⟨f,u,hf,F⟩;cases h;cases h
theorem D8(h:EU K x=true):qk K mainGlobals x=some none:=by unfold EU at h;split at h;assumption;cases h
theorem C2{i:Int}(h:Lf K x=some i):bN K x (.int i):=by
 unfold Lf at h;split at h;rename_i u hu;cases u with|int j t=>cases h;exact⟨_,_,hu,rfl,λ_=>.int i⟩|_=>cases h
 cases h
theorem JR:∀{us:LW}{xs:LS},us.map Ul=xs.map some->us.map uN=xs.map λy=>some (.str y)
 |[],[],_=>rfl|[],_::_,h=>by cases h|_::_,[],h=>by cases h|u::us,x::xs,h=>by
  injection h with h1 h2;rw[QV,QV,JR h2];cases u with|str z t=>cases h1;rfl|_=>cases h1
theorem iY{xs:LS}(h:Nf K x=some (xs.map some))(y:xs.length<=sizeLine):bN K x (.tuple (xs.map Jx)):=by unfold Nf at h;split at h;rename_i f hf;split at h;rename_i t od its n osl hl;split at h;rename_i et;subst et;injection h with h;exact U1 (its:=its.toList) hf (by simpa using hl) (JR h) y;cases h;cases h;cases h
theorem go_of(e:seen K=due):yG K tA=true:=(W6 (W6 (W6 (W6 e).2).2).2).2
end
section
variable{K:QE}{h:Heap}{mg:Str->Option Value}{T:Addr}
theorem ES(e:yG K T=true)(X:K.In h)(G:h.Ns mainGlobals mg):(∃f k w v z c,mg "going_order"=some (.ref f)/\K.lookup f=some ⟨k,w,.func v,z⟩/\v.code=.ref c/\QAb K c T=true)/\(∀y:Heap,K.In y->y.BuiltinsAt mg T)/\K.lookup T=none/\mainGlobals≠T:=by
 obtain⟨u,e⟩:=zA e;obtain⟨x,e⟩:=zA e;obtain⟨g,a⟩:=zA e;refine⟨?_,?_,QAM.mp g,bne_iff_ne.mp a⟩;split at u
 ·rename_i f hf
  split at u;rename_i k w v z hl;split at u;rename_i c hc;exact⟨f,k,w,v,z,c,WP X G hf,hl,hc,u⟩;cases u;cases u
 cases u;intro y Y;split at x;rename_i b hb;split at x;rename_i t d z hl;obtain⟨n,x⟩:=zA x;obtain⟨m,x⟩:=zA x;obtain⟨l,x⟩:=zA x;obtain⟨j,i⟩:=zA x;exact⟨b,_,WP X G hb,bne_iff_ne.mp l,bne_iff_ne.mp j,bne_iff_ne.mp i,Y _ _ hl,by rw[beq_iff_eq.mp n],by rw[beq_iff_eq.mp m],rfl⟩;cases x;cases x
theorem ki(e:yG K T=true)(X:K.In h)(G:h.Ns mainGlobals mg):∃v c,(∀x:Heap,K.In x->∀P q,jP mg x P q->P=T/\q=v)/\QAb K c T=true/\K.lookup T=none:=by obtain⟨⟨f,I,F,C,w,c,p,n,m,y⟩,_,l,_⟩:=ES e X G;refine⟨C.qualname++".<locals>.<lambda>",c,λx Y P q t=>?_,y,l⟩;obtain⟨M,o,B,N,A,W,Z,s,⟨L,E,_,_,_,_,_,_,_,j,_,i,g,_⟩,r⟩:=t;cases p.symm.trans A;have z:=W.symm.trans (Y _ _ n);cases z;cases Z;cases m.symm.trans s;obtain⟨J,u,_,_,_,_,_,_,_,b,_,a,k,_⟩:=W7 Y y;cases j.symm.trans b;cases i.symm.trans a;cases g.symm.trans k;exact⟨rfl,r⟩
end
theorem walk_seen{l:PySem.W.OpenLaw}{k:Nat}{q:Program}{loose:LS}{XP:(Str->Option Value)->Heap->Prop}{YP:World->Heap->Prop}{d:DefRec}{x:Str}{Fs:QE->Prop}{T:Addr}
  (hn:l.most=some 63) (C:d.params.defaults=[]) (S:Room k callerA) (hY:∀(w:World) (h:Heap),YP w h->∃K:QE,K.In h/\Fs K/\h.get? T=some (QBB #[])) (B:∀K,Fs K->yG K T=true)
  (F:∀(w:World) (mg:Str->Option Value) (p:Addr) (h:Heap) (K:QE),K.In h->Fs K->yG K T=true->h.Ns mainGlobals mg->mg d.name=some (.ref p) ->
   ∃E:FuncData,(∀(s:Shared) (u:Value),BindsTo s E ⟨[u],[]⟩ [(x,u)]) /\
    ∀y:Heap,K.In y->y.Ns mainGlobals mg->FnOk l.prog w K mg y B0 k p E [x] (lift K yS)) :
  PySem.W.WalkO q loose XP YP l.row.toRowW d [] (λf vs=>PySem.call f vs):=by
 intro w L J mg mb G Y p o pm cd doc dV kV ho hd hcd M A hg args I as j n R Z hlo;obtain rfl:dV=.none:=PySem.W.Dflts.none M C;obtain rfl:kV=.none:=PySem.W.Dflts.noKw M;obtain⟨a,vs,P,rfl,rfl,m,i,v⟩:=Att.script_of hn j Z;obtain⟨K,X,fs,Q⟩:=hY w _ Y;have N:=B K fs;obtain⟨tq,c,g1,g2,g3⟩:=ki N X G.T.g;obtain⟨E,hb,hF⟩:=F w mg p _ K X fs N G.T.g A;refine PySem.W.enter_call (QBp (D5 g1 ((W7 X g2).tab Q) g3 X G.T.g G.T.b G.T.builtins G.T.nolimit hg m i (QX v (by decide)) S hF hb (λH hO hS=>Gh _ H a P v (Rb n) hS) λH e O=>λz=>z) λr O hq=>?_);obtain⟨rfl,h2,h3,h4⟩:=hq;exact⟨.inl ⟨.bool true,.bool true,[],rfl,λ_=>rfl,.bool true,Att.post_true l _,λ_=>⟨List.Pairwise.nil,λ_ hm=>(nomatch hm)⟩⟩,h2,h3,h4⟩
end L2.L3
namespace L2.L3.K33
open PySem PySem.Spec PyProof.Rows L2 L2.L3 L2.L3.Q
noncomputable def Ot:Nat->(LW->Prop)->Prop
 |0,p=>p []|n+1,p=>∀u,Ot n λh=>p (u::h)
theorem Ju:∀{n:Nat}{p:LW->Prop},Ot n p->∀us:LW,us.length=n->p us
 |0,_,h,us,e=>by rw[List.length_eq_zero_iff.mp e];exact h|_+1,_,_,[],e=>nomatch e
 |_+1,_,h,u::us,e=>Ju (h u) us (Nat.succ.inj e)
def sw(x q:Str)(st:Stmt)(u:LS):Prop:=∀(kV h v:Value) (k:Option Addr) (y w:Value),Ot u.length λz=>bindArgs (ql x q (dD st) (sC st) (MA st) .none kV h v k y w) ⟨z,[]⟩=pure (u.zip z)
noncomputable def Rj:List (Str×D):=tT.map (λp=>(p.1,.tuple (p.2.map Jx)))++sT.map λp=>(p.1,.int p.2)
structure Cx(K:QE)(h:Heap)(mg:Str->Option Value):Prop where
 X:K.In h
 G:h.Ns mainGlobals mg
 V:∀p∈Rj,bN K p.1 p.2
 N:∀y∈nT,qk K mainGlobals y=some none
 D:∀p∈fT,fY K p.1 (top p.2)
theorem rE{α:Type}{d:α}:∀{l:List α}{i:Nat},QCH i l.length=true->l.getD i d∈l
 |[],_,h=>nomatch h
 |_::_,0,_=>.head _|_::_,_+1,h=>.tail _ (rE (Nat.blt_eq.mpr (wg (Nat.blt_eq.mp h))))
theorem sd{α:Type}{l:List (Str×α)}{p:Str×α}(nd:(l.map qr).Nodup)(h:p∈l):l.lookup p.1=some p.2:=by
 induction l with|nil=>cases h|cons a l y=>obtain⟨x,s⟩:=a;rw[QV,Qi]at nd;rw[wc];rcases QM.mp h with rfl|h;rw[beq_self_eq_true];have v:p.1∈l.map qr:=W4 h;have u:(p.1==x)=false:=beq_eq_false_iff_ne.mpr λz=>nd.1 (by rw[<- z];exact v);rw[u];exact y nd.2 h
def Sc:LS:=fT.map qr
def fx(i:Nat):Str×Nat:=fT.getD i ("",0)
def tbl(r:List PSp):PEv:=gc (Sc.zip r) Rj
theorem eR{r:List PSp}(i:Nat)(h:QCH i Rj.length=true:=by rfl):(tbl r).va (Rj.getD i ("",.none)).1=some (Rj.getD i ("",.none)).2:=sd (oE (by kernel_rfl)) (rE h)
theorem Ll{r:List PSp}(nd:JJ ((Sc.zip r).map qr)=true)(i:Nat)(h:QCH i (Sc.zip r).length=true):(tbl r).sp ((Sc.zip r).getD i ("",jk)).1=((Sc.zip r).getD i ("",jk)).2:=by show(QB6 _ _).getD jk=_;rw[sd (oE nd) (rE h)];rfl
noncomputable def nB(n:Need)(fs:LS):Bool:=n.fn.all (λx=>fs.contains x)&&((n.va.all λx=>(Rj.map qr).contains x)&&n.no.all (λx=>nT.contains x))
section
variable{P:Program}{w:World}{K:QE}{h base:Heap}{mg:Str->Option Value}{r v:List PSp}{R:PSp}{u:LS}{k:Nat}{b:PT}{n:Need}{N z:LS}
theorem hv(C:Cx K h mg)(A:∀g∈u,KG P w K mg base (tbl r) k g)(i:Nat)(fC:dB n b N z (top (fx i).2)=true)
  (body:∀ts Q E,R.run ts Q E->ts.length=z.length/\cB (tbl r) (λ_=>False) b (vD R z.length Q) (bB N R.md ts)) (o:(tbl v).sp (fx i).1=R) (hc:YJ (BB 0 R.md z.length) b=true:=by kernel_rfl)
  (hb:sw (fx i).1 (fx i).1 (top (fx i).2) z:=by(repeat intro _);rfl)
  (x:nB n u=true:=by kernel_rfl) (l:QCH i fT.length=true:=by rfl):KG P w K mg base (tbl v) (k+1) (fx i).1:=by
 obtain⟨s,x⟩:=zA x;obtain⟨q,p⟩:=zA x;exact f6 C.X C.G (C.D _ (rE l)) fC hc (λa b c d e f=>Ju (hb a b c d e f)) (λg m=>A g (fP s g m)) (JW C.X C.G C.V q) (λy j=>C.N y (fP p y j)) body o
theorem hc(A:∀g∈u,KG P w K mg base (tbl r) k g){x:Str}(Z:KG P w K mg base (tbl r) (k+1) x):∀g∈x::u,KG P w K mg base (tbl r) (k+1) g:=by intro g y;rcases QM.mp y with rfl|y;exact Z;exact(A g y).mono (wC _)
theorem hl(C:Cx K h mg)(A:∀g∈u,KG P w K mg base (tbl r) k g){x q:Str}{st:Stmt}{f:Addr}{e:FuncData}(F:Fun K x q st f e)(fC:dB n b N z st=true)
  (body:∀ts Q E,R.run ts Q E->ts.length=z.length/\cB (tbl r) (λ_=>False) b (vD R z.length Q) (bB N R.md ts)) (hc:YJ (BB 0 R.md z.length) b=true:=by kernel_rfl) (a:nB n u=true:=by kernel_rfl):FnOk P w K mg base B0 (k+1) f e z (lift K R):=by
 obtain⟨o,a⟩:=zA a;obtain⟨m,l⟩:=zA a;exact e6 F fC hc (λg j=>A g (fP o g j)) (JW C.X C.G C.V m) (λy i=>QAC C.X C.G (C.N y (fP l y i))) body
theorem cx_of(X:K.In h)(G:h.Ns mainGlobals mg)(e:seen K=due)(o:(fT.all λp=>(jT p.1 (top p.2)).isSome)=true)(m:(tT.all λp=>decide (p.2.length<=1000))=true):Cx K h mg:=by injection e with j e;injection e with i e;injection e with g e;injection e with f _;have j:=WZ.mp j;have i:=WZ.mp i;have g:=WZ.mp g;have f:=WZ.mp f;refine⟨X,G,λp x=>?_,λy l=>D8 (f y l),λp x=>D2 (j p x) (Qy.mp o p x)⟩;rcases QT.mp x with x|x;obtain⟨q,a,rfl⟩:=QS.mp x;have:=of_decide_eq_true (Qy.mp m q a);exact iY (i q a) (by omega);obtain⟨q,a,rfl⟩:=QS.mp x;exact C2 (g q a)
end
section
variable{P:Program}{w:World}{h:Heap}{mg:Str->Option Value}
noncomputable def Tj:List PSp:=[nJ,tB,FL,ZU,HL,DL,XU,Jm,iP,rP,GL,BW,yL,FF,UG,eP,pP,CG,bI,kI,GF,tP,BG,vI,aP,xI,zI,uI,KU,zL,GD,kL,oP,VU,LL,sP,XR,yS]
theorem eA(i:Nat)(h:QCH i (Sc.zip Tj).length=true:=by rfl):(tbl Tj).sp ((Sc.zip Tj).getD i ("",jk)).1=((Sc.zip Tj).getD i ("",jk)).2:=Ll (by kernel_rfl) i h
theorem bw{K:QE}{x:Heap}{k:Nat}(C:Cx K h mg)(q:yG K tA=true)(v:K.In x)(m:x.Ns mainGlobals mg):KG P w K mg x (tbl Tj) (k+1) "going_order":=by obtain⟨f,M,p,⟨⟨J,I,kV,B,F,R,b,Q,i,rfl,lk,a⟩,n⟩⟩:=C.D (fx 7) (rE rfl);obtain⟨⟨O,l,j,A,e,c,g,W,Z,Y⟩,s,L,r⟩:=ES q C.X C.G;cases(WP C.X C.G p).symm.trans g;cases lk.symm.trans W;cases(show b=.ref c from Z);have z:=λy (o:nT.contains y=true)=>QAC C.X C.G (C.N y (qE.mp o));exact Ea v m g lk a n (W7 v Y) (s x v) r (z _ (by kernel_rfl)) (z _ (by kernel_rfl)) (z _ (by kernel_rfl)) (λE hl=>by obtain⟨u,rfl⟩:=QAm.mp hl;rfl) (eA 7)
theorem all{K:QE}{v:Addr}(C:Cx K h mg)(b:yG K tA=true)(y:mg "law"=some (.ref v)) :
  ∃z:FuncData,(∀(s:Shared) (u:Value),BindsTo s z ⟨[u],[]⟩ [("_law_script",u)])/\∀x:Heap,K.In x->x.Ns mainGlobals mg->FnOk P w K mg x B0 38 v z ["_law_script"] (lift K yS):=by
 refine Hh C.X C.G (C.D (fx 37) (rE rfl)) rfl y (eA 37) (λ_ _ _ _ _ _ e hl=>by obtain⟨u,rfl⟩:=QAm.mp hl;rfl) λx a k f z F _=>?_;have A:∀g∈([]:LS),KG P w K mg x (tbl Tj) 0 g:=nofun;have A:=hc A (hv C A 0 YT MY (eA 0));have A:=hc A (hv C A 1 BZ P9 (eA 1));have A:=hc A (hv C A 2 IV (D4 (eA 1)) (eA 2));have A:=hc A (hv C A 3 JT (jh (eA 1)) (eA 3));have A:=hc A (hv C A 4 zW (bh (eA 1)) (eA 4));have A:=hc A (hv C A 5 EV (U4 (eA 1) (eA 4) (eA 0) (eA 2) (eA 3)) (eA 5));have A:=hc A (hv C A 6 ZT (uh (eA 1)) (eA 6));have A:=hc A (bw C b a k);have A:=hc A (hv C A 8 EM lh (eA 8));have A:=hc A (hv C A 9 TV D9 (eA 9));have A:=hc A (hv C A 10 XT G4 (eA 10));have A:=hc A (hv C A 11 VT (Um (eA 9) (eA 10) (eA 8)) (eA 11));have A:=hc A (hv C A 12 PN C9 (eA 12));have A:=hc A (hv C A 13 TM (X4 (eA 12) (eA 8)) (eA 13));have A:=hc A (hv C A 14 RN G9 (eA 14));have A:=hc A (hv C A 15 UT gh (eA 15));have A:=hc A (hv C A 16 rT Ig (eA 16));have A:=hc A (hv C A 17 kW R9 (eA 17));have A:=hc A (hv C A 18 CT (S9 (eA 17)) (eA 18));have A:=hc A (hv C A 19 eT (LY (eA 18) (eA 17) (eR 0) (eR 1)) (eA 19));have A:=hc A (hv C A 20 LI (B4 (eR 0)) (eA 20));have A:=hc A (hv C A 21 NQ (vh (eR 0)) (eA 21));have A:=hc A (hv C A 22 AM NY (eA 22));have A:=hc A (hv C A 23 EN (L4 (eA 22)) (eA 23));have A:=hc A (hv C A 24 AN O9 (eA 24));have A:=hc A (hv C A 25 jL (M4 (eA 19) (eA 20) (eA 21) (eA 23) (eA 24) (eR 0)) (eA 25));have A:=hc A (hv C A 26 AK (U9 (eA 25)) (eA 26));have A:=hc A (hv C A 27 IK (N4 (eA 26)) (eA 27));have A:=hc A (hv C A 28 iT yh (eA 28));have A:=hc A (hv C A 29 SN (L9 (eA 27) (eA 28)) (eA 29));have A:=hc A (hv C A 30 TN (M9 (eA 12) (eA 16) (eA 15) (eA 29)) (eA 30));have A:=hc A (hv C A 31 Gb (N9 (eA 7) (eA 11) (eA 13) (eA 14) (eA 30)) (eA 31));have A:=hc A (hv C A 32 OQ B9 (eA 32));have A:=hc A (hv C A 33 jW zh (eA 33));have A:=hc A (hv C A 34 KT (dh (eA 32) (eA 33)) (eA 34));have A:=hc A (hv C A 35 yW (F9 (eA 34)) (eA 35));have A:=hc A (hv C A 36 E6 (Bm (eA 35)) (eA 36));exact hl C A F Li (xh (eA 36) (eA 1) (eA 31) (eA 5) (eA 6))
noncomputable def hk:PySem.W.Hook:=⟨uY×Option Obj,ob,λ_=>(due,some (QBB #[])),λ_ h=>∃K:QE,K.In h/\seen K=due/\h.get? tA=some (QBB #[]),λ_ _ e=>⟨_,BV _,(W6 e).1,(W6 e).2⟩,λ_ _ _ ⟨K,X,e,t⟩ k=>⟨K,X.keeps k,e,k _ _ t⟩⟩
end
end L2.L3.K33
open PySem PySem.W PyProof.Rows
set_option maxRecDepth 100000 in
set_option maxHeartbeats 0 in
theorem PySem.Challenge.cw_quoteweave_k33_whole_held_is_the_least_holds : PySem.Challenge.rw_quoteweave_k33_whole_held_is_the_least.Holds := by
 refine holds_law L2.L3.Q.ws λy=>?_;refine holds_open (q:=L2.L3.Q.qv) (loose:=[]) (Xt:=L2.L3.Q.xt) (XP:=XL L2.L3.Q.qv []) (Yf:=Hook.obs L2.L3.K33.hk) (Ya:=Hook.val L2.L3.K33.hk) (YP:=Hook.says L2.L3.K33.hk) (N:=2508) L2.L3.Q.lf (Hook.of L2.L3.K33.hk) (Hook.keeps L2.L3.K33.hk) (λs e=>xl_of s (Wo.mp e).1) XL.keeps (by rfl) (by rfl) (by rfl) (λs e=>recFacts_of (Wo.mp e).2) (by rfl) (by first|assumption|decide +kernel) (by decide +kernel) ⟨rfl,rfl,rfl,rfl,rfl,by decide +kernel⟩ ?hw ?hc
 case hw=>w_witness2
 case hc=>exact L2.L3.walk_seen (l:=Qz) (k:=38) (x:="_law_script") (Fs:=λK=>L2.L3.Q.seen K=L2.L3.Q.due) rfl rfl ⟨rfl,by decide,by decide⟩ (λw h Y=>Y) (λK e=>L2.L3.go_of e) λw u v h K X e z G m=>L2.L3.K33.all (L2.L3.K33.cx_of X G e (by kernel_rfl) (by kernel_rfl)) z m
