import PyProof.Rows.All
import Wide.All
import OpenK.AllK
import Wide.FinOn
import Lean
import PyProof.EqAt
import PyProof.EqKinds
import PyProof.TupleCall
import PySem.Challenge.RW_quoteweave_k31_taken_by_rules
noncomputable section
set_option Elab.async false
set_option linter.all false
set_option genInjectivity false
set_option genSizeOf false
set_option maxRecDepth 100000
set_option maxHeartbeats 4000000
open PySem renaming wpAny_bind->QA,wpAny_pure->QK,wpAny_newObj_type->Qy,sizeLine_eq->Q5,wpAny_loadPart'->qD,wpAny_call_entry->qK,mem_of_lookup->qM,wpAny_callSpecial?_slot->qO,wpAny_holding->qU,Spec->qh,wpAny_mono->qi,wpAny_typeNameOfWhole_itemiter->qp,wpAny_typeNameOfWhole_keyiter->qr,wpAny_dictEntries->qz,wpAny_Call_Name_kw->wI,wpAny_setField_rec->wJ,wpAny_field->wN,wpAny_truthy_bool->wT,wpAny_passesOwn->wU,wpAny_dictEpoch->wz,wpAny_notOrdered_dict->w4,codeAny_builtin->w6,wpAny_isOneOf_itemiter->WZ,wpAny_pyIter_list->We,wpAny_attempt->Wz,plainId_quiet->W0,wpAny_execs_nil->W6,wpAny_typeOf->QAK,wpAny_seqItems->QAS,wpAny_setField->QAX,wpAny_fieldsOf->QAY,seqIndex_of->QAj,wpAny_Call_method0_late->QAk,wpAny_newList->QAl,wpAny_isInstance->QAr,wpAny_eqBool_int->QAs,wpAny_isOneOf_keyiter->QA9,wpAny_Name->QBC,call_meets->QBD,wpAny_rule->QBE,wpAny_loadName_local->QBF,wpAny_newFunctionEnv->QBG,wpAny_newTuple->QBN,wpAny_loadName_free->QBQ,wpAny_Tuple_spliced->QBR,evalArgs_none->QBS,wpAny_setItem_pairs->QBT,wpAny_Constant_int->QBe,wpAny_standAt->QBf,wpAny_handled->QBk,wpAny_pyIter_tuple->QBl,wpAny_assign_Name->QBo,slot_list_getitem->QBs,wpAny_pyIter_slot->QBu,wpAny_pyIter_enum->QBx,codeAny_mono->QB2,seqIndex_neg->QB3,wpAny_pyHash_str->QB7,wpAny_execs_cons->QB8,wpAny_of_eq->QCJ,wpAny_throw->QCK,storedH_new->QCL,typeIs_str->QCR,Str->QCT
open PySem.W renaming Frag->QC,kia_one->qJ,nsIn->qk,fnOf->ql,keepIn->wL,mg_of->WV,codeIn->Wj,WData->W4,codeHd_of_K->QAF,mg_none_of->QAN,methodObj->QAb,kitx_list->QAc,codeHdIn->QAp,cellsFrom_some->QAu,instObj->QA2,lookIn->QBK,kitOne->QBL,tabObj->QBP,kitx_tuple->QBh,kitx_dict->QBq,plainGet->QB9
open List renaming mem_cons_of_mem->QD,mem_cons_self->QE,length_map->QF,mem_singleton->QI,length_append->QJ,mem_cons->QL,length_cons->QM,size_toArray->QN,map_append->QR,map_map->QS,mem_map->QT,map_cons->QU,mem_filter->QX,mem_append_right->QZ,getElem?_map->Qc,mem_append->Qe,getElem?_eq_some_iff->Qf,nil_append->Qg,nodup_cons->Qh,length_filter_le->Qj,mem_append_left->Ql,contains_iff_mem->Qp,getElem?_eq_getElem->Qq,range->Qs,all_eq_true->Qv,isEmpty_iff->Qw,append_assoc->Qx,nodup_nil->Q0,mem_of_getElem?->Q4,append_nil->Q8,getElem?_eq_none->qA,filter_sublist->qC,mem_range->qE,length_singleton->qF,toArray->qG,getElem?_append_right->qH,length_range->qL,getElem?_set_ne->qR,getElem?_append_left->qS,nodup_append->qX,length_set->qa,all_cons->qb,getElem?_set_self->qf,length_replicate->qm,ext_getElem?->qy,getElem?_set->q0,length->wA,find?_cons->wE,map_congr_left->wF,length_take->wG,length_nil->wR,getElem?_cons_succ->wc,getElem?_replicate->wf,map_eq_nil_iff->wg,lookup_cons->wl,any_eq_true->wm,getElem_mem->wn,mem_flatMap->wq,any_cons->WA,set->WD,map_snd_zip->WG,not_mem_nil->WH,filter_cons->WI,filterMap_cons->WJ,map_nil->WK,map_inj_right->WW,drop_eq_nil_of_le->Wa,length_pos_of_mem->Wb,flatMap_cons->Wg,map_inj_left->Wh,mem_iff_getElem?->Wp,length_drop->Wq,map_fst_zip->Wr,getElem?_modify->Wt,forIn_cons->W5,getElem?_range->W8,mem_map_of_mem->QAA,foldl_cons->QAD,zip_cons_cons->QAM,any_map->QAO,replicate->QAT,drop_eq_getElem_cons->QAZ,take_sublist->QAd,length_erase_of_mem->QAf,foldl_append->QAg,getElem?_cons_zero->QAh,cons_append->QAo,length_eq_one_iff->QAz,modify_succ_cons->QA0,modify_zero_cons->QA1,of_mem_zip->QA4,map_set->QBA,mem_erase_of_ne->QBJ,forIn_nil->QBM,mergeSort_perm->QBW,set_cons_zero->QBY,set_cons_succ->QBZ,mem_filterMap->QBg,any_eq_false->QBp,mapM_toArray->QBv,pairwise_map->QBy,take_length->QCF,lookup->QCH,Perm->QCO,map_id->QCP,getD->QCU
open Bool renaming false_ne_true->QG,and_eq_true->Qa,false_eq_true->Qo,not_eq_true'->Q6,eq_iff_iff->Q9,or_eq_true->wZ,not_false->wt,true_and->w9,not_true->WO,and_false->Wi,and_eq_true_iff->Wv,and_true->Ww,false_and->QAQ,false_or->QAi,or_false->QBa,or_true->QB0,true_or->QB1
open PySem.Heap renaming get?_push_of_some->QH,get?_push_size->QV,lt_size->QW,SameBut->qW,dictOf_iff->wY,get?_update_self->ww,ExtBut->W7,size_push->QAU,get?_update_other->QAv,get?_push_cases->QBI,size_update->QCE,IsList->QCI
open PySem.Str renaming ofString->QO
open Nat renaming le_trans->QY,le_refl->Qb,ne_of_lt->Qi,lt_of_lt_of_le->Qk,zero_le->Qz,lt_irrefl->qw,le_succ->wC,ne_of_gt->wH,lt_of_succ_lt_succ->wu,le_of_eq->wx,lt_succ_of_lt->WB,lt_of_le_of_lt->WP,min_eq_left->WX,zero_add->Wk,le_add_right->QAt,le_of_lt->QA3,lt_or_ge->QA5,lt_trans->QA6,sub_zero->QB5,succ_le_succ->QCB,blt->QCS
open False renaming elim->Qd
open Option.some renaming injEq->Qm,inj->Qn
open PySem.Challenge renaming pw_quoteweave_k31_taken_by_rules->Qr,rw_quoteweave_k31_taken_by_rules->Q7
open Array renaming length_toList->Qt,perm_iff_toList_perm->qQ,toList_inj->WF,getElem?_toList->Wl,getElem?_eq_some_iff->QAJ,getElem?_eq_none->QAx,toList_append->QBX,forIn_toList->QBb
open PySem.PyData renaming eqv->Qu,strOk->qq,canLayAll0->wX,depthAll->wy,canLay0->QAW,depth->QA7,noConfusion->QBj
open Option renaming map_some->Q1,map_none->wa,isNone_iff_eq_none->QAa,isSome_map->QAe,getD_none->QCA,getD_some->QCC
open PySem.Heap.SameBut renaming update->Q2
open PySem.Obj renaming mapSeq->Q3,data_mapFields->WS,isFreed_of_fields->QA8,data_mapDictKeys->QBH,cls_mapFields->QBt
open Ne renaming symm->qB
open PySem.Paired renaming length->qI
open Int renaming toNat_natCast->qN,eq_ofNat_of_zero_le->qd,emod_lt_of_pos->wK,lt_irrefl->wk,emod_nonneg->w8,le_trans->QAP,ofNat_le->QBB,natCast_nonneg->QBn,le_refl->QCQ,toNat->QCV
open Prod renaming fst->qP,ext->QCG
open PySem.Builtin.SmallTypes renaming nextOf->qT
open PySem.F renaming slot_dict_itemiterator_next->qV,slot_dict_keyiterator_next->qY,slot_tuple_iterator_next->qe,slot_list_getattribute->WM,args_tuple_iterator_next_1->WN,entry_tuple_iterator_next->WR,plainAttrs_list->WU,args_dict_itemiterator_next_1->Wf,entry_dict_itemiterator_next->Wm,args_dict_keyiterator_next_1->Wo,entry_dict_keyiterator_next->Ws,slot_dict_getitem->QAV,plainAttrs_dict->QAn,slot_dict_items_iter->QAw,plain_list_iadd->QBz,slot_dict_iter->QCD
open LawfulBEq renaming eq_of_beq->qZ
open PyProof.Rows renaming subscriptTail_builtinR->qg,callWith_type1->wB,slot_tuple_getitem->wV,listUpdate_at->WT,get?_update_seq->W9,slot_tuple_getitem->QAL,seqEpoch_at->QBU,getItem_tuple->QBi,sortedAll_old->QBm,Subscript_->QBr,listItems_at->QB4,sortedAll_at->QB6
open PySem.SeqAt renaming EqAt->qj
open PySem.Around renaming under_plainId->qt,in1_units->QAq
open Lean.Parser.Tactic renaming tacticSeq->qu
open PySem.Builtin.Slice renaming slicePlaces->wM,sliceAdjust->WE,sliceApplied->QAI
open PySem.Builtin.Dict_items renaming addrOf->wO,ownsTuple->Wx
open Iff renaming rfl->wP
open Classical renaming byContradiction->wQ
open PySem.Builtin.Tuple renaming tupleExact->wW,tupleItemsOf->QAG,tupleHashOf->QAR
open List.Pairwise renaming imp_of_mem->wb,map->WC
open PySem.Builtin.Str renaming occurrences->we
open PySem.W.WData renaming weightAll->wj,weight->Wu
open PySem.Txt renaming slice->wo
open PySem.Calls renaming spliced_cons->wv,callWith_builtin->WY,spliced_nil->Wc,Name_function_global->QAH
open PySem.Builtin.List renaming listTooLong->WL
open PySem.Builtin.Range renaming rangeSize->WQ,small->QBV
open PySem.Builtin.Dict renaming showsAll->Wn,updateFrom->QAm,pairItems->QAy
open List.cons renaming injEq->QAB
open PySem.Builtin.Int renaming intBits->QAC
open Prod.mk renaming inj->QAE
open List.Perm renaming refl->QBO
open PySem.SeqAt.EqAt renaming int_str->QBc,str_int->QBd
open PyProof.Rows.SortSt renaming mk'->QBw
open Array.Perm renaming refl->QCM
open StateT renaming run_pure->QCN
theorem dF{p:Prop}[Decidable p](h:¬p):decide p=false:=_root_.decide_eq_false h
theorem dT{p:Prop}[Decidable p](h:p):decide p=true:=_root_.decide_eq_true h
abbrev AB:=List (PySem.Addr×PySem.Obj)
abbrev pC:=PySem.Value -> PySem.Shared -> Prop
abbrev xB:=PySem.Addr -> Prop
abbrev dC:=List (QCT×QCT)
set_option hygiene false in
local macro_rules | `(tactic| omega)=>do
 let f:=λ(s:String)=>(s.splitOn " ").toArray.map λx=>Lean.mkIdent x.toName
 let a<-(f "L2.szA L2.szB L2.szC L2.unA Nat.le_trans Nat.lt_of_le_of_lt").mapM λx=>`(qu| exact $x (by assumption) (by decide))
 let b<-(f "Nat.lt_of_lt_of_le Nat.lt_of_le_of_lt Nat.le_trans").mapM λx=>`(qu| exact $x (by assumption) (by assumption))
 let c<-(f "Nat.le_of_lt Nat.ne_of_lt Nat.ne_of_gt Nat.lt_succ_of_lt Nat.le_of_lt_succ L2.prA").mapM λx=>`(qu| exact $x (by assumption))
 let d<-(f "Nat.le_refl Nat.le_succ Nat.zero_le Nat.succ_pos").mapM λx=>`(qu| exact $x _)
 `(tactic| first|decide|assumption|exact L2.szL (by decide) $[| $a]* $[| $b]* $[| $c]* $[| $d]*|omega (config:={}) | (have:=PySem.sizeLine_eq;omega (config:={})))
set_option hygiene false in
local macro_rules
 | `(%[ $xs,*|1 ])=>do
  let mut r<-`(PX.nz)
  for x in xs.getElems.reverse do r<-`(PX.ny $x $r)
  return r
 | `(%[ $xs,*|2 ])=>do
  let mut r<-`(PT.nil)
  for x in xs.getElems.reverse do r<-`(PT.seq $x $r)
  return r
def zza:="zA Be Fe S6 De Ge Le Ue R6 Ce He Xe yf Ye mf xf Xp df Jf Ze af Zf Ke bf P6 Up uf GT FT c7 sf rf gf zf f7 ke N6 ve Vf t7 NT OT Me So A6 Se Re Te To Pe Oe T6 Kv Bv Vv Uv Xv Kp Zp Yv Zv Uu Ku Vu dv uv bv vv gp Hu Dv Cv RW Ln Mn Eu Au Tu Su Ru Pu Ou Nu Mu Lu vp zp yp jp Ae Du Cu Fu Ao Ie Iu Bt Kf Dp lj ae se de ge fe re oe gn dn Ad Td Gd Hd Yo Ko iu Uo Pd Od U6 UX RJ Nd xu Yu jn Im Et Ff TZ Lk At fu gu yu ju yl Tk ul Tb Je Ud EB reduceIte"
def zzb:="HH YE KF RQ T.isD lockA IF lock kill KM Tg.ix gC jW EN kR isMut yV frzAt mV Aa zD.eq_1 zD.eq_2 oM.eq_1 oM.eq_2 oM.eq_3 oM.eq_4 T4 R4 P4 JI.eq_1 List.modify_succ_cons List.modify_zero_cons Option.map_some List.length_cons List.length_nil List.getElem?_cons_zero List.getElem?_cons_succ List.cons_append List.nil_append List.set_cons_zero List.set_cons_succ Nat.reduceAdd Nat.reduceSub Nat.zero_add Bool.and_true Bool.true_and Bool.not_true Bool.not_false Bool.or_true Bool.true_or Bool.or_false Bool.false_or Bool.and_false Bool.false_and if_true if_false Bool.false_eq_true true_and and_true false_implies ne_eq reduceCtorEq not_false_eq_true not_true_eq_false implies_true forall_const Int.reduceLT Int.reduceLE Int.reducePow Int.reduceNeg Nat.reducePow and_self eq_self Option.some.injEq Sl.own.injEq Sl.ky.injEq and_assoc decide_true decide_false"
set_option hygiene false in
local macro_rules | `(tactic| simp_arith [$ls,*])=>do
 let a<-(zza.splitOn " ").toArray.mapM λx=>`(Lean.Parser.Tactic.simpLemma| ↓ $(Lean.mkIdent x.toName):ident)
 let b<-(zzb.splitOn " ").toArray.mapM λx=>`(Lean.Parser.Tactic.simpLemma| $(Lean.mkIdent x.toName):ident)
 `(tactic| simp only [$ls,*,$a,*,$b,*])
set_option hygiene false in
local macro_rules | `(tactic| simp? [$ls,*])=>do
 let a<-(zza.splitOn " ").toArray.mapM λx=>`(Lean.Parser.Tactic.simpLemma| ↓ $(Lean.mkIdent x.toName):ident)
 let b<-(zzb.splitOn " ").toArray.mapM λx=>`(Lean.Parser.Tactic.simpLemma| $(Lean.mkIdent x.toName):ident)
 `(tactic| simp -implicitDefEqProofs only [$ls,*,$a,*,$b,*])
abbrev LS:=List QCT
abbrev LN:=List Nat
abbrev LI:=List Int
abbrev LW:=List PySem.Value
namespace L2.L3.Q
open PySem PySem.W PySem.Spec PyProof.Rows
def Ip(x:List Addr)(h:Heap):QC:=x.filterMap λa=>(h.get? a).map λo=>(a,o)
noncomputable abbrev vq:=(Str×Str×Arguments×FuncBody×Scope)×(Addr×List (Str×Addr)×Value×Addr)×Bool
def pk(h:FuncData)(b:Bool):vq:=((h.name,h.qualname,h.params,h.body,h.scope),(h.globals,h.closure,h.defaults,h.builtins),b)
def oV(K:QC)(x:Str):Option vq:=match qk K mainGlobals x with
 |some (some (.ref f))=>(match K.lookup f with
  |some ⟨_,_,.func fd,_⟩=>some (pk fd (Wj K fd.code x&&wL K (.ref f)))|_=>none)
 |_=>none
def US(x:Str)(st:Stmt):Option vq:=match st with
 | .FunctionDef _ a b _ _ _ sc _ _ _=>some (pk (ql x x a b sc .none .none .none .none none .none .none) true)|_=>none
def Hl:Value->Option Str
 | .str z _=>some z|_=>none
noncomputable def Af(K:QC)(x:Str):Option (List (Option Str)):=match qk K mainGlobals x with
 |some (some (.ref f))=>(match K.lookup f with
  |some ⟨.type t,_,.seq its _,_⟩=>if t="tuple" then some (its.toList.map Hl) else none|_=>none)
 |_=>none
def Br:Value->Option Int
 | .int i _=>some i|_=>none
def Sf(K:QC)(x:Str):Option Int:=match qk K mainGlobals x with
 |some (some u)=>Br u|_=>none
def UU(K:QC)(x:Str):Bool:=match qk K mainGlobals x with
 |some none=>true|_=>false
noncomputable def xG(K:QC)(T:Addr):Bool:=(match qk K mainGlobals "going_order" with
 |some (some (.ref f))=>(match K.lookup f with
  |some ⟨_,_,.func fd,_⟩=>(match fd.code with
   | .ref c=>QAp K c T|_=>false)
  |_=>false)
 |_=>false)&&((match qk K mainGlobals "__builtins__" with
 |some (some (.ref b))=>(match K.lookup b with
  |some ⟨.type t,some d,.plain,_⟩=>t == "module" && (d==builtinsNs&&(b != builtinsNs&&(b != mainGlobals&&b != T)))|_=>false)
 |_=>false)&&((K.lookup T).isNone&&mainGlobals != T))
def top(i:Nat):Stmt:=Qr.main.body.getD i (.Pass ⟨0,0,0,0⟩)
noncomputable def fT:List (Str×Nat):=([("_law_folded",35),("_law_draw",31),("_law_names",32),("_law_people",33),("_law_event",34),("_law_world",36),("going_order",16),("has_against",21),("rank_of",19),("floor_of",20),("is_taken",18),("seen_among",23),("wrong_among",22),("live_among",24),("edges_of",27),("seers_of",26),("add_way",6),("add_name",5),("rooms_of",4),("points_reached",7),("lay_chain",8),("name_behind",10),("chain_from",9),("full_names",11),("apart_chains",3),("told_through",14),("ground_alone",13),("needs_of",29),("holders_in",28),("held_among",25),("gone",17),("_law_opposed",37),("_law_wrong",38),("_law_due",39),("law",40)]:List (String×Nat)).map λp=>(QO p.1,p.2)
def tT:List (Str×LS):=[("BEGIN",["","begin"])]
def sT:List (Str×Int):=[("WIDE",2)]
def nT:LS:=(["any","dict","enumerate","int","len","range","sorted","tuple"]:List String).map QO
def qv:Program:={ Qr with main:={ Qr.main with body:=[1,2,3,4,5,6,7,8,9,10,11,13,14,16,17,18,19,20,21,22,23,24,25,26,27,28,29,31,32,33,34,35,36,37,38,39,40].map top } }
def tA:Addr:=84
noncomputable abbrev NX:=List (Option vq)×List (Option (List (Option Str)))×List (Option Int)×List Bool×Bool
def seen(K:Frag):NX:=(fT.map λp=>oV K p.1,tT.map λp=>Af K p.1,sT.map λp=>Sf K p.1,nT.map (UU K),xG K tA)
def due:NX:=(fT.map λp=>US p.1 (top p.2),tT.map λp=>some (p.2.map some),sT.map λp=>some p.2,nT.map λ_=>true,true)
def fr(s:Shared):Frag:=Ip ((Qs 240).filter λa=>a != tA) s.heap
def xt(s:Shared):Bool:=xlAt qv [] s&&recOk (RowW.records Q7.row.toRowW) s
def ob(s:Shared):NX×Option Obj:=(seen (fr s),s.heap.get? tA)
theorem lf:LeftO Qr qv [] xt ob (λ_=>(due,some (tabObj #[]))) 2328:=by intro w;kernel_rfl
theorem ws:Q7.wellSaid=true:=by kernel_rfl
end L2.L3.Q
namespace L2
open PySem PySem.Spec PyProof.Rows
section
variable{n m:Nat}
theorem szL(h:n<=16777216):n<=sizeLine:=by rw[Q5];exact h
theorem Lv(h:n<16777216):n<sizeLine:=by rw[Q5];exact h
theorem Mv(h:n<=m)(k:m<=16777216):n<=sizeLine:=szL (QY h k)
theorem xw(h:n<=m)(k:m<16777216):n<sizeLine:=Lv (WP h k)
theorem kw(h:n<=m)(k:m<=16777216):0+n<=sizeLine:=by rw[Wk];exact Mv h k
theorem zw{k c:Nat}(h:n+k<c)(l:m<=k):n+m<c:=WP (Nat.add_le_add_left l n) h
end
open PySem.SeqAt
inductive NK where
 |s (x:Str)|t (xs:List NK)
noncomputable instance:DecidableEq NK:=λ_ _=>Classical.propDecidable _
mutual
def NZ(h:Heap):NK->Value->Prop
 | .s x,v=>∃t,v=.str x t|.t ks,v=>∃a y,v=.ref a/\h.IsTuple a y/\NKvs h ks y.toList
def NKvs(h:Heap):List NK->LW->Prop
 |[],vs=>vs=[]|k::ks,vs=>∃v r,vs=v::r/\NZ h k v/\NKvs h ks r
end
mutual
def D4:NK->Nat
 | .s _=>0|.t h=>nkds h+1
def nkds:List NK->Nat
 |[]=>0|k::ks=>max (D4 k) (nkds ks)
end
mutual
def cr(w:World):NK->Int
 | .s x=>hashStr w x|.t h=>reduceHash (QAR (nkhs w h))
def nkhs(w:World):List NK->LI
 |[]=>[]|k::ks=>cr w k::nkhs w ks
end
mutual
def zk:NK->Nat
 | .s _=>1|.t h=>nkts h+1
def nkts:List NK->Nat
 |[]=>0|k::ks=>zk k+nkts ks
end
theorem vW{h:Heap}{a:Addr}{xs x:Array Value}(p:h.IsTuple a xs)(q:h.IsTuple a x):xs=x:=by obtain⟨o,e,_,n,d⟩:=p;obtain⟨u,y,_,v,z⟩:=q;cases e.symm.trans y;cases d.symm.trans z;rfl
mutual
theorem G4{h:Heap}:∀{k l:NK}{v:Value},NZ h k v->NZ h l v->k=l
 | .s x,.s y,v,⟨t,e⟩,⟨u,e'⟩=>by subst e;cases e';rfl|.s x,.t ls,v,⟨t,e⟩,⟨_,_,e',_⟩=>by subst e;cases e'|.t ks,.s y,v,⟨_,_,e,_⟩,⟨_,e'⟩=>by subst e;cases e'|.t ks,.t ls,v,⟨a,its,e,p,q⟩,⟨b,jts,e',p',q'⟩=>by subst e;cases e';cases vW p p';rw[nks_inj q q']
theorem nks_inj{h:Heap}:∀{ks ls:List NK}{vs:LW},NKvs h ks vs->NKvs h ls vs->ks=ls
 |[],[],_,_,_=>rfl|[],_::_,_,e,⟨_,_,e',_⟩=>by cases(show _=[] from e).symm.trans e'|_::_,[],_,⟨_,_,e',_⟩,e=>by cases(show _=[] from e).symm.trans e'|k::ks,l::ls,_,⟨v,r,e,p,q⟩,⟨v',r',e',p',q'⟩=>by cases e.symm.trans e';rw[G4 p p',nks_inj q q']
end
mutual
theorem SR{h h':Heap}(k:∀a its,h.IsTuple a its->h'.IsTuple a its):∀{x:NK}{v:Value},NZ h x v->NZ h' x v
 | .s x,v,e=>e|.t ks,v,⟨a,its,e,p,q⟩=>⟨a,its,e,k a its p,nks_keeps k q⟩
theorem nks_keeps{h h':Heap}(k:∀a its,h.IsTuple a its->h'.IsTuple a its):∀{xs:List NK}{vs:LW},NKvs h xs vs->NKvs h' xs vs
 |[],_,e=>e|x::xs,_,⟨v,r,e,p,q⟩=>⟨v,r,e,SR k p,nks_keeps k q⟩
end
section
variable{prog:Program}{w:World}{E:pC}
mutual
theorem NW:∀(k:NK) (v:Value) (A:Around) (s:Shared) (Q:Int->Shared->Prop),NZ s.heap k v->A.units+D4 k<cLine->Q (cr w k) { s with toks:=s.toks+zk k }->wpAny (model prog w) A (pyHash v) Q E s
 | .s x,v,A,s,Q,⟨t,e⟩,_,q=>by subst e;exact QB7 q|.t ks,v,A,s,Q,⟨a,its,e,⟨o,ho,hc,n,hd⟩,hi⟩,h,q=>by subst e;have h:A.units+(nkds ks+1)<cLine:=h;refine PySem.W.pyHash_slot (T:="tuple") ⟨o,ho,hc⟩ F.slot_tuple_hash F.entry_tuple_hash (F.args_tuple_hash_1 _) (beq_builtin_none _) (.inr (by omega)) ?_;show wpAny _ _ (QAG (.ref a) >>= _) _ _ s;refine QA (wpAny_tupleItemsOf ho hd ?_);refine QA ?_;rw[<- QBb];refine nk_loop ks its.toList A.in1 s #[] _ hi (by rw[QAq];omega) λb hb=>?_;show wpAny _ _ (retInt (QAR b.toList)) _ _ _;rw[hb];exact QA (wpAny_mkInt (QK ⟨_,_,rfl,by rw[Nat.add_assoc];exact q⟩))
theorem nk_loop:∀(ks:List NK) (vs:LW) (A:Around) (s:Shared) (b:Array Int) (Q:Array Int->Shared->Prop),NKvs s.heap ks vs->A.units+nkds ks<cLine ->
  (∀y,y.toList=b.toList++nkhs w ks->Q y { s with toks:=s.toks+nkts ks }) ->
  wpAny (model prog w) A (forIn vs b λx r=>do let h <- pyHash x;pure PUnit.unit;pure (ForInStep.yield (r.push h))) Q E s
 |[],vs,A,s,b,Q,e,_,q=>by subst e;exact QK (q b (Q8 _).symm)|k::ks,vs,A,s,b,Q,⟨v,r,e,p,p'⟩,z,q=>by subst e;have z:A.units+max (D4 k) (nkds ks)<cLine:=z;rw[W5];refine QA (QA (NW k v A s _ p (by omega) ?_));refine QA (QK (QK ?_));refine nk_loop ks r A _ _ Q p' (by omega) λy hb=>?_;have e:s.toks+zk k+nkts ks=s.toks+(zk k+nkts ks):=Nat.add_assoc _ _ _;have:=q y (by rw[hb,Array.toList_push,Qx];rfl);show Q y { s with toks:=s.toks+zk k+nkts ks };rw[e];exact this
end
end
theorem Uj{ks ls:List NK}{n m:Nat}(x:n=ks.length)(y:m=ls.length):((Qs (min n m)).all (λj=>decide (ks[j]?=ls[j]?))&&n==m)=decide (NK.t ks=NK.t ls):=by subst x y;rw[Q9,decide_eq_true_iff,Qa,Qv,beq_iff_eq];constructor;rintro⟨z,v⟩;congr 1;refine qy λj=>?_;by_cases u:j<ks.length;exact of_decide_eq_true (z j (qE.mpr (by omega)));rw[qA (by omega),qA (by omega)];intro h;injection h with h;subst h;exact⟨λ_ _=>dT rfl,rfl⟩
theorem IP{h:Heap}:∀{ks:List NK}{vs:LW},NKvs h ks vs->vs.length=ks.length
 |[],_,e=>by cases(show _=[] from e);rfl|_::_,_,⟨v,r,e,_,q⟩=>by rw[e,QM,QM,IP q]
mutual
theorem Nc:∀(k l:NK) (v u:Value) (A:Around) (s:Shared),NZ s.heap k v->NZ s.heap l u->A.units+D4 k<cLine->EqAt A s v u (decide (k=l))
 | .s x,.s y,v,u,A,s,⟨t,e⟩,⟨t',e'⟩,_=>by
  subst e e';have:=EqAt.str_str (A:=A) (s:=s) x t y t';have z:(x==y)=decide (NK.s x=NK.s y):=by rw[Q9,decide_eq_true_iff,beq_iff_eq];exact⟨λh=>h▸rfl,λh=>by injection h⟩
  rw[<- z];exact this
 | .s x,.t ls,v,u,A,s,⟨t,e⟩,⟨b,jts,e',p,_⟩,f=>by subst e e';rw[dF λh=>by cases h];exact EqAt.str_tuple x t p (by omega)|.t ks,.s y,v,u,A,s,⟨a,its,e,p,_⟩,⟨t,e'⟩,f=>by subst e e';rw[dF λh=>by cases h];exact EqAt.tuple_str y t p (by omega)|.t ks,.t ls,v,u,A,s,⟨a,its,e,p,q⟩,⟨b,jts,e',p',q'⟩,f=>by subst e e';by_cases w:a=b;subst w;cases vW p p';rw[nks_inj q q',dT rfl];exact EqAt.same _;have f:A.units+(nkds ks+1)<cLine:=f;refine EqAt.of_refs w ?_;have i:=IP q;have g:=IP q';rw[Qt]at i g;rw[<- Uj i g];refine RcAt.tuples p p' (by omega) λj n m=>?_;have:=nks_eq ks ls its.toList jts.toList A.in1 s q q' (by rw[QAq];omega) j (by rw[Qt];exact n) (by rw[Qt];exact m);simpa using this
theorem nks_eq:∀(ks ls:List NK) (vs us:LW) (A:Around) (s:Shared),NKvs s.heap ks vs->NKvs s.heap ls us->A.units+nkds ks<cLine->∀j (y:j<vs.length) (x:j<us.length),EqAt A s vs[j] us[j] (decide (ks[j]?=ls[j]?))
 |[],_,vs,us,A,s,e,_,_,j,y,_=>by cases(show vs=[] from e);cases y|_::_,[],vs,us,A,s,_,e,_,j,_,x=>by cases(show us=[] from e);cases x|k::ks,l::ls,_,_,A,s,⟨v,r,e,p,q⟩,⟨v',r',e',p',q'⟩,u,j,y,x=>by
  subst e e';have u:A.units+max (D4 k) (nkds ks)<cLine:=u;cases j with|zero=>have:=Nc k l v v' A s p p' (by omega);have z:decide (k=l)=decide ((k::ks)[0]?=(l::ls)[0]?):=decide_eq_decide.mpr ⟨λh=>by rw[h];rfl,λh=>Qn h⟩;rw[<- z];exact this|succ j=>exact nks_eq ks ls r r' A s q q' (by omega) j (wu y) (wu x)
end
section
variable{prog:Program}{w:World}{A:Around}{E:pC}{s:Shared}
mutual
theorem PR:∀(k:NK) (v:Value) (n:Nat) (Q:Bool->Shared->Prop),NZ s.heap k v->D4 k<=n->Q true s->wpAny (model prog w) A (eqIsQuiet n v) Q E s
 | .s x,v,n,Q,⟨t,e⟩,_,q=>by subst e;rw[eqIsQuiet_byValue _ rfl];exact QK q|.t ks,v,n,Q,⟨a,its,e,⟨o,ho,hc,m,hd⟩,hi⟩,g,q=>by
  subst e;have g:nkds ks+1<=n:=g;obtain⟨n,rfl⟩:∃m,n=m+1:=⟨n - 1,by omega⟩
  have i:s.TypeIs (.ref a) "tuple":=⟨o,ho,hc⟩
  unfold eqIsQuiet;refine QA (wpAny_specialOf i F.slot_tuple_eq.lookup ?_);show wpAny _ _ (isInstance (.ref a) (.type "tuple") >>= _) _ _ s;refine QA (QAr i isSubtype_tuple_tuple ?_);simp only[WO,Qo,if_false];refine QA (QAS ho hd ?_);refine QA ?_;show wpAny _ _ (forIn its _ _) _ _ s;rw[<- QBb];refine wpAny_forIn_list _ (λh r z=>r.1=none/\z=s/\∀v∈h,∀Q:Bool->Shared->Prop,Q true s->wpAny (model prog w) A (eqIsQuiet n v) Q E s) _ ?_ ?_ _ _ ⟨rfl,rfl,nks_quiet ks its.toList n hi (by omega)⟩;rintro v h r z ⟨f,rfl,y⟩;refine QA (y v QE _ ?_);simp only[WO,Qo,if_false];exact QK ⟨rfl,rfl,λu b=>y u (QD _ b)⟩;rintro⟨j,l⟩ z ⟨f,rfl,_⟩;cases(show j=none from f);exact QK q
theorem nks_quiet:∀(ks:List NK) (vs:LW) (n:Nat),NKvs s.heap ks vs->nkds ks<=n->∀v∈vs,∀Q:Bool->Shared->Prop,Q true s->wpAny (model prog w) A (eqIsQuiet n v) Q E s
 |[],vs,n,e,_,v,hv,Q,q=>by cases(show vs=[] from e);cases hv|k::ks,vs,n,⟨x,r,e,p,p'⟩,h,v,hv,Q,q=>by subst e;have h:max (D4 k) (nkds ks)<=n:=h;rcases QL.mp hv with rfl|hv;exact PR k v n Q p (by omega) q;exact nks_quiet ks r n p' (by omega) v hv Q q
end
end
section
variable{H:Hp}{a b:Addr}{o:HO}
noncomputable def SE(prog:Program)(w:World):HeapKind prog w NK where
 is:=λh k a=>NZ h k (.ref a)/\D4 k<=6
 hash:=cr w
 draws:=zk
 room:=λA=>A.units+8<cLine
 inj:=λy u=>G4 y.1 u.1
 keeps:=λ{h m k a d o p q} x j l i=>⟨SR (λb f ⟨ob,e,c,n,v⟩=>⟨ob,(i.2 b λz=>by subst z;cases e.symm.trans j;cases l.symm.trans v).trans e,c,n,v⟩) x.1,x.2⟩
 pyHash:=λg hk h=>NW _ _ _ _ _ hk.1 (by have:=hk.2;omega) h
 eqBool:=λg y u h=>Nc _ _ _ _ _ _ y.1 u.1 (by have:=y.2;omega) _ _ _ _ h
 quiet:=λhk h=>PR _ _ _ _ hk.1 (by have:=hk.2;omega) h
noncomputable abbrev Key:=Sum Int Str
def JO:Key->Value->Bool
 | .inl k,v=>Value.isInt k v|.inr x,v=>Value.isStrOf x v
def Ur(w:World):Key->Int
 | .inl k=>hashInt k|.inr x=>hashStr w x
theorem OA:∀{k:Key}{v:Value},JO k v=true->(∃i t,k=Sum.inl i/\v=Value.int i t)∨(∃x t,k=Sum.inr x/\v=Value.str x t)
 | .inl i,v,h=>by obtain⟨t,e⟩:=Value.isInt_shape (k:=i) (v:=v) h;exact .inl ⟨i,t,rfl,e⟩|.inr x,v,h=>by obtain⟨t,e⟩:=Value.isStrOf_shape (x:=x) (v:=v) h;exact .inr ⟨x,t,rfl,e⟩
theorem zZ(i:Int)(t:Tok):JO (.inl i) (.int i t)=true:=by simp[JO,Value.isInt]
theorem iO(x:Str)(t:Tok):JO (.inr x) (.str x t)=true:=by simp[JO,Value.isStrOf]
theorem si(a b:Int):decide ((Sum.inl a:Key)=Sum.inl b)=(a==b):=by by_cases e:a=b;subst e;simp;have h:¬ (Sum.inl a:Key)=Sum.inl b:=λq=>e (Sum.inl.inj q);rw[dF h];exact(beq_eq_false_iff_ne.mpr e).symm
theorem xi(a b:Str):decide ((Sum.inr a:Key)=Sum.inr b)=decide (a=b):=by by_cases e:a=b;subst e;simp;have h:¬ (Sum.inr a:Key)=Sum.inr b:=λq=>e (Sum.inr.inj q);rw[dF h,dF e]
theorem fi(a:Int)(b:Str):decide ((Sum.inl a:Key)=Sum.inr b)=false:=dF (λq=>nomatch q)
theorem ui(a:Str)(b:Int):decide ((Sum.inr a:Key)=Sum.inl b)=false:=dF (λq=>nomatch q)
noncomputable def GC(prog:Program)(w:World):PySem.KeyKind prog w Key where
 is:=JO
 hash:=Ur w
 inj:=λv a b f hb=>by
  rcases OA f with⟨i,t,rfl,rfl⟩| ⟨x,t,rfl,rfl⟩
  rcases OA hb with⟨j,u,rfl,e⟩| ⟨y,u,rfl,e⟩
  ·injection e with e1 _;rw[e1]
  exact nomatch e;rcases OA hb with⟨j,u,rfl,e⟩| ⟨y,u,rfl,e⟩
  ·exact nomatch e
  injection e with e1 _;rw[e1]
 byValue:=λk v h=>by rcases OA h with⟨i,t,rfl,rfl⟩| ⟨x,t,rfl,rfl⟩<;>rfl
 pyHash:=λhv h=>by
  rcases OA hv with⟨i,t,rfl,rfl⟩| ⟨x,t,rfl,rfl⟩
  exact wpAny_pyHash_int h;exact QB7 h
 eqBool:=λz hv h=>by
  rcases OA z with⟨i,t,rfl,rfl⟩| ⟨x,t,rfl,rfl⟩
  rcases OA hv with⟨j,u,rfl,rfl⟩| ⟨y,u,rfl,rfl⟩
  ·rw[si]at h;exact QAs h
  rw[fi]at h;exact QBc i t y u _ _ _ _ h;rcases OA hv with⟨j,u,rfl,rfl⟩| ⟨y,u,rfl,rfl⟩
  ·rw[ui]at h;exact QBd x t j u _ _ _ _ h
  rw[xi]at h;exact wpAny_eqBool_str h
 «strs»:=λk x t v h=>by
  rcases OA h with⟨i,u,rfl,e⟩| ⟨y,u,rfl,e⟩
  exact nomatch e;injection e with e1 _;subst e1;cases v<;>rfl
theorem jS(prog:Program)(w:World)(i:Int)(t:Tok):(GC prog w).is (.inl i) (.int i t)=true:=zZ i t
theorem IR(prog:Program)(w:World)(x:Str)(t:Tok):(GC prog w).is (.inr x) (.str x t)=true:=iO x t
set_option genInjectivity true in
inductive V where
 |non|bl (b:Bool)|int (i:Int)|str (x:Str)|byt (b:Array UInt8)|flt (b:UInt64)|ref (a:Addr)|ty (n:String)
 deriving DecidableEq
abbrev LV:=List V
noncomputable def rA:V->Value->Prop
 | .non,u=>u=Value.none|.bl b,u=>u=Value.bool b|.int i,u=>∃t,u=Value.int i t|.str x,u=>∃t,u=Value.str x t|.byt b,u=>∃t,u=Value.bytes b t|.flt b,u=>∃t,u=Value.float b t|.ref a,u=>u=Value.ref a|.ty n,u=>u=Value.type n
noncomputable abbrev nA:LV->LW->Prop:=Paired rA
theorem nA.length{xs:LV}{us:LW}(r:nA xs us):xs.length=us.length:=qI r
theorem nA.get:∀{xs:LV}{us:LW}{i:Nat}{x:V},nA xs us->xs[i]?=some x->∃u,us[i]?=some u/\rA x u
 |_,_,_,_,.nil,e=>by simp at e|_,_,0,_,.cons r _,e=>by simp at e;subst e;exact⟨_,rfl,r⟩|_,_,i+1,x,.cons _ t,e=>by obtain⟨u,y,h⟩:=nA.get (i:=i) (x:=x) t (by simpa using e);exact⟨u,by simpa using y,h⟩
theorem nA.set{x:V}{u:Value}(r:rA x u):∀{xs:LV}{us:LW}(i:Nat),nA xs us->nA (xs.set i x) (us.set i u)
 |_,_,_,.nil=>.nil|_,_,0,.cons _ t=>.cons r t|_,_,i+1,.cons q t=>.cons q (nA.set r i t)
theorem nA.append:∀{xs h:LV}{us ws:LW},nA xs us->nA h ws->nA (xs++h) (us++ws)
 |_,_,_,_,.nil,s=>s|_,_,_,_,.cons r t,s=>.cons r (nA.append t s)
theorem nA.take:∀{xs:LV}{us:LW}(n:Nat),nA xs us->nA (xs.take n) (us.take n)
 |_,_,0,_=>.nil|_,_,_+1,.nil=>.nil|_,_,n+1,.cons r t=>.cons r (nA.take n t)
theorem nA.drop:∀{xs:LV}{us:LW}(n:Nat),nA xs us->nA (xs.drop n) (us.drop n)
 |_,_,0,r=>r|_,_,_+1,.nil=>.nil|_,_,n+1,.cons _ t=>nA.drop n t
def XT:Option V->Option Value->Prop
 |some v,some u=>rA v u|none,none=>True|_,_=>False
def KV{h:Type}:List (h×V)->List (h×Value)->Prop:=Paired λ(p:h×V) (q:h×Value)=>p.1=q.1/\rA p.2 q.2
def kV:Key->V
 | .inl i=>.int i|.inr x=>.str x
inductive HO where
 |lst (xs:LV)
 |tup (xs:LV)
 |dK (kvs:List (Key×V))|dT (ep:Nat) (kvs:List (NK×Addr×V))
 |set (S:Int->Bool) (n:Nat)
 |ins (C dx:Addr) (fs:List (Str×V))
 |own (x:Addr)
 |xd (fs:List (Str×V))
 |met (f x:Addr)
 |rng (lo hi:Int)
 |frz (o:Obj) (u:HO)
 |tbl (q:Str)
 |ext (φ:Heap->Prop)
noncomputable abbrev Hp:=Addr->Option HO
def BA(H:Hp)(a:Addr)(o:HO):Hp:=λb=>if b=a then some o else H b
theorem JA:BA H a o a=some o:=by unfold BA;rw[if_pos rfl]
theorem vA(h:b≠a):BA H a o b=H b:=by unfold BA;rw[if_neg h]
theorem zW{u:HO}:BA (BA H a o) a u=BA H a u:=by funext b;unfold BA;split<;>rfl
theorem aA(h:H a=some o)(h':H b=none):a≠b:=by intro e;subst e;rw[h]at h';cases h'
end
section
variable(P:Program)(w:World)
noncomputable def FA(H:Hp)(h:Heap)(a:Addr):HO->Prop
 | .lst k=>k.length<=sizeLine/\∃(z:LW) (n:Nat),nA k z/\h.get? a=some { cls:=.type "list",data:=.seq z.toArray n }|.tup k=>k.length<=sizeLine/\∃z:LW,nA k z/\IsTup h a z.toArray|.dK y=>y.length<=sizeLine/\(a==sysModules)=false/\∃m,KV y m/\h.DictOf (GC P w) a m|.dT W y=>y.length<=sizeLine/\(a==sysModules)=false/\∃k:List (NK×Addr×Value),
   Paired (λ(p:NK×Addr×V) (q:NK×Addr×Value)=>p.1=q.1/\p.2.1=q.2.1/\rA p.2.2 q.2.2) y k /\
   ∃o X,h.get? a=some o/\o.ExactDict/\o.data=.dict X W/\X.toList=k.map (entryOfKey (SE P w))/\(k.map (·.1)).Nodup
 | .set S n=>h.SetOf (intKind P w) a S n|.ins C e fs=>H e=some (.own a)/\fs.length<=1000/\e≠a/\h.get? a=some (QA2 C e) /\
   ∃b,h.Ns1 e b/\(∀f,XT (fs.lookup f) (b f))/\PySem.Within b (fs.map (·.1))
 | .own _=>∃o,h.get? a=some o|.xd fs=>∃b,h.Ns1 a b/\∀f,XT (fs.lookup f) (b f)|.rng Y Z=>∃t u v,h.get? a=some { cls:=.type "range",data:=.fields #[.int Y t,.int Z u,.int 1 v] }|.frz o u=>h.get? a=some o/\FA H h a u|.tbl q=>∃i,h.get? a=some { cls:=.none,data:=.fields i }/\TriplesOk i.toList/\∀j l,codeAmong j i.toList=some l->∃c,l=.ref c/\H c=some (.own a)/\h.CodeRec l q|.met f x=>h.get? a=some (QAb (.ref f) (.ref x))|.ext g=>g h/\(∃o,h.get? a=some o)/\∀s r:Heap,g s->(∀o,s.get? a=some o->r.get? a=some o)->g r
def fL(H:Hp)(h:Heap):Prop:=∀a o,H a=some o->FA P w H h a o
end
section
variable{P:Program}{w:World}{H i:Hp}{h h':Heap}{a:Addr}{o:HO}
theorem FA.lt(x:FA P w H h a o):a<h.objs.size:=by
 cases o with|lst v=>obtain⟨_,_,_,_,e⟩:=x;exact QW e|tup v=>obtain⟨_,_,_,p⟩:=x;exact p.lt|dK z=>obtain⟨_,_,_,_,o,_,_,e,_⟩:=x;exact QW e|dT j z=>obtain⟨_,_,_,_,o,_,e,_⟩:=x;exact QW e|set S n=>obtain⟨o,_,_,_,e,_⟩:=x;exact QW e|ins C l fs=>obtain⟨_,_,_,e,_⟩:=x;exact QW e|own y=>obtain⟨_,e⟩:=x;exact QW e|xd fs=>obtain⟨_,⟨_,_,_,e,_⟩,_⟩:=x;exact QW e|rng b g=>obtain⟨_,_,_,e⟩:=x;exact QW e|frz ob u=>obtain⟨e,_⟩:=x;exact QW e|tbl q=>obtain⟨_,e,_⟩:=x;exact QW e|met f y=>exact QW (show h.get? a=some _ from x)|ext k=>obtain⟨_,⟨_,e⟩,_⟩:=x;exact QW e
theorem Paired.mapP{α z:Type}{F G:α->z->Prop}:∀{y:List α}{x:List z},Paired F y x->(∀a b,F a b->G a b)->Paired G y x
 |_,_,.nil,_=>.nil|_,_,.cons r t,f=>.cons (f _ _ r) (Paired.mapP t f)
theorem FA.stay(x:FA P w H h a o)(k:∀b u,(b=a∨H b=some (.own a))->h.get? b=some u->h'.get? b=some u)
  (K:∀b,H b=some (.own a)->i b=some (.own a)) (O:∀b xs,H b=some (.tup xs)->i b=some (.tup xs)):FA P w i h' a o:=by
 induction o with|lst xs=>obtain⟨z,m,n,r,e⟩:=x;exact⟨z,m,n,r,k _ _ (.inl rfl) e⟩|tup xs=>obtain⟨z,m,r,ob,e,c⟩:=x;exact⟨z,m,r,ob,k _ _ (.inl rfl) e,c⟩|dK W=>obtain⟨z,y,s,r,ob,j,l,e,c⟩:=x;exact⟨z,y,s,r,ob,j,l,k _ _ (.inl rfl) e,c⟩|dT l W=>obtain⟨z,y,xs,r,ob,j,e,c⟩:=x;exact⟨z,y,xs,r,ob,j,k _ _ (.inl rfl) e,c⟩|set S n=>obtain⟨ob,j,l,t,e,c⟩:=x;exact⟨ob,j,l,t,k _ _ (.inl rfl) e,c⟩|ins C R fs=>obtain⟨d,z,F,e,Z,⟨Y,j,l,J,c⟩,r⟩:=x;exact⟨K _ d,z,F,k _ _ (.inl rfl) e,Z,⟨Y,j,l,k _ _ (.inr d) J,c⟩,r⟩|own y=>obtain⟨ob,e⟩:=x;exact⟨ob,k _ _ (.inl rfl) e⟩|xd fs=>obtain⟨Z,⟨Y,j,l,e,c⟩,r⟩:=x;exact⟨Z,⟨Y,j,l,k _ _ (.inl rfl) e,c⟩,r⟩|rng N Q=>obtain⟨t,u,v,e⟩:=x;exact⟨t,u,v,k _ _ (.inl rfl) e⟩|frz ob u G=>obtain⟨e,q⟩:=x;exact⟨k _ _ (.inl rfl) e,G q⟩|tbl q=>obtain⟨E,e,t,f⟩:=x;refine⟨E,k _ _ (.inl rfl) e,t,λX L g=>?_⟩;obtain⟨c,rfl,o,c1,ob,s,B,A,I,r⟩:=f X L g;cases A;exact⟨c,rfl,K _ o,c,ob,s,B,rfl,k _ _ (.inr o) I,r⟩|met f y=>have e:h.get? a=some (QAb (.ref f) (.ref y)):=x;show h'.get? a=some (QAb (.ref f) (.ref y));exact k a _ (.inl rfl) e|ext M=>obtain⟨p,⟨o,e⟩,st⟩:=x;exact⟨st _ _ p λo q=>k _ _ (.inl rfl) q,⟨o,k _ _ (.inl rfl) e⟩,st⟩
theorem fL.lt(x:fL P w H h)(e:H a=some o):a<h.objs.size:=(x a o e).lt
theorem fL.fresh(x:fL P w H h)(e:h.objs.size<=a):H a=none:=by
 cases q:H a with|none=>rfl|some u=>exact absurd (Qk (x.lt q) e) (qw _)
theorem fL.kept(x:fL P w H h)(k:∀b u,h.get? b=some u->h'.get? b=some u):fL P w H h':=λa o e =>
 (x a o e).stay (λb u _ q=>k b u q) (λ_ q=>q) λ_ _ q=>q
theorem fL.laid(x:fL P w H h)(k:∀b u,h.get? b=some u->h'.get? b=some u)(z:h.objs.size<=a)(new:FA P w (BA H a o) h' a o):fL P w (BA H a o) h':=λb u e=>by have y:=x.fresh z;by_cases hb:b=a;subst hb;rw[JA]at e;cases e;exact new;rw[vA hb]at e;exact(x b u e).stay (λc v _ q=>k c v q) (λc q=>by rw[vA (aA q y)];exact q) λc f q=>by rw[vA (aA q y)];exact q
end
def Rd(H:Hp)(a:Addr)(u:HO):Prop:=H a=some u∨∃o,H a=some (.frz o u)
theorem Rd.ok{P:Program}{w:World}{H:Hp}{h:Heap}{a:Addr}{u:HO}(r:Rd H a u)(x:fL P w H h):FA P w H h a u:=by
 rcases r with r|⟨o,r⟩
 exact x a u r;obtain⟨_,q⟩:=x a _ r;exact q
def Vk:Option HO->Prop
 |some (.lst _)=>True|some (.dK _)=>True|some (.dT _ _)=>True|some (.set _ _)=>True|some (.ins _ _ _)=>True|some (.ext _)=>True|_=>False
section
variable{P:Program}{w:World}{H:Hp}{h h':Heap}{x e:Addr}{a:HO}
theorem fL.write(ok:fL P w H h)(l:Vk (H x))(o:e=x∨H e=some (.own x))(k:∀b u,b≠e->h.get? b=some u->h'.get? b=some u)(m:∃u,h'.get? e=some u)
  (new:FA P w (BA H x a) h' x a):fL P w (BA H x a) h':=λb u q=>by
 have g:∀c y,H c=some (.own y)->c≠x:=λc y r z=>by subst z;rw[r]at l;exact l
 have i:∀c j,H c=some (.tup j)->c≠x:=λc j r z=>by subst z;rw[r]at l;exact l
 by_cases hb:b=x;subst hb;rw[JA]at q;cases q;exact new;rw[vA hb]at q;by_cases f:b=e;have n:H b=some (.own x):=by rcases o with z|z;exact absurd (f.trans z) hb;rw[f];exact z
 rw[q]at n;cases n;obtain⟨v,hv⟩:=m;exact⟨v,by rw[f];exact hv⟩;refine(ok b u q).stay (λc v hc r=>k c v ?_ r) (λc r=>by rw[vA (g c b r)];exact r) λc j r=>by rw[vA (i c j r)];exact r
 rcases hc with rfl|hc;exact f;rintro rfl;rcases o with z|z;exact g c b hc z;rw[hc]at z;cases z;exact hb rfl
end
structure Un(fs ex:List Addr)(H H':Hp)(h h':Heap):Prop where
 keep:∀b o,h.get? b=some o->H b=none->b∉fs->b∉ex->h'.get? b=some o
 slot:∀b o,h.get? b=some o->H b=none->b∈fs->b∉ex->∃sl,h'.get? b=some { o with slots:=sl }
 free:∀b o,h.get? b=some o->H b=none->b∉ex->H' b=none
 there:∀b o,h.get? b=some o->b∉ex->∃o',h'.get? b=some o'
 tups:∀b xs,H b=some (.tup xs)->H' b=some (.tup xs)
 frzs:∀b o u,H b=some (.frz o u)->H' b=some (.frz o u)
 tbls:∀b q,H b=some (.tbl q)->H' b=some (.tbl q)
section
variable{y w ex c:List Addr}{H d g:Hp}{h v f h':Heap}{a x e:Addr}{o:HO}
theorem Un.any(u:Un y ex H d h v){b:Addr}{ob:Obj}(q:h.get? b=some ob)(n:H b=none)(z:b∉ex):∃k,v.get? b=some { ob with slots:=k }:=by by_cases hb:b∈y;exact u.slot b ob q n hb z;exact⟨ob.slots,u.keep b ob q n hb z⟩
theorem Un.kept(k:∀b u,h.get? b=some u->h'.get? b=some u):Un y ex H H h h' :=
 ⟨λb ob q _ _ _=>k b ob q,λb ob q _ _ _=>⟨ob.slots,k b ob q⟩,λ_ _ _ n _=>n,λb ob q _=>⟨ob,k b ob q⟩,λ_ _ q=>q,λ_ _ _ q=>q,λ_ _ q=>q⟩
theorem Un.refl:Un y ex H H h h:=Un.kept λ_ _ q=>q
theorem Un.laid(k:∀b u,h.get? b=some u->h'.get? b=some u)(j:h.objs.size<=a)(z:H a=none):Un y ex H (BA H a o) h h' where
 keep:=λb u q _ _ _=>k b u q
 slot:=λb u q _ _ _=>⟨u.slots,k b u q⟩
 free:=λb u q n _=>by rw[vA (Qi (Qk (QW q) j))];exact n
 there:=λb u q _=>⟨u,k b u q⟩
 tups:=λb i q=>by rw[vA (aA q z)];exact q
 frzs:=λb u i q=>by rw[vA (aA q z)];exact q
 tbls:=λb l q=>by rw[vA (aA q z)];exact q
theorem Un.write(j:Vk (H x))(X:e=x∨H e=some (.own x))(k:∀b u,b≠e->h.get? b=some u->h'.get? b=some u)(m:∃u,h'.get? e=some u):Un y ex H (BA H x o) h h':=by
 have p:∀b,H b=none->b≠x:=λb n z=>by subst z;rw[n]at j;exact j
 have hb:∀b,H b=none->b≠e:=λb n z=>by subst z;rcases X with r|r;exact p b n r;rw[n]at r;cases r
 have l:∀b u,H b=some u->¬ Vk (some u)->b≠x:=λb u q nm z=>by subst z;rw[q]at j;exact nm j
 refine⟨λb u q n _ _=>k b u (hb b n) q,λb u q n _ _=>⟨u.slots,k b u (hb b n) q⟩,λb u q n _=>by rw[vA (p b n)];exact n,λb u q _=>?_,
  λb s q=>by rw[vA (l b _ q λz=>z)];exact q,λb u s q=>by rw[vA (l b _ q λz=>z)];exact q,λb Y q=>by rw[vA (l b _ q λz=>z)];exact q⟩
 by_cases i:b=e;subst i;exact m;exact⟨u,k b u i q⟩
end
section
variable{h:Heap}{b:Addr}{o:Obj}
def Lp(h:Heap)(H:Hp):List Addr:=(Qs h.objs.size).filter λa=>(H a).isSome
def tQ(h:Heap)(H:Hp):Heap:=PySem.W.hideAll h (Lp h H)
theorem cZ(h:Heap)(H:Hp):(tQ h H).objs.size=h.objs.size:=PySem.W.hideAll_size _ _
theorem N5{H:Hp}(e:h.get? b=some o)(n:H b=none):(tQ h H).get? b=some o :=
 PySem.W.hideAll_get _ e λx=>by have q:(H b).isSome=true:=(QX.mp x).2;rw[n]at q;simp at q
theorem Z9{H:Hp}(e:(tQ h H).get? b=some o):h.get? b=some o/\H b=none:=by
 have y:h.get? b=some o:=PySem.W.of_hideAll (Lp h H) e;refine⟨y,?_⟩;cases q:H b with|none=>rfl|some x=>have u:b∈Lp h H:=QX.mpr ⟨qE.mpr (QW y),by simp[q]⟩;have z:(tQ h H).get? b=none:=PySem.W.hideAll_none (Lp h H) u;rw[z]at e;cases e
structure Mod(K:QC)(mg:Str->Option Value)(base:Heap):Prop where
 kin:K.In base
 glob:base.Ns mainGlobals mg
 blt:∃mb,base.Ns builtinsNs mb/\∀x:Str,x≠"__name__"->mb x=bootBuiltins x
 nolimit:base.NoLimit
structure Cx where
 prog:Program
 w:World
 K:QC
 mg:Str->Option Value
 base:Heap
 A:Around
 N:LS
 s₀:Shared
 H₀:Hp
 env:Env
 outer:List Env
 stack:List Env
 ex:List Addr
 fn:Str->Bool
 calm:Bool
 pn:AB
 xe:Value->Shared->Prop
def pX(l:List Env):List Addr:=l.filterMap (·.frame)
noncomputable abbrev Cx.fs(X:Cx):List Addr:=pX X.outer
def Oo(sc:Scope)(x:Str):Prop:=sc.names.lookup x=some .local∨sc.names.lookup x=some .cell∨sc.names.lookup x=some .free
def Xk(sc:Scope)(x:Str):Prop:=sc.names.lookup x=some .local∨sc.names.lookup x=some .cell
def Ut(env:Env)(h:Heap)(m:Str->Option Value)(x:Str)(u:Value):Prop :=
 (env.kindOf x=some .local/\m x=some u)∨((env.kindOf x=some .cell∨env.kindOf x=some .free)/\∃c,env.cells.lookup x=some c/\h.IsCell c (some u))
def SO(mg:Str->Option Value)(x:Heap)(P:Addr)(q:Str):Prop :=
 ∃f o y c,mg "going_order"=some (.ref f)/\x.get? f=some o/\o.data=.func y/\y.code=.ref c/\PySem.W.CodeHd x c P/\q=y.qualname++".<locals>.<lambda>"
structure Cx.Ok(X:Cx):Prop where
 mod:Mod X.K X.mg X.base
 kind:X.env.scope.kind=.function
 glob:X.env.globals=mainGlobals
 blt:X.env.builtins=builtinsNs
 above:X.s₀.heap.objs.size<=X.env.locals
 inj:∀x y c,X.env.cells.lookup x=some c->X.env.cells.lookup y=some c->x=y
 has:∀x,(X.env.kindOf x=some .cell∨X.env.kindOf x=some .free)->∃c,X.env.cells.lookup x=some c
 cab:∀x c,X.fn x=true->X.env.cells.lookup x=some c->X.s₀.heap.objs.size<=c
 hd:X.calm=true->X.A.handled=none
 frames:X.A.frames=some X.stack
 stk:X.stack=X.outer∨(X.stack=X.env::X.outer/\X.env.frame=some X.env.locals)
 exf:∀b∈X.ex,b≠X.env.locals/\∀x c,X.env.cells.lookup x=some c->c≠b
 bs:∀b o,X.base.get? b=some o->X.s₀.heap.get? b=some o/\X.H₀ b=none
 bsz:X.base.objs.size<=X.s₀.heap.objs.size
 noex:∀b o,X.base.get? b=some o->b∉X.ex
 exfs:∀b∈X.ex,b∉X.fs
 funs:X.s₀.heap.FunFrames X.base X.outer
 frf:∀b∈X.fs,X.H₀ b=none
 tb:∀P q,SO X.mg X.base P q->X.H₀ P=some (.tbl q)
structure Inv(X:Cx)(pins:AB)(σ:List (Option V))(H:Hp)(s:Shared):Prop where
 ok:X.Ok
 os:s.os=X.s₀.os
 bare:AllBare s.gens
 base:Un X.fs X.ex X.H₀ H X.s₀.heap s.heap
 loc:∃m,s.heap.Ns X.env.locals m/\∀(i:Nat) (x:Str) (v:V),X.N[i]?=some x->σ[i]?=some (some v)->Oo X.env.scope x->∃u,rA v u/\Ut X.env s.heap m x u
 cell:∀x c,X.env.cells.lookup x=some c->∃v,s.heap.IsCell c v
 free:H X.env.locals=none
 freeC:∀x c,X.env.cells.lookup x=some c->H c=none
 pin:∀p∈X.pn++pins,s.heap.get? p.1=some p.2/\H p.1=none/\p.1≠X.env.locals/\p.1∉X.fs/\∀v,p.2.data≠.cell v
 hok:fL X.prog X.w H s.heap
 len:σ.length=X.N.length
end
section
variable{X:Cx}{f:AB}{σ:List (Option V)}{H g:Hp}{s:Shared}{h':Heap}
section
variable{a:Addr}{g':Array GenState}{ch:List Addr}{i:Nat}{x:Str}{M:Model}{A:Around}{E:pC}{u:Value}{Q:Unit->Shared->Prop}
theorem Cx.Ok.nofr(ok:X.Ok){b:Addr}{o:Obj}(e:X.base.get? b=some o):b∉X.fs:=λhb=>by have:=(ok.funs.mem hb).1;rw[e]at this;cases this
theorem Inv.bs(I:Inv X f σ H s):∀b o,X.base.get? b=some o->s.heap.get? b=some o/\H b=none:=λb o e =>
 ⟨I.base.keep b o (I.ok.bs b o e).1 (I.ok.bs b o e).2 (I.ok.nofr e) (I.ok.noex b o e),I.base.free b o (I.ok.bs b o e).1 (I.ok.bs b o e).2 (I.ok.noex b o e)⟩
theorem Inv.bk(I:Inv X f σ H s):∀b o,X.base.get? b=some o->s.heap.get? b=some o:=λb o e=>(I.bs b o e).1
theorem Inv.tb(I:Inv X f σ H s):∀P q,SO X.mg X.base P q->H P=some (.tbl q):=λP q h=>I.base.tbls P q (I.ok.tb P q h)
theorem Inv.mod(I:Inv X f σ H s):Mod X.K X.mg X.base:=I.ok.mod
theorem Inv.kIn(I:Inv X f σ H s):X.K.In s.heap:=I.ok.mod.kin.keeps I.bk
theorem Inv.nolimit(I:Inv X f σ H s):s.heap.NoLimit:=I.ok.mod.nolimit.keeps I.bk
theorem Inv.lt(I:Inv X f σ H s):X.env.locals<s.heap.objs.size:=let⟨_,h,_⟩:=I.loc;h.lt
theorem Inv.sz(I:Inv X f σ H s):X.s₀.heap.objs.size<=s.heap.objs.size:=QY I.ok.above (QA3 I.lt)
theorem Inv.nofs(I:Inv X f σ H s)(h:s.heap.objs.size<=a):a∉X.fs:=λhb=>by obtain⟨_,o,y,_⟩:=I.ok.funs.mem hb;exact absurd (Qk (QW y) (QY I.sz h)) (qw _)
theorem Inv.cne(I:Inv X f σ H s):∀x c,X.env.cells.lookup x=some c->c≠X.env.locals:=λx c e z=>by obtain⟨v,o,w,k⟩:=I.cell x c e;obtain⟨m,⟨b,j,l,h,y,_⟩,_⟩:=I.loc;rw[z,h]at w;cases w;rw[y]at k;cases k
theorem Inv.funs(I:Inv X f σ H s):s.heap.FunFrames X.base X.outer:=by
 have all:∀(l:List Env),(∀b∈pX l,b∈X.fs)->X.s₀.heap.FunFrames X.base l->s.heap.FunFrames X.base l:=by
  intro l;induction l with|nil=>intro _ _;trivial|cons p r w=>intro v hl;obtain⟨hk,⟨L,o,h,m,j,n⟩,k⟩:=hl;have y:L∈X.fs:=v L (by unfold pX;rw[WJ,h];exact QE);obtain⟨q,e⟩:=I.base.slot L o j (I.ok.frf L y) y λz=>I.ok.exfs L z y;exact⟨hk,⟨L,_,h,m,e,n⟩,w (λb hb=>v b (by unfold pX;rw[WJ,h];exact QD _ hb)) k⟩
 exact all X.outer (λ_ hb=>hb) I.ok.funs
theorem Inv.stack(I:Inv X f σ H s):s.heap.FunFrames X.base X.stack:=by
 rcases I.ok.stk with e|⟨e,y⟩
 rw[e];exact I.funs;rw[e];obtain⟨m,h,_⟩:=I.loc;refine .cons (by rw[I.ok.kind];decide) y h ?_ I.funs;exact Heap.get?_none_of_le (QY I.ok.bsz I.ok.above)
theorem Inv.stkSub(I:Inv X f σ H s):∀b∈pX X.stack,b∈X.env.locals::X.fs:=λb hb=>by
 rcases I.ok.stk with e|⟨e,h⟩
 rw[e]at hb;exact QD _ hb;rw[e]at hb;unfold pX at hb;rw[WJ,h]at hb;exact hb
theorem Inv.stkFree(I:Inv X f σ H s):∀b∈pX X.stack,H b=none:=λb hb=>by rcases QL.mp (I.stkSub b hb) with e|hb;rw[e];exact I.free;obtain⟨_,o,h,_⟩:=I.ok.funs.mem hb;exact I.base.free b o h (I.ok.frf b hb) λz=>I.ok.exfs b z hb
theorem Inv.step{t':Nat}{d':Drawn}(I:Inv X f σ H s)
  (j:∀b∈ch,(b∈X.ex∨X.s₀.heap.objs.size<=b)/\b≠X.env.locals/\(∀x c,X.env.cells.lookup x=some c->c≠b)/\∀p∈X.pn++f,p.1≠b)
  (keep:∀b o,b≠X.env.locals->b∉X.fs->b∉ch->s.heap.get? b=some o->H b=none->h'.get? b=some o)
  (W:∀b o,b≠X.env.locals->b∈X.fs->b∉ch->s.heap.get? b=some o->H b=none->∃R,h'.get? b=some { o with slots:=R }) (free:∀b o,b∉ch->s.heap.get? b=some o->H b=none->g b=none)
  (K:∀b o,b∉ch->s.heap.get? b=some o->∃J,h'.get? b=some J)
  (F:∀b xs,H b=some (.tup xs)->g b=some (.tup xs)) (N:∀b o u,H b=some (.frz o u)->g b=some (.frz o u)) (G:∀b O,H b=some (.tbl O)->g b=some (.tbl O))
  (ns:∀m,s.heap.Ns X.env.locals m->h'.Ns X.env.locals m) (S:fL X.prog X.w g h') (hg:AllBare g') :
  Inv X f σ g { s with heap:=h',gens:=g',drawn:=d',toks:=t' }:=by
 have L:∀b o,X.s₀.heap.get? b=some o->b≠X.env.locals:=λb o e=>Qi (Qk (QW e) I.ok.above);have Z:∀b o,X.s₀.heap.get? b=some o->b∉X.ex->b∉ch:=λb o e h hb=>by rcases(j b hb).1 with z|z;exact h z;exact absurd (Qk (QW e) z) (qw _)
 have Y:∀x c,X.env.cells.lookup x=some c->∀v,s.heap.IsCell c v->h'.IsCell c v:=λx c e v ⟨o,C,hd⟩=>by have y:c∉ch:=λz=>(j c z).2.2.1 x c e rfl;by_cases hc:c∈X.fs;obtain⟨R,q⟩:=W c o (I.cne x c e) hc y C (I.freeC x c e);exact⟨_,q,hd⟩;exact⟨o,keep c o (I.cne x c e) hc y C (I.freeC x c e),hd⟩
 refine⟨I.ok,I.os,hg,⟨λb o e n hb h=>?_,λb o e n hb h=>?_,λb o e n h=>?_,λb o e h=>?_,λb xs e=>F b xs (I.base.tups b xs e),λb o xs e=>N b o xs (I.base.frzs b o xs e),λb O e=>?_⟩,?_,λx c e=>?_,?_,λx c e=>?_,λp hp=>?_,S,I.len⟩;exact keep b o (L b o e) hb (Z b o e h) (I.base.keep b o e n hb h) (I.base.free b o e n h);obtain⟨R,B⟩:=I.base.slot b o e n hb h;obtain⟨P,e2⟩:=W b _ (L b o e) hb (Z b o e h) B (I.base.free b o e n h);exact⟨P,e2⟩;obtain⟨J,B⟩:=I.base.there b o e h;exact free b J (Z b o e h) B (I.base.free b o e n h);obtain⟨J,B⟩:=I.base.there b o e h;exact K b J (Z b o e h) B;exact G b _ (I.base.tbls b O e);obtain⟨m,hn,hl⟩:=I.loc;refine⟨m,ns m hn,λi x v B e2 e3=>?_⟩;obtain⟨u,r,l⟩:=hl i x v B e2 e3;refine⟨u,r,?_⟩;rcases l with l|⟨k,c,e,z⟩
 exact .inl l;exact .inr ⟨k,c,e,Y x c e _ z⟩;obtain⟨v,z⟩:=I.cell x c e;exact⟨v,Y x c e v z⟩;obtain⟨m,⟨o,_,_,C,_⟩,_⟩:=I.loc;exact free _ o (λz=>(j _ z).2.1 rfl) C I.free;obtain⟨v,o,C,hd⟩:=I.cell x c e;exact free c o (λz=>(j c z).2.2.1 x c e rfl) C (I.freeC x c e);obtain⟨e,n,ne,nf,d⟩:=I.pin p hp;have y:p.1∉ch:=λz=>(j p.1 z).2.2.2 p hp rfl;exact⟨keep p.1 p.2 ne nf y e n,free p.1 p.2 y e n,ne,nf,d⟩
theorem Inv.un{t':Nat}(I:Inv X f σ H s)(u:Un X.fs [] H g s.heap h')(y:fL X.prog X.w g h'):Inv X f σ g { s with heap:=h',toks:=t' }:=by obtain⟨m,⟨o,K,B,j,r⟩,_⟩:=id I.loc;obtain⟨Y,q⟩:=u.any j I.free (by simp);exact I.step (g':=s.gens) (d':=s.drawn) (ch:=[]) (λ_ z=>nomatch z) (λb o _ hb _ e n=>u.keep b o e n hb (by simp)) (λb o _ hb _ e n=>u.slot b o e n hb (by simp)) (λb o _ e n=>u.free b o e n (by simp)) (λb o _ e=>u.there b o e (by simp)) u.tups u.frzs u.tbls (λW p=>by obtain⟨Z,v,k,h,l⟩:=p;rw[j]at h;cases h;exact⟨_,v,k,q,l⟩) y I.bare
theorem Inv.call{t':Nat}{d':Drawn}(I:Inv X f σ H s)(u:Un (pX X.stack) ch H g s.heap h')(v:fL X.prog X.w g h')(W:AllBare g')
  (y:∀b∈ch,(b∈X.ex∨X.s₀.heap.objs.size<=b)/\b≠X.env.locals/\(∀x c,X.env.cells.lookup x=some c->c≠b)/\∀p∈X.pn++f,p.1≠b) :
  Inv X f σ g { s with heap:=h',gens:=g',drawn:=d',toks:=t' }:=by
 obtain⟨m,⟨o,F,G,q,r⟩,_⟩:=id I.loc;obtain⟨K,k⟩:=u.any q I.free λz=>(y _ z).2.1 rfl;exact I.step (ch:=ch) y (λb o k hb hc e n=>u.keep b o e n (λz=>(QL.mp (I.stkSub b z)).elim k hb) hc) (λb o _ _ hc e n=>u.any e n hc) (λb o hc e n=>u.free b o e n hc) (λb o hc e=>u.there b o e hc) u.tups u.frzs u.tbls (λC Z=>by obtain⟨B,j,l,h,Y⟩:=Z;rw[q]at h;cases h;exact⟨_,j,l,k,Y⟩) v W
theorem Inv.turned{t':Nat}{it:Addr}(I:Inv X f σ H s)(k:∀b o,b≠it->s.heap.get? b=some o->h'.get? b=some o)(j:H it=none)(y:it≠X.env.locals)
  (W:it∈X.ex∨X.s₀.heap.objs.size<=it) (Z:∀x c,X.env.cells.lookup x=some c->c≠it) (Y:∀p∈X.pn++f,p.1≠it):Inv X f σ H { s with heap:=h',toks:=t' }:=by
 have h:∀b u,H b=some u->b≠it:=λb u e z=>by rw[z,j]at e;cases e
 refine I.step (g':=s.gens) (d':=s.drawn) (ch:=[it]) (λb hb=>?_) (λb o _ _ hc e _=>k b o (λz=>hc (by simp[z])) e) (λb o _ _ hc e _=>⟨o.slots,k b o (λz=>hc (by simp[z])) e⟩) (λ_ _ _ _ n=>n)
  (λb o hc e=>⟨o,k b o (λz=>hc (by simp[z])) e⟩) (λ_ _ e=>e) (λ_ _ _ e=>e) (λ_ _ e=>e) (λm l=>?_) (λb u e=>?_) I.bare
 have e:b=it:=by simpa using hb
 subst e;exact⟨W,y,Z,Y⟩;obtain⟨o,K,B,w,r⟩:=l;exact⟨o,K,B,k _ o (qB y) w,r⟩;refine(I.hok b u e).stay (λc v hc q=>k c v ?_ q) (λ_ q=>q) λ_ _ q=>q;rcases hc with z|z;rw[z];exact h b u e;exact h c _ z
theorem Inv.tok(I:Inv X f σ H s)(t:Nat):Inv X f σ H { s with toks:=t }:=I.un (h':=s.heap) (t':=t) Un.refl I.hok
theorem Inv.kept{t':Nat}(I:Inv X f σ H s)(k:∀b u,s.heap.get? b=some u->h'.get? b=some u):Inv X f σ H { s with heap:=h',toks:=t' }:=I.un (Un.kept k) (I.hok.kept k)
theorem Inv.laid{o:HO}{t':Nat}(I:Inv X f σ H s)(k:∀b u,s.heap.get? b=some u->h'.get? b=some u)(h:s.heap.objs.size<=a)(new:FA X.prog X.w (BA H a o) h' a o) :
  Inv X f σ (BA H a o) { s with heap:=h',toks:=t' }:=I.un (Un.laid k h (I.hok.fresh h)) (I.hok.laid k h new)
theorem Inv.write{x e:Addr}{o:HO}{t':Nat}(I:Inv X f σ H s)(y:Vk (H x))(z:e=x∨H e=some (.own x))(k:∀b u,b≠e->s.heap.get? b=some u->h'.get? b=some u)(h:∃u,h'.get? e=some u)
  (new:FA X.prog X.w (BA H x o) h' x o):Inv X f σ (BA H x o) { s with heap:=h',toks:=t' }:=I.un (Un.write y z k h) (I.hok.write y z k h new)
theorem Inv.pins_of{y:AB}(I:Inv X f σ H s)(h:∀p∈y,s.heap.get? p.1=some p.2/\H p.1=none/\p.1≠X.env.locals/\p.1∉X.fs/\∀v,p.2.data≠.cell v):Inv X y σ H s :=
 ⟨I.ok,I.os,I.bare,I.base,I.loc,I.cell,I.free,I.freeC,λp w=>(Qe.mp w).elim (λz=>I.pin p (Ql _ z)) (h p),I.hok,I.len⟩
theorem LR{N:LS}(h:N.Nodup){j:Nat}(a:N[i]?=some x)(b:N[j]?=some x):i=j:=by obtain⟨w,z⟩:=Qf.mp a;obtain⟨v,y⟩:=Qf.mp b;exact(List.getElem_inj h).mp (z.trans y.symm)
theorem yO{v:V}(I:Inv X f σ H s)(hN:X.N.Nodup)(O:X.N[i]?=some x)(W:Xk X.env.scope x)(r:rA v u)
  (h:∀s',Inv X f (σ.set i (some v)) H s'->(∃a,qW a s.heap s'.heap/\(a=X.env.locals∨X.env.cells.lookup x=some a))->Q () s') (hf:X.fn x=true∨X.env.scope.names.lookup x=some .local):wpAny M A (storeName X.env x u) Q E s:=by
 obtain⟨m,hn,hl⟩:=id I.loc;have P:(X.env.scope.kind==.class||(X.env.scope.kind==.module&&X.env.locals != X.env.globals))=false:=by rw[I.ok.kind];rfl
 have C:i<σ.length:=by rw[I.len];exact(Qf.mp O).1
 have cne:=I.cne;have Y:∀{a:Addr}{h':Heap},(∃o,s.heap.get? a=some o/\H a=none)->qW a s.heap h'->fL X.prog X.w H h':=λ{a h'} ha l b ob e=>by obtain⟨_,_,K⟩:=ha;refine(I.hok b ob e).stay (λc w' hc q=>(l.2 c ?_).trans q) (λ_ q=>q) λ_ _ q=>q;rintro rfl;rcases hc with rfl|hc;rw[K]at e;cases e;rw[K]at hc;cases hc
 rcases W with hk|hk;refine wpAny_storeName_local hk hn (λh' hn' l=>?_) P;obtain⟨oL,_,_,hoL,_⟩:=id hn;refine h _ ⟨I.ok,I.os,I.bare,⟨λb o e n hb W=>?_,λb o e n hb W=>?_,I.base.free,λb o e W=>?_,I.base.tups,I.base.frzs,I.base.tbls⟩,⟨_,hn',λj y v' Z B e3=>?_⟩,λy c e=>?_,I.free,I.freeC,λp hp=>?_,Y ⟨oL,hoL,I.free⟩ l,by simpa using I.len⟩ ⟨_,l,.inl rfl⟩;exact(l.2 b (Qi (Qk (QW e) I.ok.above))).trans (I.base.keep b o e n hb W);obtain⟨sl,Z⟩:=I.base.slot b o e n hb W;exact⟨sl,(l.2 b (Qi (Qk (QW e) I.ok.above))).trans Z⟩;obtain⟨o',Z⟩:=I.base.there b o e W;exact⟨o',(l.2 b (Qi (Qk (QW e) I.ok.above))).trans Z⟩;by_cases F:j=i
 ·subst F
  rw[O]at Z;cases Z;rw[qf C]at B;cases B;exact⟨u,r,.inl ⟨hk,by simp⟩⟩
 rw[qR (qB F)]at B;obtain⟨u',r',q⟩:=hl j y v' Z B e3;refine⟨u',r',?_⟩;rcases q with⟨k,e⟩| ⟨k,c,e,z⟩
 refine .inl ⟨k,?_⟩;have:y≠x:=λe=>F (LR hN Z (e▸O));simp[this,e];exact .inr ⟨k,c,e,z.sameBut l (cne y c e)⟩;obtain⟨w',z⟩:=I.cell y c e;exact⟨w',z.sameBut l (cne y c e)⟩;obtain⟨e,n,ne,nf,d⟩:=I.pin p hp;exact⟨(l.2 p.1 ne).trans e,n,ne,nf,d⟩;have G:X.fn x=true:=by rcases hf with z|z;exact z;rw[z]at hk;cases hk
 obtain⟨c,hc⟩:=I.ok.has x (.inl hk);obtain⟨w',z⟩:=I.cell x c hc;refine wpAny_storeName_cell I.ok.kind hk hc z (λh' S l=>?_);obtain⟨oc,L,J⟩:=id z;refine h { s with heap:=h' } ⟨I.ok,I.os,I.bare,⟨λb o e n hb W=>?_,λb o e n hb W=>?_,I.base.free,λb o e W=>?_,I.base.tups,I.base.frzs,I.base.tbls⟩,⟨m,hn.sameBut l (qB (cne x c hc)),λj y v' Z B e3=>?_⟩,λy c' e=>?_,I.free,I.freeC,λp hp=>?_,Y ⟨oc,L,I.freeC x c hc⟩ l,by simpa using I.len⟩ ⟨c,l,.inr hc⟩;exact(l.2 b (Qi (Qk (QW e) (I.ok.cab x c G hc)))).trans (I.base.keep b o e n hb W);obtain⟨sl,Z⟩:=I.base.slot b o e n hb W;exact⟨sl,(l.2 b (Qi (Qk (QW e) (I.ok.cab x c G hc)))).trans Z⟩;obtain⟨o',Z⟩:=I.base.there b o e W;exact⟨o',(l.2 b (Qi (Qk (QW e) (I.ok.cab x c G hc)))).trans Z⟩;by_cases F:j=i
 ·subst F
  rw[O]at Z;cases Z;rw[qf C]at B;cases B;exact⟨u,r,.inr ⟨.inl hk,c,hc,S⟩⟩
 rw[qR (qB F)]at B;obtain⟨u',r',q⟩:=hl j y v' Z B e3;refine⟨u',r',?_⟩;rcases q with q|⟨k,c',e,z'⟩
 exact .inl q;refine .inr ⟨k,c',e,z'.sameBut l ?_⟩;rintro rfl;exact F (LR hN Z (I.ok.inj _ _ _ e hc▸O));by_cases R:c'=c
 ·subst R;exact⟨_,S⟩
 obtain⟨w2,z2⟩:=I.cell y c' e;exact⟨w2,z2.sameBut l R⟩;obtain⟨e,n,ne,nf,d⟩:=I.pin p hp;refine⟨(l.2 p.1 ?_).trans e,n,ne,nf,d⟩;intro q;rw[q,L]at e;have q':oc=p.2:=Qn e;exact d w' (by rw[<- q'];exact J)
theorem gR{v:V}(I:Inv X f σ H s)(k:X.N.Nodup)(z:X.N[i]?=some x)(y:Xk X.env.scope x)(r:rA v u)
  (h:∀s',Inv X f (σ.set i (some v)) H s'->Q () s') (w:X.fn x=true∨X.env.scope.names.lookup x=some .local):wpAny M A (storeName X.env x u) Q E s :=
 yO I k z y r (λs' b _=>h s' b) w
theorem Inv.call'{s':Shared}(I:Inv X f σ H s)(v:s'.os=s.os)(u:Un (pX X.stack) ch H g s.heap s'.heap)(h:fL X.prog X.w g s'.heap)(k:AllBare s'.gens)
  (y:∀b∈ch,(b∈X.ex∨X.s₀.heap.objs.size<=b)/\b≠X.env.locals/\(∀x c,X.env.cells.lookup x=some c->c≠b)/\∀p∈X.pn++f,p.1≠b):Inv X f σ g s':=by
 obtain⟨h',g',d',t',z⟩:=s';have e:z=s.os:=v;subst e;exact I.call (g':=g') (t':=t') (d':=d') u h k y
end
end
noncomputable abbrev XK:=Value->Option Addr->Hp->Prop
noncomputable abbrev St:=List (Option V)
noncomputable abbrev VK:=V->Hp->Prop
noncomputable abbrev TE:=St->Hp->VK->Prop
noncomputable abbrev TT:=St->Hp->(Bool->Hp->Prop)->Prop
noncomputable abbrev TA:=St->Hp->(LV->Hp->Prop)->Prop
structure Ends where
 nx:St->Hp->Prop
 rt:VK
 bk:St->Hp->Prop:=λ_ _=>False
 ct:St->Hp->Prop:=λ_ _=>False
noncomputable abbrev TS:=Ends->St->Hp->Prop
def EP(X:Cx)(h:AB)(σ:St)(Q:VK)(u:Value)(s':Shared):Prop:=∃v x,Inv X h σ x s'/\rA v u/\Q v x
def TP(X:Cx)(h:AB)(σ:St)(Q:Bool->Hp->Prop)(b:Bool)(s':Shared):Prop:=∃x,Inv X h σ x s'/\Q b x
def AP(X:Cx)(h:AB)(σ:St)(Q:LV->Hp->Prop)(us:LW)(s':Shared):Prop:=∃x y,Inv X h σ y s'/\nA x us/\Q x y
def SP(X:Cx)(x:AB)(D:Ends)(f:Flow)(s':Shared):Prop :=
 match f with
 | .next=>∃h y,Inv X x h y s'/\D.nx h y|.brk=>∃h y,Inv X x h y s'/\D.bk h y|.cont=>∃h y,Inv X x h y s'/\D.ct h y|.ret u=>∃v h y,Inv X x h y s'/\rA v u/\D.rt v y
def PE(X:Cx)(e:Expr)(t:TE):Prop :=
 ∀(h:AB) (s:Shared) (x:St) (H:Hp) (Q:VK),Inv X h x H s->t x H Q->wpAny (model X.prog X.w) X.A (eval e X.env) (EP X h x Q) X.xe s
def PT(X:Cx)(e:Expr)(t:TT):Prop :=
 ∀(h:AB) (s:Shared) (x:St) (H:Hp) (Q:Bool->Hp->Prop),Inv X h x H s->t x H Q->wpAny (model X.prog X.w) X.A (isTrue e X.env (eval e X.env)) (TP X h x Q) X.xe s
def PW(X:Cx)(e:Expr)(t:TT):Prop :=
 ∀(x:Sem Value) (h:AB) (s:Shared) (y:St) (H:Hp) (Q:Bool->Hp->Prop),Inv X h y H s->t y H Q->wpAny (model X.prog X.w) X.A (isTrue e X.env x) (TP X h y Q) X.xe s
theorem PW.pt{X:Cx}{e:Expr}{t:TT}(h:PW X e t):PT X e t:=h _
def PA(X:Cx)(es:List Expr)(t:TA):Prop :=
 ∀(y:Pos) (h:AB) (s:Shared) (x:St) (H:Hp) (Q:LV->Hp->Prop),Inv X h x H s->t x H Q->wpAny (model X.prog X.w) X.A (spliced (backTo y (starEach es X.env))) (AP X h x Q) X.xe s
def PS(X:Cx)(st:Stmt)(t:TS):Prop :=
 ∀(h:AB) (s:Shared) (x:St) (H:Hp) (D:Ends),Inv X h x H s->t D x H->wpAny (model X.prog X.w) X.A (exec st X.env) (SP X h D) X.xe s
def RV(X:Cx)(st:List Stmt)(t:TS):Prop :=
 ∀(h:AB) (s:Shared) (x:St) (H:Hp) (D:Ends),Inv X h x H s->t D x H->wpAny (model X.prog X.w) X.A (execs st X.env) (SP X h D) X.xe s
theorem NB{α:Type}{t:Sem α}{Q y:α->Shared->Prop}{M:Model}{A:Around}{E:pC}{s:Shared}(h:wpAny M A t Q E s)(z:∀a s,Q a s->y a s):wpAny M A t y E s:=qi h z λ_ _ x=>x
section
variable{X:Cx}
section
variable{z:AB}{s:Shared}{σ:St}{H:Hp}{x:Str}{pos:Pos}{E Q:pC}{u:Value}
theorem bin{a b:Expr}{ta d:TE}(r:PE X a ta)(hb:PE X b d){R:V->V->Hp->Prop}(I:Inv X z σ H s)(h:ta σ H λx j=>d σ j λy k=>R x y k)
  {α:Type}{Q:α->Shared->Prop}{f:Value->Value->Sem α}
  (q:∀v u i x y k,Inv X z σ k i->rA x v->rA y u->R x y k->wpAny (model X.prog X.w) X.A (f v u) Q X.xe i) :
  wpAny (model X.prog X.w) X.A (eval a X.env) (λv g=>wpAny (model X.prog X.w) X.A (eval b X.env) (λu e=>wpAny (model X.prog X.w) X.A (f v u) Q X.xe e) X.xe g) X.xe s:=by
 refine NB (r z s σ H _ I h) λv l ⟨x,j,Z,n,p⟩=>?_;refine NB (hb z l σ j _ Z p) λu i ⟨y,k,Y,m,o⟩=>?_;exact q v u i x y k Y n m o
def Yq(i:Nat):TE:=λσ H Q=>∃v,σ[i]?=some (some v)/\Q v H
def tC(v:V):TE:=λ_ H Q=>Q v H
theorem d3{i:Nat}(f:X.N[i]?=some x)(hv:Oo X.env.scope x)(w:(x==("__debug__":Str))=false:=by decide)(k:(x==("__classdict__":Str))=false:=by decide):PE X (.Name x pos) (Yq i):=by
 intro z s σ H Q I h;obtain⟨v,e,h⟩:=h;obtain⟨m,a,hl⟩:=I.loc;obtain⟨u,r,l⟩:=hl i x v f e hv;have fin:EP X z σ Q u s:=⟨v,H,I,r,h⟩
 rcases l with⟨hk,b⟩| ⟨hk,c,hc,y⟩
 exact QBC (QBF I.ok.kind hk a b fin) w;rcases hk with hk|hk
 ·exact QBC (wpAny_loadName_cell I.ok.kind hk hc y fin) w
 exact QBC (QBQ I.ok.kind hk hc y fin k) w
theorem U3{i j pos}:PE X (.Constant (.int i) j pos) (tC (.int i)):=λ_ _ _ H _ I h=>QBe ⟨.int i,H,I.tok _,⟨_,rfl⟩,h⟩
theorem Kc{b j pos}:PE X (.Constant (.bool b) j pos) (tC (.bl b)):=λ_ _ _ H _ I h=>Constant_bool ⟨.bl b,H,I,rfl,h⟩
theorem K3{j pos}:PE X (.Constant .none j pos) (tC .non):=λ_ _ _ H _ I h=>Constant_none ⟨.non,H,I,rfl,h⟩
theorem jh{x j pos}:PE X (.Constant (.str x) j pos) (tC (.str x)):=λ_ _ _ H _ I h=>Calls.Constant_str ⟨.str x,H,I.tok _,⟨_,rfl⟩,h⟩
def Gl(X:Cx)(x:Str):Prop:=X.env.kindOf x=some .globalImplicit
theorem fQ(I:Inv X z σ H s)(v:Gl X x)(y:X.mg x=some u)(h:Q u s)
  (k:(x==("__debug__":Str))=false:=by decide):wpAny (model X.prog X.w) X.A (eval (.Name x pos) X.env) Q E s :=
 QAH I.ok.kind v (Calls.loadGlobal_global (by rw[I.ok.glob];exact I.mod.glob.keeps I.bk) y h) k
theorem jG(I:Inv X z σ H s)(k:Gl X x)(v:X.mg x=none)(hv:bootBuiltins x=some u)(h:Q u s)
  (y:x≠"__name__":=by decide) (a:(x==("__debug__":Str))=false:=by decide):wpAny (model X.prog X.w) X.A (eval (.Name x pos) X.env) Q E s:=by
 obtain⟨f,e,b⟩:=I.mod.blt;exact QAH I.ok.kind k (Calls.loadGlobal_builtin (by rw[I.ok.glob];exact I.mod.glob.keeps I.bk) v (by rw[I.ok.blt];exact e.keeps I.bk) ((b x y).trans hv) h) a
theorem N8{v:V}(w:Gl X x)(y:X.mg x=some u)(r:rA v u)(k:(x==("__debug__":Str))=false:=by decide):PE X (.Name x pos) (tC v) :=
 λ_ _ _ H _ I h=>fQ I w y ⟨v,H,I,r,h⟩ k
theorem A8{v:V}(k:Gl X x)(w:X.mg x=none)(hv:bootBuiltins x=some u)(r:rA v u)(y:x≠"__name__":=by decide)(a:(x==("__debug__":Str))=false:=by decide):PE X (.Name x pos) (tC v) :=
 λ_ _ _ H _ I h=>jG I k w hv ⟨v,H,I,r,h⟩ y a
end
variable{a b:Expr}{ta d:TE}{pos:Pos}
variable{g n:TT}{k:List Expr}
def Gq(t u:TT):TT:=λh H Q=>t h H λc x=>if c=true then u h x Q else Q false x
def Gv(t u:TT):TT:=λh H Q=>t h H λc x=>if c=true then Q true x else u h x Q
def Uq(t:TT):TT:=λh H Q=>t h H λc x=>Q (!c) x
theorem Y8(z:PT X a g):PW X (.BoolOp .And [a] pos) g:=by
 intro u x s y H Q I h;refine isTrue_and (NB (z x s y H Q I h) λc v e=>?_);cases c with|true=>exact isTrue_and_nil e|false=>exact e
theorem Fg(z:PT X a g):PW X (.BoolOp .Or [a] pos) g:=by
 intro u x s y H Q I h;refine isTrue_or (NB (z x s y H Q I h) λc v e=>?_);cases c with|false=>exact isTrue_or_nil e|true=>exact e
theorem C2(f:PT X a g)(hb:PW X (.BoolOp .And (b::k) pos) n):PW X (.BoolOp .And (a::b::k) pos) (Gq g n):=by
 intro w x s y H Q I h;refine isTrue_and (NB (f x s y H _ I h) λc e ⟨v,u,z⟩=>?_);cases c with|true=>exact hb w x e y v Q u z|false=>exact⟨v,u,z⟩
theorem ec(f:PT X a g)(hb:PW X (.BoolOp .Or (b::k) pos) n):PW X (.BoolOp .Or (a::b::k) pos) (Gv g n):=by
 intro w x s y H Q I h;refine isTrue_or (NB (f x s y H _ I h) λc e ⟨v,u,z⟩=>?_);cases c with|true=>exact⟨v,u,z⟩|false=>exact hb w x e y v Q u z
theorem Gg(z:PT X a g):PT X (.UnaryOp .Not a pos) (Uq g):=by intro x s y H Q I h;exact isTrue_not (z x s y H (λc u=>Q (!c) u) I h)
def Bl(ta d:TE):TE:=λh H Q=>ta h H λx y=>∃c,x=.bl c/\if c=true then d h y Q else Q (.bl false) y
def Xq(ta d:TE):TE:=λh H Q=>ta h H λx y=>∃c,x=.bl c/\if c=true then Q (.bl true) y else d h y Q
theorem Y3{op}{t:TE}(h:PE X a t):PE X (.BoolOp op [a] pos) t:=λx s y H Q I z=>BoolOp_one (h x s y H Q I z)
theorem C3(j:PE X a ta)(hb:PE X (.BoolOp .And (b::k) pos) d):PE X (.BoolOp .And (a::b::k) pos) (Bl ta d):=by
 intro y s u H Q I h;refine BoolOp_and (NB (j y s u H _ I h) λv f ⟨x,e,w,i,z⟩=>?_);obtain⟨c,rfl,z⟩:=z;cases i;refine wT ?_;cases c with|true=>exact hb y f u e Q w z|false=>exact⟨.bl false,e,w,rfl,z⟩
theorem Zc(j:PE X a ta)(hb:PE X (.BoolOp .Or (b::k) pos) d):PE X (.BoolOp .Or (a::b::k) pos) (Xq ta d):=by
 intro y s u H Q I h;refine BoolOp_or (NB (j y s u H _ I h) λv f ⟨x,e,w,i,z⟩=>?_);obtain⟨c,rfl,z⟩:=z;cases i;refine wT ?_;cases c with|false=>exact hb y f u e Q w z|true=>exact⟨.bl true,e,w,rfl,z⟩
end
def RC(K:QC)(H:Hp)(a:Addr)(xs:LV):Prop :=
 Rd H a (.lst xs) ∨
  ∃(o:Obj) (h:Array Value) (n:Nat),K.lookup a=some o/\o.cls=.type "list"/\o.dict=none/\o.data=.seq h n/\h.size<=sizeLine/\nA xs h.toList
def GD(K:QC)(H:Hp)(a:Addr)(xs:LV):Prop :=
 Rd H a (.tup xs) ∨
  ∃(o:Obj) (h:Array Value) (n:Nat),K.lookup a=some o/\o.cls=.type "tuple"/\o.data=.seq h n/\h.size<=sizeLine/\nA xs h.toList
def kN:Value->Option V
 | .none=>some .non|.bool b=>some (.bl b)|.int i _=>some (.int i)|.str x _=>some (.str x)|.bytes b _=>some (.byt b)|.float b _=>some (.flt b)|.ref a=>some (.ref a)|.type n=>some (.ty n)|_=>none
theorem rA.abs{x:V}{u:Value}(r:rA x u):kN u=some x:=by
 cases x with|non=>cases r;rfl|bl _=>cases r;rfl|int _=>obtain⟨t,rfl⟩:=r;rfl|str _=>obtain⟨t,rfl⟩:=r;rfl|byt _=>obtain⟨t,rfl⟩:=r;rfl|flt _=>obtain⟨t,rfl⟩:=r;rfl|ref _=>cases r;rfl|ty _=>cases r;rfl
theorem rA.inj{x y:V}{u:Value}(r:rA x u)(q:rA y u):x=y:=Qn (r.abs.symm.trans q.abs)
theorem nA.inj:∀{xs h:LV}{us:LW},nA xs us->nA h us->xs=h
 |_,_,_,.nil,.nil=>rfl|_,_,_,.cons r t,.cons r' t'=>by rw[r.inj r',nA.inj t t']
section
variable{X:Cx}{x:AB}{σ:St}{H:Hp}{s:Shared}{a:Addr}{xs y:LV}
theorem RC.of{K:QC}(h:H a=some (.lst xs)):RC K H a xs:=.inl (.inl h)
theorem GD.of{K:QC}(h:H a=some (.tup xs)):GD K H a xs:=.inl (.inl h)
theorem Inv.list(I:Inv X x σ H s)(h:RC X.K H a xs):∃its:LW,nA xs its/\PlainL s.heap a its.toArray/\xs.length<=sizeLine:=by
 rcases h with h|⟨o,its,n,hk,hc,v,u,w,r⟩
 obtain⟨z,its,n,r,e⟩:=h.ok I.hok;exact⟨its,r,⟨_,n,e,rfl,rfl,rfl⟩,z⟩;refine⟨its.toList,r,⟨o,n,I.kIn a o hk,hc,v,by simpa using u⟩,?_⟩;have e:=r.length;simp only[Qt]at e;omega
theorem Inv.tuple(I:Inv X x σ H s)(h:GD X.K H a xs):∃its:LW,nA xs its/\IsTup s.heap a its.toArray/\xs.length<=sizeLine:=by
 rcases h with h|⟨o,its,n,hk,hc,u,v,r⟩
 obtain⟨z,its,r,p⟩:=h.ok I.hok;exact⟨its,r,p,z⟩;refine⟨its.toList,r,⟨o,I.kIn a o hk,hc,n,by simpa using u⟩,?_⟩;have e:=r.length;simp only[Qt]at e;omega
theorem Inv.list_inj(I:Inv X x σ H s)(h:RC X.K H a xs)(h':RC X.K H a y):xs=y:=by
 obtain⟨u,r,⟨o,n,e,_,_,d⟩,_⟩:=I.list h;obtain⟨z,k,⟨b,f,v,_,_,w⟩,_⟩:=I.list h';rw[e]at v;cases v;rw[d]at w;injection w with d1 _;have:u=z:=by simpa using congrArg Array.toList d1
 subst this;exact r.inj k
theorem Inv.tuple_inj(I:Inv X x σ H s)(h:GD X.K H a xs)(h':GD X.K H a y):xs=y:=by
 obtain⟨u,r,⟨o,e,_,n,d⟩,_⟩:=I.tuple h;obtain⟨z,k,⟨b,v,_,f,w⟩,_⟩:=I.tuple h';rw[e]at v;cases v;rw[d]at w;injection w with d1 _;have:u=z:=by simpa using congrArg Array.toList d1
 subst this;exact r.inj k
end
noncomputable abbrev Cx.wish(X:Cx)(E:pC):Cx:={ X with xe:=E }
noncomputable abbrev Cx.nox(X:Cx):Cx:=X.wish λ_ _=>False
theorem Cx.Ok.wish{X:Cx}(ok:X.Ok)(E:pC):(X.wish E).Ok :=
 ⟨ok.mod,ok.kind,ok.glob,ok.blt,ok.above,ok.inj,ok.has,ok.cab,ok.hd,ok.frames,ok.stk,ok.exf,ok.bs,ok.bsz,ok.noex,ok.exfs,ok.funs,ok.frf,ok.tb⟩
theorem Cx.Ok.unwish{X:Cx}{E:pC}(ok:(X.wish E).Ok):X.Ok :=
 ⟨ok.mod,ok.kind,ok.glob,ok.blt,ok.above,ok.inj,ok.has,ok.cab,ok.hd,ok.frames,ok.stk,ok.exf,ok.bs,ok.bsz,ok.noex,ok.exfs,ok.funs,ok.frf,ok.tb⟩
section
variable{X:Cx}{x:AB}{σ:St}{H:Hp}{s:Shared}{E:pC}
theorem Inv.wish(I:Inv X x σ H s)(E:pC):Inv (X.wish E) x σ H s:=⟨I.ok.wish E,I.os,I.bare,I.base,I.loc,I.cell,I.free,I.freeC,I.pin,I.hok,I.len⟩
theorem Inv.unwish(I:Inv (X.wish E) x σ H s):Inv X x σ H s:=⟨I.ok.unwish,I.os,I.bare,I.base,I.loc,I.cell,I.free,I.freeC,I.pin,I.hok,I.len⟩
theorem SP.unwish{D:Ends}{f:Flow}{s':Shared}(h:SP (X.wish E) x D f s'):SP X x D f s':=by
 cases f with|next=>obtain⟨y,z,I,q⟩:=h;exact⟨y,z,I.unwish,q⟩|brk=>obtain⟨y,z,I,q⟩:=h;exact⟨y,z,I.unwish,q⟩|cont=>obtain⟨y,z,I,q⟩:=h;exact⟨y,z,I.unwish,q⟩|ret u=>obtain⟨v,y,z,I,r,q⟩:=h;exact⟨v,y,z,I.unwish,r,q⟩
theorem RV.nox{st:List Stmt}{t:TS}(h:RV X.nox st t):RV X st t:=λx s σ H D I y =>
 qi (h x s σ H D (I.wish _) y) (λ_ _ q=>q.unwish) λ_ _ z=>Qd z
end
section
variable{X:Cx}{st:Stmt}{y:List Stmt}{t u:TS}{e:Expr}{te:TE}{pos:Pos}
def Vl:TS:=λD h H=>D.nx h H
def Kq(t u:TS):TS:=λD h H=>t { D with nx:=u D } h H
theorem K8:RV X [] Vl:=λ_ _ x H _ I h=>W6 ⟨x,H,I,h⟩
theorem G2(b:PS X st t)(a:RV X y u):RV X (st::y) (Kq t u):=by
 intro x s w H D I h;refine QB8 (NB (b x s w H { D with nx:=u D } I h) λf k q=>?_);cases f with|next=>obtain⟨z,i,g,q⟩:=q;exact a x k z i D g q|ret v=>exact q|brk=>exact q|cont=>exact q
theorem YW(w:PS X st t):RV X [st] t:=by
 intro x s z H D I h;refine QB8 (NB (w x s z H D I h) λf k q=>?_);cases f with|next=>exact W6 q|ret v=>exact q|brk=>exact q|cont=>exact q
theorem Inv.quiet{h:AB}{σ:St}{H:Hp}{s:Shared}(I:Inv X h σ H s):interactive X.env=false:=by simp[interactive,I.ok.kind]
def Xl(te:TE):TS:=λD h H=>te h H λ_ x=>D.nx h x
theorem KW(b:PE X e te)(a:swapsWith e none pos.line X.env=pure false:=by rfl):PS X (.Expr e pos) (Xl te):=by intro z s w H D I h;exact wpAny_Expr_any (NB (b z s w H _ I h) λv i ⟨x,g,f,j,k⟩=>⟨w,g,f,k⟩) I.quiet a
def Vq(te:TE):TS:=λD h H=>te h H D.rt
theorem O2(b:PE X e te):PS X (.Return (some e) pos) (Vq te):=by intro z s w H D I h;exact wpAny_Return_some (NB (b z s w H _ I h) λv i ⟨x,g,f,k,a⟩=>⟨x,w,g,f,k,a⟩)
def Cq(c:TT)(t u:TS):TS:=λD h H=>c h H λb x=>if b=true then t D h x else u D h x
theorem im{c:Expr}{a b:List Stmt}{tc:TT}(hc:PT X c tc)(g:RV X a t)(hb:RV X b u):PS X (.If c a b pos) (Cq tc t u):=by
 intro x s z H D I h;refine wpAny_If (NB (hc x s z H _ I h) λd v ⟨f,k,w⟩=>?_);cases d with|true=>exact g x v z f D k w|false=>exact hb x v z f D k w
end
noncomputable abbrev TG:=V->St->Hp->(St->Hp->Prop)->Prop
noncomputable abbrev Yt:=LV->St->Hp->(St->Hp->Prop)->Prop
def PG(X:Cx)(h:Expr)(t:TG):Prop :=
 ∀(x:AB) (s:Shared) (z:St) (H:Hp) (v:V) (u:Value) (Q:St->Hp->Prop),Inv X x z H s->rA v u->t v z H Q ->
  wpAny (model X.prog X.w) X.A (assign h X.env u) (λ_ a=>∃y k,Inv X x y k a/\Q y k) X.xe s
def Gu(X:Cx)(ts:List Expr)(t:Yt):Prop :=
 ∀(h:AB) (s:Shared) (y:St) (H:Hp) (z:LV) (u:LW) (Q:St->Hp->Prop),Inv X h y H s->nA z u->t z y H Q ->
  wpAny (model X.prog X.w) X.A (assignInOrder ((assignEach ts X.env).map (·.2)) u) (λ_ k=>∃x v,Inv X h x v k/\Q x v) X.xe s
noncomputable abbrev Gj:=V->V->V->Hp->(Hp->Prop)->Prop
def Gb(X:Cx)(t:Gj):Prop :=
 ∀(h:AB) (s:Shared) (x:St) (H:Hp) (o i v:V) (y z u:Value) (Q:Hp->Prop),Inv X h x H s->rA o y->rA i z->rA v u->t o i v H Q ->
  wpAny (model X.prog X.w) X.A (setItem y z u) (λ_ a=>∃k,Inv X h x k a/\Q k) X.xe s
section
variable{X:Cx}{pos:Pos}
section
variable{i:Nat}{x:Str}{e:Expr}{te:TE}
def mX(i:Nat):TG:=λv h H Q=>Q (h.set i (some v)) H
theorem BW(a:X.N.Nodup)(w:X.N[i]?=some x)(z:Xk X.env.scope x)(k:X.fn x=true∨X.env.scope.names.lookup x=some .local):PG X (.Name x pos) (mX i):=by intro y s f H v u Q I r h;exact QBo (gR I a w z r (λg b=>⟨_,H,b,h⟩) k)
def Xs(K:QC)(n:Nat)(t:Yt):TG:=λv y H Q=>∃a h,v=.ref a/\GD K H a h/\h.length=n/\t h y H Q
theorem Sg{es:List Expr}{k:Nat}{t:Yt}{n:Nat}(hc:X.calm=true)(h:Gu X es t)
  (Y:(assignEach es X.env).length=n:=by rfl) (w:(assignEach es X.env).findIdx? (·.1)=none:=by rfl):PG X (.Tuple es k pos) (Xs X.K n t):=by
 intro y s f H v u Q I r z;obtain⟨a,j,W,q,hl,z⟩:=z;subst W;cases r;obtain⟨l,g,p,B⟩:=I.tuple q;refine assign_Tuple_tuple (I.ok.hd hc) p (by simp[Y,<- hl,g.length]) w λZ m=>?_;have A:Inv X y f H { s with heap:=Z }:=I.kept (t':=s.toks) λb o e=>m b o (Qi (QW e)) e;exact h y _ f H j _ Q A (by simpa using g) z
def Us(y z:TE)(t:Gj):TG:=λv h H Q=>y h H λo k=>z h k λi w=>t o i v w λu=>Q h u
theorem Ag{o i:Expr}{b f:TE}{t:Gj}(Z:PE X o b)(W:PE X i f)(Y:Gb X t)
  (K:∀v,assign (.Subscript o i pos) X.env v=(do
   let w <- holding [v] (eval o X.env)
   let k <- holding [v,w] (eval i X.env)
   standAt pos
   holding [v,w,k] (setItem w k v)
   release [v,w,k] []):=by intro _;rfl):PG X (.Subscript o i pos) (Us b f t):=by
 intro z s a H v u Q I r h;rw[K];refine QA (qU (NB (Z z s a H _ I h) λw j ⟨x,G,C,m,q⟩=>?_));refine QA (qU (NB (W z j a G _ C q) λk g ⟨y,F,B,l,p⟩=>?_));refine QA (QBf (QA (qU (NB (Y z g a F x y v w k u _ B m l r p) λ_ J ⟨E,A,n⟩=>?_))));exact wpAny_release ⟨a,E,A,n⟩
def yg(te:TE)(g:TG):TS:=λD h H=>te h H λx y=>g x h y D.nx
theorem Ng{z:Expr}{g:TG}(l:PE X e te)(j:PG X z g)(f:swapsWithSole [z] e pos.line X.env=pure false:=by rfl)(b:swappedStores [z] e X.env=pure none:=by rfl)
  (m:(assignEach [z] X.env).map (·.2)=[assign z X.env]:=by rfl):PS X (.Assign [z] e pos) (yg te g):=by
 intro y s u H D I h;refine wpAny_Assign_stores (NB (l y s u H _ I h) λv w ⟨x,o,n,k,a⟩=>?_) f b;rw[m];exact NB (j y w u o x v _ n k a) λ_ p q=>q
theorem Hg{pos':Pos}(l:X.N.Nodup)(f:X.N[i]?=some x)(a:Xk X.env.scope x)(j:PE X e te)(b:swapsWith e (some (.Name x pos')) pos.line X.env=pure false:=by rfl)(g:X.fn x=true∨X.env.scope.names.lookup x=some .local) :
  PS X (.Assign [.Name x pos'] e pos) (yg te (mX i)):=by
 intro z s u H D I h;refine wpAny_Assign_Name (NB (j z s u H _ I h) λv q ⟨y,o,n,w,k⟩=>?_) b;exact gR n l f a w (λp m=>⟨_,o,m,k⟩) g
end
end
section
variable{X:Cx}{pos:Pos}
def C0(c:TT)(tb:TS):TS:=λD h H=>∃W:Nat->St->Hp->Prop,(∃m,W m h H)/\∀m h H,W m h H ->
 c h H λb z=>if b=true then ∃N:St->Hp->Prop,(∀x u,N x u->∃y,y < m/\W y x u)/\tb { D with nx:=N,ct:=N,bk:=D.nx } h z else D.nx h z
theorem N2{c:Expr}{body:List Stmt}{tc:TT}{tb:TS}(p:PassesOwn (model X.prog X.w) X.A X.env X.xe)(hc:PT X c tc)(hb:RV X body tb):PS X (.While c body [] pos) (C0 tc tb):=by
 intro y s B H D I h;obtain⟨W,⟨L,E⟩,k⟩:=h;refine wpAny_While (codeAny_whileLoop (λn J=>∃u K,Inv X y u K J/\W n u K) ?_ L ⟨B,H,I,E⟩);rintro n G ⟨z,Z,M,C⟩;refine wU p (NB (hc y G z Z _ M (k n z Z C)) λb F ⟨Y,r,g⟩=>?_);cases b with
 |true =>
  obtain⟨N,q,g⟩:=g;rw[if_pos rfl];refine wU p (NB (hb y F z Y _ r g) λf O e=>?_);cases f with|next=>obtain⟨x,a,o,j⟩:=e;obtain⟨l,m,i⟩:=q x a j;exact⟨l,m,x,a,o,i⟩|cont=>obtain⟨x,a,o,j⟩:=e;obtain⟨l,m,i⟩:=q x a j;exact⟨l,m,x,a,o,i⟩|brk=>exact e|ret v=>exact e
 |false=>rw[if_neg QG];exact W6 ⟨z,Y,r,g⟩
end
section
variable{s:Shared}{y:Expr}{P:Program}{w:World}{K:QC}
structure It where
 go:Nat->Hp->Prop
 yld:Nat->Hp->V->Hp->Prop
 stop:Nat->Hp->Prop
def lJ(X:Cx)(h:AB)(H:Hp)(b:Addr):Prop :=
 H b=none/\b≠X.env.locals/\b∉X.fs/\(b∈X.ex∨X.s₀.heap.objs.size<=b)/\(∀x c,X.env.cells.lookup x=some c->c≠b)/\∀p∈X.pn++h,p.1≠b
theorem Inv.fpOk{X:Cx}{h:AB}{σ:St}{H u:Hp}{b:Addr}(I:Inv X h σ H s)(hb:s.heap.objs.size<=b)(a:u b=none):lJ X h u b:=by refine⟨a,wH (Qk I.lt hb),I.nofs hb,.inr (QY I.sz hb),λx c e z=>?_,λp k z=>?_⟩;obtain⟨v,q⟩:=I.cell x c e;exact absurd (Qk q.lt (by rw[z];exact hb)) (qw _);exact absurd (Qk (QW (I.pin p k).1) (by rw[z];exact hb)) (qw _)
structure Turn0(P:Program)(w:World)(K:QC)(y:Expr)(J:It)(fp:List Addr)(it:Addr)(tn:Nat->Heap->Prop):Prop where
 mem:it∈fp
 obj:∀i h,tn i h->∀b∈fp,∃o,h.get? b=some o/\∀v,o.data≠.cell v
 keep:∀i h h',tn i h->(∀b∈fp,∀o,h.get? b=some o->h'.get? b=some o)->tn i h'
 item:∀(X:Cx),X.prog=P->X.w=w->X.K=K->X.calm=true->∀(i:Nat) (pins:AB) (s:Shared) (σ:St) (H:Hp) (E:pC),Inv X pins σ H s->(∀b∈fp,lJ X pins H b)->tn i s.heap->J.go i H ->
  wpAny (model P w) X.A (pyNext (.ref it)) (λr s1=>∃u,r=some u /\
   wpAny (model P w) X.A (letOwnedTupleGo y (.ref it) u) (λ_ s2=>∃x H',Inv X pins σ H' s2/\rA x u/\J.yld i H x H'/\tn (i+1) s2.heap/\∀b∈fp,H' b=none) E s1) E s
 done:∀(X:Cx),X.prog=P->X.w=w->X.K=K->X.calm=true->∀(i:Nat) (pins:AB) (s:Shared) (σ:St) (H:Hp) (E:pC),Inv X pins σ H s->(∀b∈fp,lJ X pins H b)->tn i s.heap->J.stop i H ->
  wpAny (model P w) X.A (pyNext (.ref it)) (λr s1=>r=none/\Inv X pins σ H s1) E s
structure Turn(P:Program)(w:World)(K:QC)(y:Expr)(J:It)(fp:List Addr)(it:Addr)(tn:Nat->Heap->Prop):Prop extends Turn0 P w K y J fp it tn where
 self:∀(A:Around) (i:Nat) (s:Shared) (Q:pC) (E:pC),tn i s.heap->Q (.ref it) s->wpAny (model P w) A (pyIter (.ref it)) Q E s
noncomputable abbrev TI:=St->Hp->(It->Hp->Prop)->Prop
def Kt(X:Cx)(h:AB)(σ:St)(y:Expr)(R:It->Hp->Prop)(x:Value)(u:Shared):Prop :=
 ∃(it:Addr) (v:List Addr) (tn:Nat->Heap->Prop) (J:It) (z:Hp),x=.ref it/\Inv X h σ z u/\Turn X.prog X.w X.K y J v it tn/\tn 0 u.heap/\(∀b∈v,lJ X h z b)/\R J z
def PI(X:Cx)(y x:Expr)(u:TI):Prop :=
 ∀(h:AB) (s:Shared) (z:St) (H:Hp) (R:It->Hp->Prop),Inv X h z H s->u z H R ->
  wpAny (model X.prog X.w) X.A (eval x X.env) (λv k=>wpAny (model X.prog X.w) X.A (pyIter v) (Kt X h z y R) X.xe k) X.xe s
def Zt(X:Cx)(h:AB)(σ:St)(y:Expr)(R:It->Hp->Prop)(x:Value)(u:Shared):Prop :=
 ∃(it:Addr) (v:List Addr) (tn:Nat->Heap->Prop) (J:It) (z:Hp),x=.ref it/\Inv X h σ z u/\Turn0 X.prog X.w X.K y J v it tn/\tn 0 u.heap/\(∀b∈v,lJ X h z b)/\R J z
def kq(X:Cx)(y x:Expr)(u:TI):Prop :=
 ∀(h:AB) (s:Shared) (z:St) (H:Hp) (R:It->Hp->Prop),Inv X h z H s->u z H R ->
  wpAny (model X.prog X.w) X.A (eval x X.env) (λv k=>wpAny (model X.prog X.w) X.A (pyIter v) (Zt X h z y R) X.xe k) X.xe s
theorem PI.to0{X:Cx}{z:Expr}{k:TI}(h:PI X y z k):kq X y z k:=λu s a H R I q =>
 qi (h u s a H R I q) (λv m f=>qi f (λb l ⟨it,g,tn,J,j,e,i,T,r⟩=>⟨it,g,tn,J,j,e,i,T.toTurn0,r⟩) λ_ _ x=>x) λ_ _ x=>x
theorem go_of{M:Model}{A:Around}{E:pC}{it:Addr}{u:Value}{o:Obj}{n:String}{vs:Array Value}{Q:Unit->Shared->Prop}(z:s.heap.get? it=some o)(hc:o.cls=.type n)(k:o.data=.fields vs)
    (v:["enumerate","zip","dict_itemiterator","dict_reverseitemiterator","odict_iterator","itertools.zip_longest","itertools.pairwise"].contains n=false) (x:Q () s):wpAny M A (letOwnedTupleGo y (.ref it) u) Q E s:=by
  unfold letOwnedTupleGo;cases y<;>first
    |exact QK x
    | (cases u<;>first
        |exact QK x
        | (refine QA (wpAny_load z ?_)
           rw[hc,k];show wpAny M A (if(["enumerate","zip","dict_itemiterator","dict_reverseitemiterator","odict_iterator","itertools.zip_longest","itertools.pairwise"].contains n&&vs[0]?==some (rawInt _))=true then _ else _) Q E s;rw[if_neg (by intro h;rw[v,QAQ]at h;cases h)];exact QK x))
def pv(K:QC)(a:Addr):It :=
 ⟨λi H=>∃h x,RC K H a h/\h[i]?=some x,λi H x z=>z=H/\∀h,RC K H a h->h[i]?=some x,λi H=>∃h,RC K H a h/\h.length<=i⟩
def gv(K:QC)(a:Addr):It :=
 ⟨λi H=>∃h x,GD K H a h/\h[i]?=some x,λi H x z=>z=H/\∀h,GD K H a h->h[i]?=some x,λi H=>∃h,GD K H a h/\h.length<=i⟩
def Nt(h:Int)(n:Nat):It:=⟨λi _=>i<n,λi H x z=>z=H/\x=.int (h+i),λi _=>n<=i⟩
theorem yY(a it:Addr):Turn P w K y (pv K a) [it] it (λi h=>h.IsListIter it a i) where
 mem:=by simp
 obj:=λi h st b hb=>by
  have e:b=it:=by simpa using hb
  subst e;obtain⟨o,e,c,d⟩:=st;exact⟨o,e,λv z=>by rw[d]at z;cases z⟩
 keep:=λi h m st k=>st.at λo e=>k it (by simp) o e
 item:=by intro X W Y A hc i f s L H E I l st Z;subst W Y A;obtain⟨M,x,j,r⟩:=Z;obtain⟨q,n,p,Q⟩:=I.list j;obtain⟨u,S,O⟩:=n.get r;obtain⟨J,G,f2,F,C,B⟩:=l it (by simp);refine wpAny_pyNext_list_item st p.isList (x:=u) (by simpa using S) λm g N=>?_;have I1:Inv X f L H { s with heap:=m }:=I.turned (t':=s.toks) (λb o hb e=>(N.2 b hb).trans e) J G F C B;obtain⟨o,e,c,d⟩:=id g;exact⟨u,rfl,go_of (s:={ s with heap:=m }) e c d (by decide) ⟨x,H,I1,O,⟨rfl,λys R=>by rw[I.list_inj R j];exact r⟩,g,λb hb=>(l b hb).1⟩⟩
 done:=by intro X W Y A hc i f s L H E I l st Z;subst W Y A;obtain⟨M,j,r⟩:=Z;obtain⟨q,n,p,Q⟩:=I.list j;obtain⟨J,G,f2,F,C,B⟩:=l it (by simp);have hl:=n.length;exact wpAny_pyNext_list_end (I.ok.hd hc) st p.isList (by simp;omega) λm eb=>⟨rfl,I.turned (t':=s.toks) (λb o hb e=>eb b o hb e) J G F C B⟩
 self:=λ_ _ _ _ _ st h=>wpAny_pyIter_listiter st h
theorem xU(a it:Addr):Turn P w K y (gv K a) [it] it (λi h=>h.IsTupleIter it a i) where
 mem:=by simp
 obj:=λi h st b hb=>by
  have e:b=it:=by simpa using hb
  subst e;obtain⟨o,e,c,d⟩:=st;exact⟨o,e,λv z=>by rw[d]at z;cases z⟩
 keep:=λi h n st k=>st.at λo e=>k it (by simp) o e
 item:=by intro X W Y A hc i f s L H E I m st Z;subst W Y A;obtain⟨M,x,l,r⟩:=Z;obtain⟨g,q,p,Q⟩:=I.tuple l;obtain⟨u,S,O⟩:=q.get r;obtain⟨J,G,f2,F,C,B⟩:=m it (by simp);refine wpAny_pyNext_tuple_item st (show s.heap.IsTuple a g.toArray from p) (x:=u) (by simpa using S) λn j N=>?_;have I1:Inv X f L H { s with heap:=n }:=I.turned (t':=s.toks) (λb o hb e=>(N.2 b hb).trans e) J G F C B;obtain⟨o,e,c,d⟩:=id j;exact⟨u,rfl,go_of (s:={ s with heap:=n }) e c d (by decide) ⟨x,H,I1,O,⟨rfl,λys R=>by rw[I.tuple_inj R l];exact r⟩,j,λb hb=>(m b hb).1⟩⟩
 done:=by intro X W Y A hc i f s L H E I m st Z;subst W Y A;obtain⟨M,l,r⟩:=Z;obtain⟨g,q,p,Q⟩:=I.tuple l;obtain⟨J,G,f2,F,C,B⟩:=m it (by simp);have hl:=q.length;exact wpAny_pyNext_tuple_end (I.ok.hd hc) st (show s.heap.IsTuple a g.toArray from p) (by simp;omega) λn eb=>⟨rfl,I.turned (t':=s.toks) (λb o hb e=>eb b o hb e) J G F C B⟩
 self:=λ_ _ _ _ _ st h=>wpAny_pyIter_tupleiter st h
theorem uU(it:Addr)(a:Int)(n:Nat):Turn P w K y (Nt a n) [it] it (λi h=>IsRangeIter h it (a+(i:Nat) * 1) ((n:Int) - (i:Nat)) 1) where
 mem:=by simp
 obj:=λi h st b hb=>by
  have e:b=it:=by simpa using hb
  subst e;exact⟨_,st,λv z=>by have F:Data.fields _=Data.cell v:=z;cases F⟩
 keep:=λi h g st k=>k it (by simp) _ st
 item:=by intro X m j p hc i x s B H E I f st l;subst m j p;obtain⟨A,Z,J,Y,r,q⟩:=f it (by simp);have W:=Walks.range (prog:=X.prog) (w:=X.w) (I.ok.hd hc) it a 1 n;refine W.item i s _ _ l st λv g C hv u G=>?_;obtain⟨t,rfl⟩:=hv;have M:Inv X x B H { s with heap:=g,toks:=C }:=I.turned (λb o hb e=>G b o (by simpa using hb) e) A Z Y r q;refine⟨_,rfl,go_of (s:={ s with heap:=g,toks:=C }) (n:="range_iterator") u rfl rfl (by decide) ⟨.int (a+i),H,M,⟨t,?_⟩,⟨rfl,rfl⟩,u,λb hb=>(f b hb).1⟩⟩;rw[Int.mul_one]
 done:=by intro X m j p hc i x s B H E I f st l;subst m j p;obtain⟨A,Z,J,Y,r,q⟩:=f it (by simp);exact wpAny_pyNext_range_end (I.ok.hd hc) st (by have:n<=i:=l;omega) λg L=>⟨rfl,I.turned (t':=s.toks) (λb o hb e=>L b o hb e) A Z Y r q⟩
 self:=λ_ _ _ _ _ st h=>wpAny_pyIter_rangeiter st h
end
section
variable{X:Cx}{a:Expr}
section
variable{y:AB}{σ:St}{H:Hp}{s:Shared}{k:List Addr}{h:Heap}
theorem U2{R:It->Hp->Prop}{E:pC}{x z:Int}{t u v:Tok}{f:Nat}(I:Inv X y σ H s)(m:-(2 ^ 62)<=x)(l:x<2 ^ 62)(j:-(2 ^ 62)<=z)(i:z<2 ^ 62)
  (q:R (Nt x (z - x).toNat) H):wpAny (model X.prog X.w) X.A (pyIter (.ref s.heap.objs.size)) (Kt X y σ a R) E { s with heap:=s.heap.push { cls:=.type "range",data:=.fields #[.int x t,.int z u,.int 1 v] },toks:=f }:=by
 refine wpAny_pyIter_range (IsRange.new ..) (small_one m l j i) ?_;have g:Inv X y σ H { s with heap:=s.heap.push { cls:=.type "range",data:=.fields #[.int x t,.int z u,.int 1 v] },toks:=f }:=I.kept λb o e=>QH _ e;refine⟨(s.heap.push { cls:=.type "range",data:=.fields #[.int x t,.int z u,.int 1 v] }).objs.size,[(s.heap.push { cls:=.type "range",data:=.fields #[.int x t,.int z u,.int 1 v] }).objs.size],_,_,H,rfl,
  g.kept (t':=f) λb o e=>QH _ e,uU _ x (z - x).toNat,?_,λb hb=>?_,q⟩
 have p:x+((0:Nat):Int) * 1=x:=by simp
 have n:(((z - x).toNat:Nat):Int) - ((0:Nat):Int)=WQ x z 1:=by rw[rangeSize_one];split<;>omega
 show IsRangeIter _ _ (x+((0:Nat):Int) * 1) ((((z - x).toNat:Nat):Int) - ((0:Nat):Int)) 1;rw[p,n];exact QV _ rfl;have e:b=(s.heap.push { cls:=.type "range",data:=.fields #[.int x t,.int z u,.int 1 v] }).objs.size:=by simpa using hb
 subst e;exact g.fpOk (Qb _) (g.hok.fresh (Qb _))
noncomputable def Dq(b:TI)(g:TG)(tb:TS):TS:=λD σ H=>b σ H λJ f=>∃W:Nat->Nat->St->Hp->Prop,(∃m,W 0 m σ f)/\∀i m σ H,W i m σ H ->
 (J.stop i H/\D.nx σ H)∨(J.go i H/\∃N:St->Hp->Prop,(∀z u,N z u->∃w,w < m/\W (i+1) w z u)/\∀x u,J.yld i H x u->g x σ u λv e=>tb { D with nx:=N,ct:=N,bk:=D.nx } v e)
def bM(k:List Addr)(h:Heap):AB:=k.filterMap λb=>(h.get? b).map λo=>(b,o)
theorem IE{b:Addr}{o:Obj}(hb:b∈k)(e:h.get? b=some o):(b,o)∈bM k h:=QBg.mpr ⟨b,hb,by rw[e];rfl⟩
theorem BY{p:Addr×Obj}(x:p∈bM k h):p.1∈k/\h.get? p.1=some p.2:=by
 obtain⟨b,hb,e⟩:=QBg.mp x;cases q:h.get? b with|none=>rw[q]at e;cases e|some o=>rw[q]at e;have z:(b,o)=p:=Qn e;subst z;exact⟨hb,q⟩
theorem Inv.pinned(I:Inv X y σ H s)(f:∀b∈k,lJ X y H b)(w:∀b∈k,∃o,s.heap.get? b=some o/\∀v,o.data≠.cell v):Inv X (y++bM k s.heap) σ H s :=
 I.pins_of λp u=>(Qe.mp u).elim (λz=>I.pin p (QZ _ z)) λz=>by obtain⟨hb,e⟩:=BY z;obtain⟨j,i,g,_⟩:=f p.1 hb;obtain⟨o,x,d⟩:=w p.1 hb;rw[e]at x;cases x;exact⟨e,j,i,g,d⟩
theorem Inv.unpinned{x:AB}(I:Inv X (y++x) σ H s):Inv X y σ H s:=I.pins_of λp z=>I.pin p (QZ _ (Ql _ z))
theorem Lg{q:Expr}{body:List Stmt}{wi:TI}{g:TG}{tb:TS}{pos:Pos}(O:PassesOwn (model X.prog X.w) X.A X.env X.xe)(hc:X.calm=true)(hi:kq X a q wi)(hg:PG X a g)(hb:RV X body tb)
  (hs:∀x,foldedSetIterable q X.env x=pure x:=by intro _;rfl):PS X (.For a q body [] pos) (Dq wi g tb):=by
 intro y s σ H D I h;refine wpAny_For (NB (hi y s σ H _ I h) λv s1 h1=>NB h1 λitv s2 h2=>?_) hs;obtain⟨it,k,tn,J,H2,e,I2,T,S,f2,W,⟨m0,w0⟩,F⟩:=h2;subst e;have p:∀{B:Hp},(∀b∈k,B b=none)->∀b∈k,lJ X y B b:=λhn b hb=>⟨hn b hb,(f2 b hb).2⟩
 refine codeAny_forLoop_any (λn s'=>∃i l B,Inv X y l B s'/\tn i s'.heap/\(∀b∈k,B b=none)/\W i n l B) ?_ m0 ⟨0,σ,H2,I2,S,λb hb=>(f2 b hb).1,w0⟩;rintro n s3 ⟨i,j,Q,I3,L,P,w3⟩;rcases F i n j Q w3 with⟨G,qn⟩| ⟨go,N,hN,step⟩
 refine wU O (NB (T.done X rfl rfl rfl hc i y s3 j Q X.xe I3 (p P) L G) λr s4 ⟨hr,I4⟩=>?_);subst hr;exact W6 ⟨j,Q,I4,qn⟩;refine wU O (NB (T.item X rfl rfl rfl hc i y s3 j Q X.xe I3 (p P) L go) λr s4 ⟨u,hr,h4⟩=>?_);subst hr;refine wU O (NB h4 λ_ s5 ⟨x,H5,I5,r5,y5,E,fr5⟩=>?_);have I5':=I5.pinned (p fr5) (T.obj _ _ E);refine wU O (NB (hg _ s5 j H5 x u _ I5' r5 (step x H5 y5)) λ_ s6 ⟨R,H6,I6,q6⟩=>?_);refine wU O (NB (hb _ s6 R H6 _ I6 q6) λf s7 C=>?_);have Y:∀{z:St}{K:Hp},Inv X (y++bM k s5.heap) z K s7->N z K->∃m,m<n/\∃i l B,Inv X y l B s7/\tn i s7.heap/\(∀b∈k,B b=none)/\W i m l B:=λ{z K} Z M=>by obtain⟨m',hm,w7⟩:=hN z K M;refine⟨m',hm,i+1,z,K,Z.unpinned,T.keep _ _ _ E λb hb o e=>(Z.pin (b,o) (QZ _ (QZ _ (IE hb e)))).1,λb hb=>?_,w7⟩;obtain⟨o,e,d⟩:=T.obj _ _ E b hb;exact(Z.pin (b,o) (QZ _ (QZ _ (IE hb e)))).2.1
 cases f with|next=>obtain⟨z,K,Z,M⟩:=C;exact Y Z M|cont=>obtain⟨z,K,Z,M⟩:=C;exact Y Z M|brk=>obtain⟨z,K,Z,C⟩:=C;exact⟨z,K,Z.unpinned,C⟩|ret v=>obtain⟨x7,z,K,Z,r7,C⟩:=C;exact⟨x7,z,K,Z.unpinned,r7,C⟩
end
end
noncomputable abbrev R2:=V->V->Hp->VK->Prop
def GE(X:Cx)(f:Value->Value->Sem Value)(r:R2):Prop :=
 ∀(h:AB) (s:Shared) (z:St) (H:Hp) (x y:V) (v u:Value) (Q:VK),Inv X h z H s->rA x v->rA y u->r x y H Q ->
  wpAny (model X.prog X.w) X.A (f v u) (EP X h z Q) X.xe s
def sC(X:Cx)(f:Value)(r:LV->Hp->VK->Prop):Prop :=
 ∀(h:AB) (s:Shared) (x:St) (H:Hp) (y:LV) (z:LW) (Q:VK),Inv X h x H s->nA y z->r y H Q ->
  wpAny (model X.prog X.w) X.A (call f z) (EP X h x Q) X.xe s
def Jt(X:Cx)(r:V->Hp->(Bool->Hp->Prop)->Prop):Prop :=
 ∀(h:AB) (s:Shared) (y:St) (H:Hp) (x:V) (v:Value) (Q:Bool->Hp->Prop),Inv X h y H s->rA x v->r x H Q ->
  wpAny (model X.prog X.w) X.A (truthy v) (TP X h y Q) X.xe s
def Zl(r:R2)(ta tb:TE):TE:=λh H Q=>ta h H λx u=>tb h u λy z=>r x y z Q
def rI(C:Int->Int->Prop)(g:Int->Int->V):R2:=λx y H Q=>∃i j,x=.int i/\y=.int j/\C i j/\Q (g i j) H
def i8(g:Int->Int->V):R2:=λx y H Q=>∃i j,x=.int i/\y=.int j/\Q (g i j) H
section
variable{X:Cx}{a b c:Expr}{ta z tc:TE}{pos:Pos}
section
variable{f:Value->Value->Sem Value}{g:Int->Int->Int}
theorem binT(Z:PE X a ta)(hb:PE X b z){k:AB}{s:Shared}{σ:St}{H:Hp}{R:V->V->Hp->Prop}(I:Inv X k σ H s)
  (h:ta σ H λx m=>z σ m λy e=>R x y e) {Q:pC}
  (Y:∀v u l x y e,Inv X k σ e l->rA x v->rA y u->R x y e->wpAny (model X.prog X.w) X.A (f v u) Q X.xe l) :
  wpAny (model X.prog X.w) X.A (eval a X.env) (λv j=>wpAny (model X.prog X.w) X.A (eval b X.env) (λu i=>wpAny (model X.prog X.w) X.A (f v u) Q X.xe i) X.xe j) X.xe s:=by
 refine NB (Z k s σ H _ I h) λv n ⟨x,m,K,p,r⟩=>?_;refine NB (hb k n σ m _ K r) λu l ⟨y,e,W,o,q⟩=>?_;exact Y v u l x y e W p o q
theorem Jm{k:Operator}{r:R2}(m:GE X (binaryOp k) r)(n:PE X a ta)(hb:PE X b z):PE X (.BinOp a k b pos) (Zl r ta z):=by intro w s e H Q I h;exact wpAny_BinOp (binT n hb I h λv u i x y p o l j q=>m w i e p x y v u Q o l j q)
theorem Pv{C:Int->Int->Prop}
  (k:∀(i j:Int) (t u:Tok) (s:Shared) (Q:pC) (E:pC),C i j->Q (.int (g i j) s.toks) { s with toks:=s.toks+1 }->wpAny (model X.prog X.w) X.A (f (.int i t) (.int j u)) Q E s) :
  GE X f (rI C λi j=>.int (g i j)):=by
 intro e s o H x y v u Q I n m h;obtain⟨i,j,rfl,rfl,hc,q⟩:=h;obtain⟨t,rfl⟩:=n;obtain⟨l,rfl⟩:=m;exact k i j t l s _ _ hc ⟨.int (g i j),H,I.tok _,⟨_,rfl⟩,q⟩
theorem Bm
  (k:∀(i j:Int) (t u:Tok) (s:Shared) (Q:pC) (E:pC),Q (.int (g i j) s.toks) { s with toks:=s.toks+1 }->wpAny (model X.prog X.w) X.A (f (.int i t) (.int j u)) Q E s) :
  GE X f (i8 λi j=>.int (g i j)):=by
 intro e s o H x y v u Q I n m h;obtain⟨i,j,rfl,rfl,q⟩:=h;obtain⟨t,rfl⟩:=n;obtain⟨l,rfl⟩:=m;exact k i j t l s _ _ ⟨.int (g i j),H,I.tok _,⟨_,rfl⟩,q⟩
theorem k9{g:Int->Int->Bool}
  (k:∀(i j:Int) (t u:Tok) (s:Shared) (Q:pC) (E:pC),Q (.bool (g i j)) s->wpAny (model X.prog X.w) X.A (f (.int i t) (.int j u)) Q E s) :
  GE X f (i8 λi j=>.bl (g i j)):=by
 intro e s o H x y v u Q I n m h;obtain⟨i,j,rfl,rfl,q⟩:=h;obtain⟨t,rfl⟩:=n;obtain⟨l,rfl⟩:=m;exact k i j t l s _ _ ⟨.bl (g i j),H,I,rfl,q⟩
def zL(i j:Int):Prop:=(-(2 ^ 64)<i/\i<2 ^ 64)∨(-(2 ^ 64)<j/\j<2 ^ 64)
theorem zL.ok{i j:Int}(h:zL i j):IntMulOk i j:=by
 rcases h with⟨y,x⟩| ⟨y,x⟩
 exact .of_left (intBits_le_64 y x);exact .of_right (intBits_le_64 y x)
theorem op_add:GE X (binaryOp .Add) (i8 λi j=>.int (i+j)):=Bm λ_ _ _ _ _ _ _ q=>add_int q
theorem op_sub:GE X (binaryOp .Sub) (i8 λi j=>.int (i - j)):=Bm λ_ _ _ _ _ _ _ q=>sub_int q
theorem op_mod:GE X (binaryOp .Mod) (rI (λ_ j=>0<j) λi j=>.int (i % j)):=Pv λi j _ _ _ _ _ hc q=>by have h:(0:Int)<j:=hc;exact mod_int' (by omega) (by rw[Int.fmod_eq_emod_of_nonneg i (by omega)];exact q)
end
end
noncomputable def u8:V->V->Bool
 | .non,.non=>true | .non,.int _=>true | .int _,.non=>true | .non,.bl _=>true | .bl _,.non=>true | .non,.str _=>true | .str _,.non=>true
 | .int _,.int _=>true | .bl _,.bl _=>true | .str _,.str _=>true | .byt _,.byt _=>true
 | .int _,.str _=>true | .str _,.int _=>true | .bl _,.str _=>true | .str _,.bl _=>true
 |_,_=>false
def rEq:R2:=λx y H Q=>u8 x y=true/\Q (.bl (decide (x=y))) H
def Nv:R2:=λx y H Q=>u8 x y=true/\Q (.bl (!decide (x=y))) H
theorem JX{i j:Int}:decide (V.int i=V.int j)=(i==j):=by rw[Q9];simp
theorem f6{i j:Bool}:decide (V.bl i=V.bl j)=(i==j):=by rw[Q9];simp
theorem iX{i j:Str}:decide (V.str i=V.str j)=(i==j):=by rw[Q9];simp
theorem YX{i j:Array UInt8}:decide (V.byt i=V.byt j)=(i.toList==j.toList):=by rw[Q9];cases i;cases j;simp
section
variable{X:Cx}{a b c:Expr}{ta g tc:TE}{pos:Pos}
section
variable{r:R2}{d:CmpOp}{us:LW}
theorem sA{h:AB}{σ:St}{H:Hp}{s:Shared}{Q:VK}{k x:Bool}(I:Inv X h σ H s)(q:Q (.bl k) H)(e:k=x):EP X h σ Q (.bool x) s:=by subst e;exact⟨.bl k,H,I,rfl,q⟩
theorem op_eq:GE X (compareOp .Eq) rEq:=by
 intro f s l H x y v u Q I e z h;obtain⟨k,q⟩:=h;cases x with
 |non =>
  cases e;cases y with|non=>cases z;exact PySem.EqNone.eq_none_none (sA I q (by simp))|bl j=>cases z;exact PySem.EqNone.eq_none_bool (sA I q (by simp))|int j=>obtain⟨w,rfl⟩:=z;exact PySem.EqNone.eq_none_int (sA I q (by simp))|str j=>obtain⟨w,rfl⟩:=z;exact PySem.EqNone.eq_none_str (sA I q (by simp))|_=>exact absurd (show false=true from k) QG
 |bl i =>
  cases e;cases y with|non=>cases z;exact PySem.EqNone.eq_bool_none (sA I q (by simp))|bl j=>cases z;exact eq_bool (sA I q f6)|str j=>obtain⟨w,rfl⟩:=z;exact PySem.EqMixed.eq_bool_str (sA I q (by simp))|_=>exact absurd (show false=true from k) QG
 |int i =>
  obtain⟨t,rfl⟩:=e;cases y with|non=>cases z;exact PySem.EqNone.eq_int_none (sA I q (by simp))|int j=>obtain⟨w,rfl⟩:=z;exact eq_int (sA I q JX)|str j=>obtain⟨w,rfl⟩:=z;exact PySem.EqMixed.eq_int_str (sA I q (by simp))|_=>exact absurd (show false=true from k) QG
 |str i =>
  obtain⟨t,rfl⟩:=e;cases y with|non=>cases z;exact PySem.EqNone.eq_str_none (sA I q (by simp))|bl j=>cases z;exact PySem.EqMixed.eq_str_bool (sA I q (by simp))|int j=>obtain⟨w,rfl⟩:=z;exact PySem.EqMixed.eq_str_int (sA I q (by simp))|str j=>obtain⟨w,rfl⟩:=z;exact eq_str (sA I q iX)|_=>exact absurd (show false=true from k) QG
 |byt i =>
  obtain⟨t,rfl⟩:=e;cases y with|byt j=>obtain⟨w,rfl⟩:=z;exact PySem.W.eq_bytes (sA I q YX)|_=>exact absurd (show false=true from k) QG
 |_=>cases y<;>exact absurd (show false=true from k) QG
theorem op_ne:GE X (compareOp .NotEq) Nv:=by
 intro f s l H x y v u Q I e z h;obtain⟨k,q⟩:=h;cases x with
 |non =>
  cases e;cases y with|non=>cases z;exact PySem.EqNone.ne_none_none (sA I q (by simp))|bl j=>cases z;exact PySem.EqNone.ne_none_bool (sA I q (by simp))|int j=>obtain⟨w,rfl⟩:=z;exact PySem.EqNone.ne_none_int (sA I q (by simp))|str j=>obtain⟨w,rfl⟩:=z;exact PySem.EqNone.ne_none_str (sA I q (by simp))|_=>exact absurd (show false=true from k) QG
 |bl i =>
  cases e;cases y with|non=>cases z;exact PySem.EqNone.ne_bool_none (sA I q (by simp))|bl j=>cases z;exact ne_bool (sA I q (congrArg not f6))|str j=>obtain⟨w,rfl⟩:=z;exact PySem.EqMixed.ne_bool_str (sA I q (by simp))|_=>exact absurd (show false=true from k) QG
 |int i =>
  obtain⟨t,rfl⟩:=e;cases y with|non=>cases z;exact PySem.EqNone.ne_int_none (sA I q (by simp))|int j=>obtain⟨w,rfl⟩:=z;exact ne_int (sA I q (congrArg not JX))|str j=>obtain⟨w,rfl⟩:=z;exact PySem.EqMixed.ne_int_str (sA I q (by simp))|_=>exact absurd (show false=true from k) QG
 |str i =>
  obtain⟨t,rfl⟩:=e;cases y with|non=>cases z;exact PySem.EqNone.ne_str_none (sA I q (by simp))|bl j=>cases z;exact PySem.EqMixed.ne_str_bool (sA I q (by simp))|int j=>obtain⟨w,rfl⟩:=z;exact PySem.EqMixed.ne_str_int (sA I q (by simp))|str j=>obtain⟨w,rfl⟩:=z;exact ne_str (sA I q (congrArg not iX))|_=>exact absurd (show false=true from k) QG
 |byt i =>
  obtain⟨t,rfl⟩:=e;cases y with|byt j=>obtain⟨w,rfl⟩:=z;exact PySem.W.ne_bytes (sA I q (congrArg not YX))|_=>exact absurd (show false=true from k) QG
 |_=>cases y<;>exact absurd (show false=true from k) QG
theorem op_lt:GE X (compareOp .Lt) (i8 λi j=>.bl (decide (i<j))):=k9 λ_ _ _ _ _ _ _ q=>lt_int q
theorem op_le:GE X (compareOp .LtE) (i8 λi j=>.bl (decide (i<=j))):=k9 λ_ _ _ _ _ _ _ q=>le_int q
theorem op_gt:GE X (compareOp .Gt) (i8 λi j=>.bl (decide (j<i))):=k9 λ_ _ _ _ _ _ _ q=>gt_int q
theorem op_ge:GE X (compareOp .GtE) (i8 λi j=>.bl (decide (j<=i))):=k9 λ_ _ _ _ _ _ _ q=>ge_int q
theorem YY:GE X (compareOp .In) (λx y H Q=>∃i j,x=.str i/\y=.str j/\Q (.bl (!(we j i 0 j.length 1).isEmpty)) H):=by intro z s e H x y v u Q I k w h;obtain⟨i,j,rfl,rfl,q⟩:=h;obtain⟨t,rfl⟩:=k;obtain⟨f,rfl⟩:=w;exact in_str (sA I q rfl)
theorem dh:GE X (compareOp .Is) (λx y H Q=>y=.non/\Q (.bl (decide (x=.non))) H):=by
 intro w s e H x y v u Q I z k h;obtain⟨rfl,q⟩:=h;cases k;refine is_none_gen (sA I q ?_);cases x<;>first
  | (cases z;rfl)
  | (obtain⟨t,rfl⟩:=z;rfl)
theorem y9:GE X (compareOp .IsNot) (λx y H Q=>y=.non/\Q (.bl (!decide (x=.non))) H):=by
 intro w s e H x y v u Q I z k h;obtain⟨rfl,q⟩:=h;cases k;refine isnot_none_gen (sA I q ?_);cases x<;>first
  | (cases z;rfl)
  | (obtain⟨t,rfl⟩:=z;rfl)
theorem UP:GE X (compareOp .NotIn) (λx y H Q=>∃i j,x=.str i/\y=.str j/\Q (.bl (!(!(we j i 0 j.length 1).isEmpty))) H):=by intro z s e H x y v u Q I k w h;obtain⟨i,j,rfl,rfl,q⟩:=h;obtain⟨t,rfl⟩:=k;obtain⟨f,rfl⟩:=w;exact notIn_str (sA I q rfl)
theorem GE.or{f:Value->Value->Sem Value}{i:R2}(h:GE X f r)(h':GE X f i):GE X f (λx y H Q=>r x y H Q∨i x y H Q):=by intro z s w H x y v u Q I e k q;rcases q with q|q;exact h z s w H x y v u Q I e k q;exact h' z s w H x y v u Q I e k q
theorem S8(i:GE X (compareOp d) r)(l:PE X a ta)(hb:PE X b g)(j:behindInMarks d b=false):PE X (.Compare a [d] [b] pos) (Zl r ta g):=by intro z s w H Q I h;exact wpAny_Compare1 (binT l hb I h λv u k x y n m f e q=>i z k w n x y v u Q m f e q) j
def Jl(t:TE):TT:=λh H Q=>t h H λx y=>∃k,x=.bl k/\Q k y
theorem Z8(Y:GE X (compareOp d) r)(W:PE X a ta)(hb:PE X b g)(Z:behindInMarks d b=false):PT X (.Compare a [d] [b] pos) (Jl (Zl r ta g)):=by
 intro w s f H Q I h;refine wpAny_isTrue_Compare1 (NB (W w s f H _ I h) λv j ⟨x,F,B,n,q⟩=>NB (hb w j f F _ B q) λu i ⟨y,E,A,m,p⟩ =>
  NB (Y w i f E x y v u _ A n m p) λc G ⟨z,C,K,l,k,e,o⟩=>?_) Z
 subst e;cases l;exact wT ⟨C,K,o⟩
def Fj(K:QC)(x:V)(H:Hp)(k:Bool):Prop :=
 match x with
 | .non=>k=false|.bl b=>k=b|.int i=>k=(i != 0)|.str y=>y.length<=sizeLine/\k=((y.length:Int) != 0)|.byt y=>y.size<=sizeLine/\k=((y.size:Int) != 0)|.ref p=>(∃h,RC K H p h/\k=!h.isEmpty)∨(∃h,GD K H p h/\k=!h.isEmpty)∨∃z,H p=some (.dK z)/\k=!z.isEmpty|_=>False
theorem zV{h:Type}{kvs:List (h×V)}{vs:List (h×Value)}(r:KV kvs vs):(!vs.isEmpty)=!kvs.isEmpty:=by cases r<;>rfl
theorem XM{xs:LV}{its:LW}(r:nA xs its):(!its.toArray.isEmpty)=!xs.isEmpty:=by cases r<;>simp
theorem CH:(sizeLine:Nat)<2 ^ 63:=by rw[Q5];decide
theorem U0:Jt X (λx H Q=>∃k,Fj X.K x H k/\Q k H):=by
 intro A s F H x v Q I l h;obtain⟨k,e,q⟩:=h;have hl:=CH;have G:sizeLine=16777216:=Q5;cases x with
 |non=>cases l;have z:k=false:=e;subst z;exact truthy_none ⟨H,I,q⟩|bl b=>cases l;have z:k=b:=e;subst z;exact wT ⟨H,I,q⟩|int i=>obtain⟨t,rfl⟩:=l;have z:k=(i != 0):=e;subst z;exact PySem.P.truthy_int ⟨H,I,q⟩|str y=>obtain⟨t,rfl⟩:=l;obtain⟨C,z⟩:y.length<=sizeLine/\k=((y.length:Int) != 0):=e;subst z;exact PySem.P.truthy_str (by omega) ⟨H,I.tok _,q⟩|byt y=>obtain⟨t,rfl⟩:=l;obtain⟨C,z⟩:y.size<=sizeLine/\k=((y.size:Int) != 0):=e;subst z;exact PySem.W.truthy_bytes (by omega) ⟨H,I.tok _,q⟩|ref p =>
  cases l;have z:(∃j,RC X.K H p j/\k=!j.isEmpty)∨(∃j,GD X.K H p j/\k=!j.isEmpty)∨∃u,H p=some (.dK u)/\k=!u.isEmpty:=e;rcases z with⟨j,n,z⟩| ⟨j,n,z⟩| ⟨u,n,z⟩
  subst z;obtain⟨Z,r,Y,B⟩:=I.list n;have f:=r.length;exact wpAny_truthy_list Y.isList (by simp only[QN];omega) ⟨H,I.tok _,by rw[XM r];exact q⟩;subst z;obtain⟨Z,r,Y,B⟩:=I.tuple n;have f:=r.length;exact truthy_tuple Y (by simp only[QN];omega) ⟨H,I.tok _,by rw[XM r];exact q⟩;subst z;obtain⟨B,E,o,r,m⟩:u.length<=sizeLine/\(p==sysModules)=false/\∃o,KV u o/\s.heap.DictOf (GC X.prog X.w) p o:=I.hok p _ n;have f:u.length=o.length:=qI r;exact wpAny_truthy_dict E m (by omega) ⟨H,I.tok _,by rw[zV r];exact q⟩
 |_=>exact(show False from e).elim
theorem eU:GE X (binaryOp .Add) (λx y H Q=>∃i j,x=.str i/\y=.str j/\i.length+j.length<=sizeLine/\Q (.str (i++j)) H):=by intro z s l H x y v u Q I e k h;obtain⟨i,j,rfl,rfl,f,q⟩:=h;obtain⟨t,rfl⟩:=e;obtain⟨w,rfl⟩:=k;exact add_str (λw m=>⟨.str (i++j),H,I.tok _,⟨_,rfl⟩,q⟩) f
theorem IH{x:V}(r:nA [x] us):∃u,us=[u]/\rA x u:=by
 cases r with|cons y h=>cases h;exact⟨_,rfl,y⟩
theorem Eb{x y:V}(r:nA [x,y] us):∃u h,us=[u,h]/\rA x u/\rA y h:=by
 cases r with
 |cons k w =>
  cases w with|cons v z=>cases z;exact⟨_,_,rfl,k,v⟩
theorem JZ:sC X (.type "int") (λxs H Q=>(∃i,xs=[.int i]/\Q (.int i) H)∨∃k,xs=[.bl k]/\Q (.int (if k then 1 else 0)) H):=by
 intro x s z H xs us Q I r h;rcases h with⟨i,rfl,q⟩| ⟨k,rfl,q⟩
 obtain⟨u,rfl,t,rfl⟩:=IH r;exact call_int_int ⟨.int i,H,I,⟨_,rfl⟩,q⟩;obtain⟨u,rfl,y⟩:=IH r;cases y;exact call_int_bool ⟨.int (if k then 1 else 0),H,I.tok _,⟨_,rfl⟩,q⟩
end
end
section
variable{h:Heap}{u:Addr}{v:Str->Option Value}
structure ObjM(h:Heap)(x u C:Addr)(v:Str->Option Value):Prop where
 obj:h.get? x=some (QA2 C u)
 ns:h.Ns1 u v
 ne:u≠x
theorem AY(n:h.Ns1 u v):∃w,h.get? u=some w/\∀name,QBK name w=some (v name):=by
 obtain⟨o,k,l,f,i,hk,_,g⟩:=n;refine⟨o,f,λname=>?_⟩;have e:=g name;unfold nsFind findBy at e;rw[<- Array.find?_toList]at e;unfold QBK;rw[i];dsimp only;split;rename_i y q;rw[q]at e;exact congrArg some e;rename_i q;rw[q]at e;have a:k.toList.any (·.refKey)=false:=by rw[QBp];intro y b;obtain⟨z,t,x⟩:=hk y (Array.mem_toList_iff.mp b);simp[DictEntry.refKey,x]
 have j:¬ k.toList.any (·.refKey)=true:=by rw[a];exact QG
 rw[if_neg j];exact congrArg some e
theorem ObjM.look{x C:Addr}(I:ObjM h x u C v):∃y,PySem.W.InstAt h x (QA2 C u) C (some y)/\∀name,QBK name y=some (v name) :=
 let⟨y,z,hl⟩:=AY I.ns
 ⟨y,⟨I.obj,rfl,rfl,z⟩,hl⟩
end
section
variable{P:Program}{w:World}{H v:Hp}{h h':Heap}{a C y:Addr}{x u:List (Str×V)}
theorem aa(b:fL P w H h)(e:H a=some (.ins C y x)):∃k,ObjM h a y C k/\(∀f,XT (x.lookup f) (k f))/\PySem.Within k (x.map (·.1))/\x.length<=1000/\H y=some (.own a):=by
 obtain⟨d,z,g,ob,k,n,r,q⟩:=(show FA P w H h a (.ins C y x) from b a _ e)
 exact⟨k,⟨ob,n,g⟩,r,q,z,d⟩
end
structure Cls(K:QC)(C:Addr):Prop where
 pg:QB9 K C Str.empty=true
 hd:PySem.W.hasDictIn K C=true
 po:PySem.W.plainOver K C=true
 sa:PySem.W.findIn K (.ref C) "__setattr__"=some (some (.builtin "object.__setattr__"))
theorem Cls.get{K:QC}{C:Addr}(c:Cls K C)(f:Str):QB9 K C f=true:=c.pg
section
variable{X:Cx}{v:AB}{σ:St}{H:Hp}{s:Shared}{A:Around}{E:pC}{Q:pC}{c:Value}{b:Bool}
inductive TyOf(K:QC)(H:Hp):V->Value->Prop where
 |non:TyOf K H .non (.type "NoneType")
 |bl (x:Bool):TyOf K H (.bl x) (.type "bool")
 |int (i:Int):TyOf K H (.int i) (.type "int")
 |str (x:Str):TyOf K H (.str x) (.type "str")
 |flt (x:UInt64):TyOf K H (.flt x) (.type "float")
 |lst {a:Addr}{xs:LV}(e:H a=some (.lst xs)):TyOf K H (.ref a) (.type "list")
 |frz {a:Addr}{o:Obj}{xs:LV}(e:H a=some (.frz o (.lst xs))):TyOf K H (.ref a) (.type "list")
 |tup {a:Addr}{xs:LV}(e:H a=some (.tup xs)):TyOf K H (.ref a) (.type "tuple")
 |dK {a:Addr}{kvs:List (Key×V)}(e:H a=some (.dK kvs)):TyOf K H (.ref a) (.type "dict")
 |dT {a:Addr}{ep:Nat}{kvs:List (NK×Addr×V)}(e:H a=some (.dT ep kvs)):TyOf K H (.ref a) (.type "dict")
 |ins {a C dx:Addr}{fs:List (Str×V)}(e:H a=some (.ins C dx fs)) (cl:Cls K C) (ha:PySem.W.findIn K (.ref C) "__class__"=some (some (.builtin "object.__class__")))
   (hn:PySem.W.specialIn K (.builtin "object.__class__") "__get__"=some (some (.builtin "getset_descriptor.__get__"))) (htk:PySem.W.takesIn K (.builtin "object.__class__")=some true)
   (hm:PySem.W.mroIn K C (.type "object")=some true):TyOf K H (.ref a) (.ref C)
theorem kZ{x:V}{u t:Value}(I:Inv X v σ H s)(k:rA x u)(ty:TyOf X.K H x t)(e:QBL X.K t c=some b)(h:∀B,Q (.bool b) { s with toks:=B }) :
  wpAny (model X.prog X.w) A (call (.builtin "isinstance") [u,c]) Q E s:=by
 cases ty with
 |non=>cases(show u=Value.none from k);exact qJ PySem.W.kitx_none I.kIn True.intro e (λz=>nomatch z) h
 |bl y=>cases(show u=Value.bool y from k);exact qJ PySem.W.kitx_bool I.kIn True.intro e (λz=>nomatch z) h
 |int i=>obtain⟨t,q⟩:=(show ∃t,u=Value.int i t from k);cases q;exact qJ PySem.W.kitx_int I.kIn True.intro e (λz=>nomatch z) h
 |str y=>obtain⟨t,q⟩:=(show ∃t,u=Value.str y t from k);cases q;exact qJ PySem.W.kitx_str I.kIn True.intro e (λz=>nomatch z) h
 |flt y=>obtain⟨t,q⟩:=(show ∃t,u=Value.float y t from k);cases q;exact qJ PySem.W.kitx_float I.kIn True.intro e (λz=>nomatch z) h
 |@lst a l f =>
  cases(show u=Value.ref a from k);obtain⟨_,_,n,_,g⟩:=(show FA X.prog X.w H s.heap a (.lst l) from I.hok a _ f)
  exact qJ QAc I.kIn ⟨_,g,rfl⟩ e (λz=>nomatch z) h
 |@frz a ob l f =>
  cases(show u=Value.ref a from k);obtain⟨_,_,_,n,_,g⟩:=(show FA X.prog X.w H s.heap a (.frz ob (.lst l)) from I.hok a _ f)
  exact qJ QAc I.kIn ⟨_,g,rfl⟩ e (λz=>nomatch z) h
 |@tup a l f =>
  cases(show u=Value.ref a from k);obtain⟨_,_,_,p⟩:=(show FA X.prog X.w H s.heap a (.tup l) from I.hok a _ f)
  obtain⟨o,g,m,_⟩:=p;exact qJ QBh I.kIn ⟨o,g,m⟩ e (λz=>nomatch z) h
 |@dK a j f =>
  cases(show u=Value.ref a from k);obtain⟨_,_,N,_,p⟩:=(show FA X.prog X.w H s.heap a (.dK j) from I.hok a _ f)
  obtain⟨o,M,Y,g,m,_⟩:=p;exact qJ QBq I.kIn ⟨o,g,m.1⟩ e (λz=>nomatch z) h
 |@dT a Y j f =>
  cases(show u=Value.ref a from k);obtain⟨_,_,l,_,o,M,g,m,_⟩:=(show FA X.prog X.w H s.heap a (.dT Y j) from I.hok a _ f)
  exact qJ QBq I.kIn ⟨o,g,m.1⟩ e (λz=>nomatch z) h
 |@ins a C S fs f Z L F r G=>cases(show u=Value.ref a from k);obtain⟨R,O,_⟩:=aa I.hok f;obtain⟨P,J,_⟩:=O.look;exact qJ (PySem.W.kitx_own (Z.get _) Z.hd L F r G) I.kIn J e (λz=>nomatch z) h
end
section
variable{k:Nat}{A:Around}
structure Room(k:Nat)(A:Around):Prop where
 hd:A.handled=none
 dp:A.depth+3 * k+5<recursionLimit
 un:A.units+16 * k+200<cLine
theorem Room.mono{j:Nat}(r:Room k A)(h:j<=k):Room j A:=⟨r.hd,by have:=r.dp;omega,by have:=r.un;omega⟩
theorem Room.deeper(r:Room (k+1) A)(env:Env):Room k (A.deeper env) :=
 ⟨r.hd,by have:=r.dp;show A.depth+1+3 * k+5<_;omega,by have:=r.un;show A.units+3+16 * k+200<_;omega⟩
theorem Room.depth(r:Room k A):A.depth<recursionLimit:=by have:=r.dp;omega
def Kl:TA:=λ_ H Q=>Q [] H
def Ul(ta:TE)(z:TA):TA:=λh H Q=>ta h H λx v=>z h v λy u=>Q (x::y) u
end
section
variable{X:Cx}{e:Expr}{es:List Expr}{te:TE}{t:TA}{pos:Pos}
theorem JP:PA X [] Kl:=λ_ _ _ _ H Q I h=>Wc ⟨[],H,I,.nil,h⟩
theorem sI(j:PE X e te)(i:PA X es t)(g:starEach (e::es) X.env=(false,eval e X.env)::starEach es X.env:=by rfl):PA X (e::es) (Ul te t):=by intro pos y s z H Q I h;rw[g];show wpAny _ _ (spliced ((false,eval e X.env)::backTo pos (starEach es X.env))) _ _ s;refine wv (NB (j y s z H _ I h) λu w ⟨x,o,m,a,f⟩=>?_);exact NB (i pos y w z o _ m f) λp q ⟨v,n,l,k,b⟩=>⟨x::v,n,l,.cons a k,b⟩
def Zq(t:TA):TE:=λy H Q=>t y H λh x=>h.length<=sizeLine/\∀p,x p=none->Q (.ref p) (BA x p (.tup h))
def Bq(t:TA):TE:=λy H Q=>t y H λh x=>h.length<=sizeLine/\∀p,x p=none->Q (.ref p) (BA x p (.lst h))
theorem Ig{x1}(h:PA X es t):PE X (.Tuple es x1 pos) (Zq t):=by intro x s k H Q I g;refine QBR (NB (h pos x s k H _ I g) λf y ⟨a,w,v,r,z,q⟩=>⟨by rw[<- r.length];exact z,?_⟩);have i:w y.heap.objs.size=none:=v.hok.fresh (Qb _);refine⟨.ref y.heap.objs.size,BA w y.heap.objs.size (.tup a),v.laid (t':=y.toks) (λb u e=>QH _ e) (Qb _) ?_,rfl,q _ i⟩;exact⟨z,f,r,⟨_,QV _ rfl,rfl,_,rfl⟩⟩
theorem yh(h:PA X es t):PE X (.List es pos) (Bq t):=by intro x s k H Q I g;refine wpAny_List_spliced (NB (h pos x s k H _ I g) λf y ⟨a,w,v,r,z,q⟩=>⟨by rw[<- r.length];exact z,?_⟩);have i:w y.heap.objs.size=none:=v.hok.fresh (Qb _);refine⟨.ref y.heap.objs.size,BA w y.heap.objs.size (.lst a),v.laid (t':=y.toks) (λb u e=>QH _ e) (Qb _) ?_,rfl,q _ i⟩;exact⟨z,f,0,r,QV _ rfl⟩
end
noncomputable abbrev Sp:=LV->Hp->VK->XK->Prop
noncomputable abbrev m7:=List Env->Hp->Shared->XK->Value->Shared->Prop
structure Env0(P:Program)(w:World)(K:QC)(mg:Str->Option Value)(base:Heap)(A:Around)(outer:List Env)(s:Shared)(H:Hp):Prop where
 frames:A.frames=some outer
 mod:Mod K mg base
 bs:∀b o,base.get? b=some o->s.heap.get? b=some o/\H b=none
 bsz:base.objs.size<=s.heap.objs.size
 funs:s.heap.FunFrames base outer
 frf:∀b∈pX outer,H b=none
 tb:∀P q,SO mg base P q->H P=some (.tbl q)
 hok:fL P w H s.heap
 bare:AllBare s.gens
def CE(outer:List Env)(P:Program)(w:World)(H:Hp)(s:Shared)(Q:VK)(u:Value)(s':Shared):Prop :=
 ∃v h,s'.os=s.os/\AllBare s'.gens/\Un (pX outer) [] H h s.heap s'.heap/\fL P w h s'.heap/\rA v u/\Q v h
def CR(h:m7)(outer:List Env)(P:Program)(w:World)(H:Hp)(s:Shared)(Q:VK)(E:XK)(r:Result)(s':Shared):Prop :=
 match r with
 | .ok (.ret u)=>CE outer P w H s Q u s'|.ok _=>False|.error e=>h outer H s E e s'
structure FnOk(P:Program)(w:World)(K:QC)(mg:Str->Option Value)(base:Heap)(CX:m7)(k:Nat)(f:Addr)(fd:FuncData)(ps:LS)(sp:Sp):Prop where
 len:∀vs H Q E,sp vs H Q E->vs.length=ps.length
 run:∀(A:Around) (outer:List Env) (s:Shared) (H:Hp) (args:Args) (us:LW) (vs:LV) (Q:VK) (E:XK),Room k A->Env0 P w K mg base A outer s H->BindsTo s fd args (ps.zip us)->nA vs us->sp vs H Q E ->
  codeAny (model P w) A (.call (.ref f) args) (CR CX outer P w H s Q E) s
theorem FnOk.mono{P:Program}{w:World}{K:QC}{mg:Str->Option Value}{x:Heap}{a:m7}{j k:Nat}{f:Addr}{v:FuncData}{u:LS}{z:Sp}(F:FnOk P w K mg x a j f v u z)(h:j<=k) :
  FnOk P w K mg x a k f v u z:=⟨F.len,λA y s H args e b Q E g=>F.run A y s H args e b Q E (g.mono h)⟩
section
variable{X:Cx}{x:AB}{σ:St}{H:Hp}{s s':Shared}
theorem Inv.env0(I:Inv X x σ H s):Env0 X.prog X.w X.K X.mg X.base X.A X.stack s H :=
 ⟨I.ok.frames,I.ok.mod,I.bs,QY I.ok.bsz I.sz,I.stack,I.stkFree,I.tb,I.hok,I.bare⟩
theorem Inv.after{Q:VK}{u:Value}(I:Inv X x σ H s)(h:CE X.stack X.prog X.w H s Q u s'):EP X x σ Q u s':=by obtain⟨v,f,a,bare,un,k,r,q⟩:=h;obtain⟨e,g,d,t,y⟩:=s';obtain rfl:y=s.os:=a;exact⟨v,f,I.call (h':=e) (g':=g) (d':=d) (t':=t) (ch:=[]) un k bare (λb z=>absurd z (by simp)),r,q⟩
end
def vc(z:Sp)(h:LV)(E:XK)(t:TA):TE:=λx H Q=>t x H λy u=>z (y++h) u Q E
def mJ(K:QC)(y:FuncData)(x:LS)(ds:LW):Prop :=
 ∀(s:Shared) (h:LW),K.In s.heap->(h++ds).length=x.length->BindsTo s y ⟨h,[]⟩ (x.zip (h++ds))
theorem mJ.all{K:QC}{y:FuncData}{x:LS}(h:∀us:LW,us.length=x.length->bindArgs y ⟨us,[]⟩=pure (x.zip us)):mJ K y x []:=λs us _ hl=>by rw[Q8]at hl ⊢;exact .of_eq (h us hl)
def xN(z:m7)(X:Cx)(E:XK):Prop:=∀(h:AB) (y:St) (H:Hp) (s:Shared) (e:Value) (x:Shared),Inv X h y H s->z X.stack H s E e x->X.xe e x
section
variable{X:Cx}{b:m7}{k:Nat}{f C:Addr}{a:FuncData}{z:LS}{v:Sp}{y:LV}{ds:LW}{E:XK}{x m:Str}{p pos apos:Pos}{e o:Expr}{es:List Expr}{ta:TE}{t:TA}
theorem y2{g:AB}{σ:St}{H:Hp}{s:Shared}{Q:VK}{us:LW}{vs:LV}(F:FnOk X.prog X.w X.K X.mg X.base b k f a z v)(q:Room k X.A)(hb:mJ X.K a z ds)(Y:nA y ds)(n:xN b X E)
  (I:Inv X g σ H s) (r:nA vs us) (h:v (vs++y) H Q E):wpAny (model X.prog X.w) X.A (call (.ref f) us) (EP X g σ Q) X.xe s:=by
 have j:nA (vs++y) (us++ds):=r.append Y;have hl:(us++ds).length=z.length:=by rw[<- j.length];exact F.len _ _ _ _ h
 refine wpAny_call (QB2 (F.run X.A X.stack s H ⟨us,[]⟩ (us++ds) (vs++y) Q E q I.env0 (hb s us I.kIn hl) j h) λr l i=>?_);cases r with
 |error e=>exact n g σ H s e l I i|ok fl =>
  cases fl with|ret u=>exact I.after i|next=>exact Qd i|brk=>exact Qd i|cont=>exact Qd i
theorem T8(F:FnOk X.prog X.w X.K X.mg X.base b k f a z v)(Y:Room k X.A)(B:Gl X x)(Z:X.mg x=some (.ref f))(hk:wL X.K (.ref f)=true)(hb:mJ X.K a z ds)(J:nA y ds)(n:xN b X E)
  (L:PA X (e::es) t) (i:(x==("__debug__":Str))=false:=by decide) (G:starEach (e::es) X.env=(false,eval e X.env)::starEach es X.env:=by rfl) (g:(backTo pos (starEach es X.env)).any (·.1)=false:=by rfl) :
  PE X (.Call (.Name x p) (e::es) [] pos) (vc v y E t):=by
 intro u s l H Q I h;refine wI (fQ I B Z ?_ i);refine PySem.W.callWith_K (h₀:=X.base) I.ok.mod.kin hk (NB (L pos u s l H _ I h) λN O ⟨M,P,j,r,q⟩=>⟨j.kIn,?_⟩) G g;exact y2 F Y hb J n j r q
theorem B3(F:FnOk X.prog X.w X.K X.mg X.base b k f a z v)(j:Room k X.A)(n:Gl X x)(l:X.mg x=some (.ref f))(hk:wL X.K (.ref f)=true)(hb:mJ X.K a z ds)(q:nA y ds)(i:xN b X E)
  (u:(x==("__debug__":Str))=false:=by decide):PE X (.Call (.Name x p) [] [] pos) (vc v y E Kl):=by
 intro g s r H Q I h;refine wI (fQ I n l ?_ u);exact PySem.W.callWith_K0 I.kIn hk (y2 (us:=[]) F j hb q i I .nil h)
end
section
variable{X:Cx}{c:m7}{k:Nat}{f C:Addr}{b:FuncData}{v ks:LS}{u:Sp}{E:XK}{x m:Str}{p pos apos h:Pos}{e o:Expr}{es:List Expr}{y:List Keyword}{te ta:TE}{t z:TA}{w:Option Str}
variable{g:LW->LW->LW}{a:LV->LV->LV}
end
section
variable{l:m7}{P:Program}{w:World}{mg:Str->Option Value}{base:Heap}{j:LS}{g:Str}{d:Scope}{f:Addr}
structure FnScope(N P:LS)(sc:Scope):Prop where
 kind:sc.kind=.function
 co:sc.isCoroutine=false
 gen:sc.isGenerator=false
 nd:N.Nodup
 pre:N.take P.length=P
 par:∀x∈P,sc.names.lookup x=some .local∨sc.names.lookup x=some .cell
 nofree:∀y∈sc.names,y.2≠.free
theorem FO{y:Str->Option NameKind}{x:Str}:∀{binds:List (Str×Value)}{m:Str->Option Value},(∀v,(x,v)∉binds)->bindL y binds m x=m x
 |[],_,_=>rfl|(n,v)::r,m,h=>by
  unfold bindL;rw[FO λw z=>h w (QD _ z)];split;have:x≠n:=by rintro rfl;exact h v QE
  simp[this];rfl
theorem LO{y:Str->Option NameKind}{x:Str}:∀{binds:List (Str×Value)}{m:Str->Option Value},(∀v,(x,v)∉binds)->bindC y binds m x=m x
 |[],_,_=>rfl|(n,v)::r,m,h=>by
  unfold bindC;rw[LO λw z=>h w (QD _ z)];split;rfl;have:x≠n:=by rintro rfl;exact h v QE
  simp[this]
theorem GO{y:Str->Option NameKind}{x:Str}{v:Value}:∀{P:LS}{vs:LW}{i:Nat}{m:Str->Option Value},P.Nodup->P[i]?=some x->vs[i]?=some v->y x=some .local ->
  bindL y (P.zip vs) m x=some v
 |[],_,_,_,_,h,_,_=>by simp at h|_::_,[],_,_,_,_,h,_=>by simp at h|p::P,w::vs,0,m,nd,h1,h2,hk=>by simp at h1 h2;subst h1;subst h2;show bindL y ((p,w)::P.zip vs) m p=_;unfold bindL;rw[FO λv hv=>(Qh.mp nd).1 (QA4 hv).1,if_pos hk];simp|p::P,w::vs,i+1,m,nd,h1,h2,hk=>by show bindL y ((p,w)::P.zip vs) m x=_;unfold bindL;exact GO (i:=i) (Qh.mp nd).2 (by simpa using h1) (by simpa using h2) hk
theorem MO{y:Str->Option NameKind}{x:Str}{v:Value}:∀{P:LS}{vs:LW}{i:Nat}{m:Str->Option Value},P.Nodup->P[i]?=some x->vs[i]?=some v->y x≠some .local ->
  bindC y (P.zip vs) m x=some v
 |[],_,_,_,_,h,_,_=>by simp at h|_::_,[],_,_,_,_,h,_=>by simp at h|p::P,w::vs,0,m,nd,h1,h2,hk=>by simp at h1 h2;subst h1;subst h2;show bindC y ((p,w)::P.zip vs) m p=_;unfold bindC;rw[LO λv hv=>(Qh.mp nd).1 (QA4 hv).1,if_neg hk];simp|p::P,w::vs,i+1,m,nd,h1,h2,hk=>by show bindC y ((p,w)::P.zip vs) m x=_;unfold bindC;exact MO (i:=i) (Qh.mp nd).2 (by simpa using h1) (by simpa using h2) hk
def mD(N:LS)(vs:LV):St:=vs.map some++QAT (N.length - vs.length) none
noncomputable def tV(l:m7)(P:Program)(w:World)(K:QC)(mg:Str->Option Value)(base:Heap)(N:LS)(g:Str)(d:Scope)(f:Addr)(x:Value)(A:Around)(outer:List Env)(s:Shared)(H:Hp)(E:XK):Cx where
 prog:=P
 w:=w
 K:=K
 mg:=mg
 base:=base
 A:=A.deeper (envOfC g d s.heap.objs.size f x)
 N:=N
 s₀:=s
 H₀:=H
 env:=envOfC g d s.heap.objs.size f x
 outer:=outer
 stack:=envOfC g d s.heap.objs.size f x::outer
 ex:=[]
 calm:=true
 fn:=λ_=>true
 pn:=[]
 xe:=λe y=>wpAny (model P w) (A.deeper (envOfC g d s.heap.objs.size f x)) (leaving (envOfC g d s.heap.objs.size f x) e) (λ_ h=>l outer H s E e h) (λz h=>l outer H s E z h) y
theorem jT{sc:Scope}{n:Nat}{x:Str}(h:sc.names.lookup x=some .cell):∃c,(cellsFrom n sc.names []).lookup x=some c:=by have q:=QAu sc.names n [] (.inl h);exact Option.isSome_iff_exists.mp q
theorem xZ{K:QC}{N:LS}{F:Value}{A:Around}{outer:List Env}{s G:Shared}{H:Hp}{E:XK}{us:LW}{vs:LV}
  (S:FnScope N j d) (M:A.handled=none) (o:Env0 P w K mg base A outer s H) (hl:vs.length=j.length) (r:nA vs us)
  (x:InCallC s s.heap.objs.size (bindL (envOfC g d s.heap.objs.size f F).kindOf (j.zip us) λ_=>none) (cellsFrom (s.heap.objs.size+1) d.names []) (bindC (envOfC g d s.heap.objs.size f F).kindOf (j.zip us) λ_=>none) G) :
  Inv (tV l P w K mg base N g d f F A outer s H E) [] (mD N vs) H G:=by
 have L:j.length<=N.length:=by have:=congrArg wA S.pre;rw[wG]at this;omega
 obtain⟨C,Q,rfl,hk⟩:=x.done;have X:∀b:Addr,b∉(tV l P w K mg base N g d f F A outer s H E).ex:=λb z=>absurd (show b∈([]:List Addr) from z) (by simp);refine⟨⟨o.mod,S.kind,rfl,rfl,Qb _,λy z c C m=>?_,λy Y=>?_,λy c _ h=>?_,λ_=>M,Around.frames_deeper o.frames,.inr ⟨rfl,rfl⟩,λb z=>absurd z (X b),o.bs,o.bsz,λb _ _=>X b,λb z=>absurd z (X b),o.funs,o.frf,o.tb⟩,
  rfl,o.bare,Un.kept hk,⟨_,x.toInCall.ns,λi y v C m R=>?_⟩,λy c h=>⟨_,x.cell y c h⟩,o.hok.fresh (Qb _),λy c h=>?_,λp W=>absurd (show p∈([]:AB) from W) (by simp),o.hok.kept hk,?_⟩
 exact name_of_addr x.apart (qM C) (qM m);have Y:d.names.lookup y=some .cell∨d.names.lookup y=some .free:=Y;rcases Y with Y|Y;exact jT Y;exact absurd rfl (S.nofree _ (qM Y));exact QA3 (x.above y c (qM h));have B:i<vs.length:=by unfold mD at m;by_cases B:i<vs.length;exact B;rw[qH (by simpa using B)]at m;rw[wf]at m;split at m<;>cases m
 have O:vs[i]?=some v:=by
  unfold mD at m;rw[qS (by simpa using B),Qc]at m;cases e:vs[i]? with|none=>rw[e]at m;cases m|some a=>rw[e]at m;cases m;rfl
 obtain⟨u,I,J⟩:=r.get O;have W:j[i]?=some y:=by rw[<- S.pre,List.getElem?_take_of_lt (by omega)];exact C
 have Z:j.Nodup:=by rw[<- S.pre];exact S.nd.sublist (QAd _ _)
 refine⟨u,J,?_⟩;rcases S.par y (Q4 W) with k|k;exact .inl ⟨k,GO Z W I k⟩;obtain⟨c,e⟩:=jT (n:=s.heap.objs.size+1) k;refine .inr ⟨.inl k,c,e,?_⟩;have q:=x.cell y c e;rw[MO Z W I (by show d.names.lookup y≠_;rw[k];decide)]at q;exact q;exact o.hok.fresh (QA3 (x.above y c (qM h)));unfold mD;show _=N.length;rw[QJ,QF,qm];omega
theorem sd{K:QC}{k:Nat}{name:Str}{z:Arguments}{body:List Stmt}{dV kV B pm h ct oc:Value}{an od:Option Addr}
  {L:Array (Option Value)}{N:LS}{C:Sp}(lk:K.lookup f=some ⟨oc,od,.func (ql name g z body d dV kV B pm an h ct),L⟩) (R:Wj K h g=true) (S:FnScope N j d)
  (len:∀vs H Q E,C vs H Q E->vs.length=j.length)
  (p:∀(A:Around) (outer:List Env) (s:Shared) (H:Hp) (vs:LV) (Q:VK) (E:XK),Room k (A.deeper (envOfC g d s.heap.objs.size f h))->C vs H Q E ->
   ∃t,RV (tV l P w K mg base N g d f h A outer s H E) body t/\t { nx:=λ_ i=>Q .non i,rt:=Q } (mD N vs) H) :
  FnOk P w K mg base l (k+1) f (ql name g z body d dV kV B pm an h ct) j C:=by
 refine⟨len,λA outer s H args us vs Q E O Z hb r Y=>?_⟩;have hl:=len _ _ _ _ Y;have KX:K.In s.heap:=Z.mod.kin.keeps λb o e=>(Z.bs b o e).1;have M:s.heap.NoLimit:=Z.mod.nolimit.keeps λb o e=>(Z.bs b o e).1;have m:∀y∈j.zip us,d.names.lookup y.1=some .local∨(d.names.lookup y.1=some .cell/\((cellsFrom (s.heap.objs.size+1) d.names []).lookup y.1).isSome=true):=λ⟨n,v⟩ hy=>by rcases S.par n (QA4 hy).1 with q|q;exact .inl q;exact .inr ⟨q,QAu _ _ _ (.inl q)⟩
 refine codeAny_call_function O.depth (KX _ _ lk) rfl S.co S.gen rfl (PySem.W.codeRec_of KX R) (hb _ _ _ _ ?_);refine wpAny_newFunctionEnv_cells S.kind m λenv he s1 x=>?_;subst he;refine⟨M.keeps x.toInCall.keep,codeAny_func ?_⟩;obtain⟨t,ht,hq⟩:=p A outer s H vs Q E (O.deeper _) Y;have I:Inv (tV l P w K mg base N g d f h A outer s H E) [] (mD N vs) H s1:=xZ S O.hd Z hl r x;refine qi (ht [] s1 (mD N vs) H _ I hq) (λfl F X=>?_) λe F X=>X;have fin:∀{a:St}{i:Hp}{v:V}{u:Value},Inv (tV l P w K mg base N g d f h A outer s H E) [] a i F->rA v u->Q v i->CE outer P w H s Q u F :=
  λ{a i v u} J G q=>⟨v,i,J.os,J.bare,J.base,J.hok,G,q⟩
 cases fl with|ret u=>obtain⟨v,a,i,J,G,q⟩:=X;exact fin J G q|next=>obtain⟨a,i,J,q⟩:=X;exact fin (v:=V.non) (u:=Value.none) J rfl q|brk=>obtain⟨_,_,_,q⟩:=X;exact Qd q|cont=>obtain⟨_,_,_,q⟩:=X;exact Qd q
end
section
variable{X:Cx}{x:Str}{p pos:Pos}{e:Expr}{es:List Expr}{t:TA}{y T:String}{r:LV->Hp->VK->Prop}
def du(r:LV->Hp->VK->Prop)(t:TA):TE:=λh H Q=>t h H λz u=>r z u Q
theorem cM(hc:sC X (.builtin y) r)(l:Gl X x)(j:X.mg x=none)(hv:bootBuiltins x=some (.builtin y))(n:PA X (e::es) t)(i:x≠"__name__":=by decide)(v:(x==("__debug__":Str))=false:=by decide)
  (m:starEach (e::es) X.env=(false,eval e X.env)::starEach es X.env:=by rfl) (u:(backTo pos (starEach es X.env)).any (·.1)=false:=by rfl):PE X (.Call (.Name x p) (e::es) [] pos) (du r t):=by
 intro z s w H Q I h;refine wI (jG I l j hv ?_ i v);exact PyProof.Rows.callWith_builtin1 (NB (n pos z s w H _ I h) λa b ⟨k,q,o,f,g⟩=>hc z b w q k a Q o f g) m u
theorem iY(hc:sC X (.type T) r)(l:Gl X x)(j:X.mg x=none)(hv:bootBuiltins x=some (.type T))(n:PA X (e::es) t)(i:x≠"__name__":=by decide)(v:(x==("__debug__":Str))=false:=by decide)
  (m:starEach (e::es) X.env=(false,eval e X.env)::starEach es X.env:=by rfl) (u:(backTo pos (starEach es X.env)).any (·.1)=false:=by rfl):PE X (.Call (.Name x p) (e::es) [] pos) (du r t):=by
 intro z s w H Q I h;refine wI (jG I l j hv ?_ i v);exact wB (NB (n pos z s w H _ I h) λa b ⟨k,q,o,f,g⟩=>hc z b w q k a Q o f g) m u
end
end L2
namespace HT
open PySem PyProof.Rows
section
open PySem.SeqAt
open PySem.AutoSeq1 (wpAny_loadPart')
open PySem.MeetsSeq PySem.MeetsSeq2 PySem.MeetsSeq3
end
section
variable{prog:Program}{w:World}{A:Around}{E:pC}{s:Shared}
section
variable{sl:Addr}{a u:Value}{y z:Option Int}
def sIx(n d:Nat):Option Int->Nat
 |none=>d|some v=>if v<0 then(v+(n:Int)).toNat else min v.toNat n
theorem sIx_none(n d:Nat):sIx n d none=d:=rfl
theorem sIx_nat(n d k:Nat):sIx n d (some (k:Int))=min k n:=by show(if(k:Int)<0 then((k:Int)+(n:Int)).toNat else min (k:Int).toNat n)=min k n;rw[if_neg (by omega),qN]
theorem Zg(n d:Nat)(h:d<=n)(o:Option Int):sIx n d o<=n:=by
 cases o with|none=>exact h|some v=>show(if v<0 then(v+(n:Int)).toNat else min v.toNat n)<=n;by_cases hv:v<0;rw[if_pos hv];omega;rw[if_neg hv];exact Nat.min_le_right _ _
theorem VX(v:Int)(n d:Nat):(if v<0 then max (v+(n:Int)) 0 else min v (n:Int))=((sIx n d (some v):Nat):Int):=by show(if v<0 then max (v+(n:Int)) 0 else min v (n:Int))=(((if v<0 then(v+(n:Int)).toNat else min v.toNat n):Nat):Int);by_cases hv:v<0;simp only[if_pos hv];omega;simp only[if_neg hv];omega
theorem PV(y z:Option Int)(n:Nat):WE y z 1 (n:Int)=(((sIx n 0 y:Nat):Int),((sIx n n z:Nat):Int)):=by
 have h:¬ ((1:Int)<0):=by omega
 unfold WE;simp only[h,if_false];refine QCG ?_ ?_;cases y with|none=>rfl|some v=>exact VX v n 0
 cases z with|none=>rfl|some v=>exact VX v n n
theorem sU(i j:Nat):wM (i:Int) (j:Int) 1=j - i:=by
 unfold wM;have h:(1:Int) > 0:=by omega
 simp only[h,if_true,Int.ediv_one];split<;>omega
theorem GL{v:Value}{o:Option Int}{Q:Option Int->Shared->Prop}(p:IsPart v o)(h:Q o s):wpAny (model prog w) A (Builtin.Slice.slicePartIndex v) Q E s:=by
 cases p with|none=>exact slicePart_none h|int i t=>exact slicePart_int h
theorem KJ{n:Nat}{Q:Int×Int×Nat->Shared->Prop}(f:s.heap.IsSliceOf sl a u .none)(e:IsPart a y)(b:IsPart u z)
  (h:Q (((sIx n 0 y:Nat):Int),1,sIx n n z - sIx n 0 y) s):wpAny (model prog w) A (QAI (.ref sl) (pure (n:Int))) Q E s:=by
 obtain⟨i,v,g,k⟩:=id f;unfold QAI Builtin.Slice.sliceFields;refine QA (QA (wN v k (x:=a) rfl (QA (wN v k (x:=u) rfl (QA (wN v k (x:=.none) rfl (QK ?_)))))));refine QA (slicePart_none ?_);show wpAny _ _ (if((1:Int)==0)=true then _ else _) _ _ s;rw[if_neg (by decide)];refine QA (GL e (QA (GL b (QA (QK ?_)))));show wpAny _ _ (match WE y z 1 (n:Int) with | (y,z)=>pure (y,(1:Int),wM y z 1)) _ _ s;rw[PV y z n];show wpAny _ _ (pure (((sIx n 0 y:Nat):Int),(1:Int),wM ((sIx n 0 y:Nat):Int) ((sIx n n z:Nat):Int) 1)) _ _ s;rw[sU];exact QK h
theorem x3(xs:Array Value)(i k:Nat):((Qs k).filterMap λ(m:Nat)=>xs[((i:Int)+(m:Int) * 1).toNat]?).toArray=((xs.toList.drop i).take k).toArray:=by
 have e:(λ(m:Nat)=>xs[((i:Int)+(m:Int) * 1).toNat]?)=λm=>xs[i+m]?:=by
  funext m;have:((i:Int)+(m:Int) * 1).toNat=i+m:=by omega
  rw[this]
 rw[e];have:=pick_run xs i k;rw[List.filterMap_map]at this;have h:((λx=>xs[x]?)∘λx=>i+x)=λm=>xs[i+m]?:=rfl;rw[h]at this;rw[this]
theorem getItem_tuple_cut{t:Addr}{x:Array Value}{Q:pC}(k:IsTup s.heap t x)(i:s.heap.IsSliceOf sl a u .none)(l:IsPart a y)(j:IsPart u z)
  (o:¬ (sIx x.size 0 y=0/\sIx x.size x.size z=x.size))
  (h:Q (.ref s.heap.objs.size) { s with heap:=s.heap.push { cls:=.type "tuple",data:=.seq ((x.toList.drop (sIx x.size 0 y)).take (sIx x.size x.size z - sIx x.size 0 y)).toArray } })
  (hsz:x.size<=sizeLine):wpAny (model prog w) A (getItem (.ref t) (.ref sl)) Q E s:=by
 have v:sizeOk (.seq ((x.toList.drop (sIx x.size 0 y)).take (sIx x.size x.size z - sIx x.size 0 y)).toArray):=by show((x.toList.drop (sIx x.size 0 y)).take (sIx x.size x.size z - sIx x.size 0 y)).toArray.size<=sizeLine;rw[QN,wG,Wq,Qt];omega
 have Y:sIx x.size x.size z<=x.size:=Zg _ _ (Qb _) z;obtain⟨n,b,f,p⟩:=id i;have g:s.TypeIs (.ref sl) "slice":=⟨n,b,f⟩
 unfold getItem
 try with_reducible refine qU ?_
 first|refine QA (QK ?_)|skip
 refine QA (wpAny_sequenceKey k.typeIs (by decide) ?_);refine QA (qO (name:=QO "__getitem__") k.typeIs wV
  (qK wV k.typeIs entry_tuple_getitem ?_ (args_tuple_getitem _ _)))
 show wpAny _ _ (QAG (.ref t) >>= _) _ _ s;refine QA (tupleItemsOf_ k ?_);refine QA (QAK g ?_);rw[if_pos (by decide)];refine QA (KJ i l j ?_);have e:¬ ((((sIx x.size 0 y:Nat):Int)==0&&(1:Int)==1&&(sIx x.size x.size z - sIx x.size 0 y)==x.size)=true):=by intro q;rw[Qa,Qa]at q;have X:((sIx x.size 0 y:Nat):Int)=0:=qZ q.1.1;have r:sIx x.size x.size z - sIx x.size 0 y=x.size:=qZ q.2;exact o ⟨by omega,by omega⟩
 show wpAny _ _ (if(((sIx x.size 0 y:Nat):Int)==0&&(1:Int)==1&&(sIx x.size x.size z - sIx x.size 0 y)==x.size)=true then _ else _) _ _ s;rw[if_neg e,x3];first
  |exact QA (m:=wW _) (Qy (QK ⟨_,rfl,QK h⟩) v)
  |exact QA (m:=wW _) (Qy (QA (QK (QK ⟨_,rfl,QK h⟩))) v)
  |exact QA (QA (m:=wW _) (Qy (QK (QK ⟨_,rfl,QK h⟩)) v))
  |exact QA (QA (m:=wW _) (Qy (QK ⟨_,rfl,QK h⟩) v))
end
end
end HT
namespace L2
open PySem PySem.Spec PyProof.Rows
noncomputable abbrev TO:=St->Hp->(Option Int->Hp->Prop)->Prop
def PO(X:Cx)(e:Option Expr)(t:TO):Prop :=
 ∀(h:AB) (s:Shared) (x:St) (H:Hp) (Q:Option Int->Hp->Prop),Inv X h x H s->t x H Q ->
  wpAny (model X.prog X.w) X.A (evalPart e X.env) (λu z=>∃o y,Inv X h x y z/\IsPart u o/\Q o y) X.xe s
def R7:TO:=λ_ H Q=>Q none H
def Yl(t:TE):TO:=λh H Q=>t h H λx y=>∃i,x=.int i/\Q (some i) y
theorem vV{ns:LI}:∀{us:LW},nA (ns.map V.int) us->IntsAre us ns:=by
 induction ns with
 |nil=>intro us r;rw[WK]at r;cases r;exact .nil|cons n ns y =>
  intro us r;rw[QU]at r;cases r with|cons x h=>obtain⟨t,e⟩:=x;subst e;exact .cons n t (y h)
section
variable{X:Cx}{e:Expr}{te:TE}{y z:Option Expr}{k c:TO}{pos p2:Pos}
theorem B8:PO X none R7:=by intro x s u H Q I h;rw[evalPart_none];exact QK ⟨none,H,I,.none,h⟩
theorem U8(h:PE X e te):PO X (some e) (Yl te):=by intro v s w H Q I f;rw[evalPart_some];refine NB (h v s w H _ I f) λu l ⟨x,j,g,a,b⟩=>?_;obtain⟨i,rfl,q⟩:=b;obtain⟨t,rfl⟩:=a;exact⟨some i,j,g,.int i t,q⟩
def Ve(X:Cx)(r:V->Option Int->Option Int->Hp->VK->Prop):Prop :=
 ∀(h:AB) (s:Shared) (u:St) (H:Hp) (x:V) (v b a:Value) (y z:Option Int) (f:Addr) (Q:VK),Inv X h u H s->rA x v->s.heap.IsSliceOf f b a .none->IsPart b y->IsPart a z->r x y z H Q ->
  ∃T id,typeLookup (.type T) "__getitem__"=pure (some (.builtin id))/\s.TypeIs v T/\wpAny (model X.prog X.w) X.A (getItem v (.ref f)) (EP X h u Q) X.xe s
theorem Ve.or{r i:V->Option Int->Option Int->Hp->VK->Prop}(h:Ve X r)(h':Ve X i):Ve X (λx y z H Q=>r x y z H Q∨i x y z H Q):=by intro u s w H x v b a y z f Q I g m l j q;rcases q with q|q;exact h u s w H x v b a y z f Q I g m l j q;exact h' u s w H x v b a y z f Q I g m l j q
def Fv(r:V->Option Int->Option Int->Hp->VK->Prop)(te:TE)(k c:TO):TE:=λh H Q=>te h H λx a=>k h a λl w=>c h w λu v=>r x l u v Q
theorem J3{r:V->Option Int->Option Int->Hp->VK->Prop}(F:Ve X r)(J:PE X e te)(hl:PO X y k)(C:PO X z c):PE X (.Subscript e (.Slice y z none p2) pos) (Fv r te k c):=by intro a s g H Q I h;refine QBr (NB (J a s g H _ I h) λv o ⟨x,S,P,p,W⟩=>?_);refine wpAny_Slice (NB (hl a o g S _ P W) λj n ⟨l,R,O,B,Z⟩=>NB (C a n g R _ O Z) λi f ⟨u,m,N,K,Y⟩=>?_);rw[evalPart_none];refine QK ?_;have M:Inv X a g m { f with heap:=f.heap.push { cls:=.type "slice",data:=.fields #[j,i,.none] } }:=N.kept (t':=f.toks) λb ob q=>QH _ q;obtain⟨T,id,L,E,G⟩:=F a { f with heap:=f.heap.push { cls:=.type "slice",data:=.fields #[j,i,.none] } } g m x v j i l u f.heap.objs.size Q M p (Heap.IsSliceOf.new ..) B K Y;show wpAny (model X.prog X.w) X.A (subscriptTail e (.Slice y z none p2) v (.ref f.heap.objs.size)) (EP X a g Q) X.xe { f with heap:=f.heap.push { cls:=.type "slice",data:=.fields #[j,i,.none] } };exact tail_any (ops:=[.ref f.heap.objs.size,v]) E L G (by with_unfolding_all rfl)
def SS(xs:LV)(y z:Option Int):LV:=(xs.drop (HT.sIx xs.length 0 y)).take (HT.sIx xs.length xs.length z - HT.sIx xs.length 0 y)
theorem YK(xs:LV)(y z:Option Int):(SS xs y z).length<=xs.length:=by unfold SS;rw[wG,Wq];omega
def ym(K:QC):V->Option Int->Option Int->Hp->VK->Prop:=λx y z H Q=>∃a h,x=.ref a/\GD K H a h /\
 ¬ (HT.sIx h.length 0 y=0/\HT.sIx h.length h.length z=h.length)/\∀p,H p=none->Q (.ref p) (BA H p (.tup (SS h y z)))
theorem og:Ve X (ym X.K):=by
 intro g s W H x v B A y z C Q I l Z n m h;obtain⟨a,w,rfl,p,Y,q⟩:=h;cases l;obtain⟨f,r,j,i⟩:=I.tuple p;have u:f.toArray.size=w.length:=by rw[QN];exact r.length.symm
 refine⟨"tuple",_,wV.lookup,j.typeIs,?_⟩;refine HT.getItem_tuple_cut j Z n m (by rw[u];exact Y) ?_ (by rw[u];exact i);rw[u];refine⟨.ref s.heap.objs.size,_,I.laid (t':=s.toks) (o:=.tup (SS w y z)) (λb ob q=>QH _ q) (Qb _) ?_,rfl,q _ (I.hok.fresh (Qb _))⟩;exact⟨QY (YK w y z) i,_,(r.drop (HT.sIx w.length 0 y)).take (HT.sIx w.length w.length z - HT.sIx w.length 0 y),IsTup.new _ _⟩
end
def ET(n:Nat)(i:Int):Option Nat:=if 0<=i then(if i<n then some i.toNat else none) else if -(n:Int)<=i then some (i+n).toNat else none
def fE{α:Type}(xs:List α)(i:Int):Option α:=(ET xs.length i).bind λj=>xs[j]?
theorem nQ{n:Nat}{i:Int}{j:Nat}(h:ET n i=some j):seqIndex? i n=some j/\j<n/\-(n:Int)<=i/\i<n:=by unfold ET at h;by_cases y:0<=i;rw[if_pos y]at h;by_cases x:i<n;rw[if_pos x]at h;have e:i.toNat=j:=Qn h;exact⟨by rw[QAj y x,e],by omega,by omega,x⟩;rw[if_neg x]at h;cases h;rw[if_neg y]at h;by_cases x:-(n:Int)<=i;rw[if_pos x]at h;have e:(i+n).toNat=j:=Qn h;exact⟨by rw[QB3 (by omega) x,e],by omega,x,by omega⟩;rw[if_neg x]at h;cases h
theorem MQ{α:Type}{xs:List α}{i:Int}{v:α}(h:fE xs i=some v):∃j,seqIndex? i xs.length=some j/\xs[j]?=some v/\j<xs.length/\-(xs.length:Int)<=i/\i<xs.length:=by
 unfold fE at h;cases e:ET xs.length i with|none=>rw[e]at h;cases h|some j=>rw[e]at h;obtain⟨u,z,y,x⟩:=nQ e;exact⟨j,u,h,z,y,x⟩
theorem tF{α:Type}{xs:List α}{j:Nat}{v:α}(h:xs[j]?=some v):fE xs (j:Int)=some v:=by
 have x:j<xs.length:=(Qf.mp h).1;have e:ET xs.length (j:Int)=some j:=by unfold ET;rw[if_pos (by omega),if_pos (by omega)];simp
 unfold fE;rw[e];exact h
def RX(b:Expr):Prop:=∀o i,subscripted b false o i=operate [o,i] (getItem o i)
def b7(X:Cx)(r:R2):Prop :=
 ∀(k h:Expr) (z:AB) (s:Shared) (a:St) (H:Hp) (x y:V) (v u:Value) (Q:VK),Inv X z a H s->rA x v->rA y u->r x y H Q ->
  subscripted h false v u=operate [v,u] (getItem v u)->wpAny (model X.prog X.w) X.A (subscriptTail k h v u) (EP X z a Q) X.xe s
def V7(X:Cx)(id:String)(r:V->LV->Hp->VK->Prop):Prop :=
 ∀(h:AB) (s:Shared) (y:St) (H:Hp) (x:V) (z:LV) (v:Value) (u:LW) (Q:VK),Inv X h y H s->rA x v->nA z u->r x z H Q ->
  wpAny (model X.prog X.w) X.A (call (.builtin id) (v::u)) (EP X h y Q) X.xe s
section
variable{X:Cx}{a b:Expr}{ta Y:TE}{pos:Pos}
section
variable{d:AB}{s:Shared}{x:V}{u v:Value}
theorem b7.or{r g:R2}(h:b7 X r)(h':b7 X g):b7 X (λx y H Q=>r x y H Q∨g x y H Q):=by intro z w d s k H x y v u Q I f e q i;rcases q with q|q;exact h z w d s k H x y v u Q I f e q i;exact h' z w d s k H x y v u Q I f e q i
theorem V7.or{g:String}{r e:V->LV->Hp->VK->Prop}(h:V7 X g r)(h':V7 X g e):V7 X g (λx xs H Q=>r x xs H Q∨e x xs H Q):=by intro d s y H x xs v z Q I w k q;rcases q with q|q;exact h d s y H x xs v z Q I w k q;exact h' d s y H x xs v z Q I w k q
theorem Ym{r:R2}(g:b7 X r)(i:PE X a ta)(hb:PE X b Y)(f:RX b):PE X (.Subscript a b pos) (Zl r ta Y):=by intro d s z H Q I h;exact QBr (binT i hb I h λv u w x y l j e k q=>g a b d w z l x y v u Q j e k q (f _ _))
def lm(K:QC):R2:=λx y H Q=>∃p h i v,x=.ref p/\y=.int i/\RC K H p h/\fE h i=some v/\Q v H
def cm(K:QC):R2:=λx y H Q=>∃p h i v,x=.ref p/\y=.int i/\GD K H p h/\fE h i=some v/\Q v H
def gm:R2:=λx y H Q=>∃z i c,x=.str z/\y=.int i/\z.length<=sizeLine/\fE z.cps.toList i=some c/\Q (.str ⟨#[c]⟩) H
theorem ua:b7 X (lm X.K):=by
 intro e f d s o H x y v u Q I E C h Z;obtain⟨p,N,i,z,rfl,rfl,F,G,q⟩:=h;cases E;obtain⟨t,rfl⟩:=C;obtain⟨m,r,l,O⟩:=I.list F;obtain⟨j,k,M,R,L,J⟩:=MQ G;obtain⟨w,A,g⟩:=r.get M;have hl:=r.length;have P:=CH;have fin:EP X d o Q w s:=⟨z,H,I,g,q⟩
 by_cases W:0<=i;have n:i.toNat=j:=by rw[QAj W J]at k;exact Qn k
 exact item_listR l.isList W (by omega) (by rw[n];simpa using A) fin Z;have n:(i+(m.toArray.size:Int)).toNat=j:=by rw[QB3 (by omega) L]at k;rw[QN,<- hl];exact Qn k
 exact qg (x:=w) l.isList.typeIs QBs.lookup
  (wpAny_getItem_list_neg (Q:=λr B=>r=w/\EP X d o Q r B) l.isList (by omega) (by rw[QN]<;>omega) (by omega) (by rw[n];simpa using A) ⟨rfl,fin⟩) Z
theorem ai:b7 X (cm X.K):=by
 intro k e d s g H x y v u Q I o n h W;obtain⟨p,G,i,z,rfl,rfl,A,B,q⟩:=h;cases o;obtain⟨t,rfl⟩:=n;obtain⟨Z,r,l,J⟩:=I.tuple A;obtain⟨j,E,C,O,N,M⟩:=MQ B;obtain⟨w,F,f⟩:=r.get C;have hl:=r.length;have L:=CH;have fin:EP X d g Q w s:=⟨z,H,I,f,q⟩
 exact qg (x:=w) l.typeIs QAL.lookup
  (QBi (j:=j) (Q:=λr m=>r=w/\EP X d g Q r m) l (by omega) (by omega) (by rw[QN,<- hl];exact E) (by simpa using F) ⟨rfl,fin⟩) W
theorem Ji:b7 X gm:=by
 intro w k d s W H x y v u Q I g f h l;obtain⟨z,i,c,rfl,rfl,A,m,q⟩:=h;obtain⟨t,rfl⟩:=g;obtain⟨K,rfl⟩:=f;obtain⟨j,e,p,C,o,n⟩:=MQ m;have hl:z.cps.toList.length=z.length:=by simp[Str.length]
 rw[hl]at e o n;have B:=CH;exact tail_any (QCR s z t) slot_str_getitem.lookup (getItem_str (c:=c) (by have Z:decide (i < -(2 ^ 63:Int))=false:=dF (by omega);have r:decide (i ≥ 2 ^ 63)=false:=dF (by omega);rw[Z,r,QBa]) (by rw[e];simpa using p) ⟨.str ⟨#[c]⟩,H,I.tok _,⟨_,rfl⟩,q⟩) l
def Ov(K:QC):R2:=λx y H Q=>lm K x y H Q∨cm K x y H Q∨gm x y H Q
theorem Yi:b7 X (Ov X.K):=ua.or (ai.or Ji)
theorem TU(its:LW)(n j:Nat)(u:Value):Q3 (·.setIfInBounds j u) { cls:=.type "list",data:=.seq its.toArray n }={ cls:=.type "list",data:=.seq (its.set j u).toArray n }:=by simp[Q3]
theorem Inv.lst{d:AB}{σ:St}{H:Hp}{s:Shared}{p:Addr}{xs:LV}(I:Inv X d σ H s)(h:H p=some (.lst xs)) :
  ∃(its:LW) (n:Nat),nA xs its/\s.heap.get? p=some { cls:=.type "list",data:=.seq its.toArray n }/\xs.length<=sizeLine:=by
 obtain⟨z,its,n,r,e⟩:=I.hok p _ h;exact⟨its,n,r,e,z⟩
theorem Inv.lstUpd{σ:St}{H:Hp}{p:Addr}{xs y:LV}{its its':LW}{n z:Nat}{f:Obj->Obj}(I:Inv X d σ H s)(h:H p=some (.lst xs))
  (g:s.heap.get? p=some { cls:=.type "list",data:=.seq its.toArray n }) (w:f { cls:=.type "list",data:=.seq its.toArray n }={ cls:=.type "list",data:=.seq its'.toArray z }) (r:nA y its') (k:y.length<=sizeLine) (t:Nat) :
  Inv X d σ (BA H p (.lst y)) { s with heap:=s.heap.update p f,toks:=t }:=by
 have e:(s.heap.update p f).get? p=some { cls:=.type "list",data:=.seq its'.toArray z }:=by rw[ww f g (by rw[w]<;>rfl),w]
 refine I.write (x:=p) (e:=p) (by rw[h];trivial) (.inl rfl) (λb u hb q=>(QAv _ _ (qB hb)).trans q) ⟨_,e⟩ ?_;exact⟨k,its',z,r,e⟩
def km:V->V->V->Hp->(Hp->Prop)->Prop:=λo i v H Q=>∃p h k j,o=.ref p/\i=.int k/\H p=some (.lst h)/\ET h.length k=some j/\Q (BA H p (.lst (h.set j v)))
theorem U1:Gb X km:=by
 intro d s Z H o i v G J u Q I B C A h;obtain⟨p,K,k,j,rfl,rfl,e,F,q⟩:=h;cases B;obtain⟨t,rfl⟩:=C;obtain⟨y,n,r,w,E⟩:=I.lst e;obtain⟨z,M,g,f⟩:=nQ F;have hl:=r.length;have L:=CH;have m:Inv X d Z (BA H p (.lst (K.set j v))) { s with heap:=s.heap.update p (Q3 (·.setIfInBounds j u)) } :=
  I.lstUpd e w (TU y n j u) (r.set A j) (by rw[qa];exact E) s.toks
 by_cases l:0<=k;have hk:k.toNat=j:=by rw[QAj l f]at z;exact Qn z
 exact PySem.W.ki_setAt w l (by omega) (by rw[QN,<- hl];exact f) (by rw[hk];exact⟨_,m,q⟩);have hk:(k+(y.toArray.size:Int)).toNat=j:=by rw[QB3 (by omega) g]at z;rw[QN,<- hl];exact Qn z
 exact PySem.W.ki_setBack w (by omega) (by rw[QN,<- hl];exact g) (by omega) (by rw[hk];exact⟨_,m,q⟩)
theorem mP(y z:Option Int)(n:Nat):(sliceBounds y z none n).1=((HT.sIx n 0 y:Nat):Int)/\(sliceBounds y z none n).2.1=((HT.sIx n n z:Nat):Int)/\(sliceBounds y z none n).2.2=1:=by
 refine⟨?_,?_,rfl⟩;cases y with|none=>simp[sliceBounds,HT.sIx]|some i=>simp only[sliceBounds,HT.sIx,QCA,show(1:Int) > 0 by decide,if_true];by_cases h:i<0;simp only[h,if_true]<;>omega;simp only[h,if_false]<;>omega
 cases z with|none=>simp[sliceBounds,HT.sIx]|some i=>simp only[sliceBounds,HT.sIx,QCA,show(1:Int) > 0 by decide,if_true];by_cases h:i<0;simp only[h,if_true]<;>omega;simp only[h,if_false]<;>omega
theorem aN(its:LW)(h y:Option Int):slicePick its.toArray h y none=((its.drop (HT.sIx its.length 0 h)).take (HT.sIx its.length its.length y - HT.sIx its.length 0 h)).toArray:=by obtain⟨k,w,z⟩:=mP h y its.toArray.size;unfold slicePick;rw[k,w,z];simp only[sliceRange_one,pick_run,QN]<;>rfl
def zm(K:QC):V->Option Int->Option Int->Hp->VK->Prop:=λx y z H Q=>∃a h,x=.ref a/\RC K H a h/\∀p,H p=none->Q (.ref p) (BA H p (.lst (SS h y z)))
theorem v8:Ve X (zm X.K):=by intro d s p H x v W Z w k A Q I f n i g h;obtain⟨a,y,rfl,m,q⟩:=h;cases f;obtain⟨j,r,e,l⟩:=I.list m;have z:=r.length;refine⟨"list",_,QBs.lookup,e.isList.typeIs,?_⟩;refine wpAny_getItem_list_slice e.isList n i g .none (by simp) ?_ (by rw[QN]<;>omega);rw[aN,<- z];refine⟨.ref s.heap.objs.size,_,I.laid (t':=s.toks) (o:=.lst (SS y w k)) (λb ob q=>QH _ q) (Qb _) ?_,rfl,q _ (I.hok.fresh (Qb _))⟩;exact⟨QY (YK y w k) l,_,0,(r.drop (HT.sIx y.length 0 w)).take (HT.sIx y.length y.length k - HT.sIx y.length 0 w),QV _ rfl⟩
def uG:V->Bool
 | .non=>true|.bl _=>true|.int _=>true|.str _=>true|_=>false
def Ra:V->V->Bool
 | .non,.non=>true|.bl a,.bl b=>a==b|.bl a,.int b=>(if a then 1 else 0)==b|.int a,.bl b=>a==(if b then 1 else 0)|.int a,.int b=>a==b|.str a,.str b=>a==b|_,_=>false
theorem Li{A:Around}{y:V}(w:rA y u)(h:rA x v)(k:uG y=true)(fx:uG x=true):qj A s u v (Ra y x):=by
 cases y with
 |non =>
  cases w;cases x with|non=>cases h;exact qj.same _|bl b=>cases h;exact qj.none_bool b|int b=>obtain⟨t,rfl⟩:=h;exact qj.none_int b t|str b=>obtain⟨t,rfl⟩:=h;exact qj.none_str b t|_=>exact absurd (show false=true from fx) QG
 |bl a =>
  cases w;cases x with|non=>cases h;exact qj.bool_none a|bl b=>cases h;exact qj.bool_bool a b|int b=>obtain⟨t,rfl⟩:=h;exact qj.bool_int a b t|str b=>obtain⟨t,rfl⟩:=h;exact qj.bool_str a b t|_=>exact absurd (show false=true from fx) QG
 |int a =>
  obtain⟨z,rfl⟩:=w;cases x with|non=>cases h;exact qj.int_none a z|bl b=>cases h;exact qj.int_bool a z b|int b=>obtain⟨t,rfl⟩:=h;exact qj.int_int a z b t|str b=>obtain⟨t,rfl⟩:=h;exact QBc a z b t|_=>exact absurd (show false=true from fx) QG
 |str a =>
  obtain⟨z,rfl⟩:=w;cases x with|non=>cases h;exact qj.str_none a z|bl b=>cases h;exact qj.str_bool a z b|int b=>obtain⟨t,rfl⟩:=h;exact QBd a z b t|str b=>obtain⟨t,rfl⟩:=h;exact qj.str_str a z b t|_=>exact absurd (show false=true from fx) QG
 |_=>exact absurd (show false=true from k) QG
def sV(x:V)(u:Value):Bool:=match u with
 | .none=>Ra .non x|.bool b=>Ra (.bl b) x|.int i _=>Ra (.int i) x|.str z _=>Ra (.str z) x|_=>false
theorem k6{y:V}(r:rA y u)(f:uG y=true):sV x u=Ra y x:=by
 cases y with|non=>cases r;rfl|bl b=>cases r;rfl|int i=>obtain⟨t,rfl⟩:=r;rfl|str z=>obtain⟨t,rfl⟩:=r;rfl|_=>exact absurd (show false=true from f) QG
theorem zJ{x:V}:∀{xs:LV}{us:LW},nA xs us->xs.all uG=true->us.any (sV x)=xs.any λy=>Ra y x
 |_,_,.nil,_=>rfl|y::xs,u::us,.cons r t,f=>by rw[qb,Qa]at f;rw[WA,WA,k6 r f.1,zJ t f.2]
theorem EF{A:Around}{s:Shared}{x:V}{v:Value}(z:rA x v)(fx:uG x=true):∀{xs:LV}{us:LW},nA xs us->xs.all uG=true->∀u∈us,qj A s u v (sV x u)
 |_,_,.nil,_=>λu h=>by cases h|y::xs,u::us,.cons r t,f=>λw h=>by rw[qb,Qa]at f;rcases QL.mp h with rfl|h;rw[k6 r f.1];exact Li r z f.1 fx;exact EF z fx t f.2 w h
def inV(x:V)(xs:LV):Bool:=xs.any λy=>Ra y x
def kr(K:QC)(neg:Bool):R2:=λx y H Q=>∃p h,y=.ref p/\(RC K H p h∨GD K H p h)/\uG x=true/\h.all uG=true/\Q (.bl (if neg then !inV x h else inV x h)) H
theorem ZY:GE X (compareOp .In) (kr X.K false):=by intro d s l H x y v u Q I g i h;obtain⟨p,m,rfl,k,fx,fs,q⟩:=h;cases i;rcases k with k|k;obtain⟨z,r,e,j⟩:=I.list k;refine SeqAt.in_listAt (sV x) e.isList (λw f=>EF g fx r fs w (by simpa using f)) ⟨.bl _,H,I,rfl,?_⟩;rw[show z.toArray.any (sV x)=z.any (sV x) by simp,zJ r fs];exact q;obtain⟨z,r,e,j⟩:=I.tuple k;refine SeqAt.in_tupleAt (sV x) e (λw f=>EF g fx r fs w (by simpa using f)) ⟨.bl _,H,I,rfl,?_⟩;rw[show z.toArray.any (sV x)=z.any (sV x) by simp,zJ r fs];exact q
theorem BP:GE X (compareOp .NotIn) (kr X.K true):=by intro d s l H x y v u Q I g i h;obtain⟨p,m,rfl,k,fx,fs,q⟩:=h;cases i;rcases k with k|k;obtain⟨z,r,e,j⟩:=I.list k;refine SeqAt.notIn_listAt (sV x) e.isList (λw f=>EF g fx r fs w (by simpa using f)) ⟨.bl _,H,I,rfl,?_⟩;rw[show z.toArray.any (sV x)=z.any (sV x) by simp,zJ r fs];exact q;obtain⟨z,r,e,j⟩:=I.tuple k;refine SeqAt.notIn_tupleAt (sV x) e (λw f=>EF g fx r fs w (by simpa using f)) ⟨.bl _,H,I,rfl,?_⟩;rw[show z.toArray.any (sV x)=z.any (sV x) by simp,zJ r fs];exact q
theorem EI:sC X (.builtin "len") (λxs H Q=>∃p z,xs=[.ref p]/\(RC X.K H p z∨GD X.K H p z)/\Q (.int z.length) H):=by intro d s j H xs l Q I r h;obtain⟨p,z,rfl,w,q⟩:=h;obtain⟨u,rfl,g⟩:=IH r;cases g;have m:=CH;rcases w with w|w;obtain⟨f,k,e,i⟩:=I.list w;have y:=k.length;exact Calls.call_len_list e.isList (by simp only[QN]<;>omega) ⟨.int z.length,H,I.tok _,⟨s.toks+1,by rw[QN,y]⟩,q⟩;obtain⟨f,k,e,i⟩:=I.tuple w;have y:=k.length;exact len_tuple e (by simp only[QN]<;>omega) ⟨.int z.length,H,I.tok _,⟨s.toks+1,by rw[QN,y]⟩,q⟩
theorem FQ:sC X (.builtin "len") (λxs H Q=>∃z,xs=[.str z]/\z.length<=sizeLine/\Q (.int z.length) H):=by intro d s y H xs w Q I r h;obtain⟨z,rfl,k,q⟩:=h;obtain⟨u,rfl,t,rfl⟩:=IH r;have e:=CH;exact len_str (by omega) ⟨.int z.length,H,I.tok _,⟨_,rfl⟩,q⟩
theorem sC.or{f:Value}{r k:LV->Hp->VK->Prop}(h:sC X f r)(h':sC X f k):sC X f (λxs H Q=>r xs H Q∨k xs H Q):=by intro d s y H xs z Q I w q;rcases q with q|q;exact h d s y H xs z Q I w q;exact h' d s y H xs z Q I w q
theorem ON:sC X (.type "tuple") (λxs H Q=>∃p z,xs=[.ref p]/\((RC X.K H p z/\∀l,H l=none->Q (.ref l) (BA H l (.tup z)))∨(GD X.K H p z/\Q (.ref p) H))):=by
 intro d s j H xs C Q I r h;obtain⟨p,z,rfl,h⟩:=h;obtain⟨u,rfl,W⟩:=IH r;cases W;rcases h with⟨i,q⟩| ⟨i,q⟩
 obtain⟨y,f,g,m⟩:=I.list i;have n:=f.length;refine call_tuple_list g.isList (λk A=>?_) (by simp only[QN]<;>omega);have Z:Inv X d j H { s with heap:=k }:=I.kept (t':=s.toks) A;have B:Inv X d j (BA H k.objs.size (.tup z)) { s with heap:=k.push { cls:=.type "tuple",data:=.seq y.toArray } } :=
  Z.laid (t':=s.toks) (λb o e=>QH _ e) (Qb _) (show FA X.prog X.w _ _ _ (.tup z) from⟨m,y,f,IsTup.new _ _⟩)
 exact⟨.ref k.objs.size,_,B,rfl,q _ (Z.hok.fresh (Qb _))⟩;obtain⟨y,f,g,m⟩:=I.tuple i;exact call_tuple_same g ⟨.ref p,H,I,rfl,q⟩
def HZ(K:QC)(T:String)(x:V)(H:Hp):Prop:=match x with
 | .str _=>T="str"|.int _=>T="int"|.ref p=>(T="list"/\∃y,RC K H p y)∨(T="tuple"/\∃o,K.lookup p=some o/\o.cls=.type "tuple"/\o.dict=none) ∨
   (T="dict"/\((∃h,H p=some (.dK h))∨∃z h,H p=some (.dT z h)))∨(T="set"/\∃S n,H p=some (.set S n))
 |_=>False
theorem Z0{σ:St}{H:Hp}{T:String}(I:Inv X d σ H s)(r:rA x v)(ty:HZ X.K T x H) :
  s.TypeIs v T/\∀a,v=.ref a->∃ob,s.heap.get? a=some ob/\ob.dict=none:=by
 cases x with
 |str z=>obtain⟨t,rfl⟩:=r;cases(show T="str" from ty);exact⟨QCR s z t,λ_ e=>nomatch e⟩
 |int i=>obtain⟨t,rfl⟩:=r;cases(show T="int" from ty);exact⟨typeIs_int s i t,λ_ e=>nomatch e⟩
 |ref p =>
  cases r;rcases ty with⟨rfl,l,j⟩| ⟨rfl,o,hk,hc,w⟩| ⟨rfl,hk⟩| ⟨rfl,S,n,hk⟩
  obtain⟨g,_,f,_⟩:=I.list j;refine⟨f.isList.typeIs,λa e=>?_⟩;cases e;obtain⟨o,n,e,c,w,_⟩:=f;exact⟨o,e,w⟩;refine⟨⟨o,I.kIn p o hk,hc⟩,λa e=>?_⟩;cases e;exact⟨o,I.kIn _ o hk,w⟩;have z:∃o,s.heap.get? p=some o/\o.ExactDict:=by
   rcases hk with⟨y,hk⟩| ⟨m,y,hk⟩
   obtain⟨_,_,_,_,o,_,_,e,h,_⟩:=I.hok p _ hk;exact⟨o,e,h⟩;obtain⟨_,_,_,_,o,_,e,h,_⟩:=I.hok p _ hk;exact⟨o,e,h⟩
  obtain⟨o,e,h⟩:=z;refine⟨⟨o,e,h.1⟩,λa k=>?_⟩;cases k;exact⟨o,e,h.2.1⟩;obtain⟨o,_,_,_,e,h,_⟩:=I.hok p _ hk;refine⟨⟨o,e,h.1⟩,λa k=>?_⟩;cases k;exact⟨o,e,h.2.1⟩
 |_=>exact Qd ty
def Fq(K:QC)(T:String)(r:V->LV->Hp->VK->Prop)(m:TE):TE:=λy H Q=>m y H λx h=>HZ K T x h/\r x [] h Q
def Hv(K:QC)(T:String)(r:V->LV->Hp->VK->Prop)(m:TE)(t:TA):TE:=λh H Q=>m h H λx y=>HZ K T x y/\t h y λz w=>r x z w Q
end
variable{o e:Expr}{es:List Expr}{m:TE}{t:TA}{name:Str}{apos cpos:Pos}{T g:String}{r:V->LV->Hp->VK->Prop}
theorem vh(p:PlainAttrs T)(w:Slot T name g)(k:typeOf (.builtin g)=pure (.type "method_descriptor"))(Z:V7 X g r)(q:PE X o m)
  (u:attributeBase o name X.env (eval o X.env)=eval o X.env:=by rfl) (z:(apos.endLine==cpos.line)=true:=by rfl):PE X (.Call (.Attribute o name apos) [] [] cpos) (Fq X.K T r m):=by
 intro y s f H Q I h;refine QAk u z (NB (q y s f H _ I h) λv l ⟨x,B,j,i,ty,n⟩=>?_);obtain⟨A,W⟩:=Z0 j i ty;exact⟨T,g,p,w,k,A,W,WY rfl (QBS (Z y l f B x [] v [] Q j i .nil n))⟩
theorem Zm(F:PlainAttrs T)(k:Slot T name g)(j:typeOf (.builtin g)=pure (.type "method_descriptor"))(L:V7 X g r)(J:PE X o m)(M:PA X (e::es) t)
  (w:attributeBase o name X.env (eval o X.env)=eval o X.env:=by rfl)
  (f:((backTo cpos (starEach (e::es) X.env)).all (λx=>!x.1)&&(backToKw cpos (keywordEach [] X.env)).all (λx=>x.1.isSome)
   && decide ((e::es).length+([]:List Keyword).length+(if([]:List Keyword).isEmpty then 0 else 1)<30))=true:=by rfl)
  (u:(apos.endLine==cpos.line)=true:=by rfl) (G:starEach (e::es) X.env=(false,eval e X.env)::starEach es X.env:=by rfl) (z:(backTo cpos (starEach es X.env)).any (·.1)=false:=by rfl) :
  PE X (.Call (.Attribute o name apos) (e::es) [] cpos) (Hv X.K T r m t):=by
 intro y s i H Q I h;refine wpAny_Call_method_late w f u rfl (NB (J y s i H _ I h) λv A ⟨x,S,p,l,ty,E⟩=>?_);obtain⟨O,N⟩:=Z0 p l ty;refine⟨T,g,F,k,j,O,N,?_⟩;have n:=M cpos y A i S _ p E;rw[G]at n ⊢;refine WY (by show(false||(backTo cpos (starEach es X.env)).any (·.1))=false;rw[z]<;>rfl) (Calls.evalArgs_plain ?_);exact NB n λZ W ⟨q,R,P,B,C⟩=>L y W i R x q v Z Q P l B C
end
def Vt(X:Cx)(id:String)(r:V->LV->Hp->VK->Prop):Prop :=
 ∀(h:AB) (s:Shared) (y:St) (H:Hp) (x:V) (z:LV) (v:Value) (u:LW) (Q:VK),Inv X h y H s->rA x v->nA z u->r x z H Q ->
  wpAny (model X.prog X.w) X.A (call (.builtin id) (v::u)) (EP X h y Q) X.xe s
theorem nA.one:∀{x:V}{us:LW},nA [x] us->∃u,us=[u]/\rA x u
 |_,_,.cons r .nil=>⟨_,rfl,r⟩
theorem nA.eraseIdx:∀{xs:LV}{us:LW}(i:Nat),nA xs us->nA (xs.eraseIdx i) (us.eraseIdx i)
 |_,_,_,.nil=>.nil|_,_,0,.cons _ t=>t|_,_,i+1,.cons r t=>.cons r (nA.eraseIdx i t)
theorem eO{α:Type}:∀(l:List α) (i:Nat),(l.eraseIdx i).length<=l.length
 |[],_=>Qb _|_::_,0=>wC _|_::r,i+1=>QCB (eO r i)
section
variable{X:Cx}{y:AB}{σ:St}{H:Hp}{s:Shared}{l b:Addr}{xs v w:LV}
theorem Inv.lset{its its':LW}{n:Nat}{f:Array Value->Array Value}{t':Nat}(I:Inv X y σ H s)(a:H l=some (.lst xs))
  (e:s.heap.get? l=some { cls:=.type "list",data:=.seq its.toArray n }) (k:f its.toArray=its'.toArray) (hv:nA v its') (h:v.length<=sizeLine) :
  Inv X y σ (BA H l (.lst v)) { s with heap:=s.heap.update l (Q3 f),toks:=t' }:=by
 have q:=PySem.IsL.update e f;rw[k]at q;refine I.write (x:=l) (e:=l) (by rw[a];exact trivial) (.inl rfl) (λg u hb z=>(QAv s.heap (Q3 f) (qB hb)).trans z) ⟨_,q⟩ ?_;exact⟨h,its',_,hv,q⟩
theorem Inv.lnew{its:LW}{t':Nat}(I:Inv X y σ H s)(hv:nA v its)(h:v.length<=sizeLine) :
  Inv X y σ (BA H s.heap.objs.size (.lst v)) { s with heap:=s.heap.push { cls:=.type "list",data:=.seq its.toArray },toks:=t' } :=
 I.laid (λ_ _ q=>QH _ q) (Qb _) ⟨h,its,0,hv,QV _ rfl⟩
theorem Inv.fresh(I:Inv X y σ H s):H s.heap.objs.size=none:=I.hok.fresh (Qb _)
theorem Inv.lstM(I:Inv X y σ H s)(h:H l=some (.lst xs)):xs.length<=sizeLine/\∃(its:LW) (n:Nat),nA xs its/\xs.length=its.length/\s.heap.get? l=some { cls:=.type "list",data:=.seq its.toArray n }:=by obtain⟨z,its,n,r,e⟩:=I.hok l _ h;exact⟨z,its,n,r,r.length,e⟩
theorem U4{n:Nat}(h:n<=sizeLine):WL n=false:=by unfold WL;exact dF (by omega)
end
section
variable{X:Cx}
def iW:V->LV->Hp->VK->Prop:=λx z H Q=>∃l h y,x=.ref l/\z=[y]/\H l=some (.lst h)/\h.length<sizeLine/\Q .non (BA H l (.lst (h++[y])))
theorem RY:Vt X "list.append" iW:=by intro k s i H x m v o Q I b f h;obtain⟨l,j,y,rfl,rfl,a,p,q⟩:=h;cases b;obtain⟨u,rfl,g⟩:=f.one;obtain⟨z,w,n,r,hl,e⟩:=I.lstM a;refine QBD F.slot_list_append ⟨_,e,rfl⟩ F.entry_list_append (F.args_list_append_2 _ _) (PySem.list_append l w.toArray n u (by rw[QN];omega)) ⟨e,?_⟩;refine⟨.non,_,I.lset (its':=w++[u]) a e (by simp) (r.append (.cons g .nil)) ?_,rfl,q⟩;rw[QJ,qF];omega
def J8:V->LV->Hp->VK->Prop:=λx z H Q=>∃l b y h,x=.ref l/\z=[.ref b]/\H l=some (.lst y)/\H b=some (.lst h)/\y.length+h.length<=sizeLine/\Q .non (BA H l (.lst (y++h)))
theorem PY:Vt X "list.extend" J8:=by
 intro f s K H x E v G Q I i j h;obtain⟨l,b,C,A,rfl,rfl,g,Z,J,q⟩:=h;cases i;obtain⟨u,rfl,m⟩:=j.one;cases m;obtain⟨z,w,n,r,hl,e⟩:=I.lstM g;obtain⟨B,y,p,o,Y,W⟩:=I.lstM Z;have a:w.toArray.size+y.toArray.size<=sizeLine:=by rw[QN,QN];omega
 have k:¬ (!w.toArray.isEmpty&&WL (w.toArray.size+y.toArray.size))=true:=by rw[U4 a,Wi];exact QG
 refine QBD F.slot_list_extend ⟨_,e,rfl⟩ F.entry_list_extend (F.args_list_extend_2 _ _)
  (AutoSeq1.list_extend_list_list_0 l w.toArray n b y.toArray p k (by rw[QN];omega) (by omega)) ⟨e,W,?_⟩
 refine⟨.non,_,I.lset (its':=w++y) g e (by simp) (r.append o) ?_,rfl,q⟩;rw[QJ];omega
def Bg:V->LV->Hp->VK->Prop:=λx z H Q=>∃l h i k y,x=.ref l/\z=[.int i]/\H l=some (.lst h)/\-(2 ^ 63)<=i/\i<2 ^ 63/\seqIndex? i h.length=some k/\h[k]?=some y/\Q y (BA H l (.lst (h.eraseIdx k)))
theorem A4:Vt X "list.pop" Bg:=by
 intro f s A H x B v C Q I m o h;obtain⟨l,j,i,k,y,rfl,rfl,g,K,W,hk,Y,q⟩:=h;cases m;obtain⟨u,rfl,p⟩:=o.one;obtain⟨t,rfl⟩:=p;obtain⟨z,a,n,r,hl,e⟩:=I.lstM g;obtain⟨w,Z,b⟩:=r.get Y;refine QBD F.slot_list_pop ⟨_,e,rfl⟩ F.entry_list_pop (F.args_list_pop_2 _ _)
  (MeetsSeq.list_pop_at l a.toArray n i t k w (fitsIndex_both K W) (by rw[QN,<- hl];exact hk) (by rw[<- Wl];exact Z) (by rw[QN];omega)) ⟨e,?_⟩
 refine⟨y,_,I.lset (its':=a.eraseIdx k) g e ?_ (r.eraseIdx k) ?_,b,q⟩;show a.toArray.eraseIdxIfInBounds k=(a.eraseIdx k).toArray;rw[List.eraseIdxIfInBounds_toArray];have:=eO j k;omega
end
end L2
namespace Att
open PySem PySem.W PySem.Calls PyProof.Rows
theorem OK{P:Params}{h:Heap}:∀(ns:LI) (vs:LW),WellAll P h vs (ns.map WData.int)->IntsAre vs ns:=by
 intro ns;induction ns with
 |nil=>intro vs w;rw[WK]at w;cases w;exact .nil|cons n ns x =>
  intro vs w;rw[QU]at w;cases w with|cons a b=>cases a;exact .cons _ _ (x _ b)
theorem script_of{l:OpenLaw}{n:Nat}(j:l.most=some n){P:Params}{h:Heap}{args:List WData}{x:LW}
  (y:l.row.toRowW.claim.pre args=true) (k:WellAll P h x args) :
  ∃a vs ns,x=[Value.ref a]/\args=[WData.list (ns.map WData.int)]/\h.get? a=some { cls:=.type "list",data:=.seq vs.toArray }/\IntsAre vs ns/\ns.length<=n:=by
 have b:WShape.hasAll [] args [.list .int]=true:=(pre_splitW y).1;have hc:l.pre.holds [] { args:=args }=true:=(pre_splitW y).2;obtain⟨d,r,rfl,p,o⟩:=hasAllW_cons b;obtain rfl:=hasAllW_nil o;obtain⟨s,rfl,m⟩:=hasW_list p;obtain⟨ns,rfl⟩:=items_int m;have z:ns.length<=n:=by
  unfold OpenLaw.pre at hc;have w:(WTm.not (.lt (.lit (.int (n:Int))) (.len (.arg 0)))).holds [] { args:=[.list (ns.map .int)] }=true:=by have w:=(holds_andW hc).1;rw[j]at w;exact w
  have v:=condW_of w (w_not (w_lt w_lit (w_len_list (w_arg rfl))));rw[QF]at v;refine Nat.le_of_not_lt λq=>?_;have g:(n:Int)<((ns.length:Nat):Int):=by omega
  first
   | (rw[dT g]at v;exact absurd v (by decide))
   | (simp at v;omega)
 cases k with
 |cons f e =>
  cases e;cases f with|list i u=>exact⟨_,_,ns,rfl,rfl,i,OK ns _ u,z⟩
theorem post_true(l:OpenLaw)(args:List WData):l.row.toRowW.claim.post args (.bool true) args=true :=
 postW_of (r:=l.row.toRowW) (X:=(true==true))
  (show WShape.has [] (.bool true) .bool=true by first|rfl|decide|simp[WShape.has,WShape.arms,WShape.armsAll])
  (show(WTm.eq .res (.lit (.bool true))).value [] { args:=args,res:=some (.bool true),after:=args }=some (.bool (true==true)) from w_eq_bool (w_res rfl) w_lit) rfl
end Att
namespace L2
open PySem PySem.Spec PyProof.Rows
theorem IN:∀{vs:LW}{ns:LI},IntsAre vs ns->nA (ns.map V.int) vs
 |_,_,.nil=>.nil|_,_,.cons n t h=>.cons ⟨t,rfl⟩ (IN h)
def Io(H:Hp):Prop:=∀b,H b=none∨(∃o h,H b=some (.frz o (.lst h)))∨∃q,H b=some (.tbl q)
theorem u5{P:Program}{w:World}{K:QC}{mg mb:Str->Option Value}{CX:m7}{k:Nat}{fa a:Addr}{fd:FuncData}{x:Str}{sp:Sp}{y:Shared}{vs:LW}{ns:LI}{T c:Addr}{X:Str}(hT:∀f:Heap,K.In f->∀P q,SO mg f P q->P=T/\q=X)(j:y.heap.TableAt c T #[])(hKT:K.lookup T=none)
  (KX:K.In y.heap) (Q:y.heap.Ns mainGlobals mg) (hb:y.heap.Ns builtinsNs mb) (hbb:∀x:Str,x≠"__name__"->mb x=bootBuiltins x) (R:y.heap.NoLimit) (hg:y.gens=#[])
  (J:y.heap.get? a=some { cls:=.type "list",data:=.seq vs.toArray }) (hi:IntsAre vs ns) (hl:ns.length<=sizeLine) (hr:Room k callerA)
  (F:∀f:Heap,K.In f->f.Ns mainGlobals mg->FnOk P w K mg f CX k fa fd [x] sp) (B:∀(s:Shared) (u:Value),BindsTo s fd ⟨[u],[]⟩ [(x,u)])
  (hsp:∀H:Hp,Io H->RC K H a (ns.map V.int)->sp [.ref a] H (λv _=>v=.bl true) λ_ _ _=>False)
  (hCX:∀H e s',CX [] H y (λ_ _ _=>False) e s'->False) :
  codeAny (model P w) callerA (.call (.ref fa) ⟨[.ref a],[]⟩) (λr s'=>r=.ok (.ret (.bool true))/\OldK y.heap s'.heap/\s'.os=y.os/\AllBare s'.gens) y:=by
 have rv:=IN hi;have O:=hi.length;have W:∀H:Hp,Io H->RC K H a (ns.map V.int)->fL P w H y.heap->(∀b,H b≠none->b=a∨b=T)->(H a≠none->K.lookup a=none)->H T=some (.tbl X) ->
   codeAny (model P w) callerA (.call (.ref fa) ⟨[.ref a],[]⟩) (λr s'=>r=.ok (.ret (.bool true))/\OldK y.heap s'.heap/\s'.os=y.os/\AllBare s'.gens) y:=by
  intro H hO hS A hA hK hP;have l:∀{b:Addr}{o:Obj},y.heap.get? b=some o->H b=none->(tQ y.heap H).get? b=some o:=λe n=>N5 e n;have noA:∀{b:Addr}{o:Obj}{L:Array DictEntry}{M:Nat},y.heap.get? b=some o->o.data=.dict L M->H b=none:=λ{b o L M} e d=>by
   cases q:H b with|none=>rfl|some u=>rcases hA b (by rw[q];simp) with e'|e';subst e';rw[J]at e;cases e;have d':Data.seq vs.toArray _=Data.dict L M:=d;cases d';subst e';rw[j.2]at e;cases e;have d':Data.fields #[]=Data.dict L M:=d;cases d'
  have Y:∀{b:Addr}{m:Str->Option Value},y.heap.Ns b m->(tQ y.heap H).Ns b m:=λ{b m} ⟨o,L,M,e,d,r⟩=>⟨o,L,M,l e (noA e d),d,r⟩
  have G:K.In (tQ y.heap H):=λb o e=>l (KX b o e) (by
   cases q:H b with|none=>rfl|some u=>rcases hA b (by rw[q];simp) with e'|e';subst e';rw[hK (by rw[q];simp)]at e;cases e;subst e';rw[hKT]at e;cases e)
  have hM:Mod K mg (tQ y.heap H):=⟨G,Y Q,⟨mb,Y hb,hbb⟩,let⟨mc,h1,h2⟩:=R;⟨mc,Y h1,h2⟩⟩
  have e0:Env0 P w K mg (tQ y.heap H) callerA [] y H:=⟨rfl,hM,λb o e=>Z9 e,wx (cZ _ _),trivial,λb hb=>absurd (show b∈([]:List Addr) from hb) (by simp),λP q t=>(by obtain⟨rfl,rfl⟩:=hT _ G P q t;exact hP),A,.of_eq hg⟩
  refine QB2 ((F _ G (Y Q)).run callerA [] y H ⟨[.ref a],[]⟩ [.ref a] [.ref a] _ _ hr e0 (B y (.ref a)) (.cons rfl .nil) (hsp H hO hS)) λr s' h=>?_;cases r with
  |error e=>exact(hCX H e s' h).elim|ok fl =>
   cases fl with
   |next=>exact Qd h|brk=>exact Qd h|cont=>exact Qd h|ret u =>
    obtain⟨v,H',os,bare,un,Z,r',q⟩:=h;have q':v=.bl true:=q;subst q';obtain rfl:u=Value.bool true:=r';have nx:∀b,b∉pX []:=λb z=>absurd (show b∈([]:List Addr) from z) (by simp);refine⟨rfl,⟨λb o e=>?_,λb o e=>un.there b o e (by simp)⟩,os,bare⟩;rcases hO b with z|⟨ob,xs,z⟩| ⟨tq',z⟩
    exact .inl (un.keep b o e z (nx b) (by simp));obtain⟨S,_⟩:=A b _ z;obtain⟨e2,_⟩:=Z b _ (un.frzs b ob _ z);rw[e]at S;cases S;exact .inl e2;have hb:b=T:=by rcases hA b (by rw[z];simp) with rfl|h;obtain⟨ps,S,_⟩:=A b _ z;rw[J]at S;cases S;exact h
    subst hb;obtain⟨ps,e2,_⟩:=Z b _ (un.tbls b _ z);have e0:=e.symm.trans j.2;cases e0;exact .inr (.inl ⟨j.isCodeTable,rfl,#[],ps,rfl,by simpa using e2⟩)
 have aT:a≠T:=λz=>by have e:=j.2;rw[<- z,J]at e;cases e
 have N:∀H:Hp,FA P w H y.heap T (.tbl X):=λH=>⟨#[],j.2,trivial,λpos cv g=>by cases g⟩
 cases hk:K.lookup a with
 |some o =>
  have e:=KX a o hk;rw[J]at e;cases e;refine W (λb=>if b=T then some (.tbl X) else none) (λb=>?_) (.inr ⟨_,vs.toArray,_,hk,rfl,rfl,rfl,by rw[QN,O];exact hl,by simpa using rv⟩) (λb u z=>?_) (λb z=>?_) (λz=>absurd (if_neg aT) z) (if_pos rfl);by_cases hb:b=T
  ·exact .inr (.inr ⟨_,if_pos hb⟩)
  exact .inl (if_neg hb);by_cases hb:b=T
  ·have p:=(if_pos hb).symm.trans z
   cases p;subst hb;exact N _
  have p:=(if_neg hb).symm.trans z;cases p;by_cases hb:b=T
  ·exact .inr hb
  exact absurd (if_neg hb) z
 |none =>
  have C:∀b,b=T->(if b=T then some (.tbl X) else if b=a then some (.frz { cls:=.type "list",data:=.seq vs.toArray } (.lst (ns.map V.int))) else none:Option HO)=some (.tbl X):=λb h=>if_pos h;have I:∀b,b=a->(if b=T then some (.tbl X) else if b=a then some (.frz { cls:=.type "list",data:=.seq vs.toArray } (.lst (ns.map V.int))) else none:Option HO)=some (.frz { cls:=.type "list",data:=.seq vs.toArray } (.lst (ns.map V.int))):=λb h=>(if_neg (h▸aT)).trans (if_pos h);have E:∀b,b≠T->b≠a->(if b=T then some (.tbl X) else if b=a then some (.frz { cls:=.type "list",data:=.seq vs.toArray } (.lst (ns.map V.int))) else none:Option HO)=none:=λb h h2=>(if_neg h).trans (if_neg h2);refine W (λb=>if b=T then some (.tbl X) else if b=a then some (.frz { cls:=.type "list",data:=.seq vs.toArray } (.lst (ns.map V.int))) else none) (λb=>?_) (.inl (.inr ⟨{ cls:=.type "list",data:=.seq vs.toArray },I a rfl⟩)) (λb u z=>?_) (λb z=>?_) (λ_=>hk) (C T rfl);by_cases hb:b=T
  ·exact .inr (.inr ⟨_,C b hb⟩)
  by_cases i:b=a
  ·exact .inr (.inl ⟨_,_,I b i⟩)
  exact .inl (E b hb i);by_cases hb:b=T
  ·have p:=(C b hb).symm.trans z
   cases p;subst hb;exact N _
  by_cases i:b=a
  ·have p:=(I b i).symm.trans z
   cases p;subst i;exact⟨J,by rw[QF];exact hl,vs,_,rv,J⟩
  have p:=(E b hb i).symm.trans z;cases p;by_cases hb:b=T
  ·exact .inr hb
  by_cases i:b=a
  ·exact .inl i
  exact absurd (E b hb i) z
def uD(s:Stmt):Arguments:=match s with
 | .FunctionDef _ a _ _ _ _ _ _ _ _=>a|_=>{ posonlyargs:=[],args:=[],vararg:=none,kwonlyargs:=[],kw_defaults:=[],kwarg:=none,defaults:=[] }
def oC(s:Stmt):List Stmt:=match s with
 | .FunctionDef _ _ b _ _ _ _ _ _ _=>b|_=>[]
def LA(s:Stmt):Scope:=match s with
 | .FunctionDef _ _ _ _ _ _ sc _ _ _=>sc|_=>{ kind:=.function,names:=[],isGenerator:=false,isCoroutine:=false }
noncomputable abbrev RZ:m7:=λ_ _ _ _ _ _=>False
noncomputable abbrev E0:XK:=λ_ _ _=>False
theorem Km{X:Cx}:xN RZ X E0:=λ_ _ _ _ _ _ _ h=>h.elim
structure Fun(K:QC)(x qual:Str)(st:Stmt)(f:Addr)(fd:FuncData):Prop where
 ex:∃(oc:Value) (od:Option Addr) (kV doc pm:Value) (an:Option Addr) (cdv ct:Value) (osl:Array (Option Value)),
  fd=ql x qual (uD st) (oC st) (LA st) .none kV doc pm an cdv ct/\K.lookup f=some ⟨oc,od,.func fd,osl⟩/\Wj K cdv qual=true
 kp:wL K (.ref f)=true
section
variable{P:Program}{w:World}{K:QC}{mg:Str->Option Value}{base:Heap}
section
variable{x y:Str}{st:Stmt}{f:Addr}{u:FuncData}{z:LS}
theorem Fun.ok{N:LS}{k:Nat}{b:Sp}(F:Fun K x y st f u)(S:FnScope N z (LA st))(len:∀vs H Q E,b vs H Q E->vs.length=z.length)
  (a:∀(v:Value) (A:Around) (outer:List Env) (s:Shared) (H:Hp) (vs:LV) (Q:VK) (E:XK),Room k (A.deeper (envOfC y (LA st) s.heap.objs.size f v))->b vs H Q E ->
   ∃t,RV (tV RZ P w K mg base N y (LA st) f v A outer s H E).nox (oC st) t/\t { nx:=λ_ m=>Q .non m,rt:=Q } (mD N vs) H):FnOk P w K mg base RZ (k+1) f u z b:=by
 obtain⟨p,o,kV,l,n,X,v,r,i,rfl,lk,g⟩:=F.ex;refine sd lk g S len λA outer s H vs Q E j e=>?_;obtain⟨t,h,q⟩:=a v A outer s H vs Q E j e;exact⟨t,h.nox,q⟩
theorem Fun.binds(F:Fun K x y st f u)
  (h:∀(kV v a:Value) (b:Option Addr) (k ct:Value) (us:LW),us.length=z.length->bindArgs (ql x y (uD st) (oC st) (LA st) .none kV v a b k ct) ⟨us,[]⟩=pure (z.zip us)):mJ K u z []:=by
 obtain⟨j,i,kV,v,a,b,k,ct,e,rfl,lk,g⟩:=F.ex;exact .all (h kV v a b k ct)
theorem Gi{i:Value}{g e:Option Addr}{a:Array (Option Value)}{kV v b h ct:Value}(l:K.lookup f=some ⟨i,g,.func (ql x y (uD st) (oC st) (LA st) .none kV v b e h ct),a⟩)
  (c:Wj K h y=true) (k:wL K (.ref f)=true):Fun K x y st f (ql x y (uD st) (oC st) (LA st) .none kV v b e h ct):=⟨⟨i,g,kV,v,b,e,h,ct,a,rfl,l,c⟩,k⟩
end
end
def Same(H h:Hp):Prop:=∀b o,H b=some o->h b=some o
theorem Same.refl(H:Hp):Same H H:=λ_ _ h=>h
theorem Same.trans{H y x:Hp}(a:Same H y)(b:Same y x):Same H x:=λc o h=>b c o (a c o h)
theorem Same.free{H x:Hp}(e:Same H x){l:Addr}(h:x l=Option.none):H l=Option.none:=by
 cases q:H l with|none=>rfl|some o=>rw[e l o q]at h;cases h
theorem Same.seq{K:QC}{H x:Hp}{a:Addr}{xs:LV}(e:Same H x)(h:RC K H a xs):RC K x a xs:=by rcases h with(h|⟨o,h⟩)|h;exact .inl (.inl (e _ _ h));exact .inl (.inr ⟨o,e _ _ h⟩);exact .inr h
def CN(env:Env):List (Str×NameKind)->List (Str×Addr)->List (Str×Addr)
 |[],cs=>cs|(n,k)::r,cs=>CN env r (if k==.free then(n,(env.cells.lookup n).getD 0)::cs else cs)
theorem JV{u:Scope}{env:Env}(h:∀y∈u.names,y.2=.free->∃c,env.cells.lookup y.1=some c):closureFor u env=pure (CN env u.names []):=by
 have key:∀(l:List (Str×NameKind)) (v:List (Str×Addr)),(∀y∈l,y.2=.free->∃c,env.cells.lookup y.1=some c) ->
   (forIn l v λ(x:Str×NameKind) (r:List (Str×Addr))=>(if(x.2==NameKind.free)=true then(do let c <- cellOf env x.1;pure (ForInStep.yield ((x.1,c)::r))) else pure (ForInStep.yield r):Sem (ForInStep (List (Str×Addr)))))=pure (CN env l v):=by
  intro l;induction l with
  |nil=>intro v _;rfl|cons y l a =>
   intro v hl;obtain⟨n,k⟩:=y;rw[W5];by_cases hk:k=.free;subst hk;obtain⟨c,hc⟩:=hl (n,.free) QE rfl;have hc:env.cells.lookup n=some c:=hc;simp only[beq_self_eq_true,if_true,cellOf,hc,pure_bind,CN,QCC];exact a _ λz w=>hl z (QD _ w);have hb:(k==NameKind.free)=false:=by simpa using hk
   simp only[hb,Qo,if_false,pure_bind,CN];exact a _ λz w=>hl z (QD _ w)
 have e:=key u.names [] h;unfold closureFor;exact(congrArg (· >>= pure) e).trans (pure_bind _ _)
theorem UO{env:Env}{x:Str}{c:Addr}:∀(l:List (Str×NameKind)) (cs:List (Str×Addr)),(∀y∈l,y.2=.free->∃c,env.cells.lookup y.1=some c)->(∀c,cs.lookup x=some c->env.cells.lookup x=some c) ->
  (CN env l cs).lookup x=some c->env.cells.lookup x=some c
 |[],cs,_,hc,h=>hc c h|(n,k)::r,cs,hl,hc,h=>by
  refine UO r _ (λz a=>hl z (QD _ a)) (λd u=>?_) h;by_cases hk:k=.free;subst hk;obtain⟨e,v⟩:=hl (n,.free) QE rfl;have v:env.cells.lookup n=some e:=v;simp only[beq_self_eq_true,if_true,v,QCC,wl]at u;cases w:x==n with|true=>rw[w]at u;cases u;rw[qZ w];exact v|false=>rw[w]at u;exact hc d u
  have hb:(k==NameKind.free)=false:=by simpa using hk
  simp only[hb,Qo,if_false]at u;exact hc d u
theorem PM{env:Env}{x:Str}:∀(l:List (Str×NameKind)) (cs:List (Str×Addr)),((∃c,cs.lookup x=some c)∨(x,NameKind.free)∈l)->∃c,(CN env l cs).lookup x=some c
 |[],cs,h=>by rcases h with h|h;exact h;cases h
 | (n,k)::r,cs,h=>by
  refine PM r _ ?_;rcases h with⟨c,h⟩| h;refine .inl ?_;split;rw[wl];split;exact⟨_,rfl⟩;exact⟨c,h⟩;exact⟨c,h⟩;rcases QL.mp h with h|h
  ·cases h
   refine .inl ?_;simp
  exact .inr h
def JB:List Bool->Nat->LS->LS
 |b::m,j,x::N=>(if b then⟨#[46,j]⟩ else x)::JB m (j+1) N|_,_,N=>N
def MC:List Bool->St->St
 |b::m,v::σ=>(if b then none else v)::MC m σ|_,σ=>σ
theorem LJ:∀(m:List Bool) (σ:St),(MC m σ).length=σ.length
 |[],σ=>by unfold MC;rfl|_::_,[]=>by unfold MC;rfl|b::m,v::σ=>by unfold MC;rw[QM,QM,LJ m σ]
theorem ZO:∀(m:List Bool) (j:Nat) (N:LS),(JB m j N).length=N.length
 |[],_,N=>by unfold JB;rfl|_::_,_,[]=>by unfold JB;rfl|b::m,j,x::N=>by unfold JB;rw[QM,QM,ZO m (j+1) N]
theorem iM:∀(m:List Bool) (j:Nat) (N:LS) (σ:St) (i:Nat) (v:V),(MC m σ)[i]?=some (some v)->σ[i]?=some (some v)/\(JB m j N)[i]?=N[i]?
 |[],_,N,σ,i,v,h=>by unfold MC at h;unfold JB;exact⟨h,rfl⟩|_::_,_,N,[],i,v,h=>by unfold MC at h;simp at h|b::m,j,[],w::σ,i,v,h=>by
  unfold MC at h;cases i with
  |zero =>
   cases b with|true=>simp at h|false=>simp at h;subst h;exact⟨by simp,by unfold JB;rfl⟩
  |succ i=>have q:=(iM m (j+1) [] σ i v (by simpa using h)).1;exact⟨by simpa using q,by unfold JB;rfl⟩
 |b::m,j,x::N,w::σ,0,v,h=>by
  unfold MC at h;cases b with|true=>simp at h|false=>simp at h;subst h;exact⟨by simp,by unfold JB;simp⟩
 |b::m,j,x::N,w::σ,i+1,v,h=>by unfold MC at h;have q:=iM m (j+1) N σ i v (by simpa using h);unfold JB;exact⟨by simpa using q.1,by simpa using q.2⟩
def SL(h sc:Scope):Scope :=
  { h with names:=h.names.map λ(n,k)=>if(k==.free&&sc.kind==.function&&sc.names.lookup n==some .cell) then(n,.cell) else(n,k) }
theorem CC(sc:Scope)(x:Str):∀(l:List (Str×NameKind)),
  (l.map λ(n,k)=>if(k==NameKind.free&&sc.kind==.function&&sc.names.lookup n==some .cell) then(n,NameKind.cell) else(n,k)).lookup x =
   (l.lookup x).map λk=>if(k==NameKind.free&&sc.kind==.function&&sc.names.lookup x==some .cell) then NameKind.cell else k
 |[]=>rfl|(n,k)::r=>by
  rw[QU];have e:(if(k==NameKind.free&&sc.kind==.function&&sc.names.lookup n==some .cell)=true then(n,NameKind.cell) else(n,k)) =
    (n,if(k==NameKind.free&&sc.kind==.function&&sc.names.lookup n==some .cell)=true then NameKind.cell else k):=by split<;>rfl
  show QCH x ((if(k==NameKind.free&&sc.kind==.function&&sc.names.lookup n==some .cell)=true then(n,NameKind.cell) else(n,k))::_)=_;rw[e,wl,wl];cases h:x==n with|true=>rw[qZ h];simp|false=>exact CC sc x r
structure CompSt(N:LS)(sc scope:Scope)(tgs:LS)(mask:List Bool):Prop where
 kind:scope.kind=.function
 nocell:∀y∈scope.names,y.2≠.cell
 names:∀y∈scope.names,y.2=.local->scope.names.lookup y.1=some .local
 free:∀y∈scope.names,y.2=.free->sc.names.lookup y.1=some .cell∨sc.names.lookup y.1=some .free
 loc:∀y∈scope.names,y.2=.local->y.1∈tgs∨y.1=(".0":Str)
 nd:(tgs++JB mask 0 N).Nodup
 no0:(".0":Str)∉tgs++JB mask 0 N
noncomputable def NA(X:Cx)(h:Scope)(y:LS)(x:List Bool)(s:Shared)(H:Hp)(ex:List Addr):Cx :=
  { X with N:=y++JB x 0 X.N,s₀:=s,H₀:=H,env:=compEnvC h (CN X.env h.names []) s.heap.objs.size X.env,outer:=X.stack,stack:=X.stack,ex:=ex,fn:=λ_=>false,pn:=[],xe:=λ_ _=>False }
def NI(k:Nat)(h:List Bool)(σ:St):St:=QAT k none++MC h σ
section
variable{X:Cx}{f:AB}{σ:St}{H:Hp}{s:Shared}{w:Scope}{d:LS}{a:List Bool}{ex:List Addr}
theorem CompSt.cells(C:CompSt X.N X.env.scope w d a)(ok:X.Ok):∀y∈w.names,y.2=.free->∃c,X.env.cells.lookup y.1=some c:=λy h x =>
 ok.has y.1 (C.free y h x)
theorem CompSt.kindCF(C:CompSt X.N X.env.scope w d a){x:Str}(h:(relabel w X.env).names.lookup x=some .cell∨(relabel w X.env).names.lookup x=some .free):(x,NameKind.free)∈w.names:=by
 have e:=CC X.env.scope x w.names;have u:(relabel w X.env).names.lookup x=(w.names.lookup x).map λk=>if(k==NameKind.free&&X.env.scope.kind==.function&&X.env.scope.names.lookup x==some .cell) then NameKind.cell else k:=e
 rw[u]at h;cases q:w.names.lookup x with
 |none=>rw[q]at h;simp at h|some k =>
  have y:=qM q;have z:=C.nocell _ y;cases k with|free=>exact y|cell=>exact absurd rfl z|«local»=>rw[q]at h;simp at h|_=>rw[q]at h;simp at h
theorem aV(I:Inv X f σ H s)(C:CompSt X.N X.env.scope w d a)(n:∀b∈ex,lJ X f H b/\b<s.heap.objs.size){h':Heap}{t':Nat}
  (hn:h'.Ns s.heap.objs.size (λ_=>none)) (hs:qW s.heap.objs.size (s.heap.push { cls:=.type "dict",data:=.dict #[] }) h') :
  Inv (NA X w d a s H ex) [] (NI d.length a σ) H { s with heap:=h',toks:=t' }:=by
 have kept:∀b u,s.heap.get? b=some u->h'.get? b=some u:=λb u e=>hs.extBut b u (Qi (QW e)) (QH _ e);have look:∀x c,(CN X.env w.names []).lookup x=some c->X.env.cells.lookup x=some c:=λx c e=>UO w.names [] (C.cells I.ok) (λc z=>by simp at z) e;have nofs:∀b∈ex,b∉pX X.stack:=λb hb z=>by obtain⟨⟨_,f1,f2,_⟩,_⟩:=n b hb;rcases QL.mp (I.stkSub b z) with e|e;exact f1 e;exact f2 e
 refine⟨⟨I.ok.mod,C.kind,I.ok.glob,I.ok.blt,Qb _,λx y c E j=>I.ok.inj x y c (look x c E) (look y c j),λx hx=>?_,λx c hf _=>absurd (show false=true from hf) QG,I.ok.hd,I.ok.frames,.inl rfl,λb hb=>?_,I.bs,QY I.ok.bsz I.sz,λb o e hb=>?_,nofs,I.stack,I.stkFree,I.tb⟩,
  rfl,I.bare,Un.kept kept,⟨_,hn,λi x v E j h3=>?_⟩,λx c h=>?_,I.hok.fresh (Qb _),λx c h=>I.freeC x c (look x c h),λp hp=>absurd (show p∈([]:AB) from hp) (by simp),I.hok.kept kept,?_⟩
 exact PM w.names [] (.inr (C.kindCF hx));obtain⟨⟨_,_,_,_,f4,_⟩,lt⟩:=n b hb;exact⟨Qi lt,λx c e=>f4 x c (look x c e)⟩;obtain⟨⟨_,_,_,f3,_⟩,_⟩:=n b hb;rcases f3 with z|z;exact I.ok.noex b o e z;exact absurd (Qk (QW (I.ok.bs b o e).1) z) (qw _)
 ·
  have hi:d.length<=i:=by rcases QA5 i d.length with z|z;unfold NI at j;rw[qS (by simpa using z),wf]at j;split at j<;>cases j;exact z
  have Z:(JB a 0 X.N)[i - d.length]?=some x:=by have:(d++JB a 0 X.N)[i]?=some x:=E;rw[qH hi]at this;exact this
  have O:(MC a σ)[i - d.length]?=some (some v):=by unfold NI at j;rw[qH (by simpa using hi)]at j;simpa using j
  obtain⟨g1,g2⟩:=iM a 0 X.N σ _ v O;rw[g2]at Z;have A:x∈d++JB a 0 X.N:=Q4 (show(d++JB a 0 X.N)[i]?=some x from E);have K:x∉d:=λz=>by have nd:=C.nd;rw[qX]at nd;exact nd.2.2 x z x (Q4 (by rw[g2];exact Z)) rfl
  have g:(x,NameKind.free)∈w.names:=by
   rcases h3 with z|z|z;exfalso;have e:(relabel w X.env).names.lookup x=some .local:=z;have Q:=CC X.env.scope x w.names;have P:(relabel w X.env).names.lookup x=(w.names.lookup x).map λk=>if(k==NameKind.free&&X.env.scope.kind==.function&&X.env.scope.names.lookup x==some .cell) then NameKind.cell else k:=Q
   rw[P]at e;cases q:w.names.lookup x with
   |none=>rw[q]at e;cases e|some k =>
    rw[q]at e;have L:=qM q;have G:k=.local:=by
     cases k with|«local»=>rfl|free=>simp at e;split at e<;>cases e|_=>simp at e
    subst G;rcases C.loc _ L rfl with z|z;exact K z;exact C.no0 (z▸A)
   exact C.kindCF (.inl z);exact C.kindCF (.inr z)
  obtain⟨m,hnm,hl⟩:=I.loc;have F:Oo X.env.scope x:=.inr (C.free _ g rfl);obtain⟨u,r,l⟩:=hl _ x v Z g1 F;refine⟨u,r,?_⟩;rcases l with⟨k,_⟩| ⟨_,c,hc,Y⟩
  exfalso;have S:X.env.scope.names.lookup x=some .local:=k;rcases C.free _ g rfl with z|z;have W:X.env.scope.names.lookup x=some .cell:=z;rw[S]at W;cases W;have W:X.env.scope.names.lookup x=some .free:=z;rw[S]at W;cases W;obtain⟨R,B⟩:=PM (env:=X.env) w.names [] (.inr g);have:R=c:=by have:=look x R B;rw[hc]at this;exact(Qn this).symm
  subst this;refine .inr ⟨?_,R,B,?_⟩;rcases h3 with z|z|z
  ·exfalso
   have e:(relabel w X.env).names.lookup x=some .local:=z;have Q:=CC X.env.scope x w.names;have P:(relabel w X.env).names.lookup x=(w.names.lookup x).map λk=>if(k==NameKind.free&&X.env.scope.kind==.function&&X.env.scope.names.lookup x==some .cell) then NameKind.cell else k:=Q
   rw[P]at e;cases q:w.names.lookup x with
   |none=>rw[q]at e;cases e|some k =>
    rw[q]at e;have L:=qM q;have G:k=.local:=by
     cases k with|«local»=>rfl|free=>simp at e;split at e<;>cases e|_=>simp at e
    subst G;rcases C.loc _ L rfl with z|z;exact K z;exact C.no0 (z▸A)
  exact .inl z;exact .inr z;obtain⟨o,J,M⟩:=Y;exact⟨o,kept _ _ J,M⟩
 obtain⟨v,o,J,M⟩:=I.cell x c (look x c h);exact⟨v,o,kept _ _ J,M⟩;show(NI d.length a σ).length=(d++JB a 0 X.N).length;unfold NI;rw[QJ,QJ,qm,LJ,ZO,I.len]
end
section
variable{X:Cx}{h:AB}{σ a:St}{H k:Hp}{s s':Shared}{x:Scope}{d:LS}{w:List Bool}{ex:List Addr}{D:Addr}{y:LV}{its:LW}
theorem eV(I:Inv X h σ H s)(l:∀b∈ex,lJ X h H b/\b<s.heap.objs.size)(W:D∈ex)(J:Inv (NA X x d w s H ex) [] a k s')(f:k D=none)(hv:nA y its)(B:y.length<=sizeLine)
  (hl:s'.heap.PlainList D its.toArray) {g:Heap}(C:qW s.heap.objs.size s'.heap g):Inv X h σ (BA k D (.lst y)) { s' with heap:=g }:=by
 have un:Un (pX X.stack) ex H k s.heap s'.heap:=J.base;have j:∀b o,s.heap.get? b=some o->b≠s.heap.objs.size:=λb o e=>Qi (QW e);have E:=l D W;have Z:k s.heap.objs.size=none:=J.free;have N:D≠s.heap.objs.size:=Qi E.2;have m:∀b u,b≠s.heap.objs.size->s'.heap.get? b=some u->g.get? b=some u:=λb u A e=>C.extBut b u A e;refine I.call' (s':={ s' with heap:=g }) (ch:=ex) J.os ⟨λb o e n hb i=>?_,λb o e n hb i=>?_,λb o e n i=>?_,λb o e i=>?_,λb p e=>?_,λb o u e=>?_,λb r e=>?_⟩ ?_ J.bare λb hb=>?_;exact m b o (j b o e) (un.keep b o e n hb i);obtain⟨K,q⟩:=un.slot b o e n hb i;exact⟨K,m b _ (j b o e) q⟩;have q:=un.free b o e n i;rw[vA (λ(z:b=D)=>i (by rw[z];exact W))];exact q;obtain⟨Y,q⟩:=un.there b o e i;exact⟨Y,m b Y (j b o e) q⟩;rw[vA (aA (un.tups b p e) f)];exact un.tups b p e;rw[vA (aA (un.frzs b o u e) f)];exact un.frzs b o u e;rw[vA (aA (un.tbls b r e) f)];exact un.tbls b r e;intro b u e;by_cases hb:b=D;subst hb;rw[JA]at e;cases e;obtain⟨n,q⟩:=hl;exact⟨B,its,n,hv,m _ _ N q⟩;rw[vA hb]at e;refine(J.hok b u e).stay (λc v hc q=>m c v ?_ q) (λc q=>?_) λc p q=>?_;rintro rfl;rcases hc with z|z;subst z;rw[Z]at e;cases e;rw[Z]at z;cases z;rw[vA (aA q f)];exact q;rw[vA (aA q f)];exact q;obtain⟨⟨P,M,O,L,G,F⟩,_⟩:=l b hb;exact⟨L,M,G,F⟩
end
section
variable{X:Cx}{s:Shared}{V Z K:Expr}{U:List Expr}{d:Scope}{pos:Pos}{B:TI}{g:TG}{tc:TT}{te:TE}{Y:LS}{j:List Bool}{l:AB}
def Eo(X:Cx)(U:List Expr)(t:TT):Prop:=∀(l:AB) (s:Shared) (h:St) (H:Hp) (Q:Bool->Hp->Prop),Inv X l h H s->t h H Q ->
 wpAny (model X.prog X.w) X.A (forIn U true λc r=>if r=true then do let ok <- isTrue c X.env (eval c X.env);pure (ForInStep.yield ok) else pure (ForInStep.yield r)) (TP X l h Q) X.xe s
theorem UW:Eo X [] (λ_ H Q=>Q true H):=λl s x H Q I h=>by rw[QBM];exact QK ⟨H,I,h⟩
theorem XW{c:Expr}{t:TT}(hc:PT X c t):Eo X [c] t:=λl s x H Q I h=>by rw[W5];simp only[if_true];refine QA (QA (NB (hc l s x H Q I h) λb y q=>QK ?_));dsimp only;rw[QBM];exact QK q
theorem vH{prog:Program}{w:World}{A:Around}{R:Result->Shared->Prop}{y:Expr}{it q:Value}{env:Env}(I:Nat->Shared->Prop)
  (W:∀n s,I n s->wpAny (model prog w) A (pyNext it) (λr k=>match r with
   |none=>R (.ok .next) k|some v=>wpAny (model prog w) A (letOwnedTupleGo y it v) (λ_ u=>wpAny (model prog w) A (assign y env v) (λ_ f =>
     wpAny (model prog w) A (forIn U true λc r=>if r=true then do let ok <- isTrue c env (eval c env);pure (ForInStep.yield ok) else pure (ForInStep.yield r)) (λok z =>
      if ok=true then wpAny (model prog w) A (eval V env) (λx e =>
       wpAny (model prog w) A (call (.builtin "list.append") [q,x]) (λ_ b=>∃m,m<n/\I m b) (λ_ _=>False) e) (λ_ _=>False) z
      else ∃m,m<n/\I m z) (λ_ _=>False) f) (λ_ _=>False) u) (λ_ _=>False) k) (λ_ _=>False) s)
  (n:Nat) (h:I n s) :
  codeAny (model prog w) A (.compLoop (.ListComp V [⟨y,Z,U,0⟩] d pos) 0 it q env) R s:=by
 refine codeAny_loop rfl I (λn s G=>?_) n h;show wpAny _ A ((compTurn (.ListComp V [⟨y,Z,U,0⟩] d pos) 0 it q env).onRaise (λx=>do noteFrame x env;theTreesLotGoes x)) _ _ s;refine wpAny_noted ?_;rw[compTurn_list];refine QA (QBf (QA (qi (W n s G) (λr k o=>?_) λ_ _ a=>a.elim)));cases r with
 |none=>exact QK o|some v =>
  refine QA (qi o (λ_ u p=>?_) λ_ _ a=>a.elim);refine QA (qi p (λ_ f F=>QA (qi F (λok z i=>?_) λ_ _ a=>a.elim)) λ_ _ a=>a.elim);cases ok with|false=>exact QK ⟨rfl,i⟩|true=>exact QA (QA (qi i (λx e E=>QA (qi E (λ_ b C=>QK (QK ⟨rfl,C⟩)) λ_ _ a=>a.elim)) λ_ _ a=>a.elim))
noncomputable def G0(B:TI)(g:TG)(tc:TT)(te:TE)(k:Nat)(j:List Bool):TE:=λa H Q=>B a H λJ q=>∃W:Nat->Nat->LV->St->Hp->Prop,(∃m,W 0 m [] (NI k j a) q) /\
 ∀i m h v u,W i m h v u->(J.stop i u/\h.length<=sizeLine/\∀p,u p=none->Q (.ref p) (BA u p (.lst h))) ∨
  (J.go i u/\∀x f,J.yld i u x f->g x v f λz o=>tc z o λb e=>if b=true then te z e λy n=>h.length<sizeLine/\∃w,w < m/\W (i+1) w (h++[y]) z n else ∃w,w < m/\W (i+1) w h z e)
def Vp(X:Cx)(l:AB)(H:Hp)(s:Shared)(C:Addr):Prop :=
 H C=none/\C≠X.env.locals/\X.s₀.heap.objs.size<=C/\(∀x c,X.env.cells.lookup x=some c->c≠C)/\(∀p∈X.pn++l,p.1≠C)/\∃m,s.heap.Ns C m
theorem AS{pos':Pos}{use:Option (Value->Sem Unit)}(hc:X.calm=true)(hi:PI X K Z B)(C:CompSt X.N X.env.scope d Y j)
  (inner:∀s H ex,PG (NA X d Y j s H ex) K g/\Eo (NA X d Y j s H ex) U tc/\PE (NA X d Y j s H ex) V te)
  (hs:∀x,foldedSetIterable Z X.env x=pure x) {σ:St}{H:Hp}{Q:VK}{QQ:pC}(I:Inv X l σ H s) (h:G0 B g tc te Y.length j σ H Q)
  (fin:∀(D:Addr) (f:Hp) (s6:Shared) (F:Addr),Inv X l σ f s6->Vp X l f s6 F->Q (.ref D) f->compPost (model X.prog X.w) X.A X.xe use QQ (.ref D) F (.ok .next) s6) :
  wpAny (model X.prog X.w) X.A (comprehension (.ListComp V [⟨K,Z,U,0⟩] d pos) d X.env pos' (newList []) false (eval Z X.env) use) QQ X.xe s:=by
 refine wpAny_comprehension_free (use:=use) rfl hs (JV (C.cells I.ok)) C.kind C.names (NB (hi l s σ H _ I h) λv s1 h1=>NB h1 λitv s2 h2=>?_);obtain⟨it,a,tn,J,E,e,I2,T,st2,f2,W,⟨m0,w0⟩,turn⟩:=h2;subst e;refine Qy ?_;have I3:Inv X l σ E { s2 with heap:=s2.heap.push { cls:=.type "list",data:=.seq ([]:LW).toArray } }:=I2.kept (t':=s2.toks) λb o e=>QH _ e;generalize hS:({ s2 with heap:=s2.heap.push { cls:=.type "list",data:=.seq ([]:LW).toArray } }:Shared)=s3 at I3;have sz3:s3.heap.objs.size=s2.heap.objs.size+1:=by rw[<- hS];exact QAU ..
 have lst3:s3.heap.PlainList s2.heap.objs.size ([]:LW).toArray:=⟨0,by rw[<- hS];exact QV _ rfl⟩
 have old3:∀b o,s2.heap.get? b=some o->s3.heap.get? b=some o:=λb o e=>by rw[<- hS];exact QH _ e
 generalize hDd:s2.heap.objs.size=D at sz3 lst3;have fD:lJ X l E D:=by rw[<- hDd];exact I2.fpOk (Qb _) (I2.hok.fresh (Qb _))
 have fpl:∀b∈a,b<D:=λb hb=>by obtain⟨o,e,_⟩:=T.obj _ _ st2 b hb;rw[<- hDd];exact QW e
 have hex:∀b∈D::a,lJ X l E b/\b<s3.heap.objs.size:=λb hb=>by rcases QL.mp hb with z|z;subst z;exact⟨fD,by rw[sz3];exact Nat.lt_succ_self _⟩;exact⟨f2 b z,by rw[sz3];exact WB (fpl b z)⟩
 refine QBG C.nocell (by intro y hy;simp at hy) (λh' hn hsb=>?_) C.kind;have J0:Inv (NA X d Y j s3 E (D::a)) [] (NI Y.length j σ) E { s3 with heap:=h',toks:=s3.toks+([]:List (Str×Value)).length }:=aV I3 C hex hn hsb;have kept:∀b u,s3.heap.get? b=some u->h'.get? b=some u:=λb u e=>hsb.extBut b u (Qi (QW e)) (QH _ e);obtain⟨pg,pf,pl⟩:=inner s3 E (D::a);have loop:∀s4:Shared,s4={ s3 with heap:=h',toks:=s3.toks+([]:List (Str×Value)).length } ->
   codeAny (model X.prog X.w) X.A (.compLoop (.ListComp V [⟨K,Z,U,0⟩] d pos) 0 (.ref it) (.ref D) (compEnvC d (CN X.env d.names []) s3.heap.objs.size X.env))
    (compPost (model X.prog X.w) X.A X.xe use QQ (.ref D) s3.heap.objs.size) s4:=by
  rintro s4 rfl;have exok:∀{f:Hp},(∀b∈D::a,f b=none)->∀(pp:AB),(∀p∈pp,p.1∉a)->∀b∈a,lJ (NA X d Y j s3 E (D::a)) pp f b:=λ{f} hn pp hpp b hb=>by have g:=J0.ok.exf b (QD _ hb);exact⟨hn b (QD _ hb),g.1,J0.ok.exfs b (QD _ hb),.inl (QD _ hb),g.2,λp G z=>hpp p (by simpa[NA]using G) (z▸hb)⟩
  have DX:=J0.ok.exf D QE;have Dfp:D∉a:=λz=>qw _ (fpl D z);refine vH (λn M=>∃i m f L k,Inv (NA X d Y j s3 E (D::a)) [] m f M/\tn i M.heap/\(∀b∈D::a,f b=none)/\nA L k/\M.heap.PlainList D k.toArray/\W i n L m f) ?_ m0
   ⟨0,_,E,[],[],J0,T.keep _ _ _ (T.keep _ _ _ st2 λb hb o e=>old3 b o e) λb hb o e=>kept b o e,λb hb=>((hex b hb).1).1,.nil,lst3.at λo e=>kept _ _ e,w0⟩
  rintro n s5 ⟨i,P,H5,L,k,I5,st5,fr5,va5,ls5,w5⟩;obtain⟨R,lo⟩:=id ls5;have pinD:∀{m:St}{f:Hp}{M:Shared},Inv (NA X d Y j s3 E (D::a)) [] m f M->(∀b∈D::a,f b=none)->M.heap.get? D=some { cls:=.type "list",dict:=none,data:=.seq k.toArray R } ->
    Inv (NA X d Y j s3 E (D::a)) [(D,{ cls:=.type "list",dict:=none,data:=.seq k.toArray R })] m f M:=λ{m f M} I' fr' e' =>
   I'.pins_of λp G=>by
    have e:p=(D,{ cls:=.type "list",dict:=none,data:=.seq k.toArray R }):=by simpa using G
    subst e;exact⟨e',fr' D QE,DX.1,J0.ok.exfs D QE,λv z=>by cases z⟩
  have S:∀p∈[(D,({ cls:=.type "list",dict:=none,data:=.seq k.toArray R }:Obj))],p.1∉a:=λp G=>by
   have e:p=(D,{ cls:=.type "list",dict:=none,data:=.seq k.toArray R }):=by simpa using G
   subst e;exact Dfp
  have I5':=pinD I5 fr5 lo;rcases turn i n L P H5 w5 with⟨stop,hz,qn⟩| ⟨go,step⟩
  refine NB (T.done (NA X d Y j s3 E (D::a)) rfl rfl rfl hc i _ s5 P H5 (λ_ _=>False) I5' (exok fr5 _ S) st5 stop) λr s6 ⟨hr,I6⟩=>?_;subst hr;obtain⟨m6,hn6,_⟩:=I6.loc;have l6:s6.heap.PlainList D k.toArray:=⟨R,(I6.pin _ (QZ _ (QI.mpr rfl))).1⟩
  have I6':Inv (NA X d Y j s3 E (D::a)) [] P H5 s6:=I6.pins_of λp G=>by simp at G
  have Iout:Inv X l σ (BA H5 D (.lst L)) s6:=eV I3 hex QE I6' (fr5 D QE) va5 hz l6 (qW.refl _ _);have lC:H5 s3.heap.objs.size=none:=I6'.free;refine fin D _ s6 s3.heap.objs.size Iout ⟨?_,wH I3.lt,I3.sz,λx c e z=>?_,λp G z=>?_,m6,hn6⟩ (qn D (fr5 D QE));rw[vA (λ(z:s3.heap.objs.size=D)=>absurd (hex D QE).2 (by rw[z];exact qw _))];exact lC;obtain⟨v,q⟩:=I3.cell x c e;exact absurd q.lt (by rw[z];exact qw _);exact absurd (QW (I3.pin p G).1) (by rw[z];exact qw _);refine NB (T.item (NA X d Y j s3 E (D::a)) rfl rfl rfl hc i _ s5 P H5 (λ_ _=>False) I5' (exok fr5 _ S) st5 go) λr s6 ⟨u,hr,h6⟩=>?_;subst hr;refine NB h6 λ_ s7 ⟨x,H7,I7,r7,y7,st7,fr7⟩=>?_;have hD7:=(I7.pin _ (QZ _ (QI.mpr rfl)))
  have fr7':∀b∈D::a,H7 b=none:=λb hb=>by rcases QL.mp hb with z|z;subst z;exact hD7.2.1;exact fr7 b z
  have I7':=I7.pinned (exok fr7' _ S) (T.obj _ _ st7);have bk:∀{m:St}{f:Hp}{M:Shared},Inv (NA X d Y j s3 E (D::a)) ([(D,{ cls:=.type "list",dict:=none,data:=.seq k.toArray R })]++bM a s7.heap) m f M ->
    M.heap.get? D=some { cls:=.type "list",dict:=none,data:=.seq k.toArray R }/\tn (i+1) M.heap/\(∀b∈D::a,f b=none):=λ{m f M} I'=>by
   have hD:=I'.pin (D,{ cls:=.type "list",dict:=none,data:=.seq k.toArray R }) (QZ _ (Ql _ (QI.mpr rfl)));refine⟨hD.1,T.keep _ _ _ st7 λb hb o e=>(I'.pin (b,o) (QZ _ (QZ _ (IE hb e)))).1,λb hb=>?_⟩;rcases QL.mp hb with z|z;subst z;exact hD.2.1;obtain⟨o,e,_⟩:=T.obj _ _ st7 b z;exact(I'.pin (b,o) (QZ _ (QZ _ (IE z e)))).2.1
  refine NB (pg _ s7 P H7 x u _ I7' r7 (step x H7 y7)) λ_ s8 ⟨O,H8,I8,q8⟩=>?_;refine NB (pf _ s8 O H8 _ I8 q8) λok s9 ⟨H9,I9,q9⟩=>?_;cases ok with
  |false=>obtain⟨m',hm,w'⟩:=q9;obtain⟨b1,b2,b3⟩:=bk I9;exact⟨m',hm,i+1,O,H9,L,k,I9.pins_of λp G=>by simp at G,b2,b3,va5,⟨R,b1⟩,w'⟩|true =>
   refine NB (pl _ s9 O H9 _ I9 q9) λy s10 ⟨yv,H10,I10,r10,hz,m',hm,w'⟩=>?_;obtain⟨b1,b2,b3⟩:=bk I10;have hlen:=va5.length;refine wpAny_list_append_plain (hsz:=by rw[QN];omega) (show s10.heap.PlainList D k.toArray from⟨R,b1⟩) λh11 hl11 hs11=>?_;refine⟨m',hm,i+1,O,H10,L++[yv],k++[y],?_,T.keep _ _ _ b2 λb hb o e=>(hs11.2 b (λz=>Dfp (z▸hb))).trans e,b3,va5.append (.cons r10 .nil),by simpa using hl11,w'⟩;have I10':Inv (NA X d Y j s3 E (D::a)) [] O H10 s10:=I10.pins_of λp G=>by simp at G
   exact I10'.turned (t':=s10.toks) (λb o hb e=>(hs11.2 b hb).trans e) (b3 D QE) DX.1 (.inl QE) DX.2 λp G=>by simp[NA]at G
 refine codeAny_compStart_list (loop _ rfl) (T.self X.A 0 _ _ _ (T.keep _ _ _ (T.keep _ _ _ st2 λb hb o e=>old3 b o e) λb hb o e=>kept b o e) (loop _ rfl))
theorem BM{σ:St}{H:Hp}{F:Addr}(I:Inv X l σ H s)(f:Vp X l H s F){h':Heap}(h:qW F s.heap h'):Inv X l σ H { s with heap:=h' }:=by obtain⟨v,u,z,y,x,_⟩:=f;exact I.turned (t':=s.toks) (λb o hb e=>(h.2 b hb).trans e) v u (.inr z) y x
theorem R8(hc:X.calm=true)(w:PI X K Z B)(C:CompSt X.N X.env.scope d Y j)
  (y:∀s H ex,PG (NA X d Y j s H ex) K g/\Eo (NA X d Y j s H ex) U tc/\PE (NA X d Y j s H ex) V te)
  (u:∀x,foldedSetIterable Z X.env x=pure x:=by intro _;rfl):PE X (.ListComp V [⟨K,Z,U,0⟩] d pos) (G0 B g tc te Y.length j):=by
 intro l s b H Q I h;rw[eval_ListComp];refine AS hc w C y u I h λD a e F k f q=>?_;obtain⟨m,v⟩:=f.2.2.2.2.2;exact⟨m,v,λi z=>⟨.ref D,a,BM k f z,rfl,q⟩⟩
theorem V8{cpos u:Pos}{i:Nat}{x:Str}(hc:X.calm=true)(S:X.N.Nodup)(n:X.N[i]?=some x)(p:X.env.scope.names.lookup x=some .local)
  (Q:PI X K Z B) (C:CompSt X.N X.env.scope d Y j)
  (y:∀s H ex,PG (NA X d Y j s H ex) K g/\Eo (NA X d Y j s H ex) U tc/\PE (NA X d Y j s H ex) V te)
  (M:∀x,foldedSetIterable Z X.env x=pure x) (k:swapsWith (.ListComp V [⟨K,Z,U,0⟩] d cpos) (some (.Name x u)) pos.line X.env=pure true) :
  PS X (.Assign [.Name x u] (.ListComp V [⟨K,Z,U,0⟩] d cpos) pos) (yg (G0 B g tc te Y.length j) (mX i)):=by
 intro l s σ H D0 I h;rw[exec_Assign_Name_used _ _ _ _ k];refine QA (QBf (QA ?_));show wpAny _ X.A (do let _ <- comprehension (.ListComp V [⟨K,Z,U,0⟩] d cpos) d X.env _ (newList []) false (eval Z X.env) (some (assign (.Name x u) X.env))) _ _ s;refine QA (qi (AS (use:=some (assign (.Name x u) X.env)) (QQ:=λ_ o=>SP X l D0 .next o) hc Q C y M I h λD H' J F I6 f q=>?_) (λ_ o O=>QK (QK O)) λ_ _ e=>e);show wpAny _ X.A (assign (.Name x u) X.env (.ref D)) _ _ J;refine QBo (yO I6 S n (.inl p) (v:=.ref D) rfl (λG I7 ⟨a,E,R⟩=>?_) (.inr p));obtain⟨f0,W,f2,r,f4,m,P⟩:=f;have L:F≠a:=by rcases R with z|z;rw[z];exact W;exact λe=>r x a z e.symm
 have w:G.heap.Ns F m:=P.sameBut E L;exact⟨m,w,λh' b=>⟨_,H',BM I7 ⟨f0,W,f2,r,f4,m,w⟩ b,q⟩⟩
end
end L2
namespace L2.L3
open PySem PySem.Spec PyProof.Rows
noncomputable def am(K:QC):R2:=λx y H Q=>match x,y with
 | .int i,.int j=>Q (.int (i+j)) H|.str a,.str b=>a.length+b.length<=sizeLine/\Q (.str (a++b)) H|.ref a,.ref b=>∃z h,RC K H a z/\RC K H b h/\z.length+h.length<=sizeLine/\∀p,H p=none->Q (.ref p) (BA H p (.lst (z++h)))|_,_=>False
def jm:R2:=λx y H Q=>match x,y with
 | .int i,.int j=>Q (.int (i - j)) H|_,_=>False
def CJ(x:Str)(n:Int):Str:=Txt.mul x n
def vm(K:QC):R2:=λx y H Q=>match x,y with
 | .int i,.int j=>IntMulOk i j/\Q (.int (i * j)) H|.str a,.int k=>(-(2 ^ 31)<=k/\k<2 ^ 31/\a.length * k.toNat<=sizeLine)/\Q (.str (CJ a k)) H|_,_=>False
def gc:R2:=λx y H Q=>match x,y with
 | .int i,.int j=>(0<j/\j<2 ^ 200)/\Q (.int (i / j)) H|_,_=>False
def xm:R2:=λx y H Q=>match x,y with
 | .int i,.int j=>0<j/\Q (.int (i % j)) H|_,_=>False
section
variable{X:Cx}
theorem op_add:GE X (binaryOp .Add) (am X.K):=by
 intro w s n H x y v u Q I g f h;cases x with
 |int i =>
  cases y with|int j=>exact _root_.L2.op_add w s n H _ _ v u Q I g f ⟨i,j,rfl,rfl,h⟩|_=>exact Qd h
 |str a =>
  cases y with|str b=>exact eU w s n H _ _ v u Q I g f ⟨a,b,rfl,rfl,h.1,h.2⟩|_=>exact Qd h
 |ref a =>
  cases y with
  |ref b =>
   obtain⟨xs,ys,N,M,hz,q⟩:=h;cases g;cases f;obtain⟨k,r,⟨⟨S,R,A,G⟩,L,W,E,d1,p⟩,z1⟩:=I.list N;obtain⟨z,Y,⟨⟨B,l,m,e⟩,J,Z,C,d2,o⟩,z2⟩:=I.list M;simp only at E p C o;subst E p C o;have hl:=r.length;have O:=Y.length;refine concat_meets ⟨_,W,rfl⟩ ⟨_,Z,rfl⟩ noFill_list_add seq_list_add PySem.F.slot_list_add PySem.F.entry_list_add (PySem.F.args_list_add_2 _ _) (list_addW a b k.toArray z.toArray L J R l G e (by simp;omega)) ⟨W,Z,?_⟩;have P:k.toArray++z.toArray=(k++z).toArray:=by simp
   rw[P];exact⟨.ref _,_,I.lnew (t':=s.toks) (r.append Y) (by rw[QJ];omega),rfl,q _ I.fresh⟩
  |_=>exact Qd h
 |_=>exact Qd h
theorem op_sub:GE X (binaryOp .Sub) jm:=by
 intro z s w H x y v u Q I a k h;cases x with
 |int i =>
  cases y with|int j=>exact _root_.L2.op_sub z s w H _ _ v u Q I a k ⟨i,j,rfl,rfl,h⟩|_=>exact Qd h
 |_=>exact Qd h
theorem z9:GE X (binaryOp .FloorDiv) gc:=by
 intro z s a H x y v u Q I k w h;cases x with
 |int i =>
  cases y with
  |int j =>
   obtain⟨t,rfl⟩:=k;obtain⟨b,rfl⟩:=w;obtain⟨⟨f,e⟩,q⟩:=h;refine floordiv_int (by omega) ?_ (.inl (PyProof.noPylong_of_log2 ?_));rw[Int.fdiv_eq_ediv_of_nonneg i (by omega)];exact⟨.int _,H,I.tok _,⟨_,rfl⟩,q⟩;have:j.natAbs<2 ^ 200:=by omega
   have:=(Nat.log2_lt (show j.natAbs≠0 by omega)).mpr this;omega
  |_=>exact Qd h
 |_=>exact Qd h
theorem op_mod:GE X (binaryOp .Mod) xm:=by
 intro z s w H x y v u Q I a k h;cases x with
 |int i =>
  cases y with|int j=>exact _root_.L2.op_mod z s w H _ _ v u Q I a k ⟨i,j,rfl,rfl,h.1,h.2⟩|_=>exact Qd h
 |_=>exact Qd h
theorem bh:GE X (binaryOp .Mult) (vm X.K):=by
 intro g s n H x y v u Q I f w h;cases x with
 |int i =>
  cases y with|int j=>obtain⟨t,rfl⟩:=f;obtain⟨z,rfl⟩:=w;exact mul_int ⟨.int _,H,I.tok _,⟨_,rfl⟩,h.2⟩ h.1|_=>exact Qd h
 |str a =>
  cases y with
  |int k =>
   obtain⟨t,rfl⟩:=f;obtain⟨z,rfl⟩:=w;obtain⟨⟨Y,r,p⟩,q⟩:=h;refine SB.mul ⟨?_,λ_ _=>?_,λ_ _=>?_⟩ λz o=>⟨.str (CJ a k),H,I.tok _,⟨_,rfl⟩,q⟩
   have m:decide (k < -(2 ^ 63:Int))=false:=dF (by omega);have l:decide (k ≥ 2 ^ 63)=false:=dF (by omega);rw[m,l];rfl;have e:(a.length:Int) * k=((a.length * k.toNat:Nat):Int):=by rw[Int.natCast_mul,Int.toNat_of_nonneg (by omega)]
   have:=Int.le_ediv_of_mul_le (a:=(a.length:Int)) (b:=2 ^ 63 - 1) (c:=k) (by omega) (by rw[e];omega);omega;unfold Builtin.Str.tooLong;exact dF (by omega)
  |_=>exact Qd h
 |_=>exact Qd h
end
end L2.L3
namespace L2
open PySem PySem.Spec PyProof.Rows
section
variable{x:Type}[DecidableEq x]
section
variable{p:x×V}{r kvs:List (x×V)}{vs:List (x×Value)}{u:Value}
def ZL(kvs:List (x×V))(k:x):Option V:=(kvs.find? λh=>decide (h.1=k)).map (·.2)
def rU(kvs:List (x×V))(k:x)(v:V):List (x×V) :=
 if(kvs.any λh=>decide (h.1=k))=true then kvs.map (λh=>if h.1=k then(h.1,v) else h) else kvs++[(k,v)]
theorem JL{k:x}(e:p.1=k):ZL (p::r) k=some p.2:=by simp[ZL,wE,e]
theorem YL{k:x}(e:¬ p.1=k):ZL (p::r) k=ZL r k:=by simp[ZL,wE,e]
theorem vR(k:x):∀kvs:List (x×V),(kvs.any λh=>decide (h.1=k))=(ZL kvs k).isSome
 |[]=>rfl|p::r=>by rw[WA];by_cases e:p.1=k;simp only[JL e,dT e,QB1,Option.isSome_some];rw[YL e,dF e,QAi];exact vR k r
theorem cS(kvs:List (x×V))(k:x)(v:V):(rU kvs k v).length<=kvs.length+1:=by unfold rU;split;rw[QF];omega;rw[QJ,QM,wR];omega
theorem XT.isSome_eq{o:Option V}{u:Option Value}(r:XT o u):o.isSome=u.isSome:=by
 cases o with
 |none=>cases u with|none=>rfl|some _=>exact(show False from r).elim
 |some _=>cases u with|none=>exact(show False from r).elim|some _=>rfl
theorem KV.val(r:KV kvs vs)(k:x):XT (ZL kvs k) (valueAt vs k):=by
 unfold KV at r;induction r with
 |nil=>exact True.intro|@cons p q g y h t a =>
  obtain⟨w,f⟩:=h;by_cases e:p.1=k;have v:q.1=k:=w.symm.trans e;have b:valueAt (q::y) k=some q.2:=by simp[valueAt,wE,v]
  rw[JL e,b];exact f;have v:¬ q.1=k:=λz=>e (w.trans z);have b:valueAt (q::y) k=valueAt y k:=by simp[valueAt,wE,v]
  rw[YL e,b];exact a
theorem KV.any(r:KV kvs vs)(k:x):(kvs.any λy=>decide (y.1=k))=vs.any λy=>decide (y.1=k):=by
 unfold KV at r;induction r with|nil=>rfl|cons h t z=>rw[WA,WA,z,h.1]
theorem KV.repl(r:KV kvs vs)(k:x){y:V}(a:rA y u) :
  KV (kvs.map λv=>if v.1=k then(v.1,y) else v) (vs.map λv=>if v.1=k then(v.1,u) else v):=by
 unfold KV at r ⊢;induction r with|nil=>exact .nil|@cons p q i g h t b=>rw[QU,QU];refine .cons ?_ b;obtain⟨w,f⟩:=h;by_cases e:p.1=k;rw[if_pos e,if_pos (w.symm.trans e)];exact⟨w,a⟩;rw[if_neg e,if_neg (λz=>e (w.trans z))];exact⟨w,f⟩
theorem KV.put(r:KV kvs vs)(k:x){y:V}(h:rA y u):KV (rU kvs k y) (stored vs k u):=by unfold rU stored;rw[r.any k];by_cases e:(vs.any λz=>decide (z.1=k))=true;rw[if_pos e,if_pos e];exact r.repl k h;rw[if_neg e,if_neg e];exact Paired.snoc r ⟨rfl,h⟩
theorem KV.length(r:KV kvs vs):kvs.length=vs.length:=qI r
end
end
theorem VM{P:Program}{w:World}{k:Key}{u:Value}(r:rA (kV k) u):(GC P w).is k u=true:=by
 cases k with|inl i=>obtain⟨t,e⟩:=(show ∃t,u=Value.int i t from r);subst e;exact jS P w i t|inr x=>obtain⟨t,e⟩:=(show ∃t,u=Value.str x t from r);subst e;exact IR P w x t
end L2
namespace L2.L3
open PySem PySem.Spec PyProof.Rows
section
variable{r kvs:List KE}{xs:List (NK×Addr×Value)}
noncomputable abbrev KE:=NK×Addr×V
def yH(kvs:List KE)(k:NK):Option V:=(kvs.find? λp=>decide (p.1=k)).map (·.2.2)
def AL(kvs:List KE)(k:NK)(b:Addr)(v:V):List KE :=
 if(yH kvs k).isSome=true then kvs.map (λp=>if p.1=k then(p.1,p.2.1,v) else p) else kvs++[(k,b,v)]
noncomputable abbrev KD:List KE->List (NK×Addr×Value)->Prop:=Paired λ(p:NK×Addr×V) (q:NK×Addr×Value)=>p.1=q.1/\p.2.1=q.2.1/\rA p.2.2 q.2.2
theorem xR{p:KE}{k:NK}(e:p.1=k):yH (p::r) k=some p.2.2:=by simp[yH,wE,e]
theorem uR{p:KE}{k:NK}(e:¬ p.1=k):yH (p::r) k=yH r k:=by simp[yH,wE,e]
theorem KD.val(r:KD kvs xs)(k:NK):XT (yH kvs k) ((atKey xs k).map (·.2)):=by
 induction r with
 |nil=>exact True.intro|@cons p q a x h t v =>
  obtain⟨u,_,w⟩:=h;by_cases e:p.1=k;have y:q.1=k:=u.symm.trans e;have b:atKey (q::x) k=some q.2:=by simp[atKey,wE,y]
  rw[xR e,b];exact w;have y:¬ q.1=k:=λz=>e (u.trans z);have b:atKey (q::x) k=atKey x k:=by simp[atKey,wE,y]
  rw[uR e,b];exact v
theorem KD.put(r:KD kvs xs)(k:NK)(b:Addr){y:V}{u:Value}(v:rA y u):KD (AL kvs k b y) (storedH xs k b u):=by
 have e:(yH kvs k).isSome=(atKey xs k).isSome:=by rw[(r.val k).isSome_eq,QAe]
 unfold AL storedH;rw[e];by_cases q:(atKey xs k).isSome=true;rw[if_pos q,if_pos q];clear e q;induction r with|nil=>exact .nil|@cons p q i g h t a=>rw[QU,QU];refine .cons ?_ a;obtain⟨x,w,f⟩:=h;unfold putAt;by_cases e:p.1=k;rw[if_pos e,if_pos (x.symm.trans e)];exact⟨x,w,v⟩;rw[if_neg e,if_neg (λz=>e (x.trans z))];exact⟨x,w,f⟩
 rw[if_neg q,if_neg q];exact Paired.snoc r ⟨rfl,rfl,v⟩
theorem dS(kvs:List KE)(k:NK)(b:Addr)(v:V):(AL kvs k b v).length<=kvs.length+1:=by unfold AL;split;rw[QF];omega;rw[QJ,QM,wR];omega
end
mutual
def Mj(K:QC)(H:Hp):NK->V->Prop
 | .s x,v=>v=.str x|.t ks,v=>∃a h,v=.ref a/\GD K H a h/\KyVs K H ks h
def KyVs(K:QC)(H:Hp):List NK->LV->Prop
 |[],xs=>xs=[]|k::ks,xs=>∃x r,xs=x::r/\Mj K H k x/\KyVs K H ks r
end
def RN(K:QC)(H:Hp)(b:Addr)(k:NK):Prop:=Mj K H k (.ref b)/\D4 k<=6
theorem eI{P:Program}{w:World}{A:Around}(h:A.units+60<cLine):(SE P w).room A.in1:=by show A.in1.units+8<cLine;rw[QAq];omega
def ZG(K:QC)(H:Hp)(kvs:List KE):Prop:=∀p∈kvs,RN K H p.2.1 p.1
theorem Inv.big{X:Cx}{x:AB}{σ:St}{H:Hp}{s:Shared}(I:Inv X x σ H s):sysModules<s.heap.objs.size:=by have h:mainGlobals<s.heap.objs.size:=(I.mod.glob.keeps I.bk).lt;exact QA6 (by decide) h
section
variable{X:Cx}{y:AB}{σ:St}{H:Hp}{s:Shared}{a b:Addr}
mutual
theorem Zn(I:Inv X y σ H s):∀{k:NK}{x:V}{u:Value},Mj X.K H k x->rA x u->NZ s.heap k u
 | .s z,x,u,e,r=>by cases(show x=.str z from e);exact r|.t ks,x,u,⟨a,xs,e,q,p⟩,r=>by subst e;cases r;obtain⟨h,v,⟨o,g,f,n,w⟩,_⟩:=I.tuple q;exact⟨a,h.toArray,rfl,⟨o,g,f,n,w⟩,by simpa using ky_vs I p v⟩
theorem ky_vs(I:Inv X y σ H s):∀{ks:List NK}{xs:LV}{us:LW},KyVs X.K H ks xs->nA xs us->NKvs s.heap ks us
 |[],xs,us,e,r=>by cases(show xs=[] from e);cases r;rfl|k::ks,xs,us,⟨x,r,e,p,q⟩,rv=>by
  subst e;cases rv with|cons h t=>exact⟨_,_,rfl,Zn I p h,ky_vs I q t⟩
end
theorem pS{k:NK}(I:Inv X pins σ H s)(h:RN X.K H b k):(SE X.prog X.w).is s.heap k b:=⟨Zn I h.1 rfl,h.2⟩
theorem JK{ep:Nat}{kvs:List KE}(I:Inv X pins σ H s)(e:H a=some (.dT ep kvs))(hk:ZG X.K H kvs):kvs.length<=sizeLine/\(a==sysModules)=false/\∃xs,KD kvs xs/\s.heap.DictOfH (SE X.prog X.w) a xs:=by
 obtain⟨z,y,xs,r,o,l,j,i,g,k,v⟩:=(show FA X.prog X.w H s.heap a (.dT ep kvs) from I.hok a _ e)
 refine⟨z,y,xs,r,o,l,ep,j,i,g,k,?_,v⟩;clear k v z e;induction r with
 |nil=>intro x h;exact nomatch h
 |@cons p q n m u t b=>intro x h;rcases QL.mp h with e|h;subst e;rw[<- u.1,<- u.2.1];exact pS I (hk p QE);exact b (λp f=>hk p (QD _ f)) x h
theorem NS{kvs:List (Key×V)}(I:Inv X pins σ H s)(e:H a=some (.dK kvs)):kvs.length<=sizeLine/\(a==sysModules)=false/\∃vs,KV kvs vs/\s.heap.DictOf (GC X.prog X.w) a vs :=
 show FA X.prog X.w H s.heap a (.dK kvs) from I.hok a _ e
end
theorem n6{X:Cx}{h:AB}{σ:St}{H:Hp}{s:Shared}{a:Addr}{ep:Nat}(I:Inv X h σ H s)(e:H a=some (.dT ep [])):(a==sysModules)=false/\s.heap.DictOf (GC X.prog X.w) a []:=by
 obtain⟨z,y,g,r,o,f,b,k,v,u,i⟩:=(show FA X.prog X.w H s.heap a (.dT ep []) from I.hok a _ e)
 cases r;have x:f=#[]:=by apply WF.mp;simpa using u
 subst x;exact⟨y,o,#[],ep,b,k,v,λe x=>by simp at x,.nil,Q0⟩
def kD:Key->PyData
 | .inl i=>.int i|.inr x=>.str x
mutual
def tD:NK->PyData
 | .s x=>.str x|.t h=>.tuple (tDs h)
def tDs:List NK->List PyData
 |[]=>[]|k::ks=>tD k::tDs ks
end
theorem K5{a b:Key}(e:kD a=kD b):a=b:=by
 cases a with
 |inl i=>cases b with|inl j=>injection e with e;rw[e]|inr y=>exact nomatch (show PyData.int i=PyData.str y from e)
 |inr x=>cases b with
  |inl j=>exact nomatch (show PyData.str x=PyData.int j from e)
  |inr y=>injection e with e;rw[e]
mutual
theorem gU:∀{a b:NK},tD a=tD b->a=b
 | .s x,.s y,e=>by rw[PyData.str.inj e]|.s x,.t l,e=>QBj e|.t k,.s y,e=>QBj e|.t k,.t l,e=>by rw[tDs_inj (PyData.tuple.inj e)]
theorem tDs_inj:∀{a b:List NK},tDs a=tDs b->a=b
 |[],[],_=>rfl|[],_::_,e=>(nomatch e)
 |_::_,[],e=>(nomatch e)
 |x::xs,y::ys,e=>by have e:tD x::tDs xs=tD y::tDs ys:=e;injection e with e1 e2;rw[gU e1,tDs_inj e2]
end
def oJ(K:QC)(H:Hp)(b:Bool)(o:HO)(ks:List PyData)(vs:LV):Prop:=match b with
 |true=>∃x,∃h:List KE,o=.dT x h/\ks=h.map (λp=>tD p.1)/\vs=h.map (·.2.2)/\ZG K H h/\(h.map (·.1)).Nodup|false=>(∃h:List (Key×V),h≠[]/\o=.dK h/\ks=h.map (λp=>kD p.1)/\vs=h.map (·.2)/\(h.map (·.1)).Nodup)∨∃x,o=.dT x []/\ks=[]/\vs=[]
theorem oJ.len{K:QC}{H:Hp}{b:Bool}{o:HO}{ks:List PyData}{vs:LV}(h:oJ K H b o ks vs):ks.length=vs.length:=by
 cases b with|true=>obtain⟨y,x,_,rfl,rfl,_⟩:=h;simp|false=>rcases h with⟨x,_,_,rfl,rfl,_⟩| ⟨_,_,rfl,rfl⟩<;>simp
def AQ(K:QC)(H:Hp)(a:Addr)(y:V)(r:Option V):Prop:=match y with
 | .str z=>(∃h,H a=some (.dK h)/\r=ZL h (.inr z))∨∃x,H a=some (.dT x [])/\r=none|.ref b=>∃x h k,H a=some (.dT x h)/\ZG K H h/\RN K H b k/\r=yH h k|_=>False
def Rj(K:QC)(H:Hp)(a:Addr)(y v:V)(Q:Hp->Prop):Prop:=match y with
 | .str z=>(∃h,H a=some (.dK h)/\h.length<sizeLine/\Q (BA H a (.dK (rU h (.inr z) v))))∨∃u,H a=some (.dT u [])/\Q (BA H a (.dK [(.inr z,v)]))|.ref b=>∃u h k,H a=some (.dT u h)/\ZG K H h/\RN K H b k/\h.length<sizeLine/\∀x,Q (BA H a (.dT x (AL h k b v)))|_=>False
theorem cO{v:V}{o:Option Value}(r:XT (some v) o):∃w,o=some w/\rA v w:=by
 cases o with|none=>exact(show False from r).elim|some w=>exact⟨w,rfl,r⟩
section
variable{X:Cx}
section
variable{c:AB}{s:Shared}{σ:St}{H:Hp}{a:Addr}{u:Value}{o:Option V}{h':Heap}{pos:Pos}
theorem ba(P:X.A.units+66<cLine):b7 X (λx y H Q=>∃a v,x=.ref a/\AQ X.K H a y (some v)/\Q v H):=by
 intro n Y c s σ H x y v u Q I J C h E;obtain⟨a,r,rfl,g,q⟩:=h;cases J;cases y with
 |str z =>
  rcases g with⟨W,e,l⟩| ⟨N,e,l⟩
  rotate_left
  cases l;obtain⟨_,M,G,f,m⟩:=NS I e;obtain⟨i,B,w⟩:=cO (v:=r) (o:=valueAt G (.inr z)) (by rw[l];exact f.val _);exact qg (x:=i) m.typeIs QAV.lookup
   (wpAny_getItem_of (Q:=λr Z=>r=i/\EP X c σ Q r Z) (VM (k:=.inr z) C) m.mapOf B ⟨rfl,r,H,I.tok _,w,q⟩) E
 |ref b =>
  obtain⟨N,W,k,e,hk,O,l⟩:=g;cases C;obtain⟨_,M,F,f,m⟩:=JK I e hk;obtain⟨i,B,w⟩:=cO (v:=r) (o:=(atKey F k).map (·.2)) (by rw[l];exact f.val _);obtain⟨p,L,j⟩:=Option.map_eq_some_iff.mp B;refine qg (x:=i) m.typeIs QAV.lookup
   (wpAny_getItem_heap (Q:=λr Z=>r=i/\EP X c σ Q r Z) (eI (by omega)) (pS I O) m L ?_) E
  exact⟨j,r,H,I.tok _,by rw[j];exact w,q⟩
 |_=>exact Qd g
theorem Ja(r:X.A.units+66<cLine){y:V}{Q:VK}(I:Inv X c σ H s)(f:rA y u)(g:AQ X.K H a y o)(q:Q (.bl o.isSome) H) :
  wpAny (model X.prog X.w) X.A (compareOp .In u (.ref a)) (EP X c σ Q) X.xe s:=by
 cases y with
 |str z =>
  rcases g with⟨i,e,l⟩| ⟨j,e,l⟩
  rotate_left
  subst l;obtain⟨x,v⟩:=n6 I e;exact wpAny_in_of (VM (k:=.inr z) f) x v.mapOf ⟨.bl false,H,I.tok _,rfl,q⟩;obtain⟨_,x,p,h,v⟩:=NS I e;refine wpAny_in_of (VM (k:=.inr z) f) x v.mapOf ⟨.bl o.isSome,H,I.tok _,?_,q⟩;rw[<- (h.val (.inr z)).isSome_eq,<- l];rfl
 |ref b=>obtain⟨j,i,k,e,hk,m,l⟩:=g;cases f;obtain⟨_,x,n,h,v⟩:=JK I e hk;refine wpAny_in_heap (eI (by omega)) (pS I m) x v ⟨.bl o.isSome,H,I.tok _,?_,q⟩;have q:=(h.val k).isSome_eq;rw[QAe]at q;rw[<- q,<- l];rfl|_=>exact Qd g
theorem XU(r:X.A.units+66<cLine){y:V}{Q:VK}(I:Inv X c σ H s)(f:rA y u)(g:AQ X.K H a y o)(q:Q (.bl (!o.isSome)) H) :
  wpAny (model X.prog X.w) X.A (compareOp .NotIn u (.ref a)) (EP X c σ Q) X.xe s:=by
 cases y with
 |str z =>
  rcases g with⟨i,e,l⟩| ⟨j,e,l⟩
  rotate_left
  subst l;obtain⟨x,v⟩:=n6 I e;exact wpAny_notIn_of (VM (k:=.inr z) f) x v.mapOf ⟨.bl true,H,I.tok _,rfl,q⟩;obtain⟨_,x,p,h,v⟩:=NS I e;refine wpAny_notIn_of (VM (k:=.inr z) f) x v.mapOf ⟨.bl (!o.isSome),H,I.tok _,?_,q⟩;rw[<- (h.val (.inr z)).isSome_eq,<- l];rfl
 |ref b=>obtain⟨j,i,k,e,hk,m,l⟩:=g;cases f;obtain⟨_,x,n,h,v⟩:=JK I e hk;refine wpAny_notIn_heap (eI (by omega)) (pS I m) x v ⟨.bl (!o.isSome),H,I.tok _,?_,q⟩;have q:=(h.val k).isSome_eq;rw[QAe]at q;rw[<- q,<- l];rfl|_=>exact Qd g
theorem VQ{t':Nat}{ob:HO}(I:Inv X c σ H s)(h:Vk (H a))(y:qW a s.heap h')(v:∃q,h'.get? a=some q)(new:FA X.prog X.w (BA H a ob) h' a ob) :
  Inv X c σ (BA H a ob) { s with heap:=h',toks:=t' } :=
 I.write (x:=a) (e:=a) h (.inl rfl) (λb q hb z=>(y.2 b hb).trans z) v new
theorem OM{t':Nat}{kvs:List KE}{xs:List (NK×Addr×Value)}(I:Inv X c σ H s)(y:Vk (H a))(k:(a==sysModules)=false)(z:kvs.length<=sizeLine)(h:KD kvs xs)
  (j:h'.DictOfH (SE X.prog X.w) a xs) (v:qW a s.heap h'):∃ep,Inv X c σ (BA H a (.dT ep kvs)) { s with heap:=h',toks:=t' }:=by
 obtain⟨q,i,ep,x,g,f,e,_,b⟩:=j;exact⟨ep,VQ I y v ⟨q,x⟩ ⟨z,k,xs,h,q,i,x,g,f,e,b⟩⟩
def setD(K:QC)(o y v:V)(H:Hp)(Q:Hp->Prop):Prop:=match o with
 | .ref a=>Rj K H a y v Q|_=>False
theorem sR(M:X.A.units+66<cLine):Gb X (setD X.K):=by
 intro c s σ H o y v J L u Q I W n m h;cases o with
 |ref a =>
  cases W;cases y with
  |str z =>
   rcases h with⟨f,e,l,q⟩| ⟨B,e,q⟩
   rotate_left
   obtain⟨i,j⟩:=n6 I e;refine QBT (hsz:=Qz _) (VM (k:=.inr z) n) j λh' x g=>⟨_,?_,q⟩
   have Y:∃q,h'.get? a=some q:=let⟨q,_,_,r,_⟩:=x;⟨q,r⟩
   exact VQ I (by rw[e];exact True.intro) g Y ⟨by simp;decide,i,_,.cons ⟨rfl,m⟩ .nil,x⟩;obtain⟨p,i,G,w,j⟩:=NS I e;have hl:(rU f (.inr z) v).length<=sizeLine:=by have:=cS f (.inr z) v;omega
   refine QBT (hsz:=by rw[<- w.length];exact p) (VM (k:=.inr z) n) j λh' x g=>⟨_,?_,q⟩
   have Y:∃q,h'.get? a=some q:=let⟨q,_,_,r,_⟩:=x;⟨q,r⟩
   exact VQ I (by rw[e];exact True.intro) g Y ⟨hl,i,_,w.put _ m,x⟩
  |ref b =>
   obtain⟨B,f,k,e,hk,C,l,q⟩:=h;cases n;obtain⟨p,i,F,w,j⟩:=JK I e hk;have hl:(AL f k b v).length<=sizeLine:=by have:=dS f k b v;omega
   refine wpAny_setItem_heap (hsz:=by rw[<- qI w];exact p) (eI (by omega)) (pS I C) j λh' x g=>?_;obtain⟨Z,E⟩:=OM (t':=_) I (by rw[e];exact True.intro) i hl (w.put k b m) x g;exact⟨_,E,q Z⟩
  |_=>exact Qd h
 |_=>exact Qd h
theorem Fd{P:Program}{w:World}(h:Heap)(hb:sysModules<h.objs.size):FA P w H (h.push { cls:=.type "dict",data:=.dict #[] }) h.objs.size (.dT 0 []) :=
 ⟨Qz _,beq_eq_false_iff_ne.mpr (qB (Qi hb)),[],.nil,_,#[],QV _ rfl,⟨rfl,rfl,rfl⟩,rfl,rfl,Q0⟩
theorem P8:PE X (.Dict [] [] pos) (λ_ H Q=>∀p,H p=none->Q (.ref p) (BA H p (.dT 0 []))):=λc s σ H Q I h =>
 wpAny_Dict_empty ⟨.ref s.heap.objs.size,_,I.laid (a:=s.heap.objs.size) (o:=.dT 0 []) (t':=s.toks) (λ_ _ q=>QH _ q) (Qb _) (Fd s.heap (Inv.big I)),rfl,h _ (I.hok.fresh (Qb _))⟩
theorem O8(hu:X.A.units+66<cLine){k v:Expr}{l j:TE}(hk:PE X k l)(hv:PE X v j) :
  PE X (.Dict [some k] [v] pos) (λσ H Q=>∀p,H p=none->l σ (BA H p (.dT 0 [])) λy i=>j σ i λv h=>h p=some (.dT 0 [])/\∃b ks,y=.ref b/\RN X.K h b ks/\∀ep,Q (.ref p) (BA h p (.dT ep [(ks,b,v)]))):=by
 intro c s σ H Q I q;have E:=I.hok.fresh (Qb s.heap.objs.size);have N:=I.laid (a:=s.heap.objs.size) (o:=.dT 0 []) (h':=s.heap.push { cls:=.type "dict",data:=.dict #[] }) (t':=s.toks) (λ_ _ q=>QH _ q) (Qb _) (Fd s.heap (Inv.big I));refine wpAny_Dict_any rfl rfl (by simp) (by simp) (pairTrees_cons_walk (NB (hk c _ σ _ _ N (q _ E)) λu n ⟨y,i,M,Y,W⟩=>NB (hv c n σ i _ M W) λm R ⟨z,h,g,r,e,b,ks,G,J,Z⟩=>pairTrees_nil_walk ?_));subst G;cases Y;obtain⟨S,F,P,x,L⟩:=JK g e (λp C=>nomatch C);cases x;show wpAny _ _ (forIn [(Value.ref b,m)] PUnit.unit _) _ _ _;rw[W5];refine QA (QA (wpAny_dictSet_heap (hsz:=Qz _) (show X.A.units+8<cLine by omega) (pS g J) L λh' f B=>QK ?_));show wpAny _ _ (forIn ([]:List (Value×Value)) _ _) _ _ _;rw[QBM];obtain⟨w,O⟩:=OM (t':=_) (kvs:=[(ks,b,z)]) g (by rw[e];exact True.intro) F (by simp;decide) (.cons ⟨rfl,rfl,r⟩ .nil) f B;exact QK ⟨.ref _,_,O,rfl,Z w⟩
end
end
mutual
inductive Rep(K:QC)(H:Hp):V->PyData->Prop where
 |non:Rep K H .non .none
 |bl (b:Bool):Rep K H (.bl b) (.bool b)
 |int (i:Int):Rep K H (.int i) (.int i)
 |str (x:Str):Rep K H (.str x) (.str x)
 |lst {a:Addr}{xs:LV}{ds:List PyData}:RC K H a xs->Reps K H xs ds->Rep K H (.ref a) (.list ds)
 |tup {a:Addr}{xs:LV}{ds:List PyData}:GD K H a xs->Reps K H xs ds->Rep K H (.ref a) (.tuple ds)
 |dct {b:Bool}{a:Addr}{o:HO}{ks:List PyData}{xs:LV}{ds:List PyData}:H a=some o->oJ K H b o ks xs->Reps K H xs ds->Rep K H (.ref a) (.dict (ks.zip ds))
inductive Reps(K:QC)(H:Hp):LV->List PyData->Prop where
 |nil:Reps K H [] []
 |cons {x:V}{d:PyData}{xs:LV}{ds:List PyData}:Rep K H x d->Reps K H xs ds->Reps K H (x::xs) (d::ds)
end
section
variable{K:QC}{H:Hp}{R:LV->List PyData->Prop}{xs:LV}{ds:List PyData}
theorem Rep.both{P:V->PyData->Prop}(z:P .non .none)(v:∀b,P (.bl b) (.bool b))(int:∀i,P (.int i) (.int i))(str:∀x,P (.str x) (.str x))
    (lst:∀{a:Addr}{xs:LV}{ds:List PyData},RC K H a xs->Reps K H xs ds->R xs ds->P (.ref a) (.list ds))
    (tup:∀{a:Addr}{xs:LV}{ds:List PyData},GD K H a xs->Reps K H xs ds->R xs ds->P (.ref a) (.tuple ds))
    (dct:∀{b:Bool}{a:Addr}{o:HO}{ks:List PyData}{xs:LV}{ds:List PyData},H a=some o->oJ K H b o ks xs->Reps K H xs ds->R xs ds->P (.ref a) (.dict (ks.zip ds)))
    (u:R [] []) (y:∀{x:V}{d:PyData}{xs:LV}{ds:List PyData},Rep K H x d->Reps K H xs ds->P x d->R xs ds->R (x::xs) (d::ds)) :
    (∀{x:V}{d:PyData},Rep K H x d->P x d)/\∀{xs:LV}{ds:List PyData},Reps K H xs ds->R xs ds :=
  ⟨λh=>Rep.rec (motive_1:=λx d _=>P x d) (motive_2:=λx d _=>R x d) z v int str @lst @tup @dct u @y h,
   λh=>Reps.rec (motive_1:=λx d _=>P x d) (motive_2:=λx d _=>R x d) z v int str @lst @tup @dct u @y h⟩
theorem Reps.ind(z:R [] [])(y:∀{x:V}{d:PyData}{xs:LV}{ds:List PyData},Rep K H x d->R xs ds->R (x::xs) (d::ds))(h:Reps K H xs ds):R xs ds :=
 (Rep.both (P:=λ_ _=>True) trivial (λ_=>trivial) (λ_=>trivial) (λ_=>trivial) (λ_ _ _=>trivial) (λ_ _ _=>trivial) (λ_ _ _ _=>trivial) z λh _ _ r=>y h r).2 h
theorem Reps.length(h:Reps K H xs ds):xs.length=ds.length:=Reps.ind (R:=λxs ds=>xs.length=ds.length) rfl (λ_ e=>congrArg Nat.succ e) h
end
section
variable{X:Cx}{y:AB}{σ:St}{H:Hp}{s:Shared}
mutual
theorem OR{h:Heap}:∀{k:NK}{u:Value},NZ h k u->∃z,Reads h u (tD k) z
 | .s x,u,⟨t,e⟩=>by subst e;exact⟨_,.str x t⟩|.t ks,u,⟨a,its,e,⟨o,e1,c,n,d⟩,q⟩=>by subst e;obtain⟨z,v⟩:=nks_reads q;exact⟨_,.tuple e1 c d v⟩
theorem nks_reads{h:Heap}:∀{ks:List NK}{us:LW},NKvs h ks us->∃x,ReadsAll h us (tDs ks) x
 |[],us,e=>by cases(show us=[] from e);exact⟨_,.nil⟩|k::ks,us,⟨v,r,e,p,q⟩=>by subst e;obtain⟨x,u⟩:=OR p;obtain⟨bs,z⟩:=nks_reads q;exact⟨_,.cons u z⟩
end
section
variable{kvs:List (Key×V)}{xs:List (NK×Addr×Value)}{vs:List (Key×Value)}
theorem V2(I:Inv X pins σ H s){kvs:List KE}(r:KD kvs xs)(hk:ZG X.K H kvs):∃z,ReadsAll s.heap (xs.map λx=>.ref x.2.1) (kvs.map λp=>tD p.1) z:=by
 induction r with|nil=>exact⟨_,.nil⟩|@cons p x _ _ h t u=>obtain⟨z,q⟩:=u λp v=>hk p (QD _ v);obtain⟨bs,y⟩:=OR (pS I (hk p QE)).1;rw[h.2.1]at y;exact⟨_,.cons y q⟩
theorem YR{P:Program}{w:World}{es:List DictEntry}(hk:KV kvs vs)(u:Pairs (GC P w) es vs):(∃v,ReadsAll s.heap (es.map (·.key)) (kvs.map λp=>kD p.1) v)/\es.map (·.val)=vs.map (·.2):=by
 unfold KV at hk;induction hk generalizing es with
 |nil=>cases u;exact⟨⟨_,.nil⟩,rfl⟩|cons h t e =>
  cases u with
  |cons a b c =>
   obtain⟨⟨v,q⟩,k⟩:=e c;refine⟨?_,by rw[QU,QU,k,b]⟩;rw[QU,QU];rw[<- h.1]at a;rcases OA a with⟨i,t,z,y⟩| ⟨x,t,z,y⟩
   rw[z,y];exact⟨_,.cons (.int i t) q⟩;rw[z,y];exact⟨_,.cons (.str x t) q⟩
theorem M7{kvs:List KE}(r:KD kvs xs):nA (kvs.map (·.2.2)) (xs.map (·.2.2)):=by
 induction r with|nil=>exact .nil|cons h _ x=>exact .cons h.2.2 x
theorem L7(r:KV kvs vs):nA (kvs.map (·.2)) (vs.map (·.2)):=by
 induction r with|nil=>exact .nil|cons h _ x=>exact .cons h.2 x
theorem pZ(I:Inv X pins σ H s){b:Bool}{a:Addr}{o:HO}{ks:List PyData}{xs:LV}(h:H a=some o)(q:oJ X.K H b o ks xs):∃ob es ep us,s.heap.get? a=some ob/\ob.cls=.type "dict"/\ob.dict=none/\ob.data=.dict es ep/\(a==sysModules)=false /\
  (∃j,ReadsAll s.heap (es.toList.map (·.key)) ks j)/\nA xs us/\es.toList.map (·.val)=us:=by
 cases b with
 |true=>obtain⟨e,kvs,rfl,rfl,rfl,hk,_⟩:=q;obtain⟨_,v,f,x,ob,es,ep,k,y,w,u,_⟩:=JK I h hk;refine⟨ob,es,ep,_,k,y.1,y.2.1,w,v,?_,M7 x,?_⟩;rw[u,QS];exact V2 I x hk;rw[u,QS];rfl|false =>
  rcases q with⟨kvs,_,rfl,rfl,rfl,_⟩| ⟨e,rfl,rfl,rfl⟩
  rotate_left
  obtain⟨_,v,f,x,ob,es,ep,k,y,w,u,_⟩:=JK I h λ_ z=>nomatch z;cases x;exact⟨ob,es,ep,[],k,y.1,y.2.1,w,v,⟨_,by rw[u];exact .nil⟩,.nil,by rw[u];rfl⟩;obtain⟨_,v,vs,x,ob,es,ep,k,y,w,_,u,_⟩:=NS I h;obtain⟨i,g⟩:=YR (s:=s) x u;exact⟨ob,es,ep,_,k,y.1,y.2.1,w,v,i,L7 x,g⟩
theorem Rep.reads2(I:Inv X pins σ H s):(∀{x:V}{d:PyData},Rep X.K H x d->∀u,rA x u->∃y,Reads s.heap u d y)/\∀{xs:LV}{ds:List PyData},Reps X.K H xs ds->∀us,nA xs us->∃y,ReadsAll s.heap us ds y:=by
 refine Rep.both (P:=λx d=>∀u,rA x u->∃y,Reads s.heap u d y) (R:=λxs ds=>∀us,nA xs us->∃y,ReadsAll s.heap us ds y) (λu r=>?_) (λb u r=>?_) (λi u r=>?_) (λx u r=>?_) (λh q v u r=>?_) (λh q v u r=>?_) (λ{b a o w xs ds} h q r v u l=>?_) (λus r=>?_) λ_ _ p m us r=>?_;cases r;exact⟨_,.none⟩;cases r;exact⟨_,.bool b⟩;obtain⟨t,rfl⟩:=r;exact⟨_,.int i t⟩;obtain⟨t,rfl⟩:=r;exact⟨_,.str x t⟩;cases r;obtain⟨g,k,⟨o,n,e,c,_,d⟩,_⟩:=I.list h;obtain⟨y,z⟩:=v _ k;exact⟨_,.list e c d (by simpa using z)⟩;cases r;obtain⟨g,k,⟨o,e,c,n,d⟩,_⟩:=I.tuple h;obtain⟨y,z⟩:=v _ k;exact⟨_,.tuple e c d (by simpa using z)⟩;cases l;obtain⟨ob,L,M,us,C,B,J,A,G,⟨y,W⟩,Z,Y⟩:=pZ I h q;obtain⟨bs,f⟩:=v _ Z;have hl:w.length=ds.length:=by rw[q.len,Reps.length r]
 have F:(w.zip ds).map (λx=>x.1)=w:=Wr (wx hl);have E:(w.zip ds).map (λx=>x.2)=ds:=WG (wx hl.symm);exact⟨_,.dict C B A (by rw[F];exact W) (by rw[E,Y];exact f)⟩;cases r;exact⟨_,.nil⟩;cases r with|cons r j=>obtain⟨y,z⟩:=p _ r;obtain⟨bs,f⟩:=m _ j;exact⟨_,.cons z f⟩
theorem Rep.reads(I:Inv X pins σ H s){x:V}{d:PyData}{u:Value}(h:Rep X.K H x d)(r:rA x u):∃y,Reads s.heap u d y:=(Rep.reads2 I).1 h u r
def TF(d:PyData):Prop:=d.canLay0=true/\d.depth<=64
noncomputable def rEq(K:QC)(neg:Bool):R2:=λx y H Q=>match x,y with
 | .int i,.int j=>Q (.bl (if neg then !decide (i=j) else decide (i=j))) H|.str a,.str b=>Q (.bl (if neg then !decide (a=b) else decide (a=b))) H|.bl a,.bl b=>Q (.bl (if neg then !decide (a=b) else decide (a=b))) H|x,y=>∃z h,Rep K H x z/\Rep K H y h/\TF z/\TF h/\Q (.bl (if neg then !PyData.eqv z h else Qu z h)) H
theorem op_eq(C:X.A.units+64<cLine):GE X (compareOp .Eq) (rEq X.K false):=by
 intro z s g H x y v u Q I o n h;have k:(∃f e,Rep X.K H x f/\Rep X.K H y e/\TF f/\TF e/\Q (.bl (if false=true then !PyData.eqv f e else Qu f e)) H)->wpAny (model X.prog X.w) X.A (compareOp .Eq v u) (EP X z g Q) X.xe s:=by rintro⟨f,e,m,l,⟨Z,B⟩,⟨Y,W⟩,q⟩;obtain⟨E,r⟩:=m.reads I o;obtain⟨bs,p⟩:=l.reads I n;exact SeqAt.compareEq_reads r p Z Y (by omega) ⟨.bl _,H,I,rfl,q⟩
 have sc:u8 x y=true->Q (.bl (decide (x=y))) H->wpAny (model X.prog X.w) X.A (compareOp .Eq v u) (EP X z g Q) X.xe s:=λm l=>_root_.L2.op_eq z s g H x y v u Q I o n ⟨m,l⟩;cases x with
 |int i =>
  cases y with|int j=>exact sc rfl (by simpa[rEq]using h)|_=>exact k h
 |str a =>
  cases y with|str b=>exact sc rfl (by simpa[rEq]using h)|_=>exact k h
 |bl a =>
  cases y with|bl b=>exact sc rfl (by simpa[rEq]using h)|_=>exact k h
 |_=>exact k h
theorem op_ne(C:X.A.units+64<cLine):GE X (compareOp .NotEq) (rEq X.K true):=by
 intro z s g H x y v u Q I o n h;have k:(∃f e,Rep X.K H x f/\Rep X.K H y e/\TF f/\TF e/\Q (.bl (if true=true then !PyData.eqv f e else Qu f e)) H)->wpAny (model X.prog X.w) X.A (compareOp .NotEq v u) (EP X z g Q) X.xe s:=by rintro⟨f,e,m,l,⟨Z,B⟩,⟨Y,W⟩,q⟩;obtain⟨E,r⟩:=m.reads I o;obtain⟨bs,p⟩:=l.reads I n;exact SeqAt.compareNe_reads r p Z Y (by omega) ⟨.bl _,H,I,rfl,q⟩
 have sc:u8 x y=true->Q (.bl (!decide (x=y))) H->wpAny (model X.prog X.w) X.A (compareOp .NotEq v u) (EP X z g Q) X.xe s:=λm l=>_root_.L2.op_ne z s g H x y v u Q I o n ⟨m,l⟩;cases x with
 |int i =>
  cases y with|int j=>exact sc rfl (by simpa[rEq]using h)|_=>exact k h
 |str a =>
  cases y with|str b=>exact sc rfl (by simpa[rEq]using h)|_=>exact k h
 |bl a =>
  cases y with|bl b=>exact sc rfl (by simpa[rEq]using h)|_=>exact k h
 |_=>exact k h
def rY(f:Int->Int->Bool):R2:=λx y H Q=>match x,y with
 | .int i,.int j=>Q (.bl (f i j)) H|_,_=>False
theorem VP{w:CmpOp}{f:Int->Int->Bool}(e:GE X (compareOp w) (i8 λi j=>.bl (f i j))):GE X (compareOp w) (rY f):=by
 intro z s k H x y v u Q I b a h;cases x with
 |int i =>
  cases y with|int j=>exact e z s k H _ _ v u Q I b a ⟨i,j,rfl,rfl,h⟩|_=>exact Qd h
 |_=>exact Qd h
def inStr(b a:Str):Bool:=match a.cps.toList with
 |[c]=>decide (c∈b.cps.toList)|_=>!(we b a 0 b.length 1).isEmpty
theorem JS(b a:Str):inStr b a=!(we b a 0 b.length 1).isEmpty:=by
 unfold inStr;split;rename_i c e;have x:a=⟨#[c]⟩:=by
  obtain⟨h⟩:=a;have:h=#[c]:=by apply WF.mp;simpa using e
  rw[this]
 rw[x];exact(StrLaws.found_one b c).symm;rfl
noncomputable def ZR(K:QC)(neg:Bool):R2:=λx y H Q=>match y with
 | .str b=>match x with
  | .str a=>Q (.bl (if neg then !inStr b a else inStr b a)) H|_=>False
 | .ref p=>kr K neg x (.ref p) H Q∨(∃d h,Rep K H x d/\(Rep K H (.ref p) (.list h)∨Rep K H (.ref p) (.tuple h))/\TF d/\TF (.list h)/\Q (.bl (if neg then !(h.any λy=>Qu y d) else h.any λy=>Qu y d)) H)∨(∃o,AQ K H p x o/\Q (.bl (if neg then !o.isSome else o.isSome)) H)|_=>False
theorem nO{ds:List PyData}(h:TF (.list ds)):wX ds=true/\wy ds<=63:=by obtain⟨x,y⟩:=h;simp only[QAW]at x;simp only[QA7]at y;exact⟨x,by omega⟩
theorem Um(Y:X.A.units+66<cLine):GE X (compareOp .In) (ZR X.K false):=by
 intro z s i H x y v u Q I e w h;cases y with
 |str b =>
  cases x with|str a=>refine YY z s i H _ _ v u Q I e w ⟨a,b,rfl,rfl,?_⟩;rw[<- JS];simpa[ZR]using h|_=>exact Qd h
 |ref p =>
  rcases h with h|⟨d,Z,r,k,l,n,q⟩| ⟨o,g,q⟩
  rotate_left 2
  cases w;exact Ja Y I e g q;exact ZY z s i H _ _ v u Q I e w h;obtain⟨B,j⟩:=r.reads I e;obtain⟨m,W⟩:=nO n;rcases k with k|k;obtain⟨bs,f⟩:=k.reads I w;exact SeqAt.in_list_reads f j m l.1 (by omega) ⟨.bl _,H,I,rfl,q⟩;obtain⟨bs,f⟩:=k.reads I w;exact SeqAt.in_tuple_reads f j m l.1 (by omega) ⟨.bl _,H,I,rfl,q⟩
 |_=>exact Qd h
theorem P3(Y:X.A.units+66<cLine):GE X (compareOp .NotIn) (ZR X.K true):=by
 intro z s i H x y v u Q I e w h;cases y with
 |str b =>
  cases x with|str a=>refine UP z s i H _ _ v u Q I e w ⟨a,b,rfl,rfl,?_⟩;rw[<- JS];simpa[ZR]using h|_=>exact Qd h
 |ref p =>
  rcases h with h|⟨d,Z,r,k,l,n,q⟩| ⟨o,g,q⟩
  rotate_left 2
  cases w;exact XU Y I e g q;exact BP z s i H _ _ v u Q I e w h;obtain⟨B,j⟩:=r.reads I e;obtain⟨m,W⟩:=nO n;rcases k with k|k;obtain⟨bs,f⟩:=k.reads I w;exact SeqAt.notIn_list_reads f j m l.1 (by omega) ⟨.bl _,H,I,rfl,q⟩;obtain⟨bs,f⟩:=k.reads I w;exact SeqAt.notIn_tuple_reads f j m l.1 (by omega) ⟨.bl _,H,I,rfl,q⟩
 |_=>exact Qd h
end
end
section
variable{X:Cx}
theorem oT:∀{bs:List Bool}{us:LW},nA (bs.map V.bl) us->∀(i:Nat) (v:Value),us[i]?=some v->∃b,bs[i]?=some b/\v=Value.bool b
 |[],_,.nil,i,v,h=>by simp at h|b::bs,_,.cons r t,0,v,h=>by simp at h;subst h;exact⟨b,by simp,r⟩|b::bs,_,.cons r t,i+1,v,h=>by obtain⟨c,y,x⟩:=oT (bs:=bs) t i v (by simpa using h);exact⟨c,by simpa using y,x⟩
theorem pY(bs:List Bool):(Qs bs.length).any (λi=>bs.getD i false)=bs.any id:=by
 rw[Q9,wm,wm];constructor;rintro⟨i,x,e⟩;have h:i<bs.length:=by simpa using x
 exact⟨bs[i],wn h,by simpa[QCU,h]using e⟩;rintro⟨b,hb,e⟩;obtain⟨i,x,y⟩:=List.getElem_of_mem hb;exact⟨i,by simpa using x,by simp[QCU,x,y];simpa using e⟩
def om(K:QC):LV->Hp->VK->Prop:=λh H Q=>match h with
 |[.ref a]=>∃bs:List Bool,RC K H a (bs.map V.bl)/\Q (.bl (bs.any id)) H|_=>False
theorem X6(l:X.calm=true):sC X (.builtin "any") (om X.K):=by
 intro k s Z H f W Q I r h
 match f,h with
 |[.ref a],⟨bs,hq,q⟩ =>
  obtain⟨u,rfl,j⟩:=IH r;cases j;obtain⟨x,w,p,C⟩:=I.list hq;have hl:=w.length;rw[QF]at hl;refine call_any_walk (We p.isList ?_);have y:a<s.heap.objs.size:=by obtain⟨o,n,e,_⟩:=p;exact QW e
  refine⟨s.heap.objs.size,_,_,_,_,_,λi=>bs.getD i false,rfl,Walks.list (A:=X.A.in1) (I.ok.hd l) s.heap.objs.size a (Qi y) x.toArray,⟨⟨_,QV _ rfl,rfl,rfl⟩,?_⟩,?_,?_⟩;obtain⟨o,n,e,c,d,sq⟩:=p;exact⟨o,QH _ e,c,n,sq⟩;intro i v B F G m z;obtain⟨b,hb,rfl⟩:=oT w i v (by simpa using m);refine wT ?_;have:bs.getD i false=b:=by simp[QCU,hb]
  rw[<- this];exact z;intro E g hk;have Y:(Qs x.toArray.size).any (λi=>bs.getD i false)=bs.any id:=by rw[QN,<- hl,pY]
  rw[Y];exact⟨.bl _,H,I.kept (t':=g) (λb o e=>hk b o (by simp;exact Qi (QW e)) (QH _ e)),rfl,q⟩
def um(K:QC):LV->Hp->VK->Prop:=λx H Q=>(∃z,x=[.str z]/\z.length<=sizeLine/\Q (.int z.length) H)∨∃a h,x=[.ref a]/\(RC K H a h∨GD K H a h)/\Q (.int h.length) H
theorem K6:sC X (.builtin "len") (um X.K):=λx s y H z u Q I r h=>h.elim (FQ x s y H z u Q I r) (EI x s y H z u Q I r)
def cV:V->Option Value
 | .ty n=>some (.type n)|.ref C=>some (.ref C)|_=>none
def Zu(K:QC)(H:Hp)(x:V)(t:Value):Prop:=(∃a h,x=.ref a/\RC K H a h/\t=.type "list")∨∃a h,x=.ref a/\GD K H a h/\t=.type "tuple"
def Cg(K:QC):LV->Hp->VK->Prop:=λy H Q=>match y with
 |[x,c]=>∃t h b,(TyOf K H x t∨Zu K H x t)/\cV c=some h/\QBL K t h=some b/\Q (.bl b) H|_=>False
theorem V6:sC X (.builtin "isinstance") (Cg X.K):=by
 intro m s Y H w Z Q I r h
 match w,h with
 |[x,c],⟨t,cv,b,ty,hc,hk,q⟩ =>
  obtain⟨u,k,rfl,f,v⟩:=Eb r;have e:k=cv:=by
   cases c with|ty n=>have l:k=Value.type n:=v;have j:some (Value.type n)=some cv:=hc;rw[l];exact Qn j|ref C=>have l:k=Value.ref C:=v;have j:some (Value.ref C)=some cv:=hc;rw[l];exact Qn j|_=>cases hc
  subst e;rcases ty with ty|⟨a,w,rfl,i,rfl⟩| ⟨a,w,rfl,i,rfl⟩
  exact kZ I f ty hk λy=>⟨.bl b,H,I.tok y,rfl,q⟩
  cases f;obtain⟨g,p,⟨o,n,e,c,_,d⟩,_⟩:=I.list i;exact qJ QAc I.kIn ⟨o,e,c⟩ hk (λz=>nomatch z) λy=>⟨.bl b,H,I.tok y,rfl,q⟩
  cases f;obtain⟨g,p,⟨o,e,c,n,d⟩,_⟩:=I.tuple i;exact qJ QBh I.kIn ⟨o,e,c⟩ hk (λz=>nomatch z) λy=>⟨.bl b,H,I.tok y,rfl,q⟩
def yr(K:QC):V->Option Int->Option Int->Hp->VK->Prop:=λx h y H Q=>match x with
 | .str z=>z.length<=sizeLine/\Q (.str (wo z h y)) H|.ref a=>zm K (.ref a) h y H Q∨ym K (.ref a) h y H Q|_=>False
theorem rg:Ve X (yr X.K):=by
 intro y s m H x v E C Y B b Q I p W r e h;cases x with
 |str z =>
  obtain⟨t,rfl⟩:=p;obtain⟨J,q⟩:=h;refine⟨"str",_,F.slot_str_getitem.lookup,QCR _ _ _,?_⟩;have fin:∀l u:Option (Int×Tok),l.map (·.1)=Y->u.map (·.1)=B->s.heap.IsSlice b l u none->wpAny (model X.prog X.w) X.A (getItem (.str z t) (.ref b)) (EP X y m Q) X.xe s:=λl u M L Z=>by refine wpAny_getItem_str_slice Z rfl ?_;subst M L;exact post_val_or_str ⟨QY (Txt.slice_le z _ _) J,λN k=>⟨.str (wo z _ _),H,I.tok k,⟨_,rfl⟩,q⟩⟩
  obtain⟨o,f,hc,g⟩:=W;cases r with
  |none =>
   cases e with|none=>exact fin none none rfl rfl ⟨o,f,hc,g⟩|int j n=>exact fin none (some (j,n)) rfl rfl ⟨o,f,hc,g⟩
  |int i G =>
   cases e with|none=>exact fin (some (i,G)) none rfl rfl ⟨o,f,hc,g⟩|int j n=>exact fin (some (i,G)) (some (j,n)) rfl rfl ⟨o,f,hc,g⟩
 |ref a=>rcases h with h|h;exact v8 y s m H _ v E C Y B b Q I p W r e h;exact og y s m H _ v E C Y B b Q I p W r e h
 |_=>exact Qd h
end
section
variable{h h':Heap}{j:Addr}{z:Src}{k:Nat}{xs:Array Value}
inductive Src where
 |l (a:Addr)|t (a:Addr)
def Src.adr:Src->Addr
 | .l a=>a|.t a=>a
def TD(h:Heap)(j:Addr):Src->Nat->Prop
 | .l a,k=>h.IsListIter j a k|.t a,k=>h.IsTupleIter j a k
def GB(h:Heap):Src->Array Value->Prop
 | .l a,xs=>h.IsList a xs|.t a,xs=>h.IsTuple a xs
theorem TD.keep(x:TD h j z k)(e:∀o,h.get? j=some o->h'.get? j=some o):TD h' j z k:=by
 cases z with|l a=>obtain⟨o,u,y⟩:=x;exact⟨o,e o u,y⟩|t a=>obtain⟨o,u,y⟩:=x;exact⟨o,e o u,y⟩
theorem TD.obj(x:TD h j z k):∃o,h.get? j=some o/\∀v,o.data≠.cell v:=by
 cases z with|l a=>obtain⟨o,u,w,y⟩:=x;exact⟨o,u,λv q=>by rw[y]at q;cases q⟩|t a=>obtain⟨o,u,w,y⟩:=x;exact⟨o,u,λv q=>by rw[y]at q;cases q⟩
theorem GB.ext{b:Addr}(x:GB h z xs)(e:W7 b h h')(n:z.adr≠b):GB h' z xs:=by
 cases z with|l a=>exact QCI.extBut x e n|t a=>exact Heap.IsTuple.extBut x e n
theorem GB.lt(x:GB h z xs):z.adr<h.objs.size:=by
 cases z with|l a=>obtain⟨o,y,_⟩:=x;exact QW y|t a=>obtain⟨o,y,_⟩:=x;exact QW y
theorem TD.lt(x:TD h j z k):j<h.objs.size:=by obtain⟨o,y,_⟩:=x.obj;exact QW y
end
section
variable{prog:Program}{w:World}{A:Around}{E:pC}{s:Shared}
section
variable{j t:Addr}{k:Nat}{xs:Array Value}{x:Value}{Q:pC}{z:Src}
theorem Hh(p:s.heap.IsTupleIter j t k)(pt:s.heap.IsTuple t xs)(a:xs[k]?=some x)
  (q:∀h',h'.IsTupleIter j t (k+1)->qW j s.heap h'->Q x { s with heap:=h' }):wpAny (model prog w) A (qT (.ref j)) Q E s:=by
 obtain⟨ob,y,b,h⟩:=id p;obtain⟨e,v,_,f,u⟩:=pt;unfold qT;refine QA (qO (name:=QO "__next__") p.typeIs qe (qK qe p.typeIs WR ?_ (WN _)));show wpAny _ _ (field (.ref j) 0 >>= _) _ _ _;refine QA (wN y h (x:=.ref t) rfl ?_);show wpAny _ _ (if(Value.ref t==Value.none)=true then _ else _) _ _ _;rw[if_neg (show ¬ (Value.ref t==Value.none)=true from QG)];show wpAny _ _ (field (.ref j) 1 >>= _) _ _ _;refine QA (wN y h (x:=.int k 0) rfl ?_);show wpAny _ _ (seqItems? (.ref t) >>= _) _ _ _;refine QA (QAS v u ?_);simp only[qN,a];refine QA (QAX y h (by simp) (QK ⟨x,rfl,QK (q _ ?_ (Q2 ..))⟩));refine⟨_,ww _ y (QA8 (WS h _)),(QBt ..).trans b,?_⟩;rw[WS h];simp[rawInt]
theorem VU(u:A.handled=none)(p:s.heap.IsTupleIter j t k)(pt:s.heap.IsTuple t xs)(f:xs[k]?=none)
  (q:∀h' e,W7 j s.heap h'->(∃o,h'.get? e=some o/\o.cls=.type "StopIteration")->E (.ref e) { s with heap:=h' }):wpAny (model prog w) A (qT (.ref j)) Q E s:=by
 obtain⟨ob,y,l,h⟩:=id p;obtain⟨g,b,_,i,v⟩:=pt;unfold qT;refine QA (qO (name:=QO "__next__") p.typeIs qe (qK qe p.typeIs WR ?_ (WN _)));show wpAny _ _ (field (.ref j) 0 >>= _) _ _ _;refine QA (wN y h (x:=.ref t) rfl ?_);show wpAny _ _ (if(Value.ref t==Value.none)=true then _ else _) _ _ _;rw[if_neg (show ¬ (Value.ref t==Value.none)=true from QG)];show wpAny _ _ (field (.ref j) 1 >>= _) _ _ _;refine QA (wN y h (x:=.int k 0) rfl ?_);show wpAny _ _ (seqItems? (.ref t) >>= _) _ _ _;refine QA (QAS b v ?_);simp only[qN,f];refine QA (QBE (QA (QAX y h (by simp) ?_)));refine QA (m:=newExc (.type "StopIteration") []) ?_;simp only[newExc,newTuple];refine QA (Qy ?made (by size_fits));refine QA (m:=firstArgMember _ _) (QCJ (a:=Value.none) (by first|rfl | (rw[firstArgMember];rfl)) ?arg);refine Qy ?made2 (by size_fits);simp only[raiseNew];refine QA (QBk ?_);first|rw[show A.in1.handled=none from u]|rw[u]
 refine QA (QK (QCK (q _ _ (((Q2 ..).extBut.push _).push _) ⟨_,QV _ rfl,rfl⟩)))
theorem U9(p:TD s.heap j z k)(pt:GB s.heap z xs)(h:xs[k]?=some x)
  (q:∀h',TD h' j z (k+1)->qW j s.heap h'->Q x { s with heap:=h' }):wpAny (model prog w) A (qT (.ref j)) Q E s:=by
 cases z with|l a=>exact wpAny_nextOf_list_item p pt h q|t a=>exact Hh p pt h q
theorem K4(y:A.handled=none)(p:TD s.heap j z k)(pt:GB s.heap z xs)(h:xs[k]?=none)
  (q:∀h' e,W7 j s.heap h'->(∃o,h'.get? e=some o/\o.cls=.type "StopIteration")->E (.ref e) { s with heap:=h' }):wpAny (model prog w) A (qT (.ref j)) Q E s:=by
 cases z with|l a=>exact wpAny_nextOf_list_end y p pt h q|t a=>exact VU y p pt h q
def Src.it:Src->Obj
 | .l a=>{ cls:=.type "list_iterator",data:=.fields #[.ref a,.int 0 0] }|.t a=>{ cls:=.type "tuple_iterator",data:=.fields #[.ref a,.int 0 0] }
theorem mR(pt:GB s.heap z xs)(q:Q (.ref s.heap.objs.size) { s with heap:=s.heap.push z.it }):wpAny (model prog w) A (pyIter (.ref z.adr)) Q E s:=by
 cases z with|l a=>exact We pt q|t a=>exact QBl pt q
theorem j8(h:Heap)(z:Src):TD (h.push z.it) h.objs.size z 0:=by
 cases z with|l a=>exact⟨_,QV _ rfl,rfl,rfl⟩|t a=>exact⟨_,QV _ rfl,rfl,rfl⟩
end
end
section
variable{prog:Program}{w:World}{A:Around}{E:pC}{s:Shared}
theorem Yg{h h':Heap}{b:Addr}{z:Src}{xs:Array Value}(x:GB h z xs)(e:qW b h h')(n:z.adr≠b):GB h' z xs:=x.ext e.extBut n
end
section
variable{X:Cx}{w:AB}{σ:St}{H:Hp}{s:Shared}{h':Heap}
theorem _root_.L2.Inv.turnedL{t':Nat}{ch:List Addr}(I:Inv X w σ H s)(k:∀b o,b∉ch->s.heap.get? b=some o->h'.get? b=some o)(f:∀b∈ch,lJ X w H b):Inv X w σ H { s with heap:=h',toks:=t' }:=by
 have h:∀b u,H b=some u->b∉ch:=λb u e z=>by rw[(f b z).1]at e;cases e
 have a:X.env.locals∉ch:=λz=>(f _ z).2.1 rfl;refine I.step (g':=s.gens) (d':=s.drawn) (ch:=ch) (λb hb=>?_) (λb o _ _ hc e _=>k b o hc e) (λb o _ _ hc e _=>⟨o.slots,k b o hc e⟩) (λ_ _ _ _ n=>n)
  (λb o hc e=>⟨o,k b o hc e⟩) (λ_ _ e=>e) (λ_ _ _ e=>e) (λ_ _ e=>e) (λm y=>?_) (λb u e=>?_) I.bare
 obtain⟨_,l,_,j,i,g⟩:=f b hb;exact⟨j,l,i,g⟩;obtain⟨o,p,Y,x,r⟩:=y;exact⟨o,p,Y,k _ o a x,r⟩;refine(I.hok b u e).stay (λc v hc q=>k c v ?_ q) (λ_ q=>q) λ_ _ q=>q;rcases hc with z|z;rw[z];exact h b u e;exact h c _ z
def MZ(K:QC)(H:Hp):Src->LV->Prop
 | .l a,xs=>RC K H a xs|.t a,xs=>GD K H a xs
theorem _root_.L2.Inv.src(I:Inv X w σ H s){z:Src}{xs:LV}(h:MZ X.K H z xs):∃its:LW,nA xs its/\GB s.heap z its.toArray/\xs.length<=sizeLine:=by
 cases z with|l a=>obtain⟨its,x,p,y⟩:=I.list h;exact⟨its,x,p.isList,y⟩|t a=>obtain⟨its,x,p,y⟩:=I.tuple h;exact⟨its,x,p,y⟩
theorem _root_.L2.Inv.src_inj(I:Inv X w σ H s){z:Src}{xs x:LV}(h:MZ X.K H z xs)(h':MZ X.K H z x):xs=x:=by
 cases z with|l a=>exact I.list_inj h h'|t a=>exact I.tuple_inj h h'
theorem _root_.L2.Inv.pair{p:Addr}{a b:Value}{x y:V}{t':Nat}(I:Inv X w σ H s)(k:∀b u,s.heap.get? b=some u->h'.get? b=some u)(v:s.heap.objs.size<=p)(e:h'.get? p=some { cls:=.type "tuple",data:=.seq #[a,b] })(z:rA x a)(h:rA y b) :
  Inv X w σ (BA H p (.tup [x,y])) { s with heap:=h',toks:=t' } :=
 I.laid k v ⟨by rw[Q5];show 2<=_;decide,[a,b],.cons z (.cons h .nil),_,e,rfl,_,rfl⟩
end
section
variable{prog:Program}{w:World}{A:Around}{E:pC}{s:Shared}
section
variable{z d:Addr}{u:Obj}{es:Array DictEntry}{i ep:Nat}{f c:Value}{Q:Option Value->Shared->Prop}
theorem sD:Wx "dict_itemiterator"=true:=by decide +kernel
theorem DJ(l:List String)(h:(l.contains "dict_itemiterator" || l.contains "object")=false):(l.any λt=>[Value.type "dict_itemiterator",Value.type "object"].contains (.type t))=false:=by
 rw[QBp];intro t x;rw[Bool.or_eq_false_iff]at h;have v:t≠"dict_itemiterator":=λe=>by subst e;rw[Qp.mpr x]at h;cases h.1
 have y:t≠"object":=λe=>by subst e;rw[Qp.mpr x]at h;cases h.2
 simp[v,y]
theorem Z4{e:DictEntry}
  (n:IsItemIter s.heap z d i es.size ep f c) (Y:s.heap.get? d=some u) (C:u.data=.dict es ep) (J:es[i]?=some e)
  (q:∀h',IsItemIterOut h' z d (i+1) es.size ep e.key e.val s.heap.objs.size->h'.get? s.heap.objs.size=some { cls:=.type "tuple",data:=.seq #[e.key,e.val] } ->
   h'.objs.size=s.heap.objs.size+1->(∀b o,b≠z->s.heap.get? b=some o->h'.get? b=some o)->Q (some (.ref s.heap.objs.size)) { s with heap:=h' }) :
  wpAny (model prog w) A (pyNext (.ref z)) Q E s:=by
 have G:s.TypeIs (.ref z) "dict_itemiterator":=⟨_,n,rfl⟩
 show wpAny _ _ (bind _ _) _ _ _;refine QA (Wz (qO G qV (qK qV G Wm ?_ (Wf _))));show wpAny _ _ (bind _ _) _ _ _;refine QA (QK (QA (QA (QA (qp G (QK (QA (QAY n rfl ?_))))))));rw[sD];show wpAny _ _ (if(Value.ref d==Value.none)=true then _ else _) _ _ _;rw[if_neg (show ¬ (Value.ref d==Value.none)=true from QG)];show wpAny _ _ (wO (.ref d) >>= _) _ _ _;refine QA (QK (QA (qz Y C ?_)));rw[if_neg (show ¬ (((es.size:Nat):Int) != ((es.size:Nat):Int))=true by simp)];refine QA (QK (QA (wz Y C ?_)));rw[if_neg (show ¬ (((ep:Nat):Int) != ((ep:Nat):Int))=true by simp)];refine QK ?_;have L:(if((i:Nat):Int)<0 then none else es[((i:Nat):Int).toNat]?)=some e:=by rw[if_neg (by omega),qN];exact J
 simp only[L];refine QA ?_;show wpAny _ _ (typeNameOfWhole (.ref z) >>= _) _ _ _;refine QA (qp G (QK (QA (WZ G ?_))));rw[sD,if_pos rfl];rw[show(List.any _ λt=>[Value.type "dict_itemiterator",Value.type "object"].contains (.type t))=false from DJ _ (by decide +kernel),if_neg QG];refine QA (wJ n (by simp) λa h X=>?_);have h:IsItemIter a z d (i+1) es.size ep f c:=h;refine QA (qU ?_);have F:({ s with heap:=a }:Shared).TypeIs (.ref z) "dict_itemiterator":=⟨_,h,rfl⟩
 show wpAny _ _ (Builtin.Dict_items.isOneOf (.ref z) _ >>= _) _ _ _;refine QA (WZ F ?_);rw[DJ _ (by decide +kernel),if_neg QG];refine QA (WZ F ?_);rw[DJ _ (by decide +kernel),if_neg QG];show wpAny _ _ (newTuple [e.key,e.val] >>= _) _ _ _;refine QA (QBN ?_);have r:a.objs.size=s.heap.objs.size:=X.1;have y:IsItemIter (a.push { cls:=.type "tuple",data:=.seq #[e.key,e.val] }) z d (i+1) es.size ep f c:=QH _ h;show wpAny _ _ (Builtin.Dict_items.ownedTupleIsFree (.ref z) >>= _) _ _ _;refine QA ?_;show wpAny _ _ (field (.ref z) 0 >>= _) _ _ _;refine QA (wN y rfl (x:=.none) rfl (QK ?_));rw[if_pos rfl];show wpAny _ _ (field (.ref z) 6 >>= _) _ _ _;refine QA (wN y rfl (x:=f) rfl ?_);refine QA (wN y rfl (x:=c) rfl ?_);refine QA (wJ y (by simp) λO B m=>?_);refine QA (wJ B (by simp) λN K l=>?_);refine QA (wJ K (by simp) λM W j=>?_);refine QA (wJ W (by simp) λI Z g=>?_);refine QA (wpAny_letGo (QK ?_));refine QK ⟨_,rfl,QK ?_⟩;have k:z<a.objs.size:=QW h;have pt:I.get? a.objs.size=some { cls:=.type "tuple",data:=.seq #[e.key,e.val] } :=
  g.extBut _ _ (wH k) (j.extBut _ _ (wH k) (l.extBut _ _ (wH k) (m.extBut _ _ (wH k) (QV _ rfl))))
 have p:I.objs.size=a.objs.size+1:=by rw[g.1,j.1,l.1,m.1,QAU]
 have v:IsItemIterOut I z d (i+1) es.size ep e.key e.val a.objs.size:=Z;rw[r]at pt p v;have:=q I v pt p λb o hb x=>g.extBut _ _ hb (j.extBut _ _ hb (l.extBut _ _ hb (m.extBut _ _ hb (QH _ (X.extBut _ _ hb x)))));show Q (some (.ref a.objs.size)) _;rw[r];exact this
theorem HP(g:A.handled=none)
  (h:IsItemIter s.heap z d i es.size ep f c) (x:s.heap.get? d=some u) (y:u.data=.dict es ep) (j:es[i]?=none)
  (q:∀h',W7 z s.heap h'->Q none { s with heap:=h' }) :
  wpAny (model prog w) A (pyNext (.ref z)) Q E s:=by
 have v:s.TypeIs (.ref z) "dict_itemiterator":=⟨_,h,rfl⟩
 show wpAny _ _ (bind _ _) _ _ _;refine QA (Wz (qO v qV (qK qV v Wm ?_ (Wf _))));show wpAny _ _ (bind _ _) _ _ _;refine QA (QK (QA (QA (QA (qp v (QK (QA (QAY h rfl ?_))))))));rw[sD];show wpAny _ _ (if(Value.ref d==Value.none)=true then _ else _) _ _ _;rw[if_neg (show ¬ (Value.ref d==Value.none)=true from QG)];show wpAny _ _ (wO (.ref d) >>= _) _ _ _;refine QA (QK (QA (qz x y ?_)));rw[if_neg (show ¬ (((es.size:Nat):Int) != ((es.size:Nat):Int))=true by simp)];refine QA (QK (QA (wz x y ?_)));rw[if_neg (show ¬ (((ep:Nat):Int) != ((ep:Nat):Int))=true by simp)];refine QK ?_;have l:(if((i:Nat):Int)<0 then none else es[((i:Nat):Int).toNat]?)=none:=by rw[if_neg (by omega),qN];exact j
 simp only[l];refine QA ?_;show wpAny _ _ (typeNameOfWhole (.ref z) >>= _) _ _ _;refine QA (qp v (QK ?_));rw[sD,if_pos rfl];refine QA (wJ h (by simp) λn e k=>?_);refine QA (m:=newExc (.type "StopIteration") []) ?_;simp only[newExc,newTuple];refine QA (Qy ?made (by size_fits));refine QA (m:=firstArgMember _ _) (QCJ (a:=Value.none) (by first|rfl | (rw[firstArgMember];rfl)) ?arg);refine Qy ?made2 (by size_fits);simp only[raiseNew];refine QA (QBk ?_);first|rw[show A.in1.handled=none from g]|rw[g]
 refine QA (QK (QCK ?_));refine QA (QAr (T:="StopIteration") (b:=true) ⟨_,QV _ rfl,rfl⟩ (by kernel_rfl) ?_);rw[if_pos rfl];exact QK (q _ ((k.extBut.push _).push _))
theorem C5{v:Addr}{Q:pC}(hv:s.heap.IsItemsView v d)(h:s.heap.get? d=some u)(x:u.data=.dict es ep)
  (q:Q (.ref s.heap.objs.size) { s with heap:=s.heap.push { cls:=.type "dict_itemiterator",data:=.fields #[.none,.bool false,.ref d,.int 0 0,.int es.size 0,.int ep 0,.none,.none] } }) :
  wpAny (model prog w) A (pyIter (.ref v)) Q E s:=by
 have a:=Heap.IsItemsView.typeIs hv;obtain⟨c,y,b,k⟩:=id hv;refine QBu a QAw (qK QAw a F.entry_dict_items_iter ?_ (F.args_dict_items_iter_1 _));show wpAny _ _ (bind _ _) _ _ _;refine QA (QK (QA ?_));show wpAny _ _ (bind _ _) _ _ _;refine QA (wN y k rfl (QK (QA ?_)));show wpAny _ _ (bind _ _) _ _ _;refine QA (qz h x (QA (wz h x ?_)));simp only[sD,if_true];refine Qy (QK ⟨_,rfl,"dict_itemiterator",_,⟨_,QV _ rfl,rfl⟩,qV.lookup,q⟩) (show _<=sizeLine+2 by simp[Builtin.Dict_items.ownedTupleFields,Q5])
theorem CV{Q:pC}(h:s.heap.get? d=some u)(x:u.cls=.type "dict")(v:(d==sysModules)=false)
  (q:Q (.ref s.heap.objs.size) { s with heap:=s.heap.push { cls:=.type "dict_items",data:=.fields #[.ref d] } }):wpAny (model prog w) A (call (.builtin "dict.items") [.ref d]) Q E s:=by
 have y:s.TypeIs (.ref d) "dict":=⟨_,h,x⟩
 refine qK F.slot_dict_items y F.entry_dict_items ?_ (F.args_dict_items_1 _);show wpAny _ _ (bind _ _) _ _ _;refine QA ?_;show wpAny _ _ (bind _ _) _ _ _;refine QA (w4 y ?_);refine QK ?_;show wpAny _ _ ((if(d==sysModules)=true then _ else _) >>= _) _ _ _;rw[v,if_neg QG];exact QA (QK (QA (Qy (QK ⟨_,rfl,q⟩) (show _<=sizeLine+2 by simp[Q5]))))
theorem EX{X:Type}[DecidableEq X]{knd:HeapKind prog w X}{d a:Addr}{xs:List (X×Addr×Value)}{k:X}{v:Value}{Q:pC}(K:knd.room A)(b:knd.is s.heap k a)(C:s.heap.DictOfH knd d xs)(hsz:xs.length<=sizeLine)
  (G:∀p,atKey xs k=some p->Q p.2 { s with toks:=s.toks+knd.draws k })
  (F:atKey xs k=none->∀h',h'.DictOfH knd d (storedH xs k a v)->qW d s.heap h'->Q v { s with heap:=h',toks:=s.toks+knd.draws k }) :
  wpAny (model prog w) A (dictSetDefault d (.ref a) v) Q E s:=by
 obtain⟨o,es,ep,m,hc,l,Y,r,Z⟩:=id C;have I:es.size=xs.length:=by have:=congrArg wA Y;simpa using this
 unfold dictSetDefault;refine qU (QA (knd.pyHash K b (QA (wpAny_dictFind_heap K b m l Y r Z (λq=>?_) λj p B=>?_))));have h:=atKey_none_of_get q;have n:=not_mem_keys_of_get q;refine QA (QBE (QA (wpAny_updateDictKeys m l (QK (F h _ ?_ (Q2 ..))) (by omega) (by simp))));refine⟨_,_,ep+1,ww _ m (Obj.isFreed_of_dict (QBH l _)),Obj.ExactDict.mapDictKeys hc _,QBH l _,?_,?_,?_⟩;rw[QCL h];simp[Y,entryOfKey];rw[QCL h];intro x g;rcases Qe.mp g with g|g;exact knd.keeps (r x g) m l (Q2 ..);rw[QI.mp g];exact knd.keeps b m l (Q2 ..);rw[QCL h,QR];exact qX.mpr ⟨Z,by simp,λx g y W e=>by rw[QU,WK,QI]at W;rw[e,W]at g;exact n g⟩;have h:=atKey_of_get Z B;have J:es[j]?=some (entryOfKey knd (k,p)):=by
  have:es.toList[j]?=some (entryOfKey knd (k,p)):=by rw[Y,Qc,B];rfl
  simpa using this
 refine QA (qz m l ?_);rw[J];exact QA (QBE (QK (G p h)))
theorem mT{x:Type}[DecidableEq x]{knd:HeapKind prog w x}{d a:Addr}{xs:List (x×Addr×Value)}{k:x}{v:Value}{Q:pC}(e:knd.room A.in1)(h:knd.is s.heap k a)(y:s.heap.DictOfH knd d xs)(hsz:xs.length<=sizeLine)(l:(d==sysModules)=false)
  (n:∀p,atKey xs k=some p->Q p.2 { s with toks:=s.toks+knd.draws k })
  (m:atKey xs k=none->∀h',h'.DictOfH knd d (storedH xs k a v)->qW d s.heap h'->Q v { s with heap:=h',toks:=s.toks+knd.draws k }) :
  wpAny (model prog w) A (call (.builtin "dict.setdefault") [.ref d,.ref a,v]) Q E s:=by
 have b:s.TypeIs (.ref d) "dict":=Heap.DictOfH.typeIs y;refine qK F.slot_dict_setdefault b F.entry_dict_setdefault ?_ (F.args_dict_setdefault_3 _ _ _);show wpAny _ _ (bind _ _) _ _ _;refine QA ?_;show wpAny _ _ (bind _ _) _ _ _;refine QA (w4 b ?_);refine QK ?_;show wpAny _ _ (if(d==sysModules)=true then _ else _) _ _ _;rw[l,if_neg QG];exact QA (EX e h y hsz (λp g=>QK ⟨_,rfl,n p g⟩) λj h' q o=>QK ⟨_,rfl,m j h' q o⟩)
end
end
def kL(K:QC):V->LV->Hp->VK->Prop:=λx z H Q=>∃a b v w h k,x=.ref a/\z=[.ref b,v]/\H a=some (.dT w h)/\ZG K H h/\RN K H b k/\h.length<sizeLine /\
   (∀u,yH h k=some u->Q u H)/\(yH h k=none->∀y,Q v (BA H a (.dT y (AL h k b v))))
theorem OY{X:Cx}(R:X.A.units+66<cLine):V7 X "dict.setdefault" (kL X.K):=by
 intro m s L H x N v P Q I o r h;obtain⟨a,b,y,ep,f,k,rfl,rfl,e,hk,F,l,Z,Y⟩:=h;cases o;obtain⟨u,O,rfl,q,g⟩:=Eb r;cases q;obtain⟨W,n,M,w,G⟩:=JK I e hk;have hl:(AL f k b y).length<=sizeLine:=by have:=dS f k b y;omega
 refine mT (eI (by omega)) (pS I F) G (by rw[<- qI w];exact W) n (λp C=>?_) λE S j B=>?_;have z:=w.val k;rw[C]at z;cases ev:yH f k with|none=>rw[ev]at z;exact(show False from z).elim|some u=>rw[ev]at z;exact⟨u,H,I.tok _,z,Z u ev⟩
 have z:=w.val k;rw[E]at z;cases ev:yH f k with|some u=>rw[ev]at z;exact(show False from z).elim|none=>obtain⟨i,J⟩:=OM (t':=_) I (by rw[e];exact True.intro) n hl (w.put k b g) j B;exact⟨y,_,J,g,Y ev i⟩
noncomputable def nv(ep n:Nat)(a:Addr):It :=
  ⟨λi H=>∃h p,H a=some (.dT ep h)/\h.length=n/\h[i]?=some p,
   λi H v x=>∃q p,H q=none/\v=.ref q/\x=BA H q (.tup [.ref p.2.1,p.2.2])/\∀h,H a=some (.dT ep h)->h[i]?=some p,
   λi H=>∃h,H a=some (.dT ep h)/\h.length=n/\n<=i⟩
theorem ZH{α h:Type}{R:α->h->Prop}:∀{l:List α}{m:List h}{i:Nat}{x:α},Paired R l m->l[i]?=some x->∃y,m[i]?=some y/\R x y
 |_,_,i,_,.nil,e=>by simp at e|_,_,0,_,.cons r _,e=>by simp at e;subst e;exact⟨_,rfl,r⟩|_,_,i+1,x,.cons _ t,e=>by obtain⟨y,u,z⟩:=ZH (i:=i) (x:=x) t (by simpa using e);exact⟨y,by simpa using u,z⟩
theorem bU{P:Program}{w:World}{K:QC}{es:List Expr}{kk:Nat}{pp:Pos}{a it:Addr}{n ep:Nat}:Turn0 P w K (.Tuple es kk pp) (nv ep n a) [it] it (λi h=>∃ok Y,IsItemIter h it a i n ep ok Y) where
 mem:=by simp
 obj:=λi h st b hb=>by obtain⟨ok,Y,st⟩:=st;rw[QI]at hb;subst hb;exact⟨_,st,λv q=>by cases(show Data.fields _=Data.cell v from q)⟩
 keep:=λi h h' st k=>by obtain⟨ok,Y,st⟩:=st;exact⟨ok,Y,k it (by simp) _ st⟩
 item:=by
  intro X J C L hc i Z s σ H E I A st G;subst J C L;obtain⟨j,p,e,F,ep⟩:=G;obtain⟨ok,Y,st⟩:=st;obtain⟨z,y,xs,r,o,u,N,h2,M,B,h5⟩:=(show FA X.prog X.w H s.heap a (.dT _ j) from I.hok a _ e)
  have l:u.size=n:=by have:=congrArg wA B;rw[QF,Qt]at this;rw[this,<- qI r,F]
  obtain⟨q,hq,rq⟩:=ZH r ep;have he:u[i]?=some (entryOfKey (SE X.prog X.w) q):=by
   have:u.toList[i]?=some (entryOfKey (SE X.prog X.w) q):=by rw[B,Qc,hq];rfl
   simpa using this
  subst l;refine Z4 st N M he λh' b1 b3 b4 b5=>⟨_,rfl,wpAny_letOwnedTupleGo_items b1 λm c1 sb=>?_⟩
  have hp:=I.hok.fresh (Qb s.heap.objs.size);have W:it<s.heap.objs.size:=QW st;have g:∀b∈[it],b<s.heap.objs.size:=λb hb=>by rw[QI]at hb;subst hb;exact W
  have kept:∀b o,b∉[it]->s.heap.get? b=some o->m.get? b=some o:=λb o hb q=>by rw[QI]at hb;exact(sb.2 b hb).trans (b5 b o hb q)
  have f:m.get? s.heap.objs.size=some { cls:=.type "tuple",data:=.seq #[.ref q.2.1,q.2.2] }:=(sb.2 _ (wH W)).trans b3;have I1:=I.pair (x:=.ref p.2.1) (y:=p.2.2) (h':=s.heap.push { cls:=.type "tuple",data:=.seq #[.ref q.2.1,q.2.2] }) (t':=s.toks) (λb o e=>QH _ e) (Qb _) (QV _ rfl) (show Value.ref q.2.1=Value.ref p.2.1 by rw[rq.2.1]) rq.2.2;have I2:=I1.turnedL (h':=m) (t':=s.toks) (ch:=[it]) (λb o hb e=>by
   rcases QBI e with⟨q1,q2⟩| q;subst q1 q2;exact f;exact kept b o hb q) λb hb=>by
   obtain⟨f0,S,f2,R,Q,O⟩:=A b hb;exact⟨by rw[vA (Qi (g b hb))];exact f0,S,f2,R,Q,O⟩
  refine⟨.ref s.heap.objs.size,_,I2,rfl,⟨s.heap.objs.size,p,hp,rfl,rfl,λkvs' g1=>?_⟩,⟨_,_,c1⟩,λb hb=>?_⟩;rw[e]at g1;cases g1;exact ep;rw[vA (Qi (g b hb))];exact(A b hb).1
 done:=by
  intro X J C L hc i Z s σ H E I A st G;subst J C L;obtain⟨j,e,F,ep⟩:=G;obtain⟨ok,Y,st⟩:=st;obtain⟨z,y,xs,r,o,u,N,h2,M,B,h5⟩:=(show FA X.prog X.w H s.heap a (.dT _ j) from I.hok a _ e)
  have l:u.size=n:=by have:=congrArg wA B;rw[QF,Qt]at this;rw[this,<- qI r,F]
  subst l;obtain⟨f0,S,f2,R,Q,O⟩:=A it (by simp);exact HP (I.ok.hd hc) st N M (QAx ep) λh' eb=>⟨rfl,I.turned (t':=s.toks) (λb o hb e=>eb b o hb e) f0 S R Q O⟩
section
variable{prog:Program}{w:World}{A:Around}{E:pC}{s:Shared}
section
variable{d h:Addr}{x:Obj}{es:Array DictEntry}{ep i:Nat}{Q:Option Value->Shared->Prop}
theorem HG:Wx "dict_keyiterator"=false:=by decide +kernel
theorem ga{Q:pC}(v:(d==sysModules)=false)(y:s.heap.get? d=some x)(hc:x.cls=.type "dict")(z:x.data=.dict es ep)
  (q:Q (.ref s.heap.objs.size) { s with heap:=s.heap.push { cls:=.type "dict_keyiterator",data:=.fields #[.ref d,.int 0 0,.int es.size 0,.int ep 0] } }) :
  wpAny (model prog w) A (pyIter (.ref d)) Q E s:=by
 have u:s.TypeIs (.ref d) "dict":=⟨_,y,hc⟩
 refine QBu u QCD (qK QCD u F.entry_dict_iter ?body (F.args_dict_iter_1 _))
 case body =>
  show wpAny _ _ (bind _ _) _ _ _;refine QA ?sl
  case sl =>
   show wpAny _ _ (bind _ _) _ _ _;refine QA (w4 u (QK ?go))
   case go =>
    have e:Wn d=pure PUnit.unit:=by unfold Wn;rw[v];rfl
    show wpAny _ _ (Wn d >>= _) _ _ _;rw[e];refine QA (QK (QA (qz y z (QA (wz y z (QA (Qy (QK ⟨_,rfl,"dict_keyiterator",_,⟨_,QV _ rfl,rfl⟩,qY.lookup,?_⟩))))))));simpa[rawInt]using q
theorem X9{e:DictEntry}
  (v:s.heap.IsKeyIter h d i es.size ep) (u:s.heap.get? d=some x) (k:x.data=.dict es ep) (g:es[i]?=some e)
  (q:∀h',h'.IsKeyIter h d (i+1) es.size ep->qW h s.heap h'->Q (some e.key) { s with heap:=h' }) :
  wpAny (model prog w) A (pyNext (.ref h)) Q E s:=by
 have a:=v.typeIs;obtain⟨l,b,f,y⟩:=id v;show wpAny _ _ (bind _ _) _ _ _;refine QA (Wz (qO a qY (qK qY a Ws ?_ (Wo _))));show wpAny _ _ (bind _ _) _ _ _;refine QA (QK (QA (QA (QA (qr a (QK (QA (QAY b y ?_))))))));rw[HG];show wpAny _ _ (if(Value.ref d==Value.none)=true then _ else _) _ _ _;rw[if_neg (show ¬ (Value.ref d==Value.none)=true from QG)];show wpAny _ _ (wO (.ref d) >>= _) _ _ _;refine QA (QK (QA (qz u k ?_)));rw[if_neg (show ¬ (((es.size:Nat):Int) != ((es.size:Nat):Int))=true by simp)];refine QA (QK (QA (wz u k ?_)));rw[if_neg (show ¬ (((ep:Nat):Int) != ((ep:Nat):Int))=true by simp)];refine QK ?_;have j:(if((i:Nat):Int)<0 then none else es[((i:Nat):Int).toNat]?)=some e:=by rw[if_neg (by omega),qN];exact g
 simp only[j];refine QA ?_;show wpAny _ _ (typeNameOfWhole (.ref h) >>= _) _ _ _;refine QA (qr a (QK (QA (QA9 a ?_))));rw[HG];show wpAny _ _ (setField (.ref h) 1 _ >>= _) _ _ _;refine QA (QAX b y (by simp) ?_);have z:(s.heap.update h (Obj.mapFields (·.setIfInBounds 1 (rawInt ((i:Int)+1))))).IsKeyIter h d (i+1) es.size ep :=
  ⟨_,ww _ b (QA8 (WS y _)),(QBt ..).trans f,by rw[WS y];simp[rawInt]⟩
 refine QA (qU (QA (QA9 (s:={ s with heap:=s.heap.update h (Obj.mapFields (·.setIfInBounds 1 (rawInt ((i:Int)+1)))) }) z.typeIs ?_)));show wpAny _ _ (pure e.key) _ _ _;exact QK (QK ⟨_,rfl,QK (q _ z (Q2 ..))⟩)
theorem HR(f:A.handled=none)
  (z:s.heap.IsKeyIter h d i es.size ep) (y:s.heap.get? d=some x) (v:x.data=.dict es ep) (g:es[i]?=none)
  (q:∀h',W7 h s.heap h'->Q none { s with heap:=h' }) :
  wpAny (model prog w) A (pyNext (.ref h)) Q E s:=by
 have k:=z.typeIs;obtain⟨n,e,j,u⟩:=id z;show wpAny _ _ (bind _ _) _ _ _;refine QA (Wz (qO k qY (qK qY k Ws ?_ (Wo _))));show wpAny _ _ (bind _ _) _ _ _;refine QA (QK (QA (QA (QA (qr k (QK (QA (QAY e u ?_))))))));rw[HG];show wpAny _ _ (if(Value.ref d==Value.none)=true then _ else _) _ _ _;rw[if_neg (show ¬ (Value.ref d==Value.none)=true from QG)];show wpAny _ _ (wO (.ref d) >>= _) _ _ _;refine QA (QK (QA (qz y v ?_)));rw[if_neg (show ¬ (((es.size:Nat):Int) != ((es.size:Nat):Int))=true by simp)];refine QA (QK (QA (wz y v ?_)));rw[if_neg (show ¬ (((ep:Nat):Int) != ((ep:Nat):Int))=true by simp)];refine QK ?_;have l:(if((i:Nat):Int)<0 then none else es[((i:Nat):Int).toNat]?)=none:=by rw[if_neg (by omega),qN];exact g
 simp only[l];refine QA ?_;show wpAny _ _ (typeNameOfWhole (.ref h) >>= _) _ _ _;refine QA (qr k (QK ?_));rw[HG];show wpAny _ _ (setField (.ref h) 0 .none >>= _) _ _ _;refine QA (QAX e u (by simp) ?_);refine QA (m:=newExc (.type "StopIteration") []) ?_;simp only[newExc,newTuple];refine QA (Qy ?made (by size_fits));refine QA (m:=firstArgMember _ _) (QCJ (a:=Value.none) (by first|rfl | (rw[firstArgMember];rfl)) ?arg);refine Qy ?made2 (by size_fits);simp only[raiseNew];refine QA (QBk ?_);first|rw[show A.in1.handled=none from f]|rw[f]
 refine QA (QK (QCK ?_));refine QA (QAr (T:="StopIteration") (b:=true) ⟨_,QV _ rfl,rfl⟩ (by kernel_rfl) ?_);rw[if_pos rfl];exact QK (q _ (((Q2 ..).extBut.push _).push _))
end
end
def sv(ep n:Nat)(a:Addr):It :=
  ⟨λi H=>∃h p,H a=some (.dT ep h)/\h.length=n/\h[i]?=some p,
   λi H v x=>x=H/\∀h,H a=some (.dT ep h)->∃p,h[i]?=some p/\v=.ref p.2.1,
   λi H=>∃h,H a=some (.dT ep h)/\h.length=n/\n<=i⟩
theorem zY{P:Program}{w:World}{K:QC}{S:Expr}{a it:Addr}{n ep:Nat}:Turn P w K S (sv ep n a) [it] it (λi h=>h.IsKeyIter it a i n ep) where
 mem:=by simp
 obj:=λi h st b hb=>by obtain⟨o,e,c,d⟩:=st;rw[QI]at hb;subst hb;exact⟨o,e,λv z=>by rw[d]at z;cases z⟩
 keep:=λi h Y st k=>st.at λo e=>k it (by simp) o e
 item:=by
  intro X B Z C hc i u s Q H E I l st A;subst B Z C;obtain⟨f,p,e,W,ep⟩:=A;obtain⟨z,y,R,r,o,x,G,h2,F,m,h5⟩:=(show FA X.prog X.w H s.heap a (.dT _ f) from I.hok a _ e)
  have g:x.size=n:=by have:=congrArg wA m;rw[QF,Qt]at this;rw[this,<- qI r,W]
  obtain⟨q,hq,rq⟩:=ZH r ep;have he:x[i]?=some (entryOfKey (SE X.prog X.w) q):=by
   have:x.toList[i]?=some (entryOfKey (SE X.prog X.w) q):=by rw[m,Qc,hq];rfl
   simpa using this
  subst g;obtain⟨O,N,f2,M,L,J⟩:=l it (by simp);refine X9 st G F he λY j sb=>?_;have I1:Inv X u Q H { s with heap:=Y }:=I.turned (t':=s.toks) (λb o hb e=>(sb.2 b hb).trans e) O N M L J;obtain⟨oi,ei,ci,di⟩:=id j;exact⟨_,rfl,go_of (s:={ s with heap:=Y }) ei ci di (by decide) ⟨.ref p.2.1,H,I1,show Value.ref q.2.1=Value.ref p.2.1 by rw[rq.2.1],⟨rfl,λks hk=>by rw[e]at hk;cases hk;exact⟨p,ep,rfl⟩⟩,j,λb hb=>(l b hb).1⟩⟩
 done:=by
  intro X B Z C hc i u s Q H E I l st A;subst B Z C;obtain⟨f,e,W,ep⟩:=A;obtain⟨z,y,R,r,o,x,G,h2,F,m,h5⟩:=(show FA X.prog X.w H s.heap a (.dT _ f) from I.hok a _ e)
  have g:x.size=n:=by have:=congrArg wA m;rw[QF,Qt]at this;rw[this,<- qI r,W]
  subst g;obtain⟨O,N,f2,M,L,J⟩:=l it (by simp);exact HR (I.ok.hd hc) st G F (QAx ep) λY eb=>⟨rfl,I.turned (t':=s.toks) (λb o hb e=>eb b o hb e) O N M L J⟩
 self:=λ_ _ _ _ _ st h=>wpAny_pyIter_keyiter st h
open PySem.SeqAt
open AutoSeq1 (wpAny_loadPart')
open MeetsSeq MeetsSeq2 MeetsSeq3
def uk:LS->LS->Bool
 |[],[]=>false|[],_::_=>true|_::_,[]=>false|x::a,y::b=>if(x==y)=true then uk a b else decide (x.cps.toList<y.cps.toList)
theorem bP{vs:LW}{z:LS}(h:StrsAre vs z):vs.length=z.length/\∀(i:Nat) (x:Str),z[i]?=some x->∃t:Tok,vs[i]?=some (Value.str x t):=by
 induction h with
 |nil=>exact⟨rfl,λi x e=>by simp at e⟩|cons y t _ u =>
  refine⟨by rw[QM,QM,u.1],λi x e=>?_⟩;cases i with|zero=>simp at e;subst e;exact⟨t,rfl⟩|succ i=>simp at e;simpa using u.2 i x e
theorem TY(l b:Addr)(v x:Array Value)(n B:Nat)(L X:Option Addr)(W o:Array (Option Value))(a ts:LS)(I:StrsAre v.toList a)(G:StrsAre x.toList ts)(k:Nat) :
  ∀i:Nat,v.size - i=k->i<=v.size->i<=x.size->Meets (Builtin.«list.__eq__.loop» ⟨[.ref l,.ref b,rawInt i,rawInt 0],[]⟩)
   (λA R s=>s.heap.get? l=some { cls:=.type "list",dict:=L,data:=.seq v n,slots:=W }/\s.heap.get? b=some { cls:=.type "list",dict:=X,data:=.seq x B,slots:=o } /\
    R (.ok (.ret (.bool (uk (a.drop i) (ts.drop i))))) s):=by
 obtain⟨S,Q⟩:=bP I;obtain⟨O,N⟩:=bP G;rw[Qt]at S O;induction k with
 |zero =>
  intro i hk F p e w A R s h;obtain⟨E,g,d,Z,K⟩:=s;obtain⟨hl,hb,h⟩:=h;wp_walk using qD hl,qD hb;have m:v[((i:Nat):Int).toNat]?=none:=by simp;omega
  rw[m];wp_walk using qD hl,qD hb;have Y:a.drop i=[]:=by simp;omega
  rw[Y]at h;have f:uk [] (ts.drop i)=decide (v.size<x.size):=by
   cases z:ts.drop i with
   |nil =>
    have:ts.length<=i:=by simpa using z
    exact(dF (by omega)).symm
   |cons y r =>
    have:i<ts.length:=by by_cases c:i<ts.length;exact c;rw[Wa (by omega)]at z;cases z
    exact(dT (by omega)).symm
  rw[f]at h;exact h
 |succ k C =>
  intro i hk F p e w A R s h;obtain⟨E,g,d,Z,K⟩:=s;obtain⟨hl,hb,h⟩:=h;wp_walk using qD hl,qD hb;have j:i<a.length:=by omega
  obtain⟨t,ev⟩:=Q i a[i] (Qq j);have m:v[((i:Nat):Int).toNat]?=some (.str a[i] t):=by simpa using ev
  rw[m];have Y:a.drop i=a[i]::a.drop (i+1):=QAZ j;rw[Y]at h;by_cases c:i<ts.length;obtain⟨u,J⟩:=N i ts[i] (Qq c);have f:x[((i:Nat):Int).toNat]?=some (.str ts[i] u):=by simpa using J
  have M:ts.drop i=ts[i]::ts.drop (i+1):=QAZ c;rw[M]at h;have h:R (.ok (.ret (.bool (if(a[i]==ts[i])=true then uk (a.drop (i+1)) (ts.drop (i+1)) else decide (a[i].cps.toList<ts[i].cps.toList))))) _:=h;rw[f];refine QA (EqAt.str_str a[i] t ts[i] u e w _ _ ?_);have hc:((i:Int)+1)=((i+1:Nat):Int):=by push_cast;rfl
  cases q:(a[i]==ts[i]) with|true=>rw[q,if_pos rfl]at h;wp_walk;rw[hc];exact⟨W0 plain_eq_loop _,w6 entry_eq_loop (by rw[qt plain_eq_loop _];exact C (i+1) (by omega) (by omega) (by omega) e w A R _ ⟨hl,hb,h⟩)⟩|false=>rw[q,if_neg QG]at h;wp_walk using qD hl,qD hb;rw[m,f];show wpAny _ _ (compareOp .Lt (.str a[i] t) (.str ts[i] u) >>= _) _ _ _;refine QA (PySem.P.lt_str ?_);exact QK h
  have f:x[((i:Nat):Int).toNat]?=none:=by simp;omega
  rw[f];wp_walk using qD hl,qD hb;rw[Wa (show ts.length<=i by omega)]at h;have:decide (v.size<x.size)=false:=dF (by omega);have h:R (.ok (.ret (.bool false))) _:=h;rw[<- this]at h;exact h
theorem IY(l b:Addr)(y x:Array Value)(n e:Nat)(f v:Option Addr)(a z:Array (Option Value))(k ts:LS)(j:StrsAre y.toList k)(i:StrsAre x.toList ts) :
  Meets (Builtin.«list.__lt__» ⟨[.ref l,.ref b],[]⟩)
   (λA R s=>s.heap.get? l=some { cls:=.type "list",dict:=f,data:=.seq y n,slots:=a }/\s.heap.get? b=some { cls:=.type "list",dict:=v,data:=.seq x e,slots:=z } /\
    R (.ok (.ret (.bool (uk k ts)))) s):=by
 intro u w A R s h;obtain⟨p,g,d,m,o⟩:=s;obtain⟨hl,hb,h⟩:=h;have q:=AutoSeq1.sub_list_list;wp_walk using qD hl,qD hb;exact⟨W0 plain_eq_loop _,w6 entry_eq_loop (by rw[qt plain_eq_loop _];exact TY l b y x n e f v a z k ts j i _ 0 rfl (Qz _) (Qz _) u w A R _ ⟨hl,hb,h⟩)⟩
section
variable{prog:Program}{w:World}{A:Around}{E:pC}{s:Shared}
theorem iU{l b:Addr}{y x:Array Value}{n a:Nat}{e u:Option Addr}{k z:Array (Option Value)}{v ts:LS}{Q:Bool->Shared->Prop}(f:A.units<cLine)(hl:s.heap.get? l=some { cls:=.type "list",dict:=e,data:=.seq y n,slots:=k })(hb:s.heap.get? b=some { cls:=.type "list",dict:=u,data:=.seq x a,slots:=z })
  (i:StrsAre y.toList v) (g:StrsAre x.toList ts) (h:Q (uk v ts) s):wpAny (model prog w) A (keyLt' oneType' (.ref l) (.ref b)) Q E s:=by
 rw[keyLt'_oneType,oneLt'_eq];simp only[if_true];refine QA (wpAny_cRoomFor f (QA (wpAny_callSpecialIfBound?_slot (T:="list") ⟨_,hl,rfl⟩ F.slot_list_lt ?_)));refine QBD F.slot_list_lt ⟨_,hl,rfl⟩ F.entry_list_lt (F.args_list_lt_2 _ _) (IY l b y x n a e u k z v ts i g) ⟨hl,hb,?_⟩;exact wT h
end
end L2.L3
namespace L2.L3
open PySem PySem.Spec PyProof.Rows PySem.W
def PC{α:Type}(n:Nat)(P:α->Prop):KasT α->Prop
 | .ret a=>P a|.ask i j k=>i<n/\j<n/\∀b,PC n P (k b)
theorem PC.bnd{α x:Type}{n:Nat}{P:α->Prop}{R:x->Prop}{f:α->KasT x}(y:∀a,P a->PC n R (f a)):∀{t:KasT α},PC n P t->PC n R (t.bind f)
 | .ret a,h=>y a h|.ask i j k,⟨h1,h2,h⟩=>⟨h1,h2,λb=>PC.bnd y (h b)⟩
theorem PC.wp{α:Type}{n:Nat}{P:α->Prop}{x:Nat->Nat->(Bool->Shared->Prop)->Shared->Prop}{Q:α->Shared->Prop}{s:Shared}(y:∀i j,i<n->j<n->∀C:Bool->Shared->Prop,(∀b,C b s)->x i j C s)(z:∀a,P a->Q a s):∀{t:KasT α},PC n P t->t.kasWp x Q s
 | .ret a,h=>z a h|.ask i j k,⟨h1,h2,h⟩=>y i j h1 h2 _ λb=>PC.wp y z (h b)
def Pm(n:Nat)(p:Array Nat):Prop:=p.Perm (qG (Qs n))
section
variable{n:Nat}
section
variable{p:Array Nat}
theorem Pm.lt(h:Pm n p)(x:0<n)(i:Nat):p.getD i 0<n:=by
 by_cases c:i<p.size;have e:p.getD i 0=p[i]:=by simp[Array.getD,c]
 rw[e];have m:p[i]∈p.toList:=by simp
 have:=(qQ.mp h).mem_iff.mp m;simpa using this;have e:p.getD i 0=0:=by simp[Array.getD,c]
 rw[e];exact x
theorem Pm.rev(h:Pm n p)(i j:Nat):Pm n (kas_rev p i j):=(mirror_perm _ _ _ _).trans h
theorem PQ{p:Array Nat}(h:Pm n p)(x:0<n):∀(f m:Nat),PC n (λ_=>True) (kas_asc p f m)
 |0,m=>trivial|f+1,m=>⟨h.lt x _,h.lt x _,λb=>by
  cases b with|true=>exact trivial|false=>exact PQ h x f (m+1)⟩
theorem vJ(x:0<n):∀(f:Nat) {p:Array Nat}(h:Pm n p) (m q:Nat),PC n (λr=>Pm n r.1) (kas_desc f p m q)
 |0,p,h,m,q=>h|f+1,p,h,m,q=>⟨h.lt x _,h.lt x _,λb=>by
  cases b with
  |true=>show PC n _ (if q > 0 then _ else _);split;exact vJ x f (h.rev _ _) _ _;exact vJ x f h _ _|false =>
   refine⟨h.lt x _,h.lt x _,λb=>?_⟩;cases b with|true=>exact h|false=>exact vJ x f h _ _⟩
theorem RO(x:0<n)(h:Pm n p)(a b:Nat):PC n (λr=>Pm n r.2) (kas_tail3 a b p):=by refine PC.bnd (f:=λm=>.ret (m,kas_rev p 0 a)) (λm _=>?_) (PQ (h.rev _ _) x _ _);exact h.rev _ _
theorem kJ(x:0<n)(h:Pm n p)(a b:Nat):PC n (λr=>Pm n r.2) (kas_descPart a b p):=by refine PC.bnd (λr y=>?_) (vJ x _ h _ _);split;exact RO x (Pm.rev y _ _) _ _;exact RO x y _ _
theorem UZ(x:0<n)(h:Pm n p)(b:Nat):PC n (λr=>Pm n r.2) (kas_count b p):=by
 refine PC.bnd (λm _=>?_) (PQ h x _ _);split;exact h;split
 ·refine⟨h.lt x _,h.lt x _,λc=>?_⟩
  cases c with|true=>exact h|false=>exact kJ x (h.rev _ _) _ _
 exact kJ x h _ _
theorem kK(x:0<n){p:Array Nat}(h:Pm n p)(k:Nat):∀(f l r:Nat),PC n (λ_=>True) (kas_place p k f l r)
 |0,l,r=>trivial|f+1,l,r=>by
  show PC n _ (if l ≥ r then _ else _);split;exact trivial;refine⟨h.lt x _,h.lt x _,λb=>?_⟩;cases b with|true=>exact kK x h k f _ _|false=>exact kK x h k f _ _
theorem GX(x:0<n):∀(f:Nat) {p:Array Nat}(h:Pm n p) (k:Nat),PC n (Pm n) (kas_bin f p k)
 |0,p,h,k=>h|f+1,p,h,k=>PC.bnd (λl _=>GX x f ((bubble_perm _ _ _).trans h) _) (kK x h _ _ _ _)
theorem ZT(x:0<n):PC n (Pm n) (kas_sort n):=by refine PC.bnd (λr h=>?_) (UZ x (QCM _) _);split;exact GX x _ h _;exact h
end
end
theorem dO{α:Type}(vs:List α)(d:α):(Qs vs.length).map (λi=>vs.getD i d)=vs:=by apply qy;intro i;rw[Qc];by_cases c:i<vs.length;rw[W8 c];simp[c];rw[qA (by simp;omega),qA (by omega)];rfl
section
variable{prog:Program}{w:World}{A:Around}{E:pC}{s:Shared}
theorem Vn{M:Model}{vs:LW}{Q:SortKind->Shared->Prop}(k:2<=vs.length)(z:∀v∈vs,s.TypeIs v "list")(h:Q oneType' s):wpAny M A (keyKind' vs.toArray) Q E s:=by
 cases vs with
 |nil=>simp at k|cons v r =>
  rw[keyKind'_eq,QBv,map_eq_pure_bind];refine QA (QA (kas_mapM (r:=none) _ (λu y e q=>?_) (QK ?_)));rw[kas_first_eq];exact QA (QAK (z u y) (QK q));rw[if_neg (by simp),if_neg (by simp),oneTypeOnly'_eq,QBv,map_eq_pure_bind];refine QA (QA (QA (kas_mapM (r:=.type "list") _ (λu y e q=>QAK (z u y) q) (QK ?_))));have b:((v::r).map λ_=>Value.type "list").toArray[0]?=some (.type "list"):=by simp
  have a:(((v::r).map λ_=>Value.type "list").toArray.all λx=>x==Value.type "list")=true:=by simp only[List.all_toArray,List.all_map,Qv];intro _ _;rfl
  rw[b];simp only[a,if_true];exact QK (QK h)
theorem Sh{a:Addr}{vs:LW}{n:Nat}{P:PySem.Fin->Shared->Prop}(Y:s.heap.get? a=some (seqObj "list" vs.toArray n))(K:vs.length<64)(S:∀v∈vs,∃b o,v=.ref b/\b≠a/\s.heap.get? b=some o/\o.cls=.type "list")
  (G:∀B:Heap,(∀b o,b≠a->s.heap.get? b=some o->B.get? b=some o)->∀x∈vs,∀y∈vs,∀C:Bool->Shared->Prop,(∀k,C k { s with heap:=B })->wpAny (model prog w) A (keyLt' oneType' x y) C (λ_ _=>False) { s with heap:=B })
  (k:∀out:LW,out.Perm vs->P (.done (.ret .none)) { s with heap:=sortedHeap s.heap a vs out.toArray }):wpAny (model prog w) A (Builtin.«list.sort» ⟨[.ref a],[]⟩) P E s:=by
 have ha:a<s.heap.objs.size:=QW Y;have J:=Q2 s.heap a (Q3 λ_=>(#[]:Array Value));obtain⟨Z,X⟩:∃Z,(s.heap.update a (Q3 λ_=>(#[]:Array Value))).get? a=some (seqObj "list" #[] Z):=⟨_,W9 Y λ_=>#[]⟩
 have r:(((s.heap.update a (Q3 λ_=>(#[]:Array Value))).push (seqObj "tuple" vs.toArray 0)).push (seqObj "list" #[] 0)).get? a=some (seqObj "list" #[] Z):=QH _ (QH _ X);have kept:∀b o,b≠a->s.heap.get? b=some o->(((s.heap.update a (Q3 λ_=>(#[]:Array Value))).push (seqObj "tuple" vs.toArray 0)).push (seqObj "list" #[] 0)).get? b=some o:=λb o hb e=>QH _ (QH _ ((J.2 b hb).trans e));rw[list_sort_plain];refine QA (QB4 Y rfl (QA (WT Y rfl ?_ (by rw[QN];omega) (Qz _))));refine QA (QBU X rfl (QA (QBN ?_ (by show vs.length<=_;omega))));refine QA (QAl (qU ?_) (Qz _));show wpAny (model prog w) A _ P E { s with heap:=((s.heap.update a (Q3 λ_=>(#[]:Array Value))).push (seqObj "tuple" vs.toArray 0)).push (seqObj "list" #[] 0) };dsimp only;have fin:∀out:LW,out.Perm vs->wpAny (model prog w) A (do
   let h:=(<- seqEpoch a) != Z
   Builtin.List.listUpdate (.ref a) λ_=>out.toArray
   if h then rule "list.sort.modified";raiseError "ValueError" "list modified during sort"
   ret .none) P E { s with heap:=((s.heap.update a (Q3 λ_=>(#[]:Array Value))).push (seqObj "tuple" vs.toArray 0)).push (seqObj "list" #[] 0) }:=λout m=>by
  have hl:=m.length_eq;refine QA (QBU r rfl (QA (WT r rfl ?_ (Qz _) (by rw[QN];omega))));simp only[bne_self_eq_false,Qo,if_false];exact QK (k out m)
 by_cases I:vs.length<2;have u:vs.toArray.size<2:=by rw[QN];exact I
 rw[if_pos u,if_pos u];refine QA (QK ?_);rw[QCN];refine QA (QK ?_);have e:(arrOf (QBw general' (vs.toArray.zip vs.toArray) #[] 7 none)).map (·.2)=vs.toArray:=by show(vs.toArray.zip vs.toArray).map (·.2)=_;apply WF.mp;simp[WG]
 dsimp only;rw[e];exact fin vs (QBO _);have u:¬ vs.toArray.size<2:=by rw[QN];exact I
 rw[if_neg u,if_neg u];refine QA (Vn (by omega) (λv hv=>?_) ?_);obtain⟨b,o,rfl,hb,e,c⟩:=S v hv;exact⟨o,kept b o hb e,c⟩;have F:QBw oneType' (vs.toArray.zip vs.toArray) #[] 7 none=kas_st oneType' (pairsOf vs) (qG (Qs vs.length)):=by have e:=kas_range (pairsOf vs);rw[pairsOf_size]at e;show QBw oneType' (pairsOf vs) #[] 7 none=QBw oneType' ((qG (Qs vs.length)).map (kas_item (pairsOf vs))) #[] 7 none;rw[e]
 have all:=ZT (n:=vs.length) (by omega);have f:(kas_sort vs.length).kasWp (kas_cmp prog w A oneType' (pairsOf vs)) (λp g=>g={ s with heap:=((s.heap.update a (Q3 λ_=>(#[]:Array Value))).push (seqObj "tuple" vs.toArray 0)).push (seqObj "list" #[] 0) }/\Pm vs.length p) { s with heap:=((s.heap.update a (Q3 λ_=>(#[]:Array Value))).push (seqObj "tuple" vs.toArray 0)).push (seqObj "list" #[] 0) }:=by
  rw[<- kas_ask_eq];refine PC.wp (λi j O N C H=>?_) (λp m=>⟨rfl,m⟩) all;have gi:vs.getD i Value.none∈vs:=by
   have:vs.getD i Value.none=vs[i]:=by simp[O]
   rw[this];exact wn _
  have gj:vs.getD j Value.none∈vs:=by
   have:vs.getD j Value.none=vs[j]:=by simp[N]
   rw[this];exact wn _
  exact G _ kept _ gi _ gj C H
 have l:=kas_runs (prog:=prog) (w:=w) (A:=A) (E:=E) (Q:=λ_ z g=>∃p:Array Nat,p.size=vs.length/\arrOf z=p.map (kas_item (pairsOf vs))/\failedOf z=none/\g={ s with heap:=((s.heap.update a (Q3 λ_=>(#[]:Array Value))).push (seqObj "tuple" vs.toArray 0)).push (seqObj "list" #[] 0) }/\Pm vs.length p)
  (by omega) K (λM z g a1 a2 a3 a4=>⟨M,a1,a2,a3,a4⟩) f
 rw[<- F]at l;refine QA (qi l ?_ λ_ _ e=>e);rintro⟨⟨⟩,z⟩ g ⟨p,m,W,R,rfl,L⟩;dsimp only;have q:(arrOf z).map (·.2)=qG (p.toList.map λi=>vs.getD i Value.none):=by apply WF.mp;rw[W,Array.map_map,Array.toList_map];exact wF λi _=>by show(kas_item (pairsOf vs) i).2=_;rw[kas_item_eq]
 rw[q,R];refine fin _ ?_;have:=(qQ.mp L).map λi=>vs.getD i Value.none;refine this.trans ?_;show((Qs vs.length).map λi=>vs.getD i Value.none).Perm vs;rw[dO]
theorem y8{l:Addr}{vs:LW}{Q:pC}(hl:s.heap.IsList l vs.toArray)(g:vs.length<64)(X:∀v∈vs,∃b o,v=.ref b/\s.heap.get? b=some o/\o.cls=.type "list")
  (i:∀f:Heap,(∀b o,s.heap.get? b=some o->f.get? b=some o)->∀x∈vs,∀y∈vs,∀C:Bool->Shared->Prop,(∀k,C k { s with heap:=f })->wpAny (model prog w) A.in1.in1 (keyLt' oneType' x y) C (λ_ _=>False) { s with heap:=f })
  (k:∀out:LW,out.Perm vs->Q (.ref (s.heap.objs.size+1)) { s with heap:=sortedAll s.heap vs out.toArray }):wpAny (model prog w) A (call (.builtin "sorted") [.ref l]) Q E s:=by
 refine Calls.call_function_entry kind_sorted plain_sorted entry_sorted (args_sorted1 _) ?_;unfold Builtin.«sorted»;refine QA (m:=checkCount "sorted" 1 1 _) (QK (QA (collect_list hl ?_ (by omega))));refine QA (QAl ?_ (by show vs.length<=_;omega));have u:((s.heap.push (seqObj "list" #[] 0)).update s.heap.objs.size (Q3 (·++vs.toArray))).objs.size=s.heap.objs.size+1:=by rw[QCE,size_push']
 have a:(((s.heap.push (seqObj "list" #[] 0)).update s.heap.objs.size (Q3 (·++vs.toArray))).push (seqObj "list" vs.toArray 0)).get? (s.heap.objs.size+1)=some (seqObj "list" vs.toArray 0):=by rw[<- u];exact QV _ rfl
 have z:∀b o,s.heap.get? b=some o->(((s.heap.push (seqObj "list" #[] 0)).update s.heap.objs.size (Q3 (·++vs.toArray))).push (seqObj "list" vs.toArray 0)).get? b=some o:=λb o q=>by have h:b<s.heap.objs.size:=QW q;refine QH _ ?_;rw[Heap.get?_update_ne _ _ _ _ (Qi h)];exact QH _ q
 show wpAny _ _ _ _ _ { s with heap:=((s.heap.push (seqObj "list" #[] 0)).update s.heap.objs.size (Q3 (·++vs.toArray))).push (seqObj "list" vs.toArray 0) };rw[u];refine QA (qU (qK slot_list_sort ⟨_,a,rfl⟩ entry_list_sort ?body (args_list_sort _)))
 case body =>
  refine Sh (s:={ s with heap:=((s.heap.push (seqObj "list" #[] 0)).update s.heap.objs.size (Q3 (·++vs.toArray))).push (seqObj "list" vs.toArray 0) }) a g (λv hv=>?_) (λf j x p y n C Y=>?_) λout r=>⟨_,rfl,QK ⟨_,rfl,k out r⟩⟩
  obtain⟨b,o,e,q,c⟩:=X v hv;have h:b<s.heap.objs.size:=QW q;exact⟨b,o,e,Qi (WB h),z b o q,c⟩;refine i f (λb o q=>?_) x p y n C Y;have h:b<s.heap.objs.size:=QW q;exact j b o (Qi (WB h)) (z b o q)
end
section
variable{prog:Program}{w:World}{A:Around}
theorem Ni(Z:A.handled=none)(j:Addr)(z:Src)(m:z.adr≠j)(y:Array Value)(c:Nat) :
  Draws prog w A j [j,z.adr] (c+y.size) (λi v=>∃k,i=c+k/\y[k]?=some v) (λi h=>∃k,i=c+k/\TD h j z k/\GB h z y) where
 live:=λ_ _ ⟨_,_,p,_⟩=>let⟨o,e,_⟩:=p.obj;⟨o,e⟩
 frame:=λ_ h f ⟨k,e,p,q⟩ u=>⟨k,e,p.keep λo x=>u j (by simp) o x,by
  cases z with|l a=>exact QCI.at q λo x=>u a (by simp[Src.adr]) o x|t a=>obtain⟨o,Y,X⟩:=q;exact⟨o,u a (by simp[Src.adr]) o Y,X⟩⟩
 item:=λi s Q E W ⟨k,e,p,q⟩ n=>by
  have hk:k<y.size:=by omega
  exact U9 p q (x:=y[k]) (by simp[hk]) λf g b=>n _ f s.toks ⟨k,e,by simp[hk]⟩ ⟨k+1,by omega,g,Yg q b m⟩ b
 done:=λs Q E ⟨k,e,p,q⟩ r=>by
  have hk:k=y.size:=by omega
  exact K4 Z p q (by simp[hk]) r
theorem Oi(r:A.handled=none)(j:Addr)(z:Src)(y:Array Value)(n k:Nat)(v:y[k]?=none) :
  Draws prog w A j [j,z.adr] n (λ_ _=>False) (λi h=>i=n/\TD h j z k/\GB h z y) where
 live:=λ_ _ ⟨_,p,_⟩=>let⟨o,e,_⟩:=p.obj;⟨o,e⟩
 frame:=λ_ h Y ⟨e,p,q⟩ u=>⟨e,p.keep λo x=>u j (by simp) o x,by
  cases z with|l a=>exact QCI.at q λo x=>u a (by simp[Src.adr]) o x|t a=>obtain⟨o,m,g⟩:=q;exact⟨o,u a (by simp[Src.adr]) o m,g⟩⟩
 item:=λi s Q E b ⟨e,_,_⟩ X=>absurd b (by omega)
 done:=λs Q E ⟨_,p,q⟩ f=>K4 r p q v f
def Jv(K:QC)(z:Src)(c:Nat):It :=
  ⟨λi H=>∃h x,MZ K H z h/\h[i]?=some x,
   λi H v y=>∃p x,H p=none/\v=.ref p/\y=BA H p (.tup [.int ((c+i:Nat):Int),x])/\∀h,MZ K H z h->h[i]?=some x,
   λi H=>∃h,MZ K H z h/\h.length<=i⟩
def SV(e j:Addr)(z:Src)(c i:Nat)(h:Heap):Prop:=(∃x,IsEnum h e j ((c+i:Nat):Int) x)/\TD h j z i
theorem kY{P:Program}{K:QC}{es:List Expr}{kk:Nat}{pp:Pos}{e j:Addr}{z:Src}{c:Nat}(L:e≠j)(n2:z.adr≠e)(n3:z.adr≠j) :
  Turn P w K (.Tuple es kk pp) (Jv K z c) [e,j] e (SV e j z c) where
 mem:=by simp
 obj:=λi h st b hb=>by obtain⟨⟨a,g⟩,n⟩:=st;simp only[QL,WH,or_false]at hb;rcases hb with rfl|rfl;exact⟨_,g,λv q=>by cases(show Data.fields _=Data.cell v from q)⟩;exact n.obj
 keep:=λi h h' st k=>by obtain⟨⟨a,g⟩,n⟩:=st;exact⟨⟨a,k e (by simp) _ g⟩,n.keep λo x=>k j (by simp) o x⟩
 item:=by
  intro X O M Q hc i r s σ H E I B st N;subst O M Q;obtain⟨xs,x,C,ex⟩:=N;obtain⟨f,J,F,_⟩:=I.src C;obtain⟨u,hu,ru⟩:=J.get ex;obtain⟨⟨a,g⟩,n⟩:=st;have hi:i<f.toArray.size:=by have:=(Qf.mp hu).1;simpa using this
  refine wpAny_pyNext_enum_itemD (Ni (show X.A.in1.handled=none from I.ok.hd hc) j z n3 f.toArray c) g ⟨i,rfl,n,F⟩ (by omega) L (by simp[L,qB n2]) λy h' W ⟨k,ek,hy⟩ b1 b2 b3 b4 b5=>?_;have ek:k=i:=by omega
  subst ek;have ey:y=u:=by
   have:f.toArray[k]?=some u:=by simpa using hu
   rw[this]at hy;exact(Qn hy).symm
  subst ey;refine⟨_,rfl,wpAny_letOwnedTupleGo_enum b1 λp c1 G=>?_⟩;obtain⟨k2,Z,b2,b2'⟩:=b2;have Z:k2=k+1:=by omega
  subst Z;have hp:=I.hok.fresh (Qb s.heap.objs.size);have Y:e<s.heap.objs.size:=QW g;have m:∀b∈[e,j],b<s.heap.objs.size:=λb hb=>by simp only[QL,WH,or_false]at hb;rcases hb with rfl|rfl;exact Y;exact n.lt
  have kept:∀b o,b∉[e,j]->s.heap.get? b=some o->p.get? b=some o:=λb o hb q=>by simp only[QL,WH,or_false,not_or]at hb;exact(G.2 b hb.1).trans (b5 b o hb.1 hb.2 q)
  have l:p.get? s.heap.objs.size=some { cls:=.type "tuple",data:=.seq #[.int ((c+k:Nat):Int) W,y] }:=(G.2 _ (wH Y)).trans b3;have I1:=I.pair (x:=.int ((c+k:Nat):Int)) (h':=s.heap.push { cls:=.type "tuple",data:=.seq #[.int ((c+k:Nat):Int) W,y] }) (t':=W+1) (λb o e=>QH _ e) (Qb _) (QV _ rfl) ⟨_,rfl⟩ ru;have I2:=I1.turnedL (h':=p) (t':=W+1) (ch:=[e,j]) (λb o hb e=>by
   rcases QBI e with⟨q1,q2⟩| q;subst q1 q2;exact l;exact kept b o hb q) λb hb=>by
   obtain⟨f0,f1,f2,f3,S,R⟩:=B b hb;exact⟨by rw[vA (Qi (m b hb))];exact f0,f1,f2,f3,S,R⟩
  refine⟨.ref s.heap.objs.size,_,I2,rfl,⟨s.heap.objs.size,x,hp,rfl,rfl,λxs' g1=>?_⟩,⟨⟨y,?_⟩,b2.keep λo q=>(G.2 _ (qB L)).trans q⟩,λb hb=>?_⟩;rw[I.src_inj g1 C];exact ex;have:(((c+(k+1):Nat)):Int)=((c+k:Nat):Int)+1:=by omega
  rw[this];exact c1;rw[vA (Qi (m b hb))];exact(B b hb).1
 done:=by intro X O M Q hc i r s σ H E I B st N;subst O M Q;obtain⟨xs,C,en⟩:=N;obtain⟨f,J,F,_⟩:=I.src C;obtain⟨⟨a,g⟩,n⟩:=st;have l1:=J.length;obtain⟨f0,f1,f2,f3,S,R⟩:=B j (by simp);exact wpAny_pyNext_enum_endD (Oi (show X.A.in1.handled=none from I.ok.hd hc) j z f.toArray 0 i (by simp;omega)) g ⟨rfl,n,F⟩ λh' eb=>⟨rfl,I.turned (t':=s.toks) (λb o hb e=>eb b o hb e) f0 f1 f3 S R⟩
 self:=λ_ _ _ _ _ st h=>by obtain⟨⟨a,g⟩,_⟩:=st;exact QBx g h
end
theorem mZ(z:Src)(xs:Array Value):Meets (Builtin.«enumerate.__new__» ⟨[.type "enumerate",.ref z.adr],[]⟩) (λ_ R s=>GB s.heap z xs /\
   R (.ok (.ret (.ref (s.heap.push z.it).objs.size))) { s with heap:=(s.heap.push z.it).push { cls:=.type "enumerate",data:=.fields #[.none,.bool false,.ref s.heap.objs.size,rawInt 0,.none,.none] } }) :=
 .of_wp λy w A R s h=>by
  obtain⟨b,g,d,v,a⟩:=s;obtain⟨k,h⟩:=h;have u:=sub_enumerate;have x:GB (Shared.heap ⟨b,g,d,v,a⟩) z xs:=k;wp_walk;refine wpAny_stack_any λst=>QK ?_;split;rename_i cl _ _ _ _ _;cases(cl==Value.type "enumerate")<;>(wp_walk using mR x;exact⟨_,rfl,h⟩)
  wp_walk using mR x;exact⟨_,rfl,h⟩
section
variable{prog:Program}{w:World}{A:Around}{E:pC}{s:Shared}
theorem tX{h:Heap}{z:Src}{n:Int}:IsEnum ((h.push z.it).push { cls:=.type "enumerate",data:=.fields #[.none,.bool false,.ref h.objs.size,rawInt n,.none,.none] }) (h.objs.size+1) h.objs.size n .none:=by have:=QV (h.push z.it) (o:={ cls:=.type "enumerate",data:=.fields #[.none,.bool false,.ref h.objs.size,rawInt n,.none,.none] }) rfl;rw[QAU]at this;exact this
theorem DV{z:Src}{xs:Array Value}{Q:pC}(y:GB s.heap z xs)
  (h:∀h',SV (s.heap.objs.size+1) s.heap.objs.size z 0 0 h'->(∀c o,s.heap.get? c=some o->h'.get? c=some o)->Q (.ref (s.heap.objs.size+1)) { s with heap:=h' }):wpAny (model prog w) A (call (.type "enumerate") [.ref z.adr]) Q E s:=by
 refine callType_new PySem.F.called_enumerate (by decide) (PySem.F.typeCall_enumerate_1 _) (PySem.F.newCall_enumerate_1 _) (λobj=>PySem.F.args_object_init_2 obj _) PySem.F.entry_enumerate_new (mZ z xs) ⟨y,?_⟩;show _/\_;rw[QAU];exact⟨⟨_,tX,rfl⟩,h _ ⟨⟨.none,tX⟩,(j8 s.heap z).keep λo e=>QH _ e⟩ λc o x=>QH _ (QH _ x)⟩
end
theorem Rv{a b:Nat}(h:a≠b):((a:Addr)≠(b:Addr)):=h
theorem KO:entryFor table "dict.update.loop"=some Builtin.«dict.update.loop»:=entryFor_of_tree (by kernel_rfl)
theorem FG:plainId "dict.update.loop"=true:=by decide +kernel
section
variable{pg:Program}{wd:World}{y:Around}{u:pC}{sh:Shared}{K:Type}[DecidableEq K]{knd:KeyKind pg wd K}
section
variable{l:Addr}{xs:Array Value}{kvs:List (K×Value)}{m:Nat}{sl:Array (Option Value)}
def uN(knd:KeyKind pg wd K)(h:Heap)(x:List Addr)(v:Value)(p:K×Value):Prop:=∃a key,v=.ref a/\a∉x/\h.IsTuple a #[key,p.2]/\knd.is p.1 key=true
theorem uN.at{h h':Heap}{z:List Addr}{v:Value}{p:K×Value}(x:uN knd h z v p)(k:∀a o,a∉z->h.get? a=some o->h'.get? a=some o):uN knd h' z v p:=by obtain⟨a,key,e,n,⟨o,g,c⟩,i⟩:=x;exact⟨a,key,e,n,⟨o,k a o n g,c⟩,i⟩
theorem oZ{d it:Addr}{R:Result->Shared->Prop}(hd:y.handled=none)(O:l≠it)(G:d∉[it,l])(hl:xs.size=kvs.length)(bd:kvs.length<=sizeLine)(hn:(kvs.map qP).Nodup) :
  ∀(n i:Nat) (sh:Shared),xs.size - i=n->i<=xs.size->(sh.heap.IsListIter it l i/\sh.heap.IsList l xs)->sh.heap.DictOf knd d (kvs.take i)->(∀(j:Nat) (v:Value) (p:K×Value),xs[j]?=some v->kvs[j]?=some p->uN knd sh.heap [d,it] v p) ->
   (∀s',Moved [d,it] (λa b=>b=a) sh s'->s'.heap.DictOf knd d kvs->R (.ok (.ret .none)) s') ->
   codeAny (model pg wd) y (.builtin "dict.update.loop" ⟨[.ref d,.ref it,rawInt i,.none],[]⟩) R sh:=by
 have W:=(Walks.list (prog:=pg) (w:=wd) (A:=y.in1) hd it l O xs).toS;have sub:∀c∈[it],c∈[d,it]:=λc hc=>QD _ hc;have F:d∉[it]:=λz=>G (QL.mpr (.inl (QI.mp z)));intro n;induction n with
 |zero =>
  intro i sh en P x h tp k;obtain rfl:i=xs.size:=by omega
  refine w6 KO ?_;rw[qt FG _];rw[hl,QCF]at h;refine QA (m:=pyNext (.ref it)) (W.done sh _ _ x λs' s=>?_);show wpAny (model pg wd) _ (Builtin.Dict.addKeywords d [] >>= _) _ _ s';refine QA (QK (QK (k s' (s.mono sub) ?_)));obtain⟨o,r⟩:=wY.mp h;exact wY.mpr ⟨o,s.heap d o F r.1,r.2⟩
 |succ n Q =>
  intro i sh en P x h tp k;have lt:i<xs.size:=by omega
  refine w6 KO ?_;rw[qt FG _];refine QA (m:=pyNext (.ref it)) (W.item i sh _ _ lt x λv s' N Z s=>?_);have E:kvs[i]?=some kvs[i]:=Qq (by omega);generalize kvs[i]=p at E;have X:∀(j:Nat) (v:Value) (p:K×Value),xs[j]?=some v->kvs[j]?=some p->uN knd s'.heap [d,it] v p:=λj v p a b=>(tp j v p a b).at λa o n g=>s.heap a o (λz=>n (sub _ z)) g;obtain⟨a,key,rfl,na,T,hk⟩:=X i v p N E;have Y:s'.heap.DictOf knd d (kvs.take i):=by obtain⟨o,r⟩:=wY.mp h;exact wY.mpr ⟨o,s.heap d o F r.1,r.2⟩
  have H:wpAny (model pg wd) y.in1 (QAy (.ref a)) (λl f=>l=[key,p.2]/\f=s') (λ_ _=>False) s':=by obtain⟨o,g,c,m,dt⟩:=T;unfold QAy;refine QA (QAK ⟨o,g,c⟩ ?_);rw[if_pos (by decide)];exact QA (QAS g dt (QK ⟨rfl,rfl⟩))
  refine QA (qU (QA (wpAny_tryCatch (qi H (λl f e=>?_) λ_ _ z=>z.elim))));obtain⟨rfl,rfl⟩:=e;have e1:stored (kvs.take i) p.1 p.2=kvs.take (i+1):=by
   have J:kvs.take (i+1)=kvs.take i++[p]:=by rw[List.take_succ,E];rfl
   have I:=(hn.sublist ((QAd (i+1) kvs).map qP))
   rw[J,QR,qX]at I;unfold stored;rw[if_neg,J];rw[wm];rintro⟨q,S,e⟩;exact I.2.2 _ (QAA S) _ QE (of_decide_eq_true e)
  refine qU (wpAny_dictSet_pairs hk Y (λh' L B=>?_) (by rw[wG];omega));rw[e1]at L;refine QK ⟨W0 FG _,?_⟩;refine Q (i+1) _ (by omega) lt (W.frame _ f _ _ Z (wC _) λc hc o e=>?_) L (λj v p a b=>(X j v p a b).at λa o n g=>?_) λM C d4=>k M (Moved.trans W.gtrans ((s.mono sub).then_heap (wC _) λc o hc e=>?_) C) d4;rw[B.2 c λq=>G (q▸hc)];exact e;rw[B.2 a λq=>n (q▸QE)];exact g;rw[B.2 c λq=>hc (q▸QE)];exact e
theorem xa{a:Addr}{Q:Option Value->Shared->Prop}(g:sh.heap.get? a=some ⟨.type "list",none,.seq xs m,sl⟩)(r:y.handled=none)
  (q:∀h' h,(∀b o,sh.heap.get? b=some o->h'.get? b=some o)->Q none { sh with heap:=h',toks:=h }):wpAny (model pg wd) y (getAttr? (.ref a) "keys") Q u sh:=by
 obtain⟨p,w,f,h,v⟩:=sh;have ty:∀k,(⟨p,w,f,k,v⟩:Shared).TypeIs (.ref a) "list":=λ_=>⟨_,g,rfl⟩
 have A:=sub_AttributeError;have W:=WM.lookup;have Z:=WM.bind (.ref a);have Y:=am_list_getattr_none;have n:typeLookup (.type "list") "keys"=pure none:=am_miss_of_fast (by kernel_rfl);unfold getAttr? getAttrBy? getAttrBy
 repeat (any_goals (first|assumption|exact ty _ | ((with_reducible show wpAny _ _ (call (Value.builtin "list.__getattribute__") _ _) _ _ _);refine QBD WM (ty _) am_entry_list_getattribute (F.args_list_getattribute_2 _ _) (meets_getattribute_miss_list a xs m sl "keys" _ n (by decide) (by decide)) ⟨g,r,λh' i e x=>?_⟩)|wp_step))
 obtain⟨X,s,z⟩:=x.there;have j:∀k,(⟨h',w,f,k,v⟩:Shared).TypeIs (.ref e) "AttributeError":=λ_=>⟨_,z,rfl⟩
 show wpAny _ _ (getattributeRaised (.ref a) _ _ _ _ _ _) _ _ _;unfold getattributeRaised
 repeat (any_goals (first|assumption|exact j _|wp_step))
 exact q _ _ x.keeps
theorem IK{Q:pC}(C:y.handled=none)(B:sh.heap.get? l=some ⟨.type "list",none,.seq xs m,sl⟩)(hl:xs.size=kvs.length)(O:kvs.length<=sizeLine)(M:(kvs.map qP).Nodup)
  (tp:∀(j:Nat) (v:Value) (p:K×Value),xs[j]?=some v->kvs[j]?=some p->∃a key,v=.ref a/\sh.heap.IsTuple a #[key,p.2]/\knd.is p.1 key=true)
  (k:∀(h':Heap) (s:Nat),h'.DictOf knd sh.heap.objs.size kvs->(∀b o,sh.heap.get? b=some o->h'.get? b=some o)->Q (.ref sh.heap.objs.size) { sh with heap:=h',toks:=s }) :
  wpAny (model pg wd) y (call (.type "dict") [.ref l]) Q u sh:=by
 refine callType_codes (Q₁:=λobj h=>obj=.ref sh.heap.objs.size/\h={ sh with heap:=sh.heap.push { cls:=.type "dict",data:=.dict #[] } }) F.kt_called_dict (F.kt_typeCall_dict_1 _) F.entry_dict_init (kt_code_dict_new _ ⟨rfl,rfl⟩) ?_;rintro obj h ⟨rfl,rfl⟩;have x:(sh.heap.push { cls:=.type "dict",data:=.dict #[] }).DictOf knd sh.heap.objs.size []:=Heap.DictOf.new sh.heap;have X:(sh.heap.push { cls:=.type "dict",data:=.dict #[] }).get? l=some ⟨.type "list",none,.seq xs m,sl⟩:=QH _ B;have Y:l<sh.heap.objs.size:=QW B;refine⟨x.typeIs,F.args_dict_init_2 _ _,?_⟩;unfold Builtin.«dict.__init__»;refine QA ?_;unfold Builtin.Dict.selfAndRest;refine QA (w4 x.typeIs ?_);show wpAny _ _ (pure (sh.heap.objs.size,[Value.ref l])) _ _ _;refine QK ?_;show wpAny _ _ (QAm "dict.__init__" sh.heap.objs.size (.ref l) [] .none) _ _ _;unfold QAm;have ty:Shared.TypeIs { sh with heap:=sh.heap.push { cls:=.type "dict",data:=.dict #[] } } (.ref l) "list":=by exact⟨_,X,rfl⟩
 refine QA (QAK ty ?_);rw[if_pos (by decide)];refine QA (xa X C λw G n=>?_);rw[if_pos (by rfl)];have A:w.IsList l xs:=⟨_,n _ _ X,rfl,m,rfl⟩
 have E:w.DictOf knd sh.heap.objs.size []:=by obtain⟨o,r⟩:=wY.mp x;exact wY.mpr ⟨o,n _ _ r.1,r.2⟩
 refine QA (QBE (QA (We A ?_)));refine QK ⟨W0 FG _,?_⟩;have q:sh.heap.objs.size<w.objs.size:=by obtain⟨o,r⟩:=wY.mp E;exact QW r.1
 have J:l≠w.objs.size:=Qi (QA6 Y q);have L:sh.heap.objs.size∉[w.objs.size,l]:=λz=>by rcases QL.mp z with z|z;exact Qi q z;exact wH Y (QI.mp z)
 refine oZ (kvs:=kvs) (knd:=knd) (by simp[C]) J L hl O M xs.size 0 _ (QB5 _) (Qz _) ⟨⟨_,QV _ rfl,rfl,rfl⟩,A.push _⟩ (E.push _) (λj v p a b=>?_) λI f N=>?_;obtain⟨c,key,e,T,i⟩:=tp j v p a b;obtain⟨o,g,r⟩:=T;have Z:c<sh.heap.objs.size:=QW g;refine⟨c,key,e,λz=>?_,⟨o,QH _ (n _ _ (QH _ g)),r⟩,i⟩;rcases QL.mp z with z|z;exact Qi Z z;exact Qi (QA6 Z q) (QI.mp z);obtain⟨h',R,S,s,P⟩:=I;cases f.gens;cases f.drawn;cases f.os;refine⟨rfl,k h' s N λb o g=>?_⟩;have W:b<sh.heap.objs.size:=QW g;refine f.heap b o (λz=>?_) (QH _ (n _ _ (QH _ g)));rcases QL.mp z with z|z;exact Qi W z;exact Qi (QA6 W q) (QI.mp z)
end
end
noncomputable abbrev Kk:=List (Addr×Str×V)
def VW(h:Kk):List (Key×V):=h.map λz=>(Sum.inr z.2.1,z.2.2)
def Dg(K:QC)(x:V)(H:Hp)(Q:VK):Prop:=∃p,∃h:Kk,x=.ref p/\RC K H p (h.map λz=>V.ref z.1)/\(∀z∈h,GD K H z.1 [.str z.2.1,z.2.2])/\(h.map λz=>z.2.1).Nodup/\∀d,H d=none->Q (.ref d) (BA H d (.dK (VW h)))
theorem XR{pg:Program}{wd:World}{h:Heap}:∀(k:Kk) (its:LW),nA (k.map λz=>V.ref z.1) its->(∀z∈k,∃ts:LW,nA [.str z.2.1,z.2.2] ts/\IsTup h z.1 ts.toArray) ->
  ∃vs:List (Key×Value),KV (VW k) vs/\vs.length=its.length/\∀(j:Nat) (v:Value) (p:Key×Value),its[j]?=some v->vs[j]?=some p->∃a key,v=.ref a/\h.IsTuple a #[key,p.2]/\(GC pg wd).is p.1 key=true
 |[],its,r,_=>by cases r;exact⟨[],.nil,rfl,λj v p e=>by cases e⟩|z::k,its,r,t=>by
  obtain⟨x,u,rfl,l,r⟩:∃x u,its=u::x/\rA (V.ref z.1) u/\nA (k.map λz=>V.ref z.1) x:=by
   cases r with|cons a b=>exact⟨_,_,rfl,a,b⟩
  obtain⟨vs,X,s,o⟩:=XR (pg:=pg) (wd:=wd) k x r λy Y=>t y (QD _ Y);obtain⟨ts,q,T⟩:=t z QE;obtain⟨key,w,rfl,n,m⟩:∃key w,ts=[key,w]/\rA (.str z.2.1) key/\rA z.2.2 w:=by
   cases q with
   |cons a b =>
    cases b with|cons c d=>cases d;exact⟨_,_,rfl,a,c⟩
  obtain⟨i,rfl⟩:=n;cases l;refine⟨(Sum.inr z.2.1,w)::vs,.cons ⟨rfl,m⟩ X,congrArg Nat.succ s,λj v p g f=>?_⟩;cases j with|zero=>cases g;cases f;exact⟨_,_,rfl,T,iO z.2.1 i⟩|succ j=>exact o j v p g f
theorem zX:∀{kvs:List (Key×V)}{vs:List (Key×Value)},KV kvs vs->vs.map qP=kvs.map qP
 |_,_,.nil=>rfl|_,_,.cons h t=>by rw[QU,QU,h.1,zX t]
theorem y3{x:Kk}(h:(x.map λz=>z.2.1).Nodup):((VW x).map qP).Nodup:=by
 have e:(VW x).map qP=(x.map λz=>z.2.1).map Sum.inr:=by unfold VW;rw[QS,QS];rfl
 rw[e];exact WC _ (λa b n z=>n (Sum.inr.inj z)) h
theorem kh{X:Cx}{a:Expr}{ta:TE}{M pos:Pos}(hc:X.calm=true)(g:Gl X "dict")(m:X.mg "dict"=none)(ha:PE X a ta)(st:starEach [a] X.env=(false,eval a X.env)::starEach [] X.env) :
  PE X (.Call (.Name "dict" M) [a] [] pos) λσ H Q=>ta σ H λx A=>Dg X.K x A Q:=by
 intro k s σ H Q I h;refine wI (jG I g m PyProof.Rows.boot_dict (wB ?_ st rfl));rw[st];show wpAny _ _ (spliced ((false,eval a X.env)::[])) _ _ s;refine wv (NB (ha k s σ H _ I h) λu Y ⟨x,A,y,G,r⟩=>Wc ?_);obtain⟨p,i,rfl,hq,ht,nd,q⟩:=r;cases G;obtain⟨W,J,L,f⟩:=y.list hq;obtain⟨o,n,e,c,dd,dt⟩:=L;obtain⟨oc,od,O,N⟩:=o;cases c;cases dd;cases dt;obtain⟨l,Z,k2,k3⟩:=XR (pg:=X.prog) (wd:=X.w) (h:=Y.heap) i W J λz f=>by obtain⟨B,F,E,_⟩:=y.tuple (ht z f);exact⟨B,F,E⟩
 have P:(VW i).length<=sizeLine:=by unfold VW;rw[QF]at f ⊢;exact f
 have R:l.length<=sizeLine:=by have:=Z.length;omega
 refine IK (knd:=GC X.prog X.w) (kvs:=l) (y.ok.hd hc) e (by rw[QN,k2]) R (by rw[zX Z];exact y3 nd) (λj v p a b=>k3 j v p (by simpa using a) b) λh' C D S=>?_;exact⟨.ref Y.heap.objs.size,_,y.laid (a:=Y.heap.objs.size) (o:=.dK (VW i)) (t':=C) S (Qb _) ⟨P,beq_eq_false_iff_ne.mpr (wH (Inv.big y)),l,Z,D⟩,rfl,q _ (y.hok.fresh (Qb _))⟩
inductive Bi where
 |len|any|sorted|tuple|int
 deriving DecidableEq
inductive Mt where
 |append|pop|setd|extend
 deriving DecidableEq
inductive ItK where
 |val|rng1|enum|itm
 deriving DecidableEq
inductive Tg where
 |nm (i:Nat)|tp (is:LN)
 deriving DecidableEq
set_option genSizeOf false in
set_option genInjectivity false in
inductive PX where
 |xz (i:Nat)|int (i:Int)|str (x:Str)|bl (b:Bool)|non
 |glo (x:Str)|bty (x:Str) (n:String)
 |bin (op:Operator) (a b:PX)
 |cmp (op:CmpOp) (a b:PX)
 |and (a b:PX)|or (a b:PX)|not (a:PX)
 |call (f:Str) (as:PX)
 |bi (f:Bi) (as:PX)|isi (a c:PX)
 |mt (m:Mt) (o as:PX)
 |idx (a b:PX)|slc (a lo hi:PX)|nop
 |lst (as:PX)|tup (as:PX)|dnew (b:Bool)|dsp (a b:PX)|dof (a:PX)
 |comp (mask:List Bool) (tgs:LS) (tg:Tg) (ik:ItK) (its cond elt:PX)
 |nz|ny (a as:PX)
structure Ev where
 sp:Str->Sp
 va:Str->V
structure W3 where
 e:TE
 t:TT
 a:TA
def never:W3:=⟨λ_ _ _=>False,λ_ _ _=>False,λ_ _ _=>False⟩
def VF(K:QC)(x:V)(H:Hp)(Q:Bool->Hp->Prop):Prop:=match x with
 | .bl b=>Q b H|.int i=>Q (i != 0) H|.non=>Q false H|.str z=>z.length<=sizeLine/\Q ((z.length:Int) != 0) H|x=>∃k,Fj K x H k/\Q k H
def G6(x:V)(H:Hp)(Q:Bool->Hp->Prop):Prop:=match x with
 | .bl b=>Q b H|_=>False
def Xb(K:QC):Operator->R2
 | .Add=>am K|.Sub=>jm|.Mult=>vm K|.FloorDiv=>gc|.Mod=>xm|_=>λ_ _ _ _=>False
def gX(neg:Bool):R2:=λx y H Q=>match y with
 | .non=>Q (.bl (if neg then !decide (x=.non) else decide (x=.non))) H|.bl c=>∃b,x=.bl b/\Q (.bl (if neg then !decide (b=c) else decide (b=c))) H|_=>False
noncomputable def J6(K:QC):CmpOp->R2
 | .Eq=>rEq K false|.NotEq=>rEq K true|.Lt=>rY λi j=>decide (i<j)|.LtE=>rY λi j=>decide (i<=j)|.Gt=>rY λi j=>decide (j<i)|.GtE=>rY λi j=>decide (j<=i)|.In=>ZR K false|.NotIn=>ZR K true|.Is=>gX false|.IsNot=>gX true
noncomputable def sY(K:QC):R2:=λx y H Q=>match x,y with
 | .str z,.int i=>z.length<=sizeLine/\∃c,fE z.cps.toList i=some c/\Q (.str ⟨#[c]⟩) H|.ref a,.int i=>∃h v,(RC K H a h∨GD K H a h)/\fE h i=some v/\Q v H|.ref a,.str z=>∃v,AQ K H a (.str z) (some v)/\Q v H|.ref a,.ref b=>∃v,AQ K H a (.ref b) (some v)/\Q v H|_,_=>False
def eW(K:QC):LV->Hp->VK->Prop:=λk H Q=>∃p,k=[.ref p]/\((∃z:LS,RC K H p (z.map V.str)/\z.length<64/\∀l h,H l=none->h.Perm z->sortedS h=true->Q (.ref l) (BA H l (.lst (h.map V.str)))) ∨
   (∃u,RC K H p u/\u.length<64/\(∀x∈u,∃a,∃z:LS,x=.ref a/\RC K H a (z.map V.str))/\∀l w,H l=none->w.Perm u->Q (.ref l) (BA H l (.lst w))) ∨
   (∃v:LI,RC K H p (v.map V.int)/\v.length<64/\∀l (y:LI),H l=none->y.Perm v->y.Pairwise (·<=·)->Q (.ref l) (BA H l (.lst (y.map V.int)))))
def B2(K:QC):LV->Hp->VK->Prop:=λx H Q=>∃p h,x=[.ref p]/\RC K H p h/\∀l,H l=none->Q (.ref l) (BA H l (.tup h))
def fc:LV->Hp->VK->Prop:=λh H Q=>∃b:Bool,h=[.bl b]/\Q (.int (if b then 1 else 0)) H
def Ho(K:QC):Bi->LV->Hp->VK->Prop
 | .len=>um K|.any=>om K|.sorted=>eW K|.tuple=>B2 K|.int=>fc
def cc:V->LV->Hp->VK->Prop:=λx y H Q=>∃l i h k v,x=.ref l/\y=[.int i]/\H l=some (.lst h)/\ET h.length i=some k/\h[k]?=some v/\Q v (BA H l (.lst (h.eraseIdx k)))
def rc:V->LV->Hp->VK->Prop:=λx z H Q=>∃l b y h,x=.ref l/\z=[.ref b]/\H l=some (.lst y)/\H b=some (.lst h)/\y.length+h.length<=sizeLine/\Q .non (BA H l (.lst (y++h)))
def N9(K:QC):Mt->V->LV->Hp->VK->Prop
 | .append=>iW|.pop=>cc|.setd=>kL K|.extend=>rc
def Mt.ty:Mt->String
 | .append=>"list"|.pop=>"list"|.setd=>"dict"|.extend=>"list"
def gM(x:V)(H:Hp)(Q:Option Int->Hp->Prop):Prop:=match x with
 | .int i=>Q (some i) H|_=>False
inductive Item where
 |one (v:V)|tup (vs:LV)
noncomputable def JC(K:QC):ItK->LV->Hp->(List Item->(Hp->Prop)->Hp->Prop)->Prop
 | .val,[.ref a],H,R=>(∃x,RC K H a x/\R (x.map .one) (λH=>RC K H a x) H)∨(∃x,GD K H a x/\R (x.map .one) (λH=>GD K H a x) H)∨(∃y,∃h:List KE,H a=some (.dT y h)/\R (h.map λp=>.one (.ref p.2.1)) (λH=>H a=some (.dT y h)) H)|.rng1,[.int j],H,R=>(-(2 ^ 62)<=j/\j<2 ^ 62)/\R ((Qs j.toNat).map λ(i:Nat)=>.one (.int (i:Int))) (λ_=>True) H|.enum,[.ref a],H,R=>∃z x,Src.adr z=a/\MZ K H z x/\R (x.zipIdx.map λp=>.tup [.int (p.2:Int),p.1]) (λH=>MZ K H z x) H|.itm,[.ref a],H,R=>∃y,∃h:List KE,H a=some (.dT y h)/\R (h.map λp=>.tup [.ref p.2.1,p.2.2]) (λH=>H a=some (.dT y h)) H|_,_,_,_=>False
def kB:LN->LV->St->Option St
 |[],[],σ=>some σ|i::is,v::vs,σ=>kB is vs (σ.set i (some v))|_,_,_=>none
def gG(K:QC):Tg->TG
 | .nm i=>λv x H Q=>Q (x.set i (some v)) H|.tp z=>λv x H Q=>match v with
  | .ref p=>∃y h,GD K H p y/\kB z y x=some h/\Q h H|_=>False
noncomputable def bindI(K:QC)(z:Tg):Item->St->Hp->(St->Hp->Prop)->Prop
 | .one v=>gG K z v|.tup y=>λx H Q=>match z with
  | .tp w=>∀u,Same H u->∃h,kB w y x=some h/\Q h u|.nm i=>∀p,H p=none->Q (x.set i (some (.ref p))) (BA H p (.tup y))
def uo(K:QC)(xs:List Item)(st:Hp->Prop)(bind:Item->St->Hp->(St->Hp->Prop)->Prop)(tc:TT)(te:TE)(σ:St)(H:Hp)(Q:VK):Prop :=
 ∃W:Nat->LV->Hp->Prop,W 0 [] H/\(∀i h H,i<=xs.length->W i h H->st H) /\
  (∀i x h H,xs[i]?=some x->W i h H->bind x σ H λz u=>tc z u λb v=>if b=true then te z v λy w=>h.length<sizeLine/\W (i+1) (h++[y]) w else W (i+1) h v) /\
  ∀h u,W xs.length h u->h.length<=sizeLine/\∀p,u p=none->Q (.ref p) (BA u p (.lst h))
structure Yields(J:It)(xs:List Item)(st:Hp->Prop):Prop where
 go:∀i H,st H->i<xs.length->J.go i H
 yld:∀i H x H',st H->i<xs.length->J.yld i H x H'->∃it,xs[i]?=some it/\match it with
  | .one v=>x=v/\H'=H|.tup vs=>∃p,H p=none/\x=.ref p/\H'=BA H p (.tup vs)
 stop:∀i H,st H->xs.length<=i->J.stop i H
def fo(J:It)(g:TG)(tc:TT)(te:TE)(k:St)(l:Hp)(Q:VK):Prop:=∃W:Nat->Nat->LV->St->Hp->Prop,(∃m,W 0 m [] k l) /\
 ∀i m h v u,W i m h v u->(J.stop i u/\h.length<=sizeLine/\∀p,u p=none->Q (.ref p) (BA u p (.lst h))) ∨
  (J.go i u/\∀x e,J.yld i u x e->g x v e λz j=>tc z j λb a=>if b=true then te z a λy f=>h.length<sizeLine/\∃w,w < m/\W (i+1) w (h++[y]) z f else ∃w,w < m/\W (i+1) w h z a)
def AX(K:QC)(xs:List Item)(st:Hp->Prop)(x:Tg)(tc:TT)(te:TE)(h:St)(H:Hp)(Q:VK):Prop:=∀J,Yields J xs st->fo J (gG K x) tc te h H Q
def isNop:PX->Bool
 | .nop=>true|_=>false
noncomputable def wp(K:QC)(Γ:Ev):PX->XK->W3
 | .xz i,E=>let e:TE:=λh H Q=>match h[i]? with
   |some (some v)=>Q v H|_=>False
  ⟨e,λh H Q=>e h H λx z=>VF K x z Q,never.a⟩
 | .int i,E=>⟨λ_ H Q=>Q (.int i) H,λ_ H Q=>Q (i != 0) H,never.a⟩|.str x,E=>⟨λ_ H Q=>Q (.str x) H,never.t,never.a⟩|.bl b,E=>⟨λ_ H Q=>Q (.bl b) H,λ_ H Q=>Q b H,never.a⟩|.non,E=>⟨λ_ H Q=>Q .non H,λ_ H Q=>Q false H,never.a⟩|.glo x,E=>⟨λ_ H Q=>Q (Γ.va x) H,λ_ H Q=>VF K (Γ.va x) H Q,never.a⟩|.bty _ n,E=>⟨λ_ H Q=>Q (.ty n) H,never.t,never.a⟩|.bin op a b,E=>let e:TE:=λh H Q=>(wp K Γ a E).e h H λx z=>(wp K Γ b E).e h z λy w=>Xb K op x y w Q
  ⟨e,λh H Q=>e h H λx z=>VF K x z Q,never.a⟩
 | .cmp op a b,E=>let e:TE:=λh H Q=>(wp K Γ a E).e h H λx z=>(wp K Γ b E).e h z λy w=>J6 K op x y w Q
  ⟨e,λh H Q=>e h H λx z=>G6 x z Q,never.a⟩
 | .and a b,E=>⟨λh H Q=>(wp K Γ a E).e h H λx z=>G6 x z λc w=>if c=true then(wp K Γ b E).e h w Q else Q (.bl false) w,
   λh H Q=>(wp K Γ a E).t h H λc z=>if c=true then(wp K Γ b E).t h z Q else Q false z,never.a⟩
 | .or a b,E=>⟨λh H Q=>(wp K Γ a E).e h H λx z=>G6 x z λc w=>if c=true then Q (.bl true) w else(wp K Γ b E).e h w Q,
   λh H Q=>(wp K Γ a E).t h H λc z=>if c=true then Q true z else(wp K Γ b E).t h z Q,never.a⟩
 | .not a,E=>⟨λh H Q=>(wp K Γ a E).e h H λx z=>VF K x z λc w=>Q (.bl (!c)) w,λh H Q=>(wp K Γ a E).t h H λc z=>Q (!c) z,never.a⟩|.call f as,E=>let e:TE:=λh H Q=>(wp K Γ as E).a h H λg z=>Γ.sp f g z Q E
  ⟨e,λh H Q=>e h H λx z=>VF K x z Q,never.a⟩
 | .bi f as,E=>let e:TE:=λh H Q=>(wp K Γ as E).a h H λg z=>Ho K f g z Q
  ⟨e,λh H Q=>e h H λx z=>VF K x z Q,never.a⟩
 | .isi a c,E=>let e:TE:=λh H Q=>(wp K Γ a E).e h H λx z=>(wp K Γ c E).e h z λy w=>Cg K [x,y] w Q
  ⟨e,λh H Q=>e h H λx z=>VF K x z Q,never.a⟩
 | .mt m o as,E=>let e:TE:=λh H Q=>(wp K Γ o E).e h H λx z=>HZ K m.ty x z/\(wp K Γ as E).a h z λg w=>N9 K m x g w Q
  ⟨e,λh H Q=>e h H λx z=>VF K x z Q,never.a⟩
 | .idx a b,E=>let e:TE:=λh H Q=>(wp K Γ a E).e h H λx z=>(wp K Γ b E).e h z λy w=>sY K x y w Q
  ⟨e,λh H Q=>e h H λx z=>VF K x z Q,never.a⟩
 | .slc a lo hi,E=>⟨λh H Q=>(wp K Γ a E).e h H λx z =>
   (if isNop lo=true then λ(R:Option Int->Hp->Prop)=>R none z else λR=>(wp K Γ lo E).e h z λl w=>gM l w R) λl w =>
   (if isNop hi=true then λ(R:Option Int->Hp->Prop)=>R none w else λR=>(wp K Γ hi E).e h w λu j=>gM u j R) λu j=>yr K x l u j Q,never.t,never.a⟩
 | .nop,E=>never|.lst as,E=>⟨λh H Q=>(wp K Γ as E).a h H λk z=>k.length<=sizeLine/\∀p,z p=none->Q (.ref p) (BA z p (.lst k)),never.t,never.a⟩|.tup as,E=>⟨λh H Q=>(wp K Γ as E).a h H λk z=>k.length<=sizeLine/\∀p,z p=none->Q (.ref p) (BA z p (.tup k)),never.t,never.a⟩|.comp mask tgs tg ik its cond elt,E=>⟨λh H Q=>(wp K Γ its E).a h H λg z=>JC K ik g z λk st w =>
   AX K k st tg (if isNop cond=true then λ_ H Q=>Q true H else(wp K Γ cond (λ_ _ _=>False)).t) (wp K Γ elt (λ_ _ _=>False)).e (NI tgs.length mask h) w Q,never.t,never.a⟩
 | .dnew b,E=>⟨λ_ H Q=>∀p,H p=none->Q (.ref p) (BA H p (.dT 0 [])),never.t,never.a⟩|.dof a,E=>⟨λh H Q=>(wp K Γ a E).e h H λx z=>Dg K x z Q,never.t,never.a⟩|.dsp a b,E=>⟨λh H Q=>∀p,H p=none->(wp K Γ a E).e h (BA H p (.dT 0 [])) λy z=>(wp K Γ b E).e h z λv w=>w p=some (.dT 0 [])/\∃b q,y=.ref b/\RN K w b q/\∀r,Q (.ref p) (BA w p (.dT r [(q,b,v)])),never.t,never.a⟩|.nz,E=>⟨never.e,never.t,λ_ H Q=>Q [] H⟩|.ny a as,E=>⟨never.e,never.t,λh H Q=>(wp K Γ a E).e h H λx z=>(wp K Γ as E).a h z λk w=>Q (x::k) w⟩
structure Glob where
 ev:Ev
 fn:Str->Prop
 val:Str->Prop
 no:Str->Prop
def Bi.nm:Bi->Str
 | .len=>"len"|.any=>"any"|.sorted=>"sorted"|.tuple=>"tuple"|.int=>"int"
def Mt.nm:Mt->Str
 | .append=>"append"|.pop=>"pop"|.setd=>"setdefault"|.extend=>"extend"
def Hn(G:Glob):ItK->Prop
 | .val=>True|.rng1=>G.no "range"|.enum=>G.no "enumerate"|.itm=>True
noncomputable def IA(G:Glob):PX->Prop
 | .glo x=>G.val x|.bty x n=>G.no x/\bootBuiltins x=some (.type n)|.dof a=>G.no "dict"/\IA G a|.bin _ a b | .cmp _ a b | .and a b | .or a b | .idx a b | .ny a b | .dsp a b=>IA G a/\IA G b
 | .not a | .lst a | .tup a=>IA G a
 | .slc a b c=>IA G a/\IA G b/\IA G c|.call f y=>G.fn f/\IA G y|.bi f y=>G.no f.nm/\IA G y|.isi a c=>G.no "isinstance"/\IA G a/\IA G c|.mt _ o y=>IA G o/\IA G y|.comp _ _ _ v z h u=>Hn G v/\IA G z/\IA G h/\IA G u|_=>True
structure SC where
 N:LS
 sc:Scope
def FC:Expr->Bool
 | .Starred _ _=>false|_=>true
def Rf(S:SC)(i:Nat)(x:Str):Bool :=
 S.N[i]?==some x&&(S.sc.names.lookup x==some .local||S.sc.names.lookup x==some .cell||S.sc.names.lookup x==some .free)&&x != "__debug__" && x != "__classdict__"
def Ah(S:SC)(i:Nat)(x:Str):Bool:=S.N[i]?==some x&&S.sc.names.lookup x==some .local
def VS(S:SC)(x:Str):Bool:=S.sc.names.lookup x==some .globalImplicit&&x != "__debug__" && x != "__name__"
def ZX(S:SC)(h:Scope)(y:LS)(x:List Bool):SC:=⟨y++JB x 0 S.N,SL h S.sc⟩
def FJ:LS->Bool
 |[]=>true|x::r=>!r.contains x&&FJ r
noncomputable def e6(S:SC)(h:Scope)(z:LS)(x:List Bool):Bool :=
 h.kind==.function&&h.names.all (λy=>y.2 != .cell&&(y.2 != .local||(h.names.lookup y.1==some .local&&(z.contains y.1||y.1==(".0":Str)))) &&
  (y.2 != .free||S.sc.names.lookup y.1==some .cell||S.sc.names.lookup y.1==some .free))&&FJ (z++JB x 0 S.N)&&!(z++JB x 0 S.N).contains (".0":Str)
def ck(c:Bool)(S:SC)(i:Nat)(x:Str):Bool:=S.N[i]?==some x&&(S.sc.names.lookup x==some .local||(c&&S.sc.names.lookup x==some .cell))
def Jq(c:Bool)(S:SC):Tg->Expr->Bool
 | .nm i,.Name x _=>ck c S i x|.tp is,.Tuple es _ _=>is.length==es.length&&(is.zip es).all λp=>match p.2 with
  | .Name x _=>ck c S p.1 x|_=>false
 |_,_=>false
def OP:Expr->Bool
 | .Call (.Name _ _) [] [] _=>false|_=>true
def MR:Expr->Bool
 | .Set _ _ _=>false|_=>true
def PP:Expr->Bool
 | .Slice _ _ _ _=>false|_=>true
def zF:PX->Bool
 | .nz=>true|.ny _ r=>zF r|_=>false
def jV:Expr->Bool
 | .Tuple _ _ _=>true|_=>false
section
variable{α:Type}
section
variable{e:Expr}{l:List α}
def XH(e:Expr)(f:Str->Pos->Bool):Bool:=match e with | .Name x p=>f x p|_=>false
def aI(e:Expr)(f:Const->Bool):Bool:=match e with | .Constant c _ _=>f c|_=>false
def Dc(e:Expr)(f:Expr->Operator->Expr->Pos->Bool):Bool:=match e with | .BinOp l o r p=>f l o r p|_=>false
def Dm(e:Expr)(f:UnaryOp->Expr->Bool):Bool:=match e with | .UnaryOp o x _=>f o x|_=>false
def Cc(e:Expr)(f:Expr->List CmpOp->List Expr->Bool):Bool:=match e with | .Compare l x h _=>f l x h|_=>false
def KU(e:Expr)(f:BoolOp->List Expr->Pos->Bool):Bool:=match e with | .BoolOp o h p=>f o h p|_=>false
def ZU(e:Expr)(f:Expr->List Expr->List Keyword->Pos->Bool):Bool:=match e with | .Call g x h p=>f g x h p|_=>false
def j4(e:Expr)(f:Expr->Str->Pos->Bool):Bool:=match e with | .Attribute v n p=>f v n p|_=>false
def FW(e:Expr)(f:Expr->Expr->Pos->Bool):Bool:=match e with | .Subscript v i p=>f v i p|_=>false
def GW(e:Expr)(f:Option Expr->Option Expr->Option Expr->Bool):Bool:=match e with | .Slice l h s _=>f l h s|_=>false
def DP(e:Expr)(f:List Expr->Pos->Bool):Bool:=match e with | .List h p=>f h p|_=>false
def Vc(e:Expr)(f:List Expr->Nat->Pos->Bool):Bool:=match e with | .Tuple h k p=>f h k p|_=>false
def nh(e:Expr)(f:Expr->List Comprehension->Scope->Pos->Bool):Bool:=match e with | .ListComp x h sc p=>f x h sc p|_=>false
def YU(e:Expr)(f:List (Option Expr)->List Expr->Bool):Bool:=match e with | .Dict x h _=>f x h|_=>false
def iN(l:List α)(f:α->Bool):Bool:=match l with | [x]=>f x|_=>false
def ou(l:List α)(f:α->α->Bool):Bool:=match l with | [x,y]=>f x y|_=>false
def d9(l:List α)(f:α->List α->Bool):Bool:=match l with|x::r=>f x r|_=>false
def Fm(o:Option α)(n:Bool)(f:α->Bool):Bool:=match o with|none=>n|some x=>f x
theorem pE{f:Str->Pos->Bool}(h:XH e f=true):∃x p,e=.Name x p/\f x p=true:=by
 cases e with|Name x p=>exact⟨x,p,rfl,h⟩|_=>exact(QG h).elim
theorem LG{f:Const->Bool}(h:aI e f=true):∃c k p,e=.Constant c k p/\f c=true:=by
 cases e with|Constant c k p=>exact⟨c,k,p,rfl,h⟩|_=>exact(QG h).elim
theorem f9{f:Expr->Operator->Expr->Pos->Bool}(h:Dc e f=true):∃l o r p,e=.BinOp l o r p/\f l o r p=true:=by
 cases e with|BinOp l o r p=>exact⟨l,o,r,p,rfl,h⟩|_=>exact(QG h).elim
theorem mh{f:UnaryOp->Expr->Bool}(h:Dm e f=true):∃o x p,e=.UnaryOp o x p/\f o x=true:=by
 cases e with|UnaryOp o x p=>exact⟨o,x,p,rfl,h⟩|_=>exact(QG h).elim
theorem c9{f:Expr->List CmpOp->List Expr->Bool}(h:Cc e f=true):∃l y x p,e=.Compare l y x p/\f l y x=true:=by
 cases e with|Compare l y x p=>exact⟨l,y,x,p,rfl,h⟩|_=>exact(QG h).elim
theorem FR{f:BoolOp->List Expr->Pos->Bool}(h:KU e f=true):∃o es p,e=.BoolOp o es p/\f o es p=true:=by
 cases e with|BoolOp o es p=>exact⟨o,es,p,rfl,h⟩|_=>exact(QG h).elim
theorem DR{f:Expr->List Expr->List Keyword->Pos->Bool}(h:ZU e f=true):∃g es ks p,e=.Call g es ks p/\f g es ks p=true:=by
 cases e with|Call g es ks p=>exact⟨g,es,ks,p,rfl,h⟩|_=>exact(QG h).elim
theorem E3{f:Expr->Str->Pos->Bool}(h:j4 e f=true):∃v n p,e=.Attribute v n p/\f v n p=true:=by
 cases e with|Attribute v n p=>exact⟨v,n,p,rfl,h⟩|_=>exact(QG h).elim
theorem CP{f:Expr->Expr->Pos->Bool}(h:FW e f=true):∃v i p,e=.Subscript v i p/\f v i p=true:=by
 cases e with|Subscript v i p=>exact⟨v,i,p,rfl,h⟩|_=>exact(QG h).elim
theorem KY{f:Option Expr->Option Expr->Option Expr->Bool}(h:GW e f=true):∃l u s p,e=.Slice l u s p/\f l u s=true:=by
 cases e with|Slice l u s p=>exact⟨l,u,s,p,rfl,h⟩|_=>exact(QG h).elim
theorem pM{f:List Expr->Pos->Bool}(h:DP e f=true):∃es p,e=.List es p/\f es p=true:=by
 cases e with|List es p=>exact⟨es,p,rfl,h⟩|_=>exact(QG h).elim
theorem v9{f:List Expr->Nat->Pos->Bool}(h:Vc e f=true):∃es k p,e=.Tuple es k p/\f es k p=true:=by
 cases e with|Tuple es k p=>exact⟨es,k,p,rfl,h⟩|_=>exact(QG h).elim
theorem JU{f:Expr->List Comprehension->Scope->Pos->Bool}(h:nh e f=true):∃x y sc p,e=.ListComp x y sc p/\f x y sc p=true:=by
 cases e with|ListComp x y sc p=>exact⟨x,y,sc,p,rfl,h⟩|_=>exact(QG h).elim
theorem BR{f:List (Option Expr)->List Expr->Bool}(h:YU e f=true):∃ks vs p,e=.Dict ks vs p/\f ks vs=true:=by
 cases e with|Dict ks vs p=>exact⟨ks,vs,p,rfl,h⟩|_=>exact(QG h).elim
theorem tK{f:α->List α->Bool}(h:d9 l f=true):∃x r,l=x::r/\f x r=true:=by
 cases l with|nil=>exact(QG h).elim|cons x r=>exact⟨x,r,rfl,h⟩
theorem OB{f:α->Bool}(h:iN l f=true):∃x,l=[x]/\f x=true:=by
 cases l with
 |nil=>exact(QG h).elim|cons x r =>
  cases r with|nil=>exact⟨x,rfl,h⟩|cons _ _=>exact(QG h).elim
theorem Gm{f:α->α->Bool}(h:ou l f=true):∃x y,l=[x,y]/\f x y=true:=by
 cases l with
 |nil=>exact(QG h).elim|cons x r =>
  obtain⟨y,e,h⟩:=OB (l:=r) (f:=f x) (by
   cases r with|nil=>exact h|cons y r=>cases r<;>exact h)
  exact⟨x,y,by rw[e],h⟩
end
end
section
variable{c:Const}{n:Str}{e:Expr}
def Co(c:Const)(f:Int->Bool):Bool:=match c with | .int i=>f i|_=>false
def Bo(c:Const)(f:Str->Bool):Bool:=match c with | .str i=>f i|_=>false
def je(c:Const)(f:Bool->Bool):Bool:=match c with | .bool i=>f i|_=>false
def Ed(c:Const):Bool:=match c with | .none=>true|_=>false
theorem fj{f:Int->Bool}(h:Co c f=true):∃i,c=.int i/\f i=true:=by
 cases c with|int i=>exact⟨i,rfl,h⟩|_=>exact(QG h).elim
theorem cj{f:Str->Bool}(h:Bo c f=true):∃i,c=.str i/\f i=true:=by
 cases c with|str i=>exact⟨i,rfl,h⟩|_=>exact(QG h).elim
theorem Kb{f:Bool->Bool}(h:je c f=true):∃i,c=.bool i/\f i=true:=by
 cases c with|bool i=>exact⟨i,rfl,h⟩|_=>exact(QG h).elim
theorem Yb(h:Ed c=true):c=.none:=by
 cases c with|none=>rfl|_=>exact(QG h).elim
theorem yA{a b:Bool}(h:(a&&b)=true):a=true/\b=true:=by cases a<;>cases b<;>first|exact⟨rfl,rfl⟩| exact(QG h).elim
def EM(S:SC)(n:Str)(e:Expr)(f:List Expr->List Keyword->Pos->Bool):Bool:=ZU e λg y h p=>XH g λx _=>n==x&&(VS S x&&f y h p)
theorem SG{S:SC}{f:List Expr->List Keyword->Pos->Bool}(h:EM S n e f=true):∃y es ks p,e=.Call (.Name n y) es ks p/\VS S n=true/\f es ks p=true:=by obtain⟨g,es,ks,p,rfl,w⟩:=DR h;obtain⟨x,y,rfl,v⟩:=pE w;have u:=yA v;have z:=yA u.2;have e:=qZ u.1;exact⟨y,es,ks,p,by rw[e],by rw[e];exact z.1,z.2⟩
def E4(n:Str)(e:Expr)(f:Expr->List Expr->Pos->Pos->Bool):Bool:=ZU e λg z y p=>j4 g λv x h=>n==x&&(y.isEmpty&&(h.endLine==p.line&&f v z h p))
theorem TW{f:Expr->List Expr->Pos->Pos->Bool}(h:E4 n e f=true):∃v y es p,e=.Call (.Attribute v n y) es [] p/\(y.endLine==p.line)=true/\f v es y p=true:=by obtain⟨g,es,i,p,rfl,a⟩:=DR h;obtain⟨v,x,y,rfl,k⟩:=E3 a;have w:=yA k;have u:=yA w.2;have z:=yA u.2;have e:=qZ w.1;have b:=Qw.mp u.1;exact⟨v,y,es,p,by rw[e,b],z.1,z.2⟩
def Tc(x:BoolOp)(r:Expr)(h:List Expr)(pos:Pos):Expr:=match h with
 |[]=>r|q::t=>.BoolOp x (r::q::t) pos
noncomputable def Tp(y:Bool)(S:SC)(z:ItK)(c:List Expr->Pos->Bool)(t it:Expr)(pos:Pos):Bool:=match z with
 | .val=>y&&c [it] pos|.rng1=>EM S "range" it λh x p=>x.isEmpty&&iN h λa=>c [a] p|.enum=>jV t&&EM S "enumerate" it λh x p=>x.isEmpty&&iN h λa=>c [a] p|.itm=>jV t&&(y&&E4 "items" it λv h _ p=>OP v&&(h.isEmpty&&c [v] p))
def Dr(h:List Expr)(n:Bool)(f:Expr->Bool):Bool:=match h with
 |[]=>n|c::r=>r.isEmpty&&(!n&&f c)
def isItm:ItK->Bool
 | .itm=>true|_=>false
noncomputable def zC:PX->SC->Expr->Bool
 | .xz i,S,e=>XH e λx _=>Rf S i x|.int i,_,e=>aI e λc=>Co c λj=>i==j|.str x,_,e=>aI e λc=>Bo c λy=>x==y|.bl b,_,e=>aI e λc=>je c λk=>b==k|.non,_,e=>aI e Ed|.glo x,S,e=>XH e λy _=>x==y&&VS S x|.bty x _,S,e=>XH e λy _=>x==y&&VS S x|.bin op a b,S,e=>Dc e λl o r _=>op==o&&(zC a S l&&zC b S r)|.cmp op a b,S,e=>Cc e λl Z Y=>iN Z λo=>iN Y λr=>op==o&&(MR r&&(zC a S l&&zC b S r))|.and a b,S,e=>KU e λo z p=>o==.And&&d9 z λl t=>d9 t λr t=>zC a S l&&zC b S (Tc .And r t p)|.or a b,S,e=>KU e λo z p=>o==.Or&&d9 z λl t=>d9 t λr t=>zC a S l&&zC b S (Tc .Or r t p)|.not a,S,e=>Dm e λo x=>o==.Not&&zC a S x|.call f as,S,e=>EM S f e λz w p=>w.isEmpty&&zC as S (.List z p)|.bi f as,S,e=>EM S f.nm e λz w p=>w.isEmpty&&d9 z λx t=>zC as S (.List (x::t) p)|.isi a c,S,e=>EM S "isinstance" e λz w _=>w.isEmpty&&ou z λl r=>FC l&&(FC r&&(zC a S l&&zC c S r))|.mt m o as,S,e=>E4 m.nm e λv z _ p=>zF as&&(OP v&&(decide (z.length<20)&&(zC o S v&&zC as S (.List z p))))|.idx a b,S,e=>FW e λv i _=>PP i&&(zC a S v&&zC b S i)|.slc a lo hi,S,e=>FW e λv X _=>GW X λl h s=>s.isNone&&(zC a S v&&(Fm l (isNop lo) (λe=>!isNop lo&&zC lo S e)&&Fm h (isNop hi) λe=>!isNop hi&&zC hi S e))|.nop,_,_=>false|.lst as,S,e=>DP e λz p=>zC as S (.List z p)|.tup as,S,e=>Vc e λz _ p=>zC as S (.List z p)|.comp mask tgs tg ik its cond elt,S,e=>nh e λK W u p=>iN W λg=>g.is_async==0&&(!isItm ik&&(e6 S u tgs mask&&(Jq false (ZX S u tgs mask) tg g.target&&(MR g.iter &&
   (Tp (zF its) S ik (λz p=>zC its S (.List z p)) g.target g.iter p&&(Dr g.ifs (isNop cond) (λc=>zC cond (ZX S u tgs mask) c)&&zC elt (ZX S u tgs mask) K))))))
 | .dnew _,_,e=>YU e λw q=>w.isEmpty&&q.isEmpty|.dof a,S,e=>EM S "dict" e λz w _=>w.isEmpty&&iN z λy=>FC y&&zC a S y|.dsp a b,S,e=>YU e λw q=>iN w λk=>iN q λv=>Fm k false (zC a S)&&zC b S v|.nz,_,e=>DP e λz _=>z.isEmpty|.ny a as,S,e=>DP e λz p=>d9 z λx t=>FC x&&(zC a S x&&zC as S (.List t p))
end
variable{Γ:Ev}
theorem Xj(x:V)(H:Hp)(Q:Bool->Hp->Prop):G6 x H Q=∃k,x=.bl k/\Q k H:=by
 apply propext;cases x with|bl b=>exact⟨λh=>⟨b,rfl,h⟩,λ⟨k,e,h⟩=>by cases e;exact h⟩|_=>exact⟨λh=>Qd h,λ⟨k,e,h⟩=>by cases e⟩
theorem G3(x:V)(H:Hp)(Q:Option Int->Hp->Prop):gM x H Q=∃i,x=.int i/\Q (some i) H:=by
 apply propext;cases x with|int b=>exact⟨λh=>⟨b,rfl,h⟩,λ⟨k,e,h⟩=>by cases e;exact h⟩|_=>exact⟨λh=>Qd h,λ⟨k,e,h⟩=>by cases e⟩
theorem uW(K:QC)(x:V)(H:Hp)(Q:Bool->Hp->Prop):VF K x H Q=∃k,Fj K x H k/\Q k H:=by
 apply propext;cases x with|bl b=>exact⟨λh=>⟨b,rfl,h⟩,λ⟨k,(e:k=b),h⟩=>by subst e;exact h⟩|int i=>exact⟨λh=>⟨i != 0,rfl,h⟩,λ⟨k,(e:k=(i != 0)),h⟩=>by subst e;exact h⟩|non=>exact⟨λh=>⟨false,rfl,h⟩,λ⟨k,(e:k=false),h⟩=>by subst e;exact h⟩|str z=>exact⟨λh=>⟨_,⟨h.1,rfl⟩,h.2⟩,λ⟨k,⟨u,y⟩,h⟩=>by subst y;exact⟨u,h⟩⟩|_=>exact wP
section
variable{X:Cx}
section
variable{e b:Expr}{es:List Expr}{env:Env}{its:LW}
theorem V3:PE X e never.e:=λ_ _ _ _ _ _ h=>Qd h
theorem jM:PT X e never.t:=λ_ _ _ _ _ _ h=>Qd h
theorem UR:PA X es never.a:=λ_ _ _ _ _ _ _ h=>Qd h
theorem rD{a:Expr}{ta:TE}(i:PE X a ta)(g:∀y,isTrue a X.env y=(do let v <- y;standAt a.pos;holding [v] (truthy v))) :
  PT X a (λσ H Q=>ta σ H λx l=>VF X.K x l Q):=by
 intro z s σ H Q I h;refine isTrue_plain (NB (i z s σ H _ I h) λv k ⟨x,w,j,f,u⟩=>?_) (g _);have u:VF X.K x w Q:=u;rw[uW]at u;exact U0 z k σ w x v Q j f u
theorem R3{f:Value->Value->Sem Value}:GE X f (λ_ _ _ _=>False):=λ_ _ _ _ _ _ _ _ _ _ _ _ h=>h.elim
theorem gh(h:Operator):GE X (binaryOp h) (Xb X.K h):=by
 cases h with|Add=>exact op_add|Sub=>exact op_sub|Mult=>exact bh|FloorDiv=>exact z9|Mod=>exact op_mod|_=>exact R3
theorem eS(neg:Bool){h:AB}{s:Shared}{σ:St}{H:Hp}{b c:Bool}{Q:VK}(I:Inv X h σ H s)(q:Q (.bl (if neg then !decide (b=c) else decide (b=c))) H):wpAny (model X.prog X.w) X.A (compareOp (if neg then .IsNot else .Is) (.bool b) (.bool c)) (EP X h σ Q) X.xe s:=by
 have e:compareOp (if neg then .IsNot else .Is) (.bool b) (.bool c)=pure (.bool (if neg then !decide (b=c) else decide (b=c))):=by cases neg<;>cases b<;>cases c<;>rfl
 rw[e];exact QK ⟨.bl _,H,I,rfl,q⟩
theorem T3(g:X.A.units+66<cLine)(f:CmpOp):GE X (compareOp f) (J6 X.K f):=by
 cases f with
 |Eq=>exact op_eq (by omega)|NotEq=>exact op_ne (by omega)|Lt=>exact VP _root_.L2.op_lt|LtE=>exact VP _root_.L2.op_le|Gt=>exact VP _root_.L2.op_gt|GtE=>exact VP _root_.L2.op_ge|In=>exact Um g|NotIn=>exact P3 g|Is =>
  intro z s a H x y v u Q I k w h;cases y with|non=>exact dh z s a H x _ v u Q I k w ⟨rfl,h⟩|bl c=>obtain⟨b,rfl,q⟩:=h;cases k;cases w;cases b<;>cases c<;>exact eS false I q|_=>exact Qd h
 |IsNot =>
  intro z s a H x y v u Q I k w h;cases y with|non=>exact y9 z s a H x _ v u Q I k w ⟨rfl,h⟩|bl c=>obtain⟨b,rfl,q⟩:=h;cases k;cases w;cases b<;>cases c<;>exact eS true I q|_=>exact Qd h
theorem Zi(Z:X.A.units+66<cLine):b7 X (sY X.K):=by
 intro w k f s n H x y v u Q I r p h Y;have sq:=λh=>Yi (X:=X) w k f s n H x y v u Q I r p h Y;have dc:=λh=>ba Z w k f s n H x y v u Q I r p h Y;cases x with
 |str z =>
  cases y with|int i=>obtain⟨W,c,m,q⟩:=h;exact sq (.inr (.inr ⟨z,i,c,rfl,rfl,W,m,q⟩))|_=>exact Qd h
 |ref a =>
  cases y with
  |int i=>obtain⟨o,j,l,m,q⟩:=h;rcases l with l|l;exact sq (.inl ⟨a,o,i,j,rfl,rfl,l,m,q⟩);exact sq (.inr (.inl ⟨a,o,i,j,rfl,rfl,l,m,q⟩))
  |str z=>obtain⟨j,g,q⟩:=h;exact dc ⟨a,j,rfl,g,q⟩|ref b=>obtain⟨j,g,q⟩:=h;exact dc ⟨a,j,rfl,g,q⟩|_=>exact Qd h
 |_=>exact Qd h
theorem C4{x:CmpOp}(h:MR b=true):behindInMarks x b=false:=by cases b<;>first|rfl|cases h
theorem C8(h:PP b=true):RX b:=by intro o i;cases b<;>first|rfl|cases h
theorem SA(env:Env)(h:FC e=true):starEach (e::es) env=(false,eval e env)::starEach es env:=by cases e<;>first|rfl|cases h
theorem BU(h:MR e=true)(x:Value):foldedSetIterable e env x=pure x:=by cases e<;>first|rfl|cases h
theorem B4{o:Expr}{n:Str}(h:OP o=true):attributeBase o n env (eval o env)=eval o env:=by unfold attributeBase;split;cases h;rfl
theorem G9:V7 X "list.pop" cc:=by intro z s f H x u v g Q I j m h;obtain⟨l,i,u,k,y,rfl,rfl,a,hk,n,q⟩:=h;obtain⟨o,Y,r,p⟩:=nQ hk;have hl:u.length<=sizeLine:=(show FA X.prog X.w H s.heap l (.lst u) from I.hok l _ a).1;rw[Q5]at hl;exact A4 z s f H _ _ v g Q I j m ⟨l,u,i,k,y,rfl,rfl,a,by omega,by omega,o,n,q⟩
theorem cR{x:LS}(h:nA (x.map V.str) its):StrsAre its x:=by
 induction x generalizing its with
 |nil=>cases h;exact .nil|cons y x z =>
  cases h with|cons h t=>obtain⟨k,rfl⟩:=h;exact .cons _ _ (z t)
theorem IX{x:LS}(h:StrsAre its x):nA (x.map V.str) its:=by
 induction h with|nil=>exact .nil|cons y t _ z=>exact .cons ⟨t,rfl⟩ z
theorem eY{out:LW}(g:its.Perm out):∀{xs:LV},nA xs its->∃z,z.Perm xs/\nA z out:=by
 induction g with
 |nil=>intro xs r;cases r;exact⟨[],QBO _,.nil⟩|cons x _ k =>
  intro xs r;cases r with|cons h t=>obtain⟨z,p,v⟩:=k t;exact⟨_::z,p.cons _,.cons h v⟩
 |swap x y l =>
  intro xs r;cases r with
  |cons h t=>cases t with|cons i t=>exact⟨_::_::_,QCO.swap _ _ _,.cons i (.cons h t)⟩
 |trans _ _ f a=>intro xs r;obtain⟨z,p,v⟩:=f r;obtain⟨w,q,u⟩:=a v;exact⟨w,q.trans p,u⟩
theorem i0{xs:LV}{v:Value}(r:nA xs its)(h:v∈its):∃x∈xs,rA x v:=by
 induction r with
 |nil=>exact nomatch h
 |cons r t z=>rcases QL.mp h with e|h;subst e;exact⟨_,QE,r⟩;obtain⟨x,u,y⟩:=z h;exact⟨x,QD _ u,y⟩
theorem uZ{vs:LW}{ns:LI}(h:IntsAre vs ns):nA (ns.map V.int) vs:=by
 induction h with|nil=>exact .nil|cons n t _ x=>exact .cons ⟨t,rfl⟩ x
theorem lT(hu:X.A.units+66<cLine):sC X (.builtin "sorted") (eW X.K):=by
 intro pins s σ H xs us Q I r h;obtain⟨p,rfl,h⟩:=h;rcases h with⟨ss,W,E,q⟩| ⟨xs,W,E,hx,q⟩| ⟨ns,W,E,q⟩
 skip;obtain⟨u,rfl,m⟩:=IH r;cases m;obtain⟨its,g,Y,hz⟩:=I.list W;have hl:=g.length;rw[QF]at hl;refine sorted_strs Y.isList (by simpa using cR g) (by omega) λout l J F a3=>?_;obtain⟨e,B⟩:=QB6 s.heap its out;have hlen:=(bP J).1;have hp:=F.length_eq;refine⟨.ref (s.heap.objs.size+1),_,I.laid (t':=s.toks) (λb o z=>QBm z) (wC _) (show FA X.prog X.w _ _ _ (.lst (l.map V.str)) from⟨by rw[QF,Q5];omega,out.toList,e,IX J,by simpa using B⟩),rfl,q _ l (I.hok.fresh (wC _)) F a3⟩;skip;obtain⟨u,rfl,m⟩:=IH r;cases m;obtain⟨its,g,Y,hz⟩:=I.list W;have hl:=g.length;have f:∀v∈its,∃b dd M n k,∃j:LS,v=.ref b/\s.heap.get? b=some { cls:=.type "list",dict:=dd,data:=.seq k n,slots:=M }/\StrsAre k.toList j:=λv hv=>by obtain⟨x,S,N⟩:=i0 g hv;obtain⟨a,j,rfl,sq⟩:=hx x S;cases N;obtain⟨i,O,⟨o,n,e,c,d,z⟩,_⟩:=I.list sq;obtain⟨oc,od,R,P⟩:=o;cases c;exact⟨a,od,P,n,i.toArray,j,rfl,by rw[e,show R=Data.seq i.toArray n from z],by simpa using cR O⟩
 refine y8 Y.isList (by omega) (λv hv=>?_) (λh3 kp x hx y hy C hC=>?_) λout hp=>?_;obtain⟨b,dd,M,n,k,j,rfl,e,_⟩:=f v hv;exact⟨b,_,rfl,e,rfl⟩;obtain⟨b,dd,M,n,k,j,rfl,e,st⟩:=f x hx;obtain⟨b2,dd2,sl2,n2,G,ts2,rfl,e2,L⟩:=f y hy;exact iU (s:={ s with heap:=h3 }) (show X.A.units+1+1<cLine by omega) (kp _ _ e) (kp _ _ e2) st L (hC _);obtain⟨e,B⟩:=QB6 s.heap its out.toArray;obtain⟨ys,py,vy⟩:=eY hp.symm g;have hp2:=py.length_eq;refine⟨.ref (s.heap.objs.size+1),_,I.laid (t':=s.toks) (λb o z=>QBm z) (wC _) (show FA X.prog X.w _ _ _ (.lst ys) from⟨by rw[Q5];omega,out,e,vy,B⟩),rfl,q _ ys (I.hok.fresh (wC _)) py⟩;obtain⟨u,rfl,m⟩:=IH r;cases m;obtain⟨its,g,Y,hz⟩:=I.list W;have hl:=g.length;rw[QF]at hl;refine sorted_ints Y.isList (vV g) (by omega) λout Z J F a3=>?_;obtain⟨e,B⟩:=QB6 s.heap its out;have hp:=F.length_eq;refine⟨.ref (s.heap.objs.size+1),_,I.laid (t':=s.toks) (λb o z=>QBm z) (wC _) (show FA X.prog X.w _ _ _ (.lst (Z.map V.int)) from⟨by rw[QF,Q5];omega,out.toList,e,uZ J,by simpa using B⟩),rfl,q _ Z (I.hok.fresh (wC _)) F a3⟩
theorem aZ:sC X (.type "tuple") (B2 X.K):=by intro x s y H k u Q I r h;obtain⟨p,z,rfl,w,v⟩:=h;exact ON x s y H _ u Q I r ⟨p,z,rfl,.inl ⟨w,v⟩⟩
theorem iZ:sC X (.type "int") fc:=by intro x s y H u z Q I r h;obtain⟨b,rfl,q⟩:=h;exact JZ x s y H _ z Q I r (.inr ⟨b,rfl,q⟩)
theorem L9:V7 X "list.extend" rc:=by intro y s u H x z v k Q I a f h;obtain⟨l,b,z,w,rfl,rfl,h⟩:=h;exact PY y s u H _ _ v k Q I a f ⟨l,b,z,w,rfl,rfl,h⟩
theorem Do(h:X.A.units+66<cLine)(hc:X.calm=true)(f:Bi):(∃id,bootBuiltins f.nm=some (.builtin id)/\sC X (.builtin id) (Ho X.K f))∨∃T,bootBuiltins f.nm=some (.type T)/\sC X (.type T) (Ho X.K f):=by
 cases f with|len=>exact .inl ⟨_,PySem.boot_len,K6⟩|any=>exact .inl ⟨_,PyProof.Rows.boot_any,X6 hc⟩|sorted=>exact .inl ⟨_,PyProof.Rows.boot_sorted,lT h⟩|tuple=>exact .inr ⟨_,by kernel_rfl,aZ⟩|int=>exact .inr ⟨_,PyProof.Rows.boot_int,iZ⟩
end
end
end L2.L3
namespace L2.L3
open PySem PySem.Spec PyProof.Rows
section
variable{S:SC}{i:Nat}{x:Str}
structure OkX(X:Cx)(S:SC)(G:Glob)(E:XK):Prop where
 N:X.N=S.N
 sc:X.env.scope=S.sc
 calm:X.calm=true
 un:X.A.units+66<cLine
 fn:∀f,G.fn f->∃(CX:m7) (k:Nat) (a:Addr) (fd:FuncData) (ps:LS),FnOk X.prog X.w X.K X.mg X.base CX k a fd ps (G.ev.sp f)/\Room k X.A/\X.mg f=some (.ref a)/\wL X.K (.ref a)=true/\mJ X.K fd ps [] /\
  xN CX X E/\∀l H s e s',CX l H s (λ_ _ _=>False) e s'->False
 val:∀x,G.val x->∃u,X.mg x=some u/\rA (G.ev.va x) u
 no:∀x,G.no x->X.mg x=none
def EQ(X:Cx)(Γ:Ev)(E:XK):PX->List Expr->Prop
 | .ny a as,e::es=>PE X e (wp X.K Γ a E).e/\EQ X Γ E as es|_,_=>True
structure Snd(X:Cx)(Γ:Ev)(E:XK)(p:PX)(e:Expr):Prop where
 pe:PE X e (wp X.K Γ p E).e
 pt:PT X e (wp X.K Γ p E).t
 pw:∀op es pos,e=.BoolOp op es pos->PW X e (wp X.K Γ p E).t
 pa:∀es pos,e=.List es pos->PA X es (wp X.K Γ p E).a
 pas:∀es pos,e=.List es pos->EQ X Γ E p es
theorem G7(h:Rf S i x=true):S.N[i]?=some x/\Oo S.sc x/\(x==("__debug__":Str))=false/\(x==("__classdict__":Str))=false:=by simp only[Rf,Qa,wZ,beq_iff_eq,bne_iff_ne,ne_eq]at h;obtain⟨⟨⟨v,y⟩,u⟩,z⟩:=h;refine⟨v,?_,by simpa using u,by simpa using z⟩;rcases y with(y|y)|y;exact .inl y;exact .inr (.inl y);exact .inr (.inr y)
theorem T9(h:Ah S i x=true):S.N[i]?=some x/\S.sc.names.lookup x=some .local:=by simp only[Ah,Qa,beq_iff_eq]at h;exact h
theorem kF(h:VS S x=true):S.sc.names.lookup x=some .globalImplicit/\(x==("__debug__":Str))=false/\x≠"__name__":=by simp only[VS,Qa,beq_iff_eq,bne_iff_ne,ne_eq]at h;exact⟨h.1.1,by simpa using h.1.2,h.2⟩
theorem sE:∀{l:LS},FJ l=true->l.Nodup
 |[],_=>Q0|x::r,h=>by simp only[FJ,Qa,Q6]at h;exact Qh.mpr ⟨by simpa using h.1,sE h.2⟩
theorem ES{z:Scope}{w:LS}{u:List Bool}(h:e6 S z w u=true):CompSt S.N S.sc z w u:=by simp only[e6,Qa,Qv,beq_iff_eq,Q6]at h;obtain⟨⟨⟨f,k⟩,b⟩,a⟩:=h;refine⟨f,λy v e=>?_,λy v e=>?_,λy v e=>?_,λy v e=>?_,sE b,by simpa using a⟩;have:=(k y v).1.1;rw[e]at this;exact absurd this (by decide);have:=(k y v).1.2;rw[e]at this;simp at this;exact this.1;have:=(k y v).2;rw[e]at this;simp at this;exact this;have:=(k y v).1.2;rw[e]at this;simp at this;exact this.2
theorem OkX.comp{X:Cx}{G:Glob}{E:XK}(ok:OkX X S G E)(y:Scope)(v:LS)(u:List Bool)(s:Shared)(H:Hp)(ex:List Addr):OkX (NA X y v u s H ex) (ZX S y v u) G (λ_ _ _=>False) where
 N:=by show v++JB u 0 X.N=v++JB u 0 S.N;rw[ok.N]
 sc:=by show SL y X.env.scope=SL y S.sc;rw[ok.sc]
 calm:=ok.calm
 un:=ok.un
 fn:=λf h=>by obtain⟨o,k,a,n,b,m,l,j,g,e,p,w⟩:=ok.fn f h;exact⟨o,k,a,n,b,m,l,j,g,e,λ_ _ _ _ _ _ _ z=>(w _ _ _ _ _ z).elim,w⟩
 val:=ok.val
 no:=ok.no
end
section
variable{X:Cx}
theorem x5{c:Bool}{S:SC}{i:Nat}{x:Str}(k:X.N=S.N)(y:X.env.scope=S.sc)(u:c=true->∀x,X.fn x=true)(h:ck c S i x=true):X.N[i]?=some x/\Xk X.env.scope x/\(X.fn x=true∨X.env.scope.names.lookup x=some .local):=by
 simp only[ck,Qa,wZ,beq_iff_eq]at h;rw[k,y];rcases h.2 with z|⟨w,v⟩
 exact⟨h.1,.inl z,.inr z⟩;exact⟨h.1,.inr v,.inl (u w x)⟩
theorem xO{c:Bool}{S:SC}(a:c=true->∀x,X.fn x=true)(j:X.N=S.N)(k:X.env.scope=S.sc)(nd:X.N.Nodup):∀(w:LN) (es:List Expr),w.length=es.length->((w.zip es).all λp=>match p.2 with | .Name x _=>ck c S p.1 x|_=>false)=true ->
  Gu X es (λvs σ H Q=>∃y,kB w vs σ=some y/\Q y H)
 |[],[],_,_=>by
  intro z s σ H vs n Q I r h;obtain⟨y,e,q⟩:=h;cases vs with|nil=>cases r;simp only[kB]at e;cases e;exact assignInOrder_nil ⟨σ,H,I,q⟩|cons _ _=>simp[kB]at e
 |[],_::_,h,_=>by cases h|_::_,[],h,_=>by cases h|i::w,e::es,hl,hz=>by
  simp only[QAM,qb,Qa]at hz;obtain⟨l,W⟩:=hz;cases e with
  |Name x pos =>
   obtain⟨g,f,b⟩:=x5 j k a l;have Z:=xO a j k nd w es (by simpa using hl) W;intro z s σ H vs n Q I r h;obtain⟨y,e,q⟩:=h;cases vs with
   |nil=>simp[kB]at e|cons v vs =>
    simp only[kB]at e;cases r with|cons r Y=>show wpAny _ _ (assignInOrder (assign (.Name x pos) X.env::(assignEach es X.env).map (·.2)) _) _ _ _;refine assignInOrder_cons (NB (BW (pos:=pos) nd g f b z s σ H v _ _ I r (show mX i v σ H (λu m=>u=σ.set i (some v)/\m=H) from⟨rfl,rfl⟩)) λ_ o ⟨u,m,B,A,K⟩=>?_);subst A K;exact Z z o _ _ vs _ Q B Y ⟨y,e,q⟩
  |_=>simp at l
theorem gS{c:Bool}:∀(z:LN) (es:List Expr) (S:SC),z.length=es.length->((z.zip es).all λp=>match p.2 with | .Name x _=>ck c S p.1 x|_=>false)=true->(assignEach es X.env).length=es.length/\(assignEach es X.env).findIdx? (·.1)=none
 |[],[],_,_,_=>⟨rfl,rfl⟩|[],_::_,_,h,_=>by cases h|_::_,[],_,h,_=>by cases h|i::z,e::es,S,hl,hz=>by
  simp only[QAM,qb,Qa]at hz;obtain⟨w,v⟩:=hz;cases e with|Name x y=>have u:=gS z es S (by simpa using hl) v;have k:assignEach (.Name x y::es) X.env=(false,assign (.Name x y) X.env)::assignEach es X.env:=rfl;rw[k];refine⟨by rw[QM,QM,u.1],?_⟩;rw[List.findIdx?_cons];simp[u.2]|_=>simp at w
theorem ML:∀{y:LN}{vs:LV}{σ x:St},kB y vs σ=some x->vs.length=y.length
 |[],[],_,_,_=>rfl|[],_::_,_,_,h=>by simp[kB]at h|_::_,[],_,_,h=>by simp[kB]at h|_::y,_::vs,σ,x,h=>by simp only[kB]at h;rw[QM,QM,ML h]
theorem u3{c:Bool}{S:SC}{G:Glob}{E:XK}(ok:OkX X S G E)(z:c=true->∀x,X.fn x=true)(nd:X.N.Nodup){b:Tg}{e:Expr}(h:Jq c S b e=true):PG X e (gG X.K b):=by
 cases b with
 |nm i =>
  cases e with|Name x pos=>obtain⟨l,j,g⟩:=x5 ok.N ok.sc z h;exact BW nd l j g|_=>cases h
 |tp o =>
  cases e with
  |Tuple m k pos =>
   obtain⟨J,Z⟩:=yA h;have f:=qZ J;obtain⟨C,B⟩:=gS (X:=X) o m S f Z;have w:=Sg (pos:=pos) (k:=k) (n:=m.length) ok.calm (xO z ok.N ok.sc nd o m f Z) C B;intro y s W H v u Q I r Y;refine w y s W H v u Q I r ?_;cases v with|ref p=>obtain⟨A,a,F,e,q⟩:=Y;exact⟨p,A,rfl,F,by rw[ML e,f],a,e,q⟩|_=>exact Qd Y
  |_=>cases h
end
variable{Γ:Ev}
theorem X7(K:QC)(a:Addr)(xs:LV):Yields (pv K a) (xs.map .one) (λH=>RC K H a xs) :=
  { go:=λi H h u=>by
      have z:i<xs.length:=by simpa using u
      exact⟨xs,xs[i],h,by simp[z]⟩
    yld:=λi H x v h _ ⟨e,y⟩=>⟨.one x,by rw[Qc,y xs h];rfl,rfl,e⟩
    stop:=λi H h u=>⟨xs,h,by simpa using u⟩ }
theorem Xf(K:QC)(a:Addr)(xs:LV):Yields (gv K a) (xs.map .one) (λH=>GD K H a xs) :=
  { go:=λi H h u=>by
      have z:i<xs.length:=by simpa using u
      exact⟨xs,xs[i],h,by simp[z]⟩
    yld:=λi H x v h _ ⟨e,y⟩=>⟨.one x,by rw[Qc,y xs h];rfl,rfl,e⟩
    stop:=λi H h u=>⟨xs,h,by simpa using u⟩ }
theorem Uf(u:Int)(n:Nat):Yields (Nt u n) ((Qs n).map λ(k:Nat)=>.one (.int (u+(k:Int)))) (λ_=>True) :=
  { go:=λi H h z=>by
      have y:i<n:=by simpa using z
      exact y
    yld:=λi H x w h z ⟨e,v⟩=>by
      have y:i<n:=by simpa using z
      exact⟨.one x,by rw[Qc,W8 y,v];rfl,rfl,e⟩
    stop:=λi H h z=>by
      have y:n<=i:=by simpa using z
      exact y }
theorem B7(K:QC)(z:Src)(c:Nat)(xs:LV):Yields (Jv K z c) (xs.zipIdx.map λp=>.tup [.int ((c+p.2:Nat):Int),p.1]) (λH=>MZ K H z xs) :=
  { go:=λi H h u=>by
      have y:i<xs.length:=by simpa using u
      exact⟨xs,xs[i],h,by simp[y]⟩
    yld:=λi H x g h u ⟨p,a,v,e,w,k⟩=>by
      have y:i<xs.length:=by simpa using u
      have f:=k xs h;refine⟨.tup [.int ((c+i:Nat):Int),a],?_,p,v,e,w⟩;have b:xs.zipIdx[i]?=some (a,i):=by rw[List.getElem?_zipIdx,f];simp
      rw[Qc,b];rfl
    stop:=λi H h u=>⟨xs,h,by simpa using u⟩ }
theorem SZ(ep:Nat)(a:Addr)(kvs:List KE):Yields (nv ep kvs.length a) (kvs.map λp=>.tup [.ref p.2.1,p.2.2]) (λH=>H a=some (.dT ep kvs)) :=
  { go:=λi H h y=>by
      have z:i<kvs.length:=by simpa using y
      exact⟨kvs,kvs[i],h,rfl,by simp[z]⟩
    yld:=λi H x w h y ⟨q,p,u,e,v,k⟩=>⟨.tup [.ref p.2.1,p.2.2],by rw[Qc,k kvs h];rfl,q,u,e,v⟩
    stop:=λi H h y=>⟨kvs,h,rfl,by simpa using y⟩ }
theorem U7(ep:Nat)(a:Addr)(kvs:List KE):Yields (sv ep kvs.length a) (kvs.map λp=>.one (.ref p.2.1)) (λH=>H a=some (.dT ep kvs)) :=
  { go:=λi H h y=>by
      have z:i<kvs.length:=by simpa using y
      exact⟨kvs,kvs[i],h,rfl,by simp[z]⟩
    yld:=λi H x b h y ⟨u,k⟩=>by obtain⟨p,w,v⟩:=k kvs h;exact⟨.one (.ref p.2.1),by rw[Qc,w];rfl,v,u⟩
    stop:=λi H h y=>⟨kvs,h,rfl,by simpa using y⟩ }
def jU(h:St->Hp->(List Item->(Hp->Prop)->Hp->Prop)->Prop):TI:=λx H R=>h x H λy st z=>∀J,Yields J y st->R J z
section
variable{X:Cx}{f:Expr}
section
variable{a:Expr}{ta:TA}{p pos k:Pos}{x:Str}{es:List Expr}{d:Nat}
theorem D8{l:Expr}{t:TE}(hl:PE X l t):PI X f l (jU λσ H R=>t σ H λv m=>JC X.K .val [v] m R):=by
 intro g s σ H R I h;refine NB (hl g s σ H _ I h) λv y ⟨x,m,i,F,C⟩=>?_;have j:∀b∈[y.heap.objs.size],lJ X g m b:=λb hb=>by
  have e:b=y.heap.objs.size:=by simpa using hb
  subst e;exact i.fpOk (Qb _) (i.hok.fresh (Qb _))
 cases x with
 |ref a =>
  cases F;rcases C with⟨Z,A,q⟩| ⟨Z,A,q⟩| ⟨ep,u,e,q⟩
  obtain⟨Y,E,p,G⟩:=i.list A;refine We p.isList ?_;exact⟨y.heap.objs.size,[y.heap.objs.size],_,_,m,rfl,i.kept (t':=y.toks) λb o e=>QH _ e,yY a _,⟨_,QV _ rfl,rfl,rfl⟩,j,q _ (X7 _ a Z)⟩;obtain⟨Y,E,p,G⟩:=i.tuple A;refine QBl (show y.heap.IsTuple a Y.toArray from p) ?_;exact⟨y.heap.objs.size,[y.heap.objs.size],_,_,m,rfl,i.kept (t':=y.toks) λb o e=>QH _ e,xU a _,⟨_,QV _ rfl,rfl,rfl⟩,j,q _ (Xf _ a Z)⟩;obtain⟨z,J,Z,r,ob,B,O,N,M,L,P⟩:=(show FA X.prog X.w m y.heap a (.dT ep u) from i.hok a _ e)
  have W:B.size=u.length:=by have:=congrArg wA L;rw[QF,Qt]at this;rw[this,<- qI r]
  refine ga J O N.1 M ?_;exact⟨y.heap.objs.size,[y.heap.objs.size],_,_,m,rfl,i.kept (t':=y.toks) λb o e=>QH _ e,zY (a:=a) (n:=u.length) (ep:=ep),⟨_,QV _ rfl,rfl,by rw[<- W];rfl⟩,j,q _ (U7 ep a u)⟩
 |_=>exact Qd C
theorem F8(g:x="range")(m:Gl X x)(l:X.mg x=none)(n:PA X [a] ta)(i:FC a=true) :
  PI X f (.Call (.Name x p) [a] [] pos) (jU λσ H R=>ta σ H λvs v=>JC X.K .rng1 vs v R):=by
 subst g;intro z s σ H R I h;refine Call_ (jG I m l boot_range (wB (NB (n pos z s σ H _ I h) λY Z ⟨vs,v,o,b,u⟩=>?_) (SA _ i) rfl))
 match vs,u with
 |[.int j],⟨⟨u,q2⟩,q⟩ =>
  cases b with
  |cons r w =>
   cases w;obtain⟨t,rfl⟩:=r;refine call_range_1 (U2 o (by omega) (by omega) u q2 ?_);have e:(j - 0).toNat=j.toNat:=by simp
   rw[e];have y:=Uf 0 j.toNat;refine q _ ?_;simpa using y
theorem ZZ:bootBuiltins ("enumerate":Str)=some (.type "enumerate"):=by kernel_rfl
theorem v6{y:AB}{σ:St}{e:Hp}{h:Shared}{R:It->Hp->Prop}{c:Nat}{z:Src}{xs:LV}{its:Array Value}{h':Heap}(v:Inv X y σ e h)(sh:GB h.heap z its)(st:SV (h.heap.objs.size+1) h.heap.objs.size z c 0 h')(i:∀c o,h.heap.get? c=some o->h'.get? c=some o)
  (q:∀J,Yields J (xs.zipIdx.map λp=>.tup [.int ((c+p.2:Nat):Int),p.1]) (λH=>MZ X.K H z xs)->R J e):wpAny (model X.prog X.w) X.A (pyIter (.ref (h.heap.objs.size+1))) (Kt X y σ (.Tuple es d k) R) X.xe { h with heap:=h' }:=by
 obtain⟨⟨g,j⟩,_⟩:=id st;refine QBx j ?_;have l:=v.kept (h':=h') (t':=h.toks) i;have lt:=sh.lt;refine⟨_,[h.heap.objs.size+1,h.heap.objs.size],_,_,e,rfl,l,kY (Rv (Nat.succ_ne_self _)) (Qi (WB lt)) (Qi lt),st,λb hb=>?_,q _ (B7 _ z c xs)⟩;have u:h.heap.objs.size<=b:=by simp only[QL,WH,or_false]at hb;rcases hb with rfl|rfl;exact QAt _ _;exact Qb _
 exact v.fpOk u (v.hok.fresh u)
theorem L8(l:x="enumerate")(o:Gl X x)(n:X.mg x=none)(Y:PA X [a] ta)(m:FC a=true) :
  PI X (.Tuple es d k) (.Call (.Name x p) [a] [] pos) (jU λσ H R=>ta σ H λvs w=>JC X.K .enum vs w R):=by
 subst l;intro u s σ H R I h;refine Call_ (jG I o n ZZ (wB (NB (Y pos u s σ H _ I h) λZ W ⟨vs,w,v,e,g⟩=>?_) (SA _ m) rfl))
 match vs,g with
 |[.ref l1],⟨z,xs,e1,h1,q⟩ =>
  subst e1;cases e with|cons r b=>cases b;cases r;obtain⟨j,_,y,_⟩:=v.src h1;refine DV y λA st i=>v6 (xs:=xs) v y st i ?_;simpa using q
theorem ca{K:QC}{u:V}{H:Hp}{R:List Item->(Hp->Prop)->Hp->Prop}(h:JC K .itm [u] H R):∃a ep kvs,u=.ref a/\H a=some (.dT ep kvs)/\R (kvs.map λp=>.tup [.ref p.2.1,p.2.2]) (λH=>H a=some (.dT ep kvs)) H:=by
 cases u with|ref a=>obtain⟨ep,kvs,e,q⟩:=h;exact⟨a,ep,kvs,rfl,e,q⟩|_=>exact Qd h
theorem Rg{o:Expr}{B:TE}{apos cpos:Pos}(J:PE X o B)(i:attributeBase o "items" X.env (eval o X.env)=eval o X.env)(g:(apos.endLine==cpos.line)=true) :
  kq X (.Tuple es d k) (.Call (.Attribute o "items" apos) [] [] cpos) (jU λσ H R=>B σ H λv l=>JC X.K .itm [v] l R):=by
 intro u s σ H R I h;refine QAk i g (NB (J u s σ H _ I h) λv j ⟨x,l,C,E,G⟩=>?_);obtain⟨a,ep,y,rfl,e,q⟩:=ca G;cases E;obtain⟨z,L,P,r,ob,W,m,Z,N,M,Q⟩:=(show FA X.prog X.w l j.heap a (.dT ep y) from C.hok a _ e)
 refine⟨"dict",_,QAn,PySem.F.slot_dict_items,PySem.F.type_dict_items,⟨ob,m,Z.1⟩,λb O=>?_,WY rfl (QBS (CV m Z.1 L ?_))⟩;cases O;exact⟨ob,m,Z.2.1⟩;have A:Inv X u σ l { j with heap:=j.heap.push { cls:=.type "dict_items",data:=.fields #[.ref a] } }:=C.kept (t':=j.toks) λb o e=>QH _ e;refine C5 ⟨_,QV _ rfl,rfl,rfl⟩ (QH _ m) N ?_;have Y:W.size=y.length:=by have:=congrArg wA M;rw[QF,Qt]at this;rw[this,<- qI r]
 refine⟨_,[_],_,_,l,rfl,A.kept (t':=j.toks) λb o e=>QH _ e,bU (a:=a) (n:=y.length) (ep:=ep),⟨.none,.none,?_⟩,λb hb=>?_,q _ (SZ ep a y)⟩;rw[<- Y];exact QV _ rfl;have e:=QI.mp hb;subst e;exact A.fpOk (Qb _) (A.hok.fresh (Qb _))
end
end
section
variable{u σ:St}{K:QC}{k:Tg}{H:Hp}{Q:St->Hp->Prop}
def Tg.at:Tg->LN
 | .nm i=>[i]|.tp h=>h
def MT(k:Tg)(u σ:St):Prop:=u.length=σ.length/\∀(j:Nat),j∉k.at->u[j]?=σ[j]?
theorem xY{i:Nat}{v:Option V}(h:u.length=σ.length)(x:∀j,j≠i->u[j]?=σ[j]?):u.set i v=σ.set i v:=by apply qy;intro j;by_cases e:j=i;subst e;by_cases hl:j<σ.length;rw[qf (by omega),qf hl];rw[qA (by rw[qa];omega),qA (by rw[qa];omega)];rw[qR (qB e),qR (qB e)];exact x j e
theorem uI:∀(x:LN) (vs:LV) (u σ:St),u.length=σ.length->(∀j,j∉x->u[j]?=σ[j]?)->kB x vs u=kB x vs σ
 |[],[],u,σ,hl,h=>by have:u=σ:=qy λj=>h j (by simp);rw[this]|[],_::_,_,_,_,_=>rfl|_::_,[],_,_,_,_=>rfl|i::x,v::vs,u,σ,hl,h=>by simp only[kB];refine uI x vs _ _ (by simp[hl]) λj z=>?_;by_cases e:j=i;subst e;by_cases y:j<σ.length;rw[qf (by omega),qf y];rw[qA (by rw[qa];omega),qA (by rw[qa];omega)];rw[qR (qB e),qR (qB e)];exact h j (by simp[e,z])
theorem RE:∀(h:LN) (vs:LV) (σ u:St),kB h vs σ=some u->u.length=σ.length/\∀j,j∉h->u[j]?=σ[j]?
 |[],[],σ,u,e=>by simp only[kB]at e;cases e;exact⟨rfl,λ_ _=>rfl⟩|[],_::_,_,_,e=>by simp[kB]at e|_::_,[],_,_,e=>by simp[kB]at e|i::h,v::vs,σ,u,e=>by simp only[kB]at e;obtain⟨w,y⟩:=RE h vs _ _ e;refine⟨by rw[w,qa],λj x=>?_⟩;rw[y j (λz=>x (QD _ z)),qR (λz=>x (by simp[z]))]
theorem rT{v:V}(a:MT k u σ)(h:gG K k v σ H Q):gG K k v u H λx m=>MT k x σ/\Q x m:=by
 obtain⟨f,g⟩:=a;cases k with
 |nm i=>have e:u.set i (some v)=σ.set i (some v):=xY f λj y=>g j (by simpa[Tg.at]using y);show MT (.nm i) (u.set i (some v)) σ/\Q (u.set i (some v)) H;rw[e];exact⟨⟨by simp,λj y=>qR (λz=>y (by simp[Tg.at,z]))⟩,h⟩|tp b =>
  cases v with|ref p=>obtain⟨w,x,l,e,q⟩:=h;exact⟨w,x,l,by rw[uI b w u σ f λj y=>g j y];exact e,⟨(RE b w σ x e).1,λj y=>(RE b w σ x e).2 j y⟩,q⟩|_=>exact Qd h
theorem GV{v:V}{y:St->Hp->Prop}(m:∀σ H,Q σ H->y σ H)(h:gG K k v σ H Q):gG K k v σ H y:=by
 cases k with
 |nm i=>exact m _ _ h|tp a =>
  cases v with|ref p=>obtain⟨z,x,w,e,q⟩:=h;exact⟨z,x,w,e,m _ _ q⟩|_=>exact Qd h
theorem IM{it:Item}{x:V}{y:Hp}(w:match it with | .one v=>x=v/\y=H | .tup vs=>∃p,H p=none/\x=.ref p/\y=BA H p (.tup vs))(h:bindI K k it σ H Q):gG K k x σ y Q:=by
 cases it with
 |one v=>obtain⟨rfl,rfl⟩:=w;exact h|tup vs =>
  obtain⟨p,z,rfl,rfl⟩:=w;cases k with
  |nm i=>exact h p z|tp a =>
   obtain⟨u,e,q⟩:=h (BA H p (.tup vs)) λb o e=>by rw[vA (aA e z)];exact e
   exact⟨vs,u,GD.of JA,e,q⟩
theorem t6{xs:List Item}{st:Hp->Prop}{tc:TT}{te:TE}{a:St}{Q:VK}(h:uo K xs st (bindI K k) tc te a H Q):AX K xs st k tc te a H Q:=by
 obtain⟨W,Z,o,j,done⟩:=h;intro J Y;refine⟨λi m v u f=>m=xs.length - i/\i<=xs.length/\MT k u a/\W i v f,⟨xs.length,by simp,Qz _,⟨rfl,λ_ _=>rfl⟩,Z⟩,?_⟩;rintro i m v u f ⟨rfl,C,F,w⟩;have n:=o i v f C w;by_cases g:i<xs.length;refine .inr ⟨Y.go i f n g,λx G y=>?_⟩;obtain⟨it,p,B⟩:=Y.yld i f x G n g y;have b:=rT F (IM B (j i it v f p w));refine GV (λl I q=>?_) b;obtain⟨r,q⟩:=q;have E:∀(z:LV) (s:Hp),(∃X,X < xs.length - i/\X=xs.length - (i+1)/\i+1<=xs.length/\MT k l a/\W (i+1) z s)=W (i+1) z s:=λz s =>
  propext ⟨λ⟨_,_,_,_,_,w⟩=>w,λw=>⟨_,by omega,rfl,g,r,w⟩⟩
 simp only[E];exact q
 ·have e:i=xs.length:=by omega
  subst e;obtain⟨A,q⟩:=done v f w;exact .inl ⟨Y.stop _ f n (Qb _),A,q⟩
end
end L2.L3
namespace L2.L3
open PySem PySem.Spec PyProof.Rows
variable{Γ:Ev}
section
variable{X:Cx}{E:XK}{p its:PX}{es:List Expr}{e t Y:Expr}{pos:Pos}{S:SC}{Q:LV->Hp->Prop}{G:Glob}{d:ItK}
def MP:PX->Bool
 | .ny _ _=>false|_=>true
theorem JT(h:MP p=true):EQ X Γ E p es:=by cases p<;>first|trivial|cases h
theorem NQ(Q:Bool->Hp->Prop):(λ(x:V) (h:Hp)=>G6 x h Q)=λ(x:V) (h:Hp)=>∃k,x=.bl k/\Q k h:=by funext x h;exact Xj x h Q
theorem Snd.of(pe:PE X e (wp X.K Γ p E).e)(pt:PT X e (wp X.K Γ p E).t)(hb:∀h es pos,e≠.BoolOp h es pos)(y:(wp X.K Γ p E).a=never.a)(x:MP p=true:=by rfl):Snd X Γ E p e :=
 ⟨pe,pt,λh es pos z=>absurd z (hb h es pos),λes pos z=>by rw[y];exact UR,λ_ _ _=>JT x⟩
theorem Snd.lit(pe:PE X e (wp X.K Γ p E).e)(x:(wp X.K Γ p E).t=never.t)(hb:∀h es pos,e≠.BoolOp h es pos)(z:(wp X.K Γ p E).a=never.a)(y:MP p=true:=by rfl):Snd X Γ E p e :=
 Snd.of pe (by rw[x];exact jM) hb z y
theorem Snd.args(w:PA X es (wp X.K Γ p E).a)(u:EQ X Γ E p es)(v:(wp X.K Γ p E).e=never.e)(y:(wp X.K Γ p E).t=never.t):Snd X Γ E p (.List es pos) :=
 ⟨by rw[v];exact V3,by rw[y];exact jM,λ_ _ _ z=>(by cases z),λx h z=>by cases z;exact w,λx h z=>by cases z;exact u⟩
theorem zh{x:Str}{v:V}{u:Value}(y:X.env.scope=S.sc)(h:VS S x=true)(z:X.mg x=some u)(r:rA v u):PE X (.Name x pos) (λ_ H Q=>Q v H):=by obtain⟨k,w,a⟩:=kF h;exact N8 (show X.env.scope.names.lookup x=some .globalImplicit by rw[y];exact k) z r w
theorem UE:∀(p:PX) {es:List Expr},zC p S (.List es pos)=true->es.all FC=true:=by
 intro p;induction p with|nz=>intro es h;have h:es.isEmpty=true:=h;rw[Qw.mp h];rfl|ny a u _ y=>intro es h;have h:d9 es _=true:=h;obtain⟨x,t,rfl,h⟩:=tK h;have z:=yA h;rw[qb,z.1,y (yA z.2).2];rfl|lst u y=>exact λh=>y h|_=>exact λh=>(QG h).elim
theorem iT{K:QC}{σ:St}{H:Hp}:∀(p:PX),zF p=true->zC p S (.List [] pos)=true->((wp K Γ p E).a σ H Q↔Q [] H):=by
 intro p;cases p with|nz=>exact λ_ _=>wP|ny _ _=>exact λ_ h=>(QG h).elim|_=>exact λh=>(QG h).elim
theorem XZ{K:QC}{σ:St}{H:Hp}(p:PX)(h:zC p S (.List [] pos)=true)(q:(wp K Γ p E).a σ H Q):Q [] H:=by
 cases x:zF p with
 |true=>exact(iT p x h).mp q|false =>
  cases p with|nz=>exact q|ny _ _=>exact(QG h).elim|_=>exact q.elim
theorem eT{a:Expr}(p:PX)(y:zF p=true)(h:zC p S (.List [a] pos)=true):∃x,p=.ny x .nz:=by
 cases p with
 |ny x r =>
  have z:zC r S (.List [] pos)=true:=(yA (yA h).2).2;cases r with|nz=>exact⟨x,rfl⟩|ny _ _=>exact(QG z).elim|_=>exact(QG y).elim
 |nz=>exact(QG h).elim|_=>exact(QG y).elim
theorem vn(h:X.A.units+66<cLine)(m:Mt):∃id,PlainAttrs m.ty/\Slot m.ty m.nm id/\typeOf (.builtin id)=pure (.type "method_descriptor")/\V7 X id (N9 X.K m):=by
 cases m with|append=>exact⟨_,WU,PySem.F.slot_list_append,PySem.F.type_list_append,RY⟩|pop=>exact⟨_,WU,PySem.F.slot_list_pop,PySem.F.type_list_pop,G9⟩|extend=>exact⟨_,WU,PySem.F.slot_list_extend,PySem.F.type_list_extend,L9⟩|setd=>exact⟨_,QAn,PySem.F.slot_dict_setdefault,PySem.F.type_dict_setdefault,OY h⟩
theorem BE{env:Env}{pos:Pos}:∀{es:List Expr},es.all FC=true->(backTo pos (starEach es env)).any (·.1)=false
 |[],_=>rfl|e::es,h=>by rw[qb]at h;obtain⟨y,x⟩:=yA h;rw[SA env y];show(false||(backTo pos (starEach es env)).any (·.1))=false;rw[BE x];rfl
theorem YT{env:Env}{pos:Pos}:∀{es:List Expr},es.all FC=true->(backTo pos (starEach es env)).all (λx=>!x.1)=true
 |[],_=>rfl|e::es,h=>by rw[qb]at h;obtain⟨z,y⟩:=yA h;rw[SA env z];show(true&&(backTo pos (starEach es env)).all (λx=>!x.1))=true;rw[YT y];rfl
theorem tU(ok:OkX X S G E)(y:Tp (zF its) S d (λes p=>zC its S (.List es p)) t Y pos=true)(g:Hn G d)(l:isItm d=false)
  (sn:∀es p,zC its S (.List es p)=true->Snd X G.ev E its (.List es p)):PI X t Y (jU λσ H R=>(wp X.K G.ev its E).a σ H λvs n=>JC X.K d vs n R):=by
 have w:∀{x:Str},VS S x=true->Gl X x:=λ{x} h=>by show X.env.scope.names.lookup x=some .globalImplicit;rw[ok.sc];exact(kF h).1
 have z:jV t=true->∃es k p,t=.Tuple es k p:=λh=>by
  cases t with|Tuple es k p=>exact⟨es,k,p,rfl⟩|_=>exact(QG h).elim
 cases d with|val=>have i:=yA y;have b:=(sn _ pos i.2).pas _ pos rfl;obtain⟨a,rfl⟩:=eT its i.1 i.2;exact D8 b.1|rng1=>obtain⟨j,es,m,p,rfl,f,h⟩:=SG y;have v:=yA h;cases Qw.mp v.1;obtain⟨a,rfl,u⟩:=OB v.2;exact F8 rfl (w f) (ok.no _ g) ((sn _ p u).pa _ p rfl) (by simpa using UE its u)|enum=>have i:=yA y;obtain⟨es,k,pt,rfl⟩:=z i.1;obtain⟨j,es,m,p,rfl,f,h⟩:=SG i.2;have v:=yA h;cases Qw.mp v.1;obtain⟨a,rfl,u⟩:=OB v.2;exact L8 rfl (w f) (ok.no _ g) ((sn _ p u).pa _ p rfl) (by simpa using UE its u)|itm=>cases l
theorem G8(ok:OkX X S G E)(x:Tp (zF its) S d (λes p=>zC its S (.List es p)) t Y pos=true)(f:Hn G d)
  (sn:∀es p,zC its S (.List es p)=true->Snd X G.ev E its (.List es p)):kq X t Y (jU λσ H R=>(wp X.K G.ev its E).a σ H λvs g=>JC X.K d vs g R):=by
 cases w:isItm d with
 |false=>exact(tU ok x f w sn).to0|true =>
  cases d with
  |itm =>
   have i:=yA x;have u:=yA i.2;cases t with|Tuple es k pt=>obtain⟨v,j,es,p,rfl,hl,h⟩:=TW u.2;have b:=yA h;have z:=yA b.2;cases Qw.mp z.1;have y:=(sn _ p z.2).pas _ p rfl;obtain⟨a,rfl⟩:=eT its u.1 z.2;exact Rg y.1 (B4 b.1) hl|_=>exact(QG i.1).elim
  |_=>cases w
theorem GG{te x:TE}(h:PE X e te)(q:∀σ H Q,x σ H Q->te σ H Q):PE X e x:=λy s σ H Q I z=>h y s σ H Q I (q σ H Q z)
theorem snd:∀(p:PX) {X:Cx}{S:SC}{E:XK}(ok:OkX X S G E) {e:Expr},zC p S e=true->IA G p->Snd X G.ev E p e:=by
 intro p;induction p with
 |xz i =>
  intro X S E ok e h _;obtain⟨x,pos,rfl,h⟩:=pE h;obtain⟨Z,J,L,O⟩:=G7 h;have base:=d3 (pos:=pos) (show X.N[i]?=some x by rw[ok.N];exact Z) (show Oo X.env.scope x by rw[ok.sc];exact J) L O;have pe:PE X (.Name x pos) (wp X.K G.ev (.xz i) E).e:=GG base λB H Q q=>by
   have q:(match B[i]? with|some (some v)=>Q v H|_=>False):=q;cases hs:B[i]? with
   |none=>rw[hs]at q;exact q.elim|some o =>
    rw[hs]at q;cases o with|none=>exact q.elim|some v=>exact⟨v,hs,q⟩
  exact Snd.of pe (rD pe λ_=>rfl) (λ_ _ _ z=>by cases z) rfl
 |int i=>intro X S E ok e h _;obtain⟨c,k,pos,rfl,h⟩:=LG h;obtain⟨j,rfl,h⟩:=fj h;cases qZ h;exact Snd.of U3 (rD (ta:=λ_ H Q=>Q (.int i) H) U3 λ_=>rfl) (λ_ _ _ z=>by cases z) rfl|str x=>intro X S E ok e h _;obtain⟨c,k,pos,rfl,h⟩:=LG h;obtain⟨j,rfl,h⟩:=cj h;cases qZ h;exact Snd.lit jh rfl (λ_ _ _ z=>by cases z) rfl|bl b=>intro X S E ok e h _;obtain⟨c,k,pos,rfl,h⟩:=LG h;obtain⟨j,rfl,h⟩:=Kb h;cases qZ h;exact Snd.of Kc (rD (ta:=λ_ H Q=>Q (.bl b) H) Kc λ_=>rfl) (λ_ _ _ z=>by cases z) rfl|non=>intro X S E ok e h _;obtain⟨c,k,pos,rfl,h⟩:=LG h;cases Yb h;exact Snd.of K3 (rD (ta:=λ_ H Q=>Q .non H) K3 λ_=>rfl) (λ_ _ _ z=>by cases z) rfl|glo x=>intro X S E ok e h nd;obtain⟨y,pos,rfl,h⟩:=pE h;have h:=yA h;cases qZ h.1;obtain⟨u,hm,r⟩:=ok.val x nd;have pe:=zh (pos:=pos) ok.sc h.2 hm r;exact Snd.of pe (rD pe λ_=>rfl) (λ_ _ _ z=>by cases z) rfl|bty x n=>intro X S E ok e h nd;obtain⟨y,pos,rfl,h⟩:=pE h;have h:=yA h;cases qZ h.1;obtain⟨g1,g2,g3⟩:=kF h.2;exact Snd.lit (A8 (show X.env.scope.names.lookup x=some .globalImplicit by rw[ok.sc];exact g1) (ok.no x nd.1) nd.2 rfl g3 g2) rfl (λ_ _ _ z=>by cases z) rfl|bin op a b W M=>intro X S E ok e h nd;obtain⟨l,o,r,pos,rfl,h⟩:=f9 h;have Z:=yA h;have J:=yA Z.2;cases qZ Z.1;have pe:=Jm (pos:=pos) (gh op) (W ok J.1 nd.1).pe (M ok J.2 nd.2).pe;exact Snd.of pe (rD pe λ_=>rfl) (λ_ _ _ z=>by cases z) rfl|cmp op a b W M=>intro X S E ok e h nd;obtain⟨l,os,rs,pos,rfl,h⟩:=c9 h;obtain⟨o,rfl,h⟩:=OB h;obtain⟨r,rfl,h⟩:=OB h;have Z:=yA h;have J:=yA Z.2;have L:=yA J.2;cases qZ Z.1;have pa:=(W ok L.1 nd.1).pe;have pb:=(M ok L.2 nd.2).pe;refine Snd.of (S8 (pos:=pos) (T3 ok.un op) pa pb (C4 J.1)) (λP s B H Q I q=>Z8 (pos:=pos) (T3 ok.un op) pa pb (C4 J.1) P s B H Q I ?_) (λ_ _ _ z=>by cases z) rfl;show Zl _ _ _ B H (λ(x:V) (A:Hp)=>∃k,x=.bl k/\Q k A);rw[<- NQ Q];exact q|and a b W M =>
  intro X S E ok e h nd;obtain⟨o,es,pos,rfl,h⟩:=FR h;have Z:=yA h;cases qZ Z.1;obtain⟨l,t,rfl,J⟩:=tK Z.2;obtain⟨r,t,rfl,L⟩:=tK J;have O:=yA L;have sa:=W ok O.1 nd.1;have sb:=M ok O.2 nd.2;have eqA:∀(B:St) (Q:VK),(λ(x:V) (A:Hp)=>∃c,x=.bl c/\if c=true then(wp X.K G.ev b E).e B A Q else Q (.bl false) A)=λ(x:V) (A:Hp)=>G6 x A λc H2=>if c=true then(wp X.K G.ev b E).e B H2 Q else Q (.bl false) H2:=λB Q=>(NQ _).symm
  have key:PW X (.BoolOp .And (l::r::t) pos) (wp X.K G.ev (.and a b) E).t/\PE X (.BoolOp .And (l::r::t) pos) (λB H Q=>(wp X.K G.ev a E).e B H λx A=>∃c,x=.bl c/\if c=true then(wp X.K G.ev b E).e B A Q else Q (.bl false) A):=by
   cases t with|nil=>exact⟨C2 sa.pt (Y8 sb.pt),C3 (pos:=pos) sa.pe (Y3 sb.pe)⟩|cons q t=>exact⟨C2 sa.pt (sb.pw _ _ _ rfl),C3 (pos:=pos) sa.pe sb.pe⟩
  refine⟨GG key.2 λB H Q q=>?_,key.1.pt,λ_ _ _ _=>key.1,λ_ _ z=>(by cases z),λ_ _ z=>trivial⟩;rw[eqA];exact q
 |or a b W M =>
  intro X S E ok e h nd;obtain⟨o,es,pos,rfl,h⟩:=FR h;have Z:=yA h;cases qZ Z.1;obtain⟨l,t,rfl,J⟩:=tK Z.2;obtain⟨r,t,rfl,L⟩:=tK J;have O:=yA L;have sa:=W ok O.1 nd.1;have sb:=M ok O.2 nd.2;have eqA:∀(B:St) (Q:VK),(λ(x:V) (A:Hp)=>∃c,x=.bl c/\if c=true then Q (.bl true) A else(wp X.K G.ev b E).e B A Q)=λ(x:V) (A:Hp)=>G6 x A λc H2=>if c=true then Q (.bl true) H2 else(wp X.K G.ev b E).e B H2 Q:=λB Q=>(NQ _).symm
  have key:PW X (.BoolOp .Or (l::r::t) pos) (wp X.K G.ev (.or a b) E).t/\PE X (.BoolOp .Or (l::r::t) pos) (λB H Q=>(wp X.K G.ev a E).e B H λx A=>∃c,x=.bl c/\if c=true then Q (.bl true) A else(wp X.K G.ev b E).e B A Q):=by
   cases t with|nil=>exact⟨ec sa.pt (Fg sb.pt),Zc (pos:=pos) sa.pe (Y3 sb.pe)⟩|cons q t=>exact⟨ec sa.pt (sb.pw _ _ _ rfl),Zc (pos:=pos) sa.pe sb.pe⟩
  refine⟨GG key.2 λB H Q q=>?_,key.1.pt,λ_ _ _ _=>key.1,λ_ _ z=>(by cases z),λ_ _ z=>trivial⟩;rw[eqA];exact q
 |not a W=>intro X S E ok e h nd;obtain⟨o,x,pos,rfl,h⟩:=mh h;have Z:=yA h;cases qZ Z.1;have sa:=W ok Z.2 nd;refine Snd.of (λP s B H Q I q=>?_) (Gg sa.pt) (λ_ _ _ z=>by cases z) rfl;refine UnaryOp_ (NB (sa.pe P s B H _ I q) λv s1 ⟨x,A,I1,r1,q1⟩=>?_);have q1:VF X.K x A (λc H2=>Q (.bl (!c)) H2):=q1;rw[uW]at q1;refine not_of (NB (U0 P s1 B A x v _ I1 r1 q1) λc s2 ⟨H2,I2,q2⟩=>?_);exact⟨.bl (!c),H2,I2,rfl,q2⟩|call f as ih =>
  intro X S E ok e h nd;obtain⟨p,es,ks,pos,rfl,hg,h⟩:=SG h;have Z:=yA h;cases Qw.mp Z.1;obtain⟨g1,g2,g3⟩:=kF hg;have hg:Gl X f:=show X.env.scope.names.lookup f=some .globalImplicit by rw[ok.sc];exact g1
  obtain⟨CX,k,a,fd,ps,F,hr,hm,hk,hb,hx,_⟩:=ok.fn f nd.1;have pa:=(ih ok Z.2 nd.2).pa es pos rfl;have st:=UE as Z.2;have pe:PE X (.Call (.Name f p) es [] pos) (wp X.K G.ev (.call f as) E).e:=by
   cases es with|nil=>exact GG (B3 (pos:=pos) (p:=p) F hr hg hm hk hb .nil hx g2) λB H Q q=>XZ as Z.2 q|cons e1 es1=>have st:=yA st;refine GG (T8 (pos:=pos) (p:=p) F hr hg hm hk hb .nil hx pa g2 (SA _ st.1) (BE st.2)) λB H Q q=>?_;show(wp X.K G.ev as E).a B H λvs A=>G.ev.sp f (vs++[]) A Q E;simp only[Q8];exact q
  exact Snd.of pe (rD pe λ_=>rfl) (λ_ _ _ z=>by cases z) rfl
 |idx a b W M=>intro X S E ok e h nd;obtain⟨v,i,pos,rfl,h⟩:=CP h;have Z:=yA h;have J:=yA Z.2;have pe:=Ym (pos:=pos) (Zi ok.un) (W ok J.1 nd.1).pe (M ok J.2 nd.2).pe (C8 Z.1);exact Snd.of pe (rD pe λ_=>rfl) (λ_ _ _ z=>by cases z) rfl|nop=>intro X S E ok e h nd;exact(QG h).elim|lst as ih=>intro X S E ok e h nd;obtain⟨es,pos,rfl,h⟩:=pM h;have pa:=(ih ok h nd).pa es pos rfl;exact⟨yh pa,jM,λ_ _ _ z=>(by cases z),λ_ _ z=>UR,λ_ _ z=>trivial⟩|tup as ih=>intro X S E ok e h nd;obtain⟨es,k,pos,rfl,h⟩:=v9 h;exact Snd.lit (Ig ((ih ok h nd).pa es pos rfl)) rfl (λ_ _ _ z=>by cases z) rfl|dnew b=>intro X S E ok e h nd;obtain⟨ks,vs,pos,rfl,h⟩:=BR h;have Z:=yA h;cases Qw.mp Z.1;cases Qw.mp Z.2;exact Snd.lit P8 rfl (λ_ _ _ z=>by cases z) rfl|dof a W=>intro X S E ok e h nd;obtain⟨p1,es,ks,pos,rfl,hg,h⟩:=SG h;have Z:=yA h;cases Qw.mp Z.1;obtain⟨y,rfl,L⟩:=OB Z.2;have O:=yA L;exact Snd.lit (kh ok.calm (show X.env.scope.names.lookup _=some .globalImplicit by rw[ok.sc];exact(kF hg).1) (ok.no _ nd.1) (W ok O.2 nd.2).pe (SA _ O.1)) rfl (λ_ _ _ z=>by cases z) rfl|dsp a b W M =>
  intro X S E ok e h nd;obtain⟨ks,vs,pos,rfl,h⟩:=BR h;obtain⟨k,rfl,h⟩:=OB h;obtain⟨v,rfl,h⟩:=OB h;have Z:=yA h;cases k with|none=>exact(QG Z.1).elim|some k=>exact Snd.lit (O8 ok.un (W ok Z.1 nd.1).pe (M ok Z.2 nd.2).pe) rfl (λ_ _ _ z=>by cases z) rfl
 |nz=>intro X S E ok e h nd;obtain⟨es,pos,rfl,h⟩:=pM h;cases Qw.mp h;exact Snd.args JP trivial rfl rfl|ny a as W ih=>intro X S E ok e h nd;obtain⟨es,pos,rfl,h⟩:=pM h;obtain⟨e1,es1,rfl,h⟩:=tK h;have Z:=yA h;have J:=yA Z.2;have sa:=(W ok J.1 nd.1).pe;have ss:=ih ok J.2 nd.2;exact Snd.args (sI sa (ss.pa es1 pos rfl) (SA _ Z.1)) ⟨sa,ss.pas es1 pos rfl⟩ rfl rfl|bi f as ih =>
  intro X S E ok e h nd;obtain⟨p,es,ks,pos,rfl,hg,h⟩:=SG h;have Z:=yA h;cases Qw.mp Z.1;obtain⟨e1,es1,rfl,L⟩:=tK Z.2;obtain⟨g1,g2,g3⟩:=kF hg;have hg:Gl X f.nm:=show X.env.scope.names.lookup f.nm=some .globalImplicit by rw[ok.sc];exact g1
  have pa:=(ih ok L nd.2).pa _ pos rfl;have st:=yA (UE as L);have pe:PE X (.Call (.Name f.nm p) (e1::es1) [] pos) (wp X.K G.ev (.bi f as) E).e:=by
   rcases Do ok.un ok.calm f with⟨id,hb,hc⟩| ⟨T,hb,hc⟩
   exact cM (pos:=pos) (p:=p) hc hg (ok.no _ nd.1) hb pa g3 g2 (SA _ st.1) (BE st.2);exact iY (pos:=pos) (p:=p) hc hg (ok.no _ nd.1) hb pa g3 g2 (SA _ st.1) (BE st.2)
  exact Snd.of pe (rD pe λ_=>rfl) (λ_ _ _ z=>by cases z) rfl
 |isi a c W ihc =>
  intro X S E ok e h nd;obtain⟨p,es,ks,pos,rfl,hg,h⟩:=SG h;have Z:=yA h;cases Qw.mp Z.1;obtain⟨l,r,rfl,J⟩:=Gm Z.2;have L:=yA J;have O:=yA L.2;have h5:=yA O.2;obtain⟨g1,g2,g3⟩:=kF hg;have hg:Gl X "isinstance":=show X.env.scope.names.lookup ("isinstance":Str)=some .globalImplicit by rw[ok.sc];exact g1
  have pe:PE X (.Call (.Name "isinstance" p) [l,r] [] pos) (wp X.K G.ev (.isi a c) E).e :=
   cM (pos:=pos) (p:=p) V6 hg (ok.no _ nd.1) (by kernel_rfl) (sI (W ok h5.1 nd.2.1).pe (sI (ihc ok h5.2 nd.2.2).pe JP (SA _ O.1)) (SA _ L.1)) g3 g2 (SA _ L.1) (BE (by rw[qb,O.1];rfl))
  exact Snd.of pe (rD pe λ_=>rfl) (λ_ _ _ z=>by cases z) rfl
 |mt m o as iho ih =>
  intro X S E ok e h nd;obtain⟨v,ap,es,pos,rfl,J,h⟩:=TW h;have h0:=yA h;have Z:=yA h0.2;have L:=yA Z.2;have O:=yA L.2;have po:=(iho ok O.1 nd.1).pe;have pa:=(ih ok O.2 nd.2).pa _ pos rfl;have st:=UE as O.2;obtain⟨id,pat,sl,ty,mr⟩:=vn (X:=X) ok.un m;have pe:PE X (.Call (.Attribute v m.nm ap) es [] pos) (wp X.K G.ev (.mt m o as) E).e:=by
   cases es with
   |nil =>
    refine GG (vh (apos:=ap) (cpos:=pos) pat sl ty mr po (B4 Z.1) J) λB H Q q=>?_;have e:(λ(x:V) (A:Hp)=>HZ X.K m.ty x A/\N9 X.K m x [] A Q)=λ(x:V) (A:Hp)=>HZ X.K m.ty x A/\(wp X.K G.ev as E).a B A λvs H2=>N9 X.K m x vs H2 Q:=by funext x A;rw[propext (iT as h0.1 O.2)]
    show(wp X.K G.ev o E).e B H (λ(x:V) (A:Hp)=>HZ X.K m.ty x A/\N9 X.K m x [] A Q);rw[e];exact q
   |cons e1 es1=>have s2:=yA st;refine Zm (apos:=ap) (cpos:=pos) pat sl ty mr po pa (B4 Z.1) ?_ J (SA _ s2.1) (BE s2.2);rw[YT st];have hl':(e1::es1).length<20:=of_decide_eq_true L.1;show(true&&true&&decide ((e1::es1).length+0+0<30))=true;rw[dT (Qk hl' (by decide:20<=30):(e1::es1).length+0+0<30)];rfl
  exact Snd.of pe (rD pe λ_=>rfl) (λ_ _ _ z=>by cases z) rfl
 |slc a lo hi W ihl ihh =>
  intro X S E ok e h nd;obtain⟨v,sl,pos,rfl,h⟩:=CP h;obtain⟨l,u,st,p2,rfl,h⟩:=KY h;have Z:=yA h;have J:=yA Z.2;have L:=yA J.2;have part:∀(q:PX) (w:Option Expr),(∀{e:Expr},zC q S e=true->PE X e (wp X.K G.ev q E).e)->Fm w (isNop q) (λe=>!isNop q&&zC q S e)=true ->
    PO X w (λB H R=>(if isNop q=true then λ(R:Option Int->Hp->Prop)=>R none H else λR=>(wp X.K G.ev q E).e B H λl H2=>gM l H2 R) R):=by
   intro q w ihq hq;cases w with
   |none=>have e:isNop q=true:=hq;simp only[e,if_true];exact B8|some e' =>
    have q1:=yA hq;have e:isNop q=false:=(Q6 _).mp q1.1;simp only[e,Qo,if_false];intro P s B H Q I w;refine U8 (ihq q1.2) P s B H Q I ?_;show(wp X.K G.ev q E).e B H (λ(x:V) (A:Hp)=>∃i,x=.int i/\Q (some i) A);have e2:(λ(x:V) (A:Hp)=>∃i,x=.int i/\Q (some i) A)=λ(x:V) (A:Hp)=>gM x A Q:=by funext x A;exact(G3 x A Q).symm
    rw[e2];exact w
  cases QAa.mp Z.1;exact Snd.lit (J3 (pos:=pos) (p2:=p2) rg (W ok J.1 nd.1).pe (part lo l (λhc=>(ihl ok hc nd.2.1).pe) L.1) (part hi u (λhc=>(ihh ok hc nd.2.2).pe) L.2)) rfl (λ_ _ _ z=>by cases z) rfl
 |comp mask tgs tg d its cond elt ihi ihc ihe =>
  intro X S E ok e h nd;obtain⟨e,gens,scope,pos,rfl,h⟩:=JU h;obtain⟨⟨t,Y,ifs,asy⟩,rfl,h⟩:=OB h;have h0:=yA h;have hi:=yA h0.2;have Z:=yA hi.2;have J:=yA Z.2;have L:=yA J.2;have O:=yA L.2;have h5:=yA O.2;have ea:asy=0:=qZ h0.1;cases ea;have C:CompSt X.N X.env.scope scope tgs mask:=by rw[ok.N,ok.sc];exact ES Z.1
  obtain⟨n1,n2,n3,n4⟩:=nd;have pi:PI X t Y (jU λB H R=>(wp X.K G.ev its E).a B H λvs A=>JC X.K d vs A R):=tU ok O.1 n1 ((Q6 _).mp hi.1) λes p q=>ihi ok q n2;refine Snd.lit (R8 (pos:=pos) (g:=gG X.K tg) (tc:=if isNop cond=true then λ_ H Q=>Q true H else(wp X.K G.ev cond (λ_ _ _=>False)).t) (te:=(wp X.K G.ev elt (λ_ _ _=>False)).e) ok.calm pi C (λs H ex=>?_) (λx=>BU L.1 x)) rfl (λ_ _ _ z=>by cases z) rfl;have okc:=ok.comp scope tgs mask s H ex;refine⟨u3 okc (λz=>(QG z).elim) C.nd J.1,?_,(ihe okc h5.2 n4).pe⟩;have hif:=h5.1;cases ifs with|nil=>have e:isNop cond=true:=hif;simp only[e,if_true];exact UW|cons c r=>have q1:=yA hif;have q2:=yA q1.2;cases Qw.mp q1.1;have e:isNop cond=false:=(Q6 _).mp q2.1;simp only[e,Qo,if_false];exact XW (ihc okc q2.2 n3).pt
end
end L2.L3
namespace L2.L3
open PySem PySem.Spec PyProof.Rows
section
variable{s:Stmt}{f:Expr->List Stmt->List Stmt->Bool}
set_option genSizeOf false in
set_option genInjectivity false in
inductive PT where
 |nil|seq (s r:PT)
 |set (i:Nat) (e:PX)
 |expr (e:PX)|ret (e:PX)
 |ife (c:PX) (a b:PT)
 |for_ (tg:Tg) (ik:ItK) (its:PX) (body:PT)
 |own (i:Nat) (e:PX)|six (o i e:PX)|sdf (i:Nat) (k:PX)|whl (c:PX) (body:PT)|frz (is:LN) (s:PT)
def tR(K:QC):V->V->V->Hp->(Hp->Prop)->Prop:=λo i v H Q=>match o,i with
 | .ref p,.int k=>∃h j,H p=some (.lst h)/\ET h.length k=some j/\Q (BA H p (.lst (h.set j v)))|.ref p,.str z=>Rj K H p (.str z) v Q|.ref p,.ref b=>Rj K H p (.ref b) v Q|_,_=>False
def El(i:Nat)(k:PX):PX:=.mt .setd (.xz i) %[k,.dnew true|1]
def Cs(J:It)(g:TG)(tb:TS)(D:Ends)(σ:St)(w:Hp):Prop:=∃W:Nat->Nat->St->Hp->Prop,(∃m,W 0 m σ w)/\∀i m σ H,W i m σ H ->
 (J.stop i H/\D.nx σ H)∨(J.go i H/\∃N:St->Hp->Prop,(∀h y,N h y->∃u,u < m/\W (i+1) u h y)/\∀x y,J.yld i H x y->g x σ y λz v=>tb { D with nx:=N,ct:=N,bk:=D.nx } z v)
def Nj(K:QC)(xs:List Item)(st:Hp->Prop)(h:Tg)(tb:TS)(D:Ends)(σ:St)(H:Hp):Prop:=∀J,Yields J xs st->Cs J (gG K h) tb D σ H
noncomputable def yR(K:QC)(Γ:Ev)(E:XK):PT->TS
 | .nil=>λD h H=>D.nx h H|.seq s r=>λD h H=>yR K Γ E s { D with nx:=λh H=>yR K Γ E r D h H } h H|.set i e=>λD h H=>(wp K Γ e E).e h H λx y=>D.nx (h.set i (some x)) y|.own i e=>λD h H=>(wp K Γ e E).e h H λx y=>D.nx (h.set i (some x)) y|.expr e=>λD h H=>(wp K Γ e E).e h H λ_ y=>D.nx h y|.ret e=>λD h H=>(wp K Γ e E).e h H D.rt|.ife c a b=>λD h H=>(wp K Γ c E).t h H λk y=>if k=true then yR K Γ E a D h y else yR K Γ E b D h y|.for_ l p u z=>λD h H=>(wp K Γ u E).a h H λj y=>JC K p j y λg st w=>Nj K g st l (yR K Γ E z) D h w|.six o i e=>λD h H=>(wp K Γ e E).e h H λv y=>(wp K Γ o E).e h y λm w=>(wp K Γ i E).e h w λn X=>tR K m n v X λq=>D.nx h q|.sdf i k=>λD h H=>(wp K Γ (El i k) E).e h H λ_ y=>D.nx h y|.whl c z=>C0 (wp K Γ c E).t (yR K Γ E z)|.frz _ s=>yR K Γ E s
noncomputable def AE(G:Glob):PT->Prop
 | .nil=>True|.seq s r=>AE G s/\AE G r|.set _ e=>IA G e|.own _ e=>IA G e|.six o i e=>IA G o/\IA G i/\IA G e|.sdf i k=>IA G (El i k)|.whl c h=>IA G c/\AE G h|.frz _ s=>AE G s|.expr e=>IA G e|.ret e=>IA G e|.ife c a b=>IA G c/\AE G a/\AE G b|.for_ _ y x h=>Hn G y/\IA G x/\AE G h
def UH:Expr->Bool
 | .ListComp _ _ _ _ | .SetComp _ _ _ _ | .DictComp _ _ _ _ _=>false
 |_=>true
def dP(S:SC)(i:Nat)(x:Str):Bool:=S.N[i]?==some x&&(S.sc.names.lookup x==some .local||S.sc.names.lookup x==some .cell)
def fX:PT->Bool
 | .nil=>false|.seq _ _=>false|.frz _ s=>fX s|_=>true
def HW(s:Stmt)(f:List Expr->Expr->Bool):Bool:=match s with | .Assign h v _=>f h v|_=>false
def oh(s:Stmt)(f:Expr->Bool):Bool:=match s with | .Expr v _=>f v|_=>false
def Xc(s:Stmt)(f:Option Expr->Bool):Bool:=match s with | .Return v _=>f v|_=>false
def Uc(s:Stmt)(f:Expr->List Stmt->List Stmt->Bool):Bool:=match s with | .If t x y _=>f t x y|_=>false
def Bc(s:Stmt)(f:Expr->Expr->List Stmt->List Stmt->Pos->Bool):Bool:=match s with | .For t it x y p=>f t it x y p|_=>false
def Cm(s:Stmt)(f:Expr->List Stmt->List Stmt->Bool):Bool:=match s with | .While t x y _=>f t x y|_=>false
theorem FP{f:List Expr->Expr->Bool}(h:HW s f=true):∃ts v p,s=.Assign ts v p/\f ts v=true:=by
 cases s with|Assign ts v p=>exact⟨ts,v,p,rfl,h⟩|_=>exact(QG h).elim
theorem A3{f:Expr->Bool}(h:oh s f=true):∃v p,s=.Expr v p/\f v=true:=by
 cases s with|Expr v p=>exact⟨v,p,rfl,h⟩|_=>exact(QG h).elim
theorem x9{f:Option Expr->Bool}(h:Xc s f=true):∃v p,s=.Return v p/\f v=true:=by
 cases s with|Return v p=>exact⟨v,p,rfl,h⟩|_=>exact(QG h).elim
theorem u9(h:Uc s f=true):∃t x y p,s=.If t x y p/\f t x y=true:=by
 cases s with|If t x y p=>exact⟨t,x,y,p,rfl,h⟩|_=>exact(QG h).elim
theorem b9{f:Expr->Expr->List Stmt->List Stmt->Pos->Bool}(h:Bc s f=true):∃t it x y p,s=.For t it x y p/\f t it x y p=true:=by
 cases s with|For t it x y p=>exact⟨t,it,x,y,p,rfl,h⟩|_=>exact(QG h).elim
theorem lh(h:Cm s f=true):∃t x y p,s=.While t x y p/\f t x y=true:=by
 cases s with|While t x y p=>exact⟨t,x,y,p,rfl,h⟩|_=>exact(QG h).elim
def setB(S:SC)(i:Nat)(c:Expr->Bool)(l:List Stmt):Bool:=iN l λst=>HW st λh v=>iN h λt=>XH t λx _=>dP S i x&&((UH v||S.sc.names.lookup x==some .cell)&&c v)
def yd:PX->Bool
 | .comp _ _ _ _ _ _ _=>true|_=>false
noncomputable def gW(S:SC)(i:Nat)(e:PX)(l:List Stmt):Bool:=iN l λst=>HW st λy v=>iN y λt=>XH t λx z=>nh v λw u sc h=>Ah S i x&&(S.sc.kind==.function&&(z.line==h.line&&(!(sc.names.any λ(n,k)=>n==x&&(k==.local||k==.cell))&&(yd e&&zC e S (.ListComp w u sc h)))))
noncomputable def UQ:PT->SC->List Stmt->Bool
 | .nil,_,l=>l.isEmpty|.seq s r,S,l=>d9 l λst l=>fX s&&(UQ s S [st]&&UQ r S l)|.set i e,S,l=>setB S i (zC e S) l||gW S i e l
 | .own i e,S,l=>setB S i (zC e S) l||gW S i e l
 | .frz _ s,S,l=>UQ s S l|.expr e,S,l=>iN l λst=>oh st λv=>UH v&&zC e S v|.ret e,S,l=>iN l λst=>Xc st λv=>Fm v false (zC e S)|.ife c a b,S,l=>iN l λst=>Uc st λt x y=>zC c S t&&(UQ a S x&&UQ b S y)|.for_ tg ik its body,S,l=>iN l λst=>Bc st λt it x y h=>y.isEmpty&&(Jq true S tg t&&(MR it&&(Tp (zF its) S ik (λg p=>zC its S (.List g p)) t it h&&UQ body S x)))|.six o i e,S,l=>iN l λst=>HW st λu v=>iN u λt=>FW t λw z _=>PP z&&(UH v&&(zC e S v&&(zC o S w&&zC i S z)))|.sdf i k,S,l=>iN l λst=>oh st λv=>UH v&&zC (El i k) S v|.whl c body,S,l=>iN l λst=>Cm st λt x y=>y.isEmpty&&(zC c S t&&UQ body S x)
structure OkS(X:Cx)(S:SC)(G:Glob)(E:XK):Prop extends OkX X S G E where
 po:PassesOwn (model X.prog X.w) X.A X.env X.xe
 nd:X.N.Nodup
 cel:∀x,X.fn x=true
end
section
variable{X:Cx}{S:SC}{G:Glob}{E:XK}
section
variable{i:Nat}{x:Str}{e:PX}
theorem NP{e:Expr}{t:Option Expr}{n:Nat}{env:Env}(h:UH e=true):swapsWith e t n env=pure false:=by cases e<;>first|rfl|cases h
theorem V1(n:X.A.units+66<cLine):Gb X (tR X.K):=by
 intro y s w H o i v l m u Q I f g a h;cases o with
 |ref p =>
  cases i with|int k=>obtain⟨r,j,Z,Y,q⟩:=h;exact U1 y s w H _ _ v l m u Q I f g a ⟨p,r,k,j,rfl,rfl,Z,Y,q⟩|str z=>exact sR n y s w H _ _ v l m u Q I f g a h|ref b=>exact sR n y s w H _ _ v l m u Q I f g a h|_=>exact Qd h
 |_=>exact Qd h
theorem vY(ok:OkX X S G E)(h:dP S i x=true):X.N[i]?=some x/\Xk X.env.scope x:=by simp only[dP,Qa,wZ,beq_iff_eq]at h;rw[ok.N,ok.sc];exact⟨h.1,h.2⟩
theorem aY(ok:OkS X S G E){v:Expr}{u pos:Pos}(g:dP S i x=true)(w:(UH v||S.sc.names.lookup x==some .cell)=true)(pe:PE X v (wp X.K G.ev e E).e) :
  PS X (.Assign [.Name x u] v pos) (yR X.K G.ev E (.set i e)):=by
 obtain⟨l,j⟩:=vY ok.toOkX g;refine Hg (pos':=u) ok.nd l j pe ?_ (.inl (ok.cel x));cases z:UH v with
 |true=>exact NP z|false =>
  rw[z,QAi,beq_iff_eq,<- ok.sc]at w;have hk:X.env.kindOf x=some .cell:=w;have key:∀(b c:Bool) (y h:Nat),(pure (b&&X.env.kindOf x==some .local&&y==h&&!c):Sem Bool)=pure false:=λb c y h=>by
   rw[hk];have:(b&&(some NameKind.cell==some NameKind.local)&&y==h&&!c)=false:=by cases b<;>rfl
   rw[this]
  cases v with|ListComp m a sc f=>exact key _ _ _ _|SetComp m a sc f=>exact key _ _ _ _|DictComp k v a sc f=>exact key _ _ _ _|_=>cases z
theorem ma(h:yd e=true):∃a b c d f g k,e=.comp a b c d f g k:=by
 cases e with|comp a b c d f g k=>exact⟨a,b,c,d,f,g,k,rfl⟩|_=>exact(QG h).elim
theorem Mg(ok:OkS X S G E){l:List Stmt}(h:gW S i e l=true)(nd:IA G e):∃st,l=[st]/\PS X st (yR X.K G.ev E (.set i e)):=by
 obtain⟨st,e1,q1⟩:=OB h;obtain⟨ts,v,p,e2,q2⟩:=FP q1;obtain⟨t,e3,q3⟩:=OB q2;obtain⟨x,px,e4,q4⟩:=pE q3;obtain⟨el,gs,sc,cp,e5,q5⟩:=JU q4;subst e1 e2 e3 e4 e5;have L:=yA q5;have J:=yA L.2;have I:=yA J.2;have F:=yA I.2;have B:=yA F.2;obtain⟨u,a,tg,ik,o,y,j,rfl⟩:=ma B.1;refine⟨_,rfl,?_⟩;have h6:=B.2;obtain⟨el',O,m,pos,ee,g⟩:=JU h6;cases ee;obtain⟨⟨t,it,Y,Z⟩,rfl,g⟩:=OB g;have g0:=yA g;have M:=yA g0.2;have g1:=yA M.2;have g2:=yA g1.2;have g3:=yA g2.2;have R:=yA g3.2;have P:=yA R.2;have ea:Z=0:=qZ g0.1;cases ea;have C:CompSt X.N X.env.scope sc a u:=by rw[ok.N,ok.sc];exact ES g1.1
 obtain⟨n1,n2,n3,n4⟩:=nd;obtain⟨l1,l2⟩:=T9 L.1;have b:X.env.scope.names.lookup x=some .local:=by rw[ok.sc];exact l2
 refine V8 (g:=gG X.K tg) (tc:=if isNop y=true then λ_ H Q=>Q true H else(wp X.K G.ev y (λ_ _ _=>False)).t) (te:=(wp X.K G.ev j (λ_ _ _=>False)).e) ok.calm ok.nd (by rw[ok.N];exact l1) b (tU ok.toOkX (pos:=cp) R.1 n1 ((Q6 _).mp M.1) λes p q=>snd o ok.toOkX q n2) C (λs H ex=>?_) (λx=>BU g3.1 x) ?_;have w:=ok.toOkX.comp sc a u s H ex;refine⟨u3 w (λz=>(QG z).elim) C.nd g2.1,?_,(snd j w P.2 n4).pe⟩;have f:=P.1;cases Y with|nil=>have e:isNop y=true:=f;simp only[e,if_true];exact UW|cons c r=>have A:=yA f;have W:=yA A.2;cases Qw.mp A.1;have e:isNop y=false:=(Q6 _).mp W.1;simp only[e,Qo,if_false];exact XW (snd y w W.2 n3).pt
 have k1:X.env.scope.kind=.function:=by rw[ok.sc];exact qZ J.1
 have k2:(X.env.blockKind==.function)=true:=by simp[Env.blockKind,k1,ScopeKind.isAnnotationScope]
 have k3:(X.env.kindOf x==some .local)=true:=by show(X.env.scope.names.lookup x==some .local)=true;rw[b];rfl
 show(pure (X.env.blockKind==.function&&X.env.kindOf x==some .local&&px.line==cp.line&&!(sc.names.any λ(n,k)=>n==x&&(k==.local||k==.cell))):Sem Bool)=pure true;rw[k2,k3,I.1,F.1];rfl
theorem Lq:∀(p:PT) {l:List Stmt},OkS X S G E->UQ p S l=true->AE G p->RV X l (yR X.K G.ev E p)/\(fX p=true->∀st,l=[st]->PS X st (yR X.K G.ev E p)):=by
 intro p;have one:∀{p:PT}{st:Stmt},PS X st (yR X.K G.ev E p)->RV X [st] (yR X.K G.ev E p)/\(fX p=true->∀g,[st]=[g]->PS X g (yR X.K G.ev E p)):=λh=>⟨YW h,λ_ g e=>by cases e;exact h⟩
 have f:∀{i:Nat}{e:PX}{l:List Stmt},OkS X S G E->(setB S i (zC e S) l||gW S i e l)=true->IA G e->∃st,l=[st]/\PS X st (yR X.K G.ev E (.set i e)):=λ{i e l} ok h nd=>by
  rcases(wZ _ _).mp h with h|h
  rotate_left
  exact Mg ok h nd;obtain⟨st,N,W⟩:=OB h;obtain⟨H,v,p,M,Z⟩:=FP W;obtain⟨t,L,q3⟩:=OB Z;obtain⟨x,px,J,Y⟩:=pE q3;subst N M L J;have z:=yA Y;have u:=yA z.2;exact⟨_,rfl,aY ok z.1 u.1 (snd e ok.toOkX u.2 nd).pe⟩
 induction p with
 |nil=>intro l ok h nd;cases Qw.mp h;exact⟨K8,λh=>(QG h).elim⟩|seq s r B C=>intro l ok h nd;obtain⟨st,l,rfl,h⟩:=tK h;have z:=yA h;have u:=yA z.2;exact⟨G2 ((B ok u.1 nd.1).2 z.1 st rfl) (C ok u.2 nd.2).1,λh=>(QG h).elim⟩|set i e=>intro l ok h nd;obtain⟨st,rfl,q⟩:=f ok h nd;exact one q|own i e=>intro l ok h nd;obtain⟨st,rfl,q⟩:=f ok h nd;exact one q|expr e=>intro l ok h nd;obtain⟨st,rfl,h⟩:=OB h;obtain⟨v,p,rfl,h⟩:=A3 h;have z:=yA h;exact one (KW (snd e ok.toOkX z.2 nd).pe (NP z.1))|ret e =>
  intro l ok h nd;obtain⟨st,rfl,h⟩:=OB h;obtain⟨v,p,rfl,h⟩:=x9 h;cases v with|none=>exact(QG h).elim|some v=>exact one (O2 (snd e ok.toOkX h nd).pe)
 |ife c a b I F=>intro l ok h nd;obtain⟨st,rfl,h⟩:=OB h;obtain⟨t,x,y,p,rfl,h⟩:=u9 h;have z:=yA h;have u:=yA z.2;exact one (im (snd c ok.toOkX z.1 nd.1).pt (I ok u.1 nd.2.1).1 (F ok u.2 nd.2.2).1)|for_ tg ik A n j=>intro l ok h nd;obtain⟨st,rfl,h⟩:=OB h;obtain⟨t,it,x,y,p,rfl,h⟩:=b9 h;have R:=yA h;have z:=yA R.2;have u:=yA z.2;have m:=yA u.2;cases Qw.mp R.1;exact one (Lg ok.po ok.calm (G8 ok.toOkX m.1 nd.1 λes p q=>snd A ok.toOkX q nd.2.1) (u3 ok.toOkX (λ_=>ok.cel) ok.nd z.1) (j ok m.2 nd.2.2).1 λx=>BU u.1 x)|six o i e =>
  intro l ok h nd;obtain⟨st,N,W⟩:=OB h;obtain⟨H,v,p,M,Z⟩:=FP W;obtain⟨t,L,h⟩:=OB Z;subst N M L;obtain⟨ov,P,O,J,Y⟩:=CP h;subst J;have z:=yA Y;have u:=yA z.2;have m:=yA u.2;have Q:=yA m.2;refine one (Ng (snd e ok.toOkX m.1 nd.2.2).pe (Ag (pos:=O) (snd o ok.toOkX Q.1 nd.1).pe (snd i ok.toOkX Q.2 nd.2.1).pe (V1 ok.un) ?_) ?_ ?_ ?_);intro w;cases P<;>first|rfl|exact(QG z.1).elim
  show swapsWith v (some (.Subscript ov P O)) p.line X.env=pure false;exact NP u.1;cases v<;>rfl;rfl
 |sdf i k=>intro l ok h nd;obtain⟨st,rfl,h⟩:=OB h;obtain⟨v,p,rfl,h⟩:=A3 h;have z:=yA h;exact one (KW (snd (El i k) ok.toOkX z.2 nd).pe (NP z.1))|whl c n j=>intro l ok h nd;obtain⟨st,rfl,h⟩:=OB h;obtain⟨t,x,y,p,rfl,h⟩:=lh h;have z:=yA h;have u:=yA z.2;cases Qw.mp z.1;exact one (N2 ok.po (snd c ok.toOkX u.1 nd.1).pt (j ok u.2 nd.2).1)|frz is s j=>intro l ok h nd;exact j ok h nd
end
end
noncomputable abbrev D:=PyData
set_option genInjectivity true in
inductive T where
 |d (x:D)|lst (ts:List T)|tup (ts:List T)|dct (b:Bool) (ks:List D) (ts:List T)
abbrev LT:=List T
mutual
def T.er:T->D
 | .d x=>x|.lst h=>.list (ersT h)|.tup h=>.tuple (ersT h)|.dct _ y h=>.dict (y.zip (ersT h))
def ersT:LT->List D
 |[]=>[]|t::r=>t.er::ersT r
end
theorem pB(ds:List D):ersT (ds.map T.d)=ds:=by
 induction ds with|nil=>rfl|cons d r h=>simp only[QU,ersT,h,T.er]
theorem z6:∀(ts:LT),(ersT ts).length=ts.length
 |[]=>rfl|t::r=>by simp only[ersT,QM,z6 r]
theorem YQ:∀(ts:LT),ersT ts=ts.map T.er
 |[]=>rfl|t::r=>by simp only[ersT,QU,YQ r]
def T.isD:T->Bool
 | .d _=>true|_=>false
set_option genInjectivity true in
inductive Sl where
 |own (t:T)|ky (t:T)
noncomputable abbrev kA:=List (Option Sl)
abbrev bD(x:D):Option Sl:=some (.ky (.d x))
abbrev oW(t:T):Option Sl:=some (.own t)
def HH(t:T)(n:Bool):Bool:=n||t.isD
def oA(t:T):Bool->T
 |true=>.d t.er|false=>t
theorem pA(x:D)(n:Bool):oA (.d x) n=.d x:=by cases n<;>rfl
theorem oX(t:T)(n:Bool):(oA t n).er=t.er:=by cases n<;>rfl
def BF:LT->Option (List D)
 |[]=>some []|.d x::r=>(BF r).map (x::·)|_::_=>none
theorem iA(ds:List D):BF (ds.map T.d)=some ds:=by
 induction ds with|nil=>rfl|cons d r h=>simp only[QU,BF,h,Q1]
theorem UL:∀{ts:LT}{ds:List D},BF ts=some ds->ts=ds.map T.d
 |[],ds,h=>by simp only[BF,Qm]at h;subst h;rfl|.d x::r,ds,h=>by
  simp only[BF]at h;cases e:BF r with|none=>rw[e]at h;cases h|some y=>rw[e]at h;cases h;rw[QU,UL e]
 | .lst _::_,_,h=>by simp[BF]at h|.tup _::_,_,h=>by simp[BF]at h|.dct _ _ _::_,_,h=>by simp[BF]at h
def eD:List (D×D)->Option Bool
 | (.tuple _,_)::_=>some true|(.str _,_)::_=>some false|_=>none
def HD:Bool->D->Prop
 |true,k=>∃q,k=tD (.t q)/\D4 (.t q)<=6|false,k=>∃z,k=.str z
open Classical in
def bA:List D->D->Option Nat
 |[],_=>none|x::r,k=>if x=k then some 0 else(bA r k).map (·+1)
def YH(b:Bool)(ks:List D)(ts:LT)(k:D)(t:T):T:=match bA ks k with
 |some n=>.dct b ks (ts.set n t)|none=>.dct b (ks++[k]) (ts++[t])
theorem nC:∀{ks:List D}{k:D}{n:Nat},bA ks k=some n->ks[n]?=some k
 |[],_,_,h=>by cases h|x::r,k,n,h=>by
  unfold bA at h;by_cases e:x=k;rw[if_pos e]at h;cases h;rw[e];rfl;rw[if_neg e]at h;cases q:bA r k with|none=>rw[q]at h;cases h|some m=>rw[q]at h;cases h;simpa using nC q
theorem XA:∀{ks:List D}{k:D},bA ks k=none↔k∉ks
 |[],_=>by simp[bA]|x::r,k=>by unfold bA;by_cases e:x=k;simp[e];rw[if_neg e,Option.map_eq_none_iff,XA];simp[qB e]
theorem HM{ks:List D}{k:D}:(bA ks k).isSome=true↔k∈ks:=by
 cases h:bA ks k with|none=>simp[XA.mp h]|some n=>simp[Q4 (nC h)]
set_option genInjectivity true in
inductive Vw where
 |sc (x:D)|ls (ts:LT)|tp (ts:LT)|dc (b:Bool) (ks:List D) (ts:LT)
def uC(kvs:List (D×D)):Vw:=match eD kvs with
 |some b=>.dc b (kvs.map (·.1)) (kvs.map λp=>T.d p.2)|none=>.sc (.dict kvs)
noncomputable def T.vw:T->Vw
 | .lst h=>.ls h|.tup h=>.tp h|.dct b u h=>.dc b u h|.d x=>match x with
  | .list z=>.ls (z.map T.d)|.tuple z=>.tp (z.map T.d)|.dict y=>uC y|.none=>.sc .none|.bool b=>.sc (.bool b)|.int i=>.sc (.int i)|.str s=>.sc (.str s)
def YF(ts:LT):T:=match BF ts with
 |some h=>.d (.tuple h)|none=>.tup ts
noncomputable abbrev XD:=Value×List (Str×D)
noncomputable abbrev XE:=XD->Prop
noncomputable abbrev TK:=T->Bool->kA->Prop
inductive Md where
 |xx|xy|ky|chg
 deriving DecidableEq
structure PSp where
 md:List Md
 run:LT->(T->LT->Prop)->XE->Prop
 mono:∀{ts:LT}{Q Q':T->LT->Prop}{E E':XE},(∀t os,Q t os->Q' t os)->(∀x,E x->E' x)->run ts Q E->run ts Q' E'
structure PEv where
 sp:Str->PSp
 va:Str->Option D
def binT(w:Operator)(x y:Vw)(Q:T->Bool->Prop):Prop:=match w with
 | .Add=>(∃i j,x=.sc (.int i)/\y=.sc (.int j)/\Q (.d (.int (i+j))) false)∨(∃a b,x=.sc (.str a)/\y=.sc (.str b)/\a.length+b.length<=sizeLine/\Q (.d (.str (a++b))) false) ∨
  (∃v u z h,x=.ls v/\y=.ls u/\BF v=some z/\BF u=some h/\z.length+h.length<=sizeLine/\Q (.lst ((z++h).map T.d)) true)
 | .Sub=>∃i j,x=.sc (.int i)/\y=.sc (.int j)/\Q (.d (.int (i - j))) false|.Mult=>(∃i j,x=.sc (.int i)/\y=.sc (.int j)/\IntMulOk i j/\Q (.d (.int (i * j))) false)∨(∃a k,x=.sc (.str a)/\y=.sc (.int k)/\(-(2 ^ 31)<=k/\k<2 ^ 31/\a.length * k.toNat<=sizeLine)/\Q (.d (.str (CJ a k))) false)|.FloorDiv=>∃i j,x=.sc (.int i)/\y=.sc (.int j)/\(0<j/\j<2 ^ 200)/\Q (.d (.int (i / j))) false|.Mod=>∃i j,x=.sc (.int i)/\y=.sc (.int j)/\0<j/\Q (.d (.int (i % j))) false|_=>False
section
variable{Q:T->Bool->Prop}
theorem Yj(i j:Int):binT .Add (.sc (.int i)) (.sc (.int j)) Q=Q (.d (.int (i+j))) false:=by simp[binT]
theorem Jj(a b:Str):binT .Add (.sc (.str a)) (.sc (.str b)) Q=(a.length+b.length<=sizeLine/\Q (.d (.str (a++b))) false):=by simp[binT]
theorem ij(xs h:LT):binT .Add (.ls xs) (.ls h) Q=∃ds es,BF xs=some ds/\BF h=some es/\ds.length+es.length<=sizeLine/\Q (.lst ((ds++es).map T.d)) true:=by simp[binT]
theorem sj(i j:Int):binT .Sub (.sc (.int i)) (.sc (.int j)) Q=Q (.d (.int (i - j))) false:=by simp[binT]
theorem rj(i j:Int):binT .Mult (.sc (.int i)) (.sc (.int j)) Q=(IntMulOk i j/\Q (.d (.int (i * j))) false):=by simp[binT]
theorem pj(a:Str)(k:Int):binT .Mult (.sc (.str a)) (.sc (.int k)) Q=((-(2 ^ 31)<=k/\k<2 ^ 31/\a.length * k.toNat<=sizeLine)/\Q (.d (.str (CJ a k))) false):=by simp[binT]
theorem oj(i j:Int):binT .FloorDiv (.sc (.int i)) (.sc (.int j)) Q=((0<j/\j<2 ^ 200)/\Q (.d (.int (i / j))) false):=by simp[binT]
theorem nj(i j:Int):binT .Mod (.sc (.int i)) (.sc (.int j)) Q=(0<j/\Q (.d (.int (i % j))) false):=by simp[binT]
end
section
variable{Q:T->Prop}
def yq:D->D->(Bool->Prop)->Prop
 | .int i,.int j,Q=>Q (decide (i=j))|.str x,.str y,Q=>Q (decide (x=y))|.bool x,.bool y,Q=>Q (decide (x=y))|a,b,Q=>TF a/\TF b/\Q (Qu a b)
def PB:D->Bool
 | .none | .bool _ | .int _ | .str _=>true
 |_=>false
noncomputable def Ap:D->D->(Bool->Prop)->Prop
 | .str x,.str y,Q=>Q (inStr y x)|a,.list ds,Q|a,.tuple ds,Q=>((PB a=true/\ds.all PB=true)∨(TF a/\TF (.list ds)))/\Q (ds.any λy=>Qu y a)
 |a,.dict kvs,Q=>∃b,eD kvs=some b/\HD b a/\Q (bA (kvs.map (·.1)) a).isSome|_,_,_=>False
def JY(f:Int->Int->Bool):D->D->(Bool->Prop)->Prop
 | .int i,.int j,Q=>Q (f i j)|_,_,_=>False
def F5:D->Bool
 | .none=>true|_=>false
def vZ:D->D->(Bool->Prop)->Prop
 |a,.none,Q=>Q (F5 a)|.bool a,.bool b,Q=>Q (decide (a=b))|_,_,_=>False
noncomputable def rZ:CmpOp->D->D->(Bool->Prop)->Prop
 | .Eq,a,b,Q=>yq a b Q|.NotEq,a,b,Q=>yq a b λk=>Q (!k)|.Lt,a,b,Q=>JY (λi j=>decide (i<j)) a b Q|.LtE,a,b,Q=>JY (λi j=>decide (i<=j)) a b Q|.Gt,a,b,Q=>JY (λi j=>decide (j<i)) a b Q|.GtE,a,b,Q=>JY (λi j=>decide (j<=i)) a b Q|.In,a,b,Q=>Ap a b Q|.NotIn,a,b,Q=>Ap a b λk=>Q (!k)|.Is,a,b,Q=>vZ a b Q|.IsNot,a,b,Q=>vZ a b λk=>Q (!k)
def yb(h:CmpOp)(x:D)(y:T)(Q:Bool->Prop):Prop:=match y with
 | .dct b u _=>HD b x/\((h=.In/\Q (bA u x).isSome)∨(h=.NotIn/\Q (!(bA u x).isSome)))|.d y=>rZ h x y Q|.lst z=>rZ h x (.list (ersT z)) Q|.tup z=>rZ h x (.tuple (ersT z)) Q
def jI:D->(Bool->Prop)->Prop
 | .bool b,Q=>Q b|.int i,Q=>Q (i != 0)|.none,Q=>Q false|.str z,Q=>z.length<=sizeLine/\Q ((z.length:Int) != 0)|.list ds,Q=>Q (!ds.isEmpty)|.tuple ds,Q=>Q (!ds.isEmpty)|_,_=>False
def Vj:D->(Bool->Prop)->Prop
 | .bool b,Q=>Q b|_,_=>False
def MS(x:Vw)(k:D)(Q:T->Prop):Prop:=∃b y h n t,x=.dc b y h/\HD b k/\bA y k=some n/\h[n]?=some t/\Q t
def VN(x y:Vw)(Q:T->Prop):Prop:=(∃z i c,x=.sc (.str z)/\y=.sc (.int i)/\z.length<=sizeLine/\fE z.cps.toList i=some c/\Q (.d (.str ⟨#[c]⟩))) ∨
 (∃h i t,x=.ls h/\y=.sc (.int i)/\fE h i=some t/\Q t)∨(∃h i t,x=.tp h/\y=.sc (.int i)/\fE h i=some t/\Q t)
theorem Ui(z:Str)(i:Int):VN (.sc (.str z)) (.sc (.int i)) Q=(z.length<=sizeLine/\∃c,fE z.cps.toList i=some c/\Q (.d (.str ⟨#[c]⟩))):=by simp[VN]
theorem M5(ts:LT)(i:Int):VN (.ls ts) (.sc (.int i)) Q=∃t,fE ts i=some t/\Q t:=by simp[VN]
theorem Xi(ts:LT)(i:Int):VN (.tp ts) (.sc (.int i)) Q=∃t,fE ts i=some t/\Q t:=by simp[VN]
def xF{α:Type}(xs:List α)(h x:Option Int):List α:=(xs.drop (HT.sIx xs.length 0 h)).take (HT.sIx xs.length xs.length x - HT.sIx xs.length 0 h)
def HL(x:Vw)(u v:Option Int)(Q:T->Bool->Prop):Prop:=(∃z,x=.sc (.str z)/\z.length<=sizeLine/\Q (.d (.str (wo z u v))) false)∨(∃y h,x=.ls y/\BF y=some h/\Q (.lst ((xF h u v).map T.d)) true) ∨
 (∃y h,x=.tp y/\BF y=some h/\¬ (HT.sIx h.length 0 u=0/\HT.sIx h.length h.length v=h.length)/\Q (.d (.tuple (xF h u v))) false)
end
section
variable{Q:T->Bool->Prop}{h x:Option Int}
theorem lg(z:Str):HL (.sc (.str z)) h x Q=(z.length<=sizeLine/\Q (.d (.str (wo z h x))) false):=by simp[HL]
theorem gg(ts:LT):HL (.ls ts) h x Q=∃ds,BF ts=some ds/\Q (.lst ((xF ds h x).map T.d)) true:=by simp[HL]
end
def RF:D->(Option Int->Prop)->Prop
 | .int i,Q=>Q (some i)|_,_=>False
noncomputable def isD(n:String):D->Option Bool
 | .none=>some false|.bool _=>some (n == "bool" || n == "int")
 | .int _=>some (n == "int")|.str _=>some (n == "str")|.list _=>some (n == "list")|.tuple _=>some (n == "tuple")|.dict _=>none
def dX(n:String):Bool:=n == "bool" || n == "int" || n == "str" || n == "list" || n == "tuple" || n == "ValueError"
def IC(l:LS):D:=.list (l.map PyData.str)
def FX(f:Bi)(vs:List Vw)(Q:T->Bool->Prop):Prop:=match f with
 | .len=>(∃z,vs=[.sc (.str z)]/\z.length<=sizeLine/\Q (.d (.int z.length)) false)∨(∃h,vs=[.ls h]/\Q (.d (.int h.length)) false)∨(∃h,vs=[.tp h]/\Q (.d (.int h.length)) false)|.any=>∃h,∃bs:List Bool,vs=[.ls h]/\BF h=some (bs.map PyData.bool)/\Q (.d (.bool (bs.any id))) false|.sorted=>(∃h,∃v:LS,vs=[.ls h]/\BF h=some (v.map PyData.str)/\v.length<64/\∀x:LS,x.Perm v->sortedS x=true->Q (.lst ((x.map PyData.str).map T.d)) true) ∨
  (∃h,∃ls:List (LS),vs=[.ls h]/\BF h=some (ls.map IC)/\ls.length<64/\∀u:List (LS),u.Perm ls->Q (.lst ((u.map IC).map T.d)) true) ∨
  (∃h,∃w:LI,vs=[.ls h]/\BF h=some (w.map PyData.int)/\w.length<64/\∀y:LI,y.Perm w->y.Pairwise (·<=·)->Q (.lst ((y.map PyData.int).map T.d)) true)
 | .tuple=>∃h k,vs=[.ls h]/\BF h=some k/\Q (.d (.tuple k)) false|.int=>∃b:Bool,vs=[.sc (.bool b)]/\Q (.d (.int (if b then 1 else 0))) false
section
variable{Q:T->Bool->Prop}
theorem ze(ts:LT):FX .len [.ls ts] Q=Q (.d (.int ts.length)) false:=by simp[FX]
theorem Go(ts:LT):FX .any [.ls ts] Q=∃bs:List Bool,BF ts=some (bs.map PyData.bool)/\Q (.d (.bool (bs.any id))) false:=by simp[FX]
theorem ye(ts:LT):FX .tuple [.ls ts] Q=∃ds,BF ts=some ds/\Q (.d (.tuple ds)) false:=by simp[FX]
theorem Fo(b:Bool):FX .int [.sc (.bool b)] Q=Q (.d (.int (if b then 1 else 0))) false:=by simp[FX]
end
section
variable{N:T->T->Prop}
def lr(m:Mt)(x:Vw)(vs:List Vw)(Q:T->Bool->Prop):Prop:=match m with
 |_=>False
def Vw.isS:Vw->Bool
 | .sc (.str _)=>true|_=>false
def isMut:Mt->Bool
 | .append=>true|.pop=>true|.setd=>true|.extend=>true
def M9(m:Mt)(x:Vw):Bool:=x.isS&&!isMut m
def MK(m:Mt)(s:T)(us:LT)(N:T->T->Prop):Prop:=match m with
 | .append=>∃h t,s=.lst h/\us=[t]/\h.length<sizeLine/\N (.d .none) (.lst (h++[t]))|.pop=>∃h i k t,s=.lst h/\us=[.d (.int i)]/\ET h.length i=some k/\h[k]?=some t/\N t (.lst (h.eraseIdx k))|.extend=>∃h x,s=.lst h/\us=[.lst x]/\h.length+x.length<=sizeLine/\N (.d .none) (.lst (h++x))|_=>False
theorem T4(ts:LT)(t:T):MK .append (.lst ts) [t] N=(ts.length<sizeLine/\N (.d .none) (.lst (ts++[t]))):=by simp[MK]
theorem P4(ts vs:LT):MK .extend (.lst ts) [.lst vs] N=(ts.length+vs.length<=sizeLine/\N (.d .none) (.lst (ts++vs))):=by simp[MK]
theorem R4(ts:LT)(i:Int):MK .pop (.lst ts) [.d (.int i)] N=∃k t,ET ts.length i=some k/\ts[k]?=some t/\N t (.lst (ts.eraseIdx k)):=by simp[MK]
def yV:Mt->Bool
 | .append=>true|.pop=>true|.setd=>false|.extend=>true
def JI(m:Mt):T->Bool
 | .lst _=>yV m|_=>false
def Vw.seq:Vw->Option (LT)
 | .ls h=>some h|.tp h=>some h|_=>none
def FB(u:ItK)(vs:List Vw)(R:LT->Prop):Prop:=match u with
 | .val=>(∃h,vs=[.ls h]/\R h)∨(∃h,vs=[.tp h]/\R h)∨(∃y h,vs=[.dc true y h]/\R (y.map T.d))|.rng1=>∃j,vs=[.sc (.int j)]/\(-(2 ^ 62)<=j/\j<2 ^ 62)/\R ((Qs j.toNat).map λ(i:Nat)=>.d (.int (i:Int)))|.enum=>∃x h z,vs=[x]/\x.seq=some h/\BF h=some z/\R (z.zipIdx.map λp=>.d (.tuple [.int (p.2:Int),p.1]))|.itm=>(∃y h z,vs=[.dc true y h]/\BF h=some z/\R ((y.zip z).map λp=>.d (.tuple [p.1,p.2])))∨(vs=[.sc (.dict [])]/\R [])
end
section
variable{R:LT->Prop}
theorem UI(ts:LT):FB .val [.ls ts] R=R ts:=by simp[FB]
theorem B5(ts:LT):FB .val [.tp ts] R=R ts:=by simp[FB]
theorem U5(j:Int):FB .rng1 [.sc (.int j)] R=((-(2 ^ 62)<=j/\j<2 ^ 62)/\R ((Qs j.toNat).map λ(i:Nat)=>.d (.int (i:Int)))):=by simp[FB]
theorem aS(x:Vw):FB .enum [x] R=∃ts ds,x.seq=some ts/\BF ts=some ds/\R (ds.zipIdx.map λp=>.d (.tuple [.int (p.2:Int),p.1])):=by apply propext;constructor;rintro⟨_,ts,ds,⟨⟩,h⟩;exact⟨ts,ds,h⟩;rintro⟨ts,ds,h⟩;exact⟨_,ts,ds,rfl,h⟩
theorem tS(ks:List D)(ts:LT):FB .itm [.dc true ks ts] R=∃ds,BF ts=some ds/\R ((ks.zip ds).map λp=>.d (.tuple [p.1,p.2])):=by apply propext;constructor;rintro(⟨_,_,ds,⟨⟩,h⟩| ⟨⟨⟩,_⟩);exact⟨ds,h⟩;rintro⟨ds,h⟩;exact .inl ⟨_,_,ds,rfl,h⟩
theorem sS(ks:List D)(ts:LT):FB .val [.dc true ks ts] R=R (ks.map T.d):=by simp[FB]
theorem X5:FB .itm [.sc (.dict [])] R=R []:=by apply propext;constructor;rintro(⟨_,_,x,⟨⟩,h⟩| ⟨_,h⟩);exact h;exact λh=>.inr ⟨rfl,h⟩
end
def yD:LN->LT->kA->Option kA
 |[],[],ρ=>some ρ|i::is,t::ts,ρ=>yD is ts (ρ.set i (some (.ky t)))|_,_,_=>none
def DO:Tg->T->kA->(kA->Prop)->Prop
 | .nm i,t,ρ,Q=>Q (ρ.set i (some (.ky t)))|.tp is,t,ρ,Q=>match t.vw with
  | .tp x=>∃h,yD is x ρ=some h/\Q h|_=>False
def Tg.ix:Tg->LN
 | .nm i=>[i]|.tp h=>h
def J2:PX->Option Nat
 | .xz i=>some i|_=>none
def IF:Option Sl->Option Sl
 |some (.own t)=>some (.ky t)|s=>s
def lockA(ρ:kA):kA:=ρ.map IF
def lock:LN->kA->kA
 |[],ρ=>ρ|i::is,ρ=>lock is (ρ.modify i IF)
def mV:Option Sl->Option Sl
 |some (.own t)=>bD t.er|s=>s
def frzAt:LN->kA->kA
 |[],ρ=>ρ|i::is,ρ=>frzAt is (ρ.modify i mV)
def KM:Option Sl->Option Sl
 |some (.ky t)=>if t.isD=true then some (.ky t) else none|s=>s
def kill:LN->kA->kA
 |[],ρ=>ρ|i::is,ρ=>kill is (ρ.modify i KM)
def clear:LN->kA->kA
 |[],ρ=>ρ|i::is,ρ=>clear is (ρ.set i none)
def CA:LN->kA->Option (LT)
 |[],_=>some []|i::is,ρ=>match ρ[i]? with
  |some (some (.own t))=>(CA is ρ).map (t::·)|_=>none
def xC:LN->LT->kA->Option kA
 |[],[],ρ=>some ρ|i::is,t::ts,ρ=>xC is ts (ρ.set i (some (.own t)))|_,_,_=>none
def NC:List Bool->kA->kA
 |b::m,v::ρ=>(if b then none else v)::NC m ρ|_,ρ=>ρ
def UN(k:Nat)(h:List Bool)(ρ:kA):kA:=QAT k none++NC h ρ
def sq{α:Type}(x:T)(ρ:kA)(b:kA->(α->kA->Prop)->Prop)(K:α->kA->Prop):Prop :=
 if x.isD=true then b ρ K else b (lockA ρ) λy _=>K y ρ
def cu(f:kA->TK->Prop):kA->(T×Bool->kA->Prop)->Prop:=λy K=>f y λx n h=>K (x,n) h
def KF:List (T×Bool)->LT
 |[]=>[]|p::r=>p.1::KF r
def XN:List (T×Bool)->LT
 |[]=>[]|p::r=>oA p.1 p.2::XN r
def fC:List (T×Bool)->List Vw
 |[]=>[]|p::r=>(oA p.1 p.2).vw::fC r
def YE:List (T×Bool)->Bool
 |[]=>true|p::r=>HH p.1 p.2&&YE r
def RQ:List (T×Bool)->Bool
 |[]=>true|p::r=>HH p.1 p.2&&RQ r
def nE(t:T):Option T:=match t.vw with
 | .ls h=>(BF h).map λx=>.lst (x.map T.d)|_=>if t.isD=true then some t else none
noncomputable def VA:List Md->List (T×Bool)->LT->Option (LT)
 |_,[],[]=>some []|_,[],_::_=>none|md,(x,n)::xs,os=>match md.headD .xx with
  | .xx=>match oA x n with
   | .d d=>(VA md.tail xs os).map (.d d::·)|_=>none
  | .xy=>match nE (oA x n) with
   |some t=>(VA md.tail xs os).map (t::·)|none=>none
  | .ky=>(VA md.tail xs os).map (oA x n::·)|.chg=>match os with
   |o::os=>(VA md.tail xs os).map (o::·)|[]=>none
def DB:List Md->LT->LT
 |_,[]=>[]|md,t::ts=>match md.headD .xx with
  | .chg=>t::DB md.tail ts|_=>DB md.tail ts
def uA:List Md->PX->LN
 | .chg::md,.ny (.xz j) as=>j::uA md as|_::md,.ny _ as=>uA md as|_,_=>[]
def Md.isMut:Md->Bool
 | .chg=>true|_=>false
structure D3 where
 e:kA->TK->Prop
 t:kA->(Bool->kA->Prop)->Prop
 a:List Md->kA->(List (T×Bool)->kA->Prop)->Prop
def aE:D3:=⟨λ_ _=>False,λ_ _=>False,λ_ _ _=>False⟩
def ZD(body:T->(Option T->Prop)->Prop):LT->LT->(LT->Prop)->Prop
 |[],acc,Q=>acc.length<=sizeLine/\Q acc|x::xs,acc,Q=>body x fun
  |some y=>acc.length<sizeLine/\ZD body xs (acc++[y]) Q|none=>ZD body xs acc Q
def fG(v:Tg)(u:kA)(c:kA->(Bool->kA->Prop)->Prop)(e:kA->TK->Prop)(x:T)(R:Option T->Prop):Prop :=
 DO v x u λz=>c z λb h=>if b=true then e h λy n _=>HH y n=true/\R (some y) else R none
def Xn:PX->D->(Bool->Prop)->Prop
 | .bty _ n,d,Q=>∃b,isD n d=some b/\dX n=true/\Q b|_,_,_=>False
def Ta(x:Vw)(Q:T->Bool->Prop):Prop:=∃h,∃nd:List (Str×D),x=.ls h/\BF h=some (nd.map λp=>PyData.tuple [.str p.1,p.2])/\nd≠[]/\(nd.map λp=>p.1).Nodup/\Q (.dct false (nd.map λp=>.str p.1) ((nd.map λp=>p.2).map T.d)) true
def Op:Option (Option Sl)->(T->Prop)->Prop
 |some (some (.own t)),Q=>Q t|some (some (.ky t)),Q=>Q t|some none,_=>False|none,_=>False
def zD:Option (Option Sl)->(T->Prop)->Prop
 |some (some (.own t)),Q=>Q t|some (some (.ky _)),_=>False|some none,_=>False|none,_=>False
def bc:Option Nat->(Nat->Prop)->Prop
 |none,_=>False|some j,Q=>Q j
def D5:PX->Bool
 | .xz _=>true|_=>false
def pe(Ψ:PEv):PX->XE->D3
 | .xz i,_=>let e:kA->TK->Prop:=λv Q=>Op v[i]? λt=>Q t false v
  ⟨e,λv Q=>e v λt _ h=>jI t.er λb=>Q b h,aE.a⟩
 | .int i,_=>⟨λv Q=>Q (.d (.int i)) false v,λv Q=>Q (i != 0) v,aE.a⟩|.str x,_=>⟨λv Q=>Q (.d (.str x)) false v,aE.t,aE.a⟩|.bl b,_=>⟨λv Q=>Q (.d (.bool b)) false v,λv Q=>Q b v,aE.a⟩|.non,_=>⟨λv Q=>Q (.d .none) false v,λv Q=>Q false v,aE.a⟩|.glo x,_=>let e:kA->TK->Prop:=λv Q=>match Ψ.va x with
   |some d=>Q (.d d) false v|none=>False
  ⟨e,λv Q=>e v λt _ h=>jI t.er λb=>Q b h,aE.a⟩
 | .bty _ _,_=>aE|.bin op a b,E=>let e:kA->TK->Prop:=λv Q=>(pe Ψ a E).e v λx n h=>sq (oA x n) h (cu (pe Ψ b E).e) λy w=>binT op (oA x n).vw (oA y.1 y.2).vw λz k=>Q z k w
  ⟨e,λv Q=>e v λt _ h=>jI t.er λb=>Q b h,aE.a⟩
 | .cmp op a b,E=>let t:kA->(Bool->kA->Prop)->Prop:=λv Q=>(pe Ψ a E).e v λx n h=>sq (oA x n) h (cu (pe Ψ b E).e) λy w=>yb op x.er (oA y.1 y.2) λk=>Q k w
  ⟨λv Q=>t v λk h=>Q (.d (.bool k)) false h,t,aE.a⟩
 | .and a b,E=>⟨λv Q=>(pe Ψ a E).e v λx _ h=>Vj x.er λc=>if c=true then(pe Ψ b E).e h Q else Q (.d (.bool false)) false h,
   λv Q=>(pe Ψ a E).t v λc h=>if c=true then(pe Ψ b E).t h Q else Q false h,aE.a⟩
 | .or a b,E=>⟨λv Q=>(pe Ψ a E).e v λx _ h=>Vj x.er λc=>if c=true then Q (.d (.bool true)) false h else(pe Ψ b E).e h Q,
   λv Q=>(pe Ψ a E).t v λc h=>if c=true then Q true h else(pe Ψ b E).t h Q,aE.a⟩
 | .not a,E=>⟨λv Q=>(pe Ψ a E).e v λx _ h=>jI x.er λc=>Q (.d (.bool (!c))) false h,λv Q=>(pe Ψ a E).t v λc h=>Q (!c) h,aE.a⟩|.call f as,E=>let e:kA->TK->Prop:=λv Q=>∃Z,CA (uA (Ψ.sp f).md as) v=some Z/\(uA (Ψ.sp f).md as).Nodup/\(pe Ψ as E).a (Ψ.sp f).md (clear (uA (Ψ.sp f).md as) v) λg h=>∃Y,VA (Ψ.sp f).md g Z=some Y/\(Ψ.sp f).run Y (λr s=>∃w,xC (uA (Ψ.sp f).md as) s h=some w/\Q r true w) E
  ⟨e,λv Q=>e v λt _ h=>jI t.er λb=>Q b h,aE.a⟩
 | .isi a c,E=>let t:kA->(Bool->kA->Prop)->Prop:=λv Q=>(pe Ψ a E).e v λx _ h=>Xn c x.er λb=>Q b h
  ⟨λv Q=>t v λk h=>Q (.d (.bool k)) false h,t,aE.a⟩
 | .bi f as,E=>let e:kA->TK->Prop:=λv Q=>(pe Ψ as E).a [] v λg h=>FX f (fC g) λz k=>Q z k h
  ⟨e,λv Q=>e v λt _ h=>jI t.er λb=>Q b h,aE.a⟩
 | .mt m o as,E=>let e:kA->TK->Prop:=λv Q=>if isMut m=true then bc (J2 o) λj=>zD v[j]? λt=>JI m t=true/\(pe Ψ as E).a [] (v.set j (some (.ky t))) λg w=>YE g=true/\w[j]?=some (some (.ky t))/\MK m t (KF g) λr K=>Q r true (w.set j (some (.own K))) else(pe Ψ o E).e v λx n h=>M9 m (oA x n).vw=true/\sq (oA x n) h ((pe Ψ as E).a []) λg w=>lr m (oA x n).vw (fC g) λz k=>Q z k w
  ⟨e,λv Q=>e v λt _ h=>jI t.er λb=>Q b h,aE.a⟩
 | .idx a b,E=>let e:kA->TK->Prop:=λv Q=>(pe Ψ a E).e v λx n h=>sq (oA x n) h (cu (pe Ψ b E).e) λy w=>(VN (oA x n).vw (oA y.1 y.2).vw λz=>Q z false w)∨(MS (oA x n).vw y.1.er λz=>Q z false w)
  ⟨e,λv Q=>e v λt _ h=>jI t.er λb=>Q b h,aE.a⟩
 | .slc a lo hi,E=>⟨λv Q=>(pe Ψ a E).e v λx n h =>
   sq (α:=Option Int) (oA x n) h (if isNop lo=true then λv (R:Option Int->kA->Prop)=>R none v else λv R=>(pe Ψ lo E).e v λl _ w=>RF l.er λo=>R o w) λl w =>
   sq (α:=Option Int) (oA x n) w (if isNop hi=true then λv (R:Option Int->kA->Prop)=>R none v else λv R=>(pe Ψ hi E).e v λu _ p=>RF u.er λo=>R o p) λu p=>HL (oA x n).vw l u λz k=>Q z k p,aE.t,aE.a⟩
 | .nop,_=>aE|.lst as,E=>⟨λv Q=>(pe Ψ as E).a [] v λg h=>YE g=true/\g.length<=sizeLine/\Q (.lst (KF g)) true h,aE.t,aE.a⟩|.tup as,E=>⟨λv Q=>(pe Ψ as E).a [] v λg h=>YE g=true/\g.length<=sizeLine/\Q (YF (KF g)) true h,aE.t,aE.a⟩|.comp mask tgs tg ik its cond elt,E=>⟨λv Q=>(pe Ψ its E).a [] v λg h=>FB ik (fC g) λq =>
   ZD (fG tg (UN tgs.length mask (lockA h)) (if isNop cond=true then λv R=>R true v else(pe Ψ cond (λ_=>False)).t) (pe Ψ elt (λ_=>False)).e) q [] λW=>Q (.lst W) true h,aE.t,aE.a⟩
 | .dnew b,_=>⟨λv Q=>Q (.dct b [] []) true v,aE.t,aE.a⟩|.dof a,E=>⟨λv Q=>(pe Ψ a E).e v λx n h=>Ta (oA x n).vw λz k=>Q z k h,aE.t,aE.a⟩|.dsp a b,E=>⟨λv Q=>(pe Ψ a E).e v λy m h=>HH y m=true/\(pe Ψ b E).e h λx n w=>HH x n=true/\HD true y.er/\Q (.dct true [y.er] [x]) true w,aE.t,aE.a⟩|.nz,_=>⟨aE.e,aE.t,λ_ v Q=>Q [] v⟩|.ny a as,E=>⟨aE.e,aE.t,λX v Q=>if(X.headD .xx).isMut=true then D5 a=true/\(pe Ψ as E).a X.tail v λg h=>Q ((.d .none,true)::g) h
   else(pe Ψ a E).e v λx n h=>sq (α:=List (T×Bool)) (if n=true then .d .none else x) h ((pe Ψ as E).a X.tail) λg w=>Q ((x,n)::g) w⟩
structure PEnds where
 nx:kA->Prop
 rt:T->kA->Prop
 bk:kA->Prop:=λ_=>False
 ct:kA->Prop:=λ_=>False
def jH:PX->LN
 | .xz i=>[i]|.idx a _=>jH a|.and a b | .or a b=>jH a++jH b
 | .ny a h=>jH a++jH h|_=>[]
def oM:Option (Option Sl)->Bool
 |some (some (.own _))=>true|some (some (.ky _))=>false|some none=>false|none=>false
def gC(ρ:kA):LN->LN
 |[]=>[]|i::is=>if oM ρ[i]?=true then i::gC ρ is else gC ρ is
def UC:LN->kA->kA->kA
 |[],_,ρ=>ρ|i::L,ρ0,ρ=>UC L ρ0 (ρ.set i (ρ0[i]?.getD none))
def vU(J L:LN)(h:kA)(N:kA->Prop)(ρ:kA):Prop:=(∀i∈L,i∉J/\ρ[i]?=h[i]?.map IF)/\N (UC L h ρ)
def GH(body:PEnds->kA->Prop)(z:Tg)(Z:PEnds):LT->kA->Prop
 |[],ρ=>Z.nx ρ|x::xs,ρ=>DO z x ρ λy=>body { Z with nx:=λh=>GH body z Z xs h,ct:=λh=>GH body z Z xs h,bk:=Z.nx } y
def jr(ρ:kA)(i:Nat)(R:T->kA->Prop):Option (Option Sl)->Prop
 |some (some (.own t))=>R t (ρ.set i none)|some (some (.ky t))=>t.isD=true/\R t ρ|some none=>False|none=>False
def bI(Ψ:PEv)(E:XE)(y:T->kA->Prop):PX->kA->Prop
 | .xz i,ρ=>jr ρ i y ρ[i]?|e,ρ=>(pe Ψ e E).e ρ λx n h=>HH x n=true/\y x h
def Ll:T->D->D->(T->Prop)->Prop
 | .lst ts,.int i,x,Q=>∃n,ET ts.length i=some n/\Q (.lst (ts.set n (.d x)))|.dct b ks ts,k,x,Q=>HD b k/\ks.length<sizeLine/\Q (YH b ks ts k (.d x))|_,_,_,_=>False
def Mq:PX->Option (Nat×Option PX)
 | .xz j=>some (j,none)|.idx (.xz j) k=>some (j,some k)|_=>none
def ig(k:D)(t:T)(Q:T->Prop):Prop:=∃h x,t=.dct true h x/\HD true k/\h.length<sizeLine/\((∃n,bA h k=some n/\Q t)∨(bA h k=none/\Q (.dct true (h++[k]) (x++[.dct true [] []]))))
def Aa:T->Bool
 | .dct true _ _=>true|_=>false
def Fl(z:D)(t:T)(Q:T->(T->T)->Prop):Prop:=∃b x h n s,t=.dct b x h/\HD b z/\bA x z=some n/\h[n]?=some s/\Q s λy=>.dct b x (h.set n y)
noncomputable def bB(Ψ:PEv)(E:XE):PT->PEnds->kA->Prop
 | .nil,Z,u=>Z.nx u|.seq s r,Z,u=>bB Ψ E s { Z with nx:=λw=>bB Ψ E r Z w } u|.set i e,Z,u=>(pe Ψ e E).e u λx n h=>HH x n=true/\Z.nx (h.set i (bD x.er))|.expr e,Z,u=>(pe Ψ e E).e u λ_ _ h=>Z.nx h|.ret e,Z,u=>bI Ψ E Z.rt e u|.ife c a b,Z,u=>(pe Ψ c E).t u λk h=>if k=true then bB Ψ E a Z h else bB Ψ E b Z h|.for_ tg ik its body,Z,u=>(pe Ψ its E).a [] u λX h=>FB ik (fC X) λf =>
   if RQ X=true then GH (bB Ψ E body) tg { Z with nx:=λv=>Z.nx (kill tg.ix v) } f h
   else GH (bB Ψ E body) tg { Z with nx:=λv=>vU tg.ix (gC h (jH its)) h Z.nx (kill tg.ix v) } f (lock (gC h (jH its)) h)
 | .own i e,Z,u=>(pe Ψ e E).e u λx n h=>HH x n=true/\Z.nx (h.set i (some (.own x)))|.six o i e,Z,u=>match Mq o with
  |none=>False|some (j,none)=>zD u[j]? λt=>(pe Ψ e E).e (u.set j (some (.ky t))) λx n h=>HH x n=true/\(pe Ψ i E).e h λy m v=>HH y m=true/\v[j]?=some (some (.ky t))/\Ll t y.er x.er λq=>Z.nx (v.set j (some (.own q)))|some (j,some k)=>zD u[j]? λt=>(pe Ψ e E).e (u.set j (some (.ky t))) λx n h=>HH x n=true/\(pe Ψ k E).e h λz l v=>HH z l=true/\Fl z.er t λs put=>(pe Ψ i E).e v λy m g=>HH y m=true/\g[j]?=some (some (.ky t))/\Ll s y.er x.er λY=>Z.nx (g.set j (some (.own (put Y))))
 | .sdf j k,Z,u=>zD u[j]? λt=>Aa t=true/\(pe Ψ k E).e (u.set j (some (.ky t))) λy m h=>HH y m=true/\h[j]?=some (some (.ky t))/\ig y.er t λq=>Z.nx (h.set j (some (.own q)))|.whl c body,Z,u=>∃W:Nat->kA->Prop,(∃m,W m u)/\∀m u,W m u->(pe Ψ c E).t u λb h=>if b=true then
   bB Ψ E body { Z with nx:=λw=>∃p,p < m/\W p w,ct:=λw=>∃p,p < m/\W p w,bk:=Z.nx } h else Z.nx h
 | .frz is s,Z,u=>bB Ψ E s Z (frzAt is u)
abbrev pF(Ψ:PEv):PT->PEnds->kA->Prop:=bB Ψ λ_=>False
theorem _root_.L2.Same.rd{H x:Hp}(e:Same H x){a:Addr}{u:HO}(h:Rd H a u):Rd x a u:=by
 rcases h with h|⟨o,h⟩
 exact .inl (e _ _ h);exact .inr ⟨o,e _ _ h⟩
theorem _root_.L2.Same.tupl{K:QC}{H x:Hp}{a:Addr}{xs:LV}(e:Same H x)(h:GD K H a xs):GD K x a xs:=by rcases h with h|h;exact .inl (e.rd h);exact .inr h
mutual
theorem yX{K:QC}{H x:Hp}(e:Same H x):∀{k:NK}{v:V},Mj K H k v->Mj K x k v
 | .s _,_,h=>h|.t _,_,⟨a,xs,h,q,p⟩=>⟨a,xs,h,e.tupl q,kys_mono e p⟩
theorem kys_mono{K:QC}{H y:Hp}(e:Same H y):∀{ks:List NK}{vs:LV},KyVs K H ks vs->KyVs K y ks vs
 |[],_,h=>h|_::_,_,⟨x,r,h,p,q⟩=>⟨x,r,h,yX e p,kys_mono e q⟩
end
section
variable{K:QC}{H x:Hp}{vs:LV}{ds:List D}
theorem _root_.L2.Same.key(e:Same H x){b:Addr}{k:NK}(h:RN K H b k):RN K x b k:=⟨yX e h.1,h.2⟩
theorem oJ.mono(e:Same H x){b:Bool}{o:HO}{ks:List D}(h:oJ K H b o ks vs):oJ K x b o ks vs:=by
 cases b with|true=>obtain⟨f,y,a,k,w,v,u⟩:=h;exact⟨f,y,a,k,w,λp z=>e.key (v p z),u⟩|false=>exact h
theorem Rep.mono2(e:Same H x):(∀{v:V}{d:D},Rep K H v d->Rep K x v d)/\∀{vs:LV}{ds:List D},Reps K H vs ds->Reps K x vs ds :=
 Rep.both (P:=Rep K x) (R:=Reps K x) .non .bl .int .str (λh _ r=>.lst (e.seq h) r) (λh _ r=>.tup (e.tupl h) r) (λh q _ r=>.dct (e _ _ h) (q.mono e) r) .nil λ_ _ h r=>.cons h r
theorem Rep.mono(e:Same H x){v:V}{d:D}(h:Rep K H v d):Rep K x v d:=(Rep.mono2 e).1 h
theorem Reps.mono(e:Same H x)(h:Reps K H vs ds):Reps K x vs ds:=(Rep.mono2 e).2 h
theorem Reps.append{ws:LV}{es:List D}(h:Reps K H vs ds)(r:Reps K H ws es):Reps K H (vs++ws) (ds++es):=Reps.ind (R:=λvs ds=>Reps K H (vs++ws) (ds++es)) r (λh t=>.cons h t) h
theorem Reps.get{K:QC}{H:Hp}:∀{vs:LV}{ds:List D}{i:Nat}{d:D},Reps K H vs ds->ds[i]?=some d->∃v,vs[i]?=some v/\Rep K H v d
 |_,_,i,_,.nil,h=>by simp at h|_,_,0,_,.cons h _,e=>by simp at e;subst e;exact⟨_,rfl,h⟩|_,_,i+1,d,.cons _ t,e=>by obtain⟨v,z,y⟩:=Reps.get (i:=i) t (by simpa using e);exact⟨v,by simpa using z,y⟩
theorem Reps.drop{K:QC}{H:Hp}:∀{vs:LV}{ds:List D}(n:Nat),Reps K H vs ds->Reps K H (vs.drop n) (ds.drop n)
 |_,_,0,r=>r|_,_,_+1,.nil=>.nil|_,_,n+1,.cons _ t=>Reps.drop n t
theorem Reps.take{K:QC}{H:Hp}:∀{vs:LV}{ds:List D}(n:Nat),Reps K H vs ds->Reps K H (vs.take n) (ds.take n)
 |_,_,0,_=>.nil|_,_,_+1,.nil=>.nil|_,_,n+1,.cons h t=>.cons h (Reps.take n t)
theorem Reps.bools{K:QC}{H:Hp}:∀{vs:LV}{bs:List Bool},Reps K H vs (bs.map PyData.bool)->vs=bs.map V.bl
 |_,[],.nil=>rfl|_,b::bs,.cons h t=>by cases h;rw[QU,Reps.bools t]
theorem LB{p:Addr}{o:HO}(h:H p=none):Same H (BA H p o):=λb u q=>by rw[vA (aA q h)];exact q
end
mutual
inductive Tr(K:QC)(F H:Hp):Bool->V->T->(Addr->Prop)->Prop where
 |d {st:Bool}{v:V}{x:D}{S:xB}:Rep K F v x->(∀b,¬ S b)->Tr K F H st v (.d x) S
 |lst {st:Bool}{a:Addr}{vs:LV}{ts:LT}{S S':xB}:H a=some (.lst vs)->F a=none->Trs K F H st vs ts S'->¬ S' a->(∀b,S b↔b=a∨S' b)->Tr K F H st (.ref a) (.lst ts) S
 |tup {st:Bool}{a:Addr}{vs:LV}{ts:LT}{S S':xB}:H a=some (.tup vs)->F a=none->Trs K F H st vs ts S'->¬ S' a->(∀b,S b↔b=a∨S' b)->Tr K F H st (.ref a) (.tup ts) S
 |lstF {a:Addr}{vs:LV}{ds:List D}{S:xB}:RC K F a vs->Reps K F vs ds->(∀b,¬ S b)->Tr K F H false (.ref a) (.lst (ds.map T.d)) S
 |dct {st b:Bool}{a:Addr}{o:HO}{ks:List D}{vs:LV}{ts:LT}{S S':xB}:H a=some o->oJ K F b o ks vs->F a=none->Trs K F H st vs ts S'->¬ S' a->(∀b,S b↔b=a∨S' b)->Tr K F H st (.ref a) (.dct b ks ts) S
inductive Trs(K:QC)(F H:Hp):Bool->LV->LT->(Addr->Prop)->Prop where
 |nil {st:Bool}{S:xB}:(∀b,¬ S b)->Trs K F H st [] [] S
 |cons {st:Bool}{v:V}{t:T}{vs:LV}{ts:LT}{S S1 S2:xB}:Tr K F H st v t S1->Trs K F H st vs ts S2->(∀b,S1 b->¬ S2 b)->(∀b,S b↔S1 b∨S2 b)->Trs K F H st (v::vs) (t::ts) S
end
section
variable{K:QC}{F H w c:Hp}
section
variable{R:Bool->LV->LT->(Addr->Prop)->Prop}{st b:Bool}{v:V}{t:T}{S:xB}{vs:LV}{ts:LT}{ds ks:List D}{i:Int}{kvs:List (D×D)}
theorem Tr.both{P:Bool->V->T->(Addr->Prop)->Prop}
    (d:∀{st:Bool}{v:V}{x:D}{S:xB},Rep K F v x->(∀b,¬ S b)->P st v (.d x) S)
    (lst:∀{st:Bool}{a:Addr}{vs:LV}{ts:LT}{S S':xB},H a=some (.lst vs)->F a=none->Trs K F H st vs ts S'->¬ S' a->(∀b,S b↔b=a∨S' b)->R st vs ts S'->P st (.ref a) (.lst ts) S)
    (tup:∀{st:Bool}{a:Addr}{vs:LV}{ts:LT}{S S':xB},H a=some (.tup vs)->F a=none->Trs K F H st vs ts S'->¬ S' a->(∀b,S b↔b=a∨S' b)->R st vs ts S'->P st (.ref a) (.tup ts) S)
    (y:∀{a:Addr}{vs:LV}{ds:List D}{S:xB},RC K F a vs->Reps K F vs ds->(∀b,¬ S b)->P false (.ref a) (.lst (ds.map T.d)) S)
    (dct:∀{st b:Bool}{a:Addr}{o:HO}{ks:List D}{vs:LV}{ts:LT}{S S':xB},H a=some o->oJ K F b o ks vs->F a=none->Trs K F H st vs ts S'->¬ S' a->(∀b,S b↔b=a∨S' b)->R st vs ts S'->P st (.ref a) (.dct b ks ts) S)
    (u:∀{st:Bool}{S:xB},(∀b,¬ S b)->R st [] [] S)
    (z:∀{st:Bool}{v:V}{t:T}{vs:LV}{ts:LT}{S S1 k:xB},Tr K F H st v t S1->Trs K F H st vs ts k->(∀b,S1 b->¬ k b)->(∀b,S b↔S1 b∨k b)->P st v t S1->R st vs ts k->R st (v::vs) (t::ts) S) :
    (∀{st:Bool}{v:V}{t:T}{S:xB},Tr K F H st v t S->P st v t S)/\∀{st:Bool}{vs:LV}{ts:LT}{S:xB},Trs K F H st vs ts S->R st vs ts S :=
  ⟨λh=>Tr.rec (motive_1:=λst v t S _=>P st v t S) (motive_2:=λst vs ts S _=>R st vs ts S) @d @lst @tup @y @dct @u @z h,
   λh=>Trs.rec (motive_1:=λst v t S _=>P st v t S) (motive_2:=λst vs ts S _=>R st vs ts S) @d @lst @tup @y @dct @u @z h⟩
theorem Tr.mono2(e:Same F w):(∀{st:Bool}{v:V}{t:T}{S:xB},Tr K F H st v t S->(∀b,S b->c b=H b/\w b=none)->Tr K w c st v t S)/\∀{st:Bool}{vs:LV}{ts:LT}{S:xB},Trs K F H st vs ts S->(∀b,S b->c b=H b/\w b=none)->Trs K w c st vs ts S :=
 Tr.both (P:=λst v t S=>(∀b,S b->c b=H b/\w b=none)->Tr K w c st v t S) (R:=λst v t S=>(∀b,S b->c b=H b/\w b=none)->Trs K w c st v t S)
  (λr n _=>.d (r.mono e) n)
  (λ{_ a _ _ _ _} h _ _ n q x k=>.lst ((k a ((q a).mpr (.inl rfl))).1.trans h) (k a ((q a).mpr (.inl rfl))).2 (x λb hb=>k b ((q b).mpr (.inr hb))) n q)
  (λ{_ a _ _ _ _} h _ _ n q x k=>.tup ((k a ((q a).mpr (.inl rfl))).1.trans h) (k a ((q a).mpr (.inl rfl))).2 (x λb hb=>k b ((q b).mpr (.inr hb))) n q)
  (λh r n _=>.lstF (e.seq h) (r.mono e) n)
  (λ{_ _ a _ _ _ _ _ _} h dk _ _ n q x k=>.dct ((k a ((q a).mpr (.inl rfl))).1.trans h) (dk.mono e) (k a ((q a).mpr (.inl rfl))).2 (x λb hb=>k b ((q b).mpr (.inr hb))) n q)
  (λn _=>.nil n)
  (λ_ _ n q z y k=>.cons (z λb hb=>k b ((q b).mpr (.inl hb))) (y λb hb=>k b ((q b).mpr (.inr hb))) n q)
theorem Tr.mono(e:Same F w)(h:Tr K F H st v t S)(k:∀b,S b->c b=H b/\w b=none):Tr K w c st v t S:=(Tr.mono2 e).1 h k
theorem Trs.mono(e:Same F w)(h:Trs K F H st vs ts S)(k:∀b,S b->c b=H b/\w b=none):Trs K w c st vs ts S:=(Tr.mono2 e).2 h k
theorem Tr.weak2:(∀{st:Bool}{v:V}{t:T}{S:xB},Tr K F H st v t S->Tr K F H false v t S)/\∀{st:Bool}{vs:LV}{ts:LT}{S:xB},Trs K F H st vs ts S->Trs K F H false vs ts S :=
 Tr.both (P:=λ_ v t S=>Tr K F H false v t S) (R:=λ_ v t S=>Trs K F H false v t S) .d (λh f _ n q x=>.lst h f x n q) (λh f _ n q x=>.tup h f x n q) .lstF (λh dk f _ n q x=>.dct h dk f x n q) .nil λ_ _ n q z y=>.cons z y n q
theorem Tr.weak(h:Tr K F H st v t S):Tr K F H false v t S:=Tr.weak2.1 h
theorem Trs.weak(h:Trs K F H st vs ts S):Trs K F H false vs ts S:=Tr.weak2.2 h
theorem D6{C:xB}{a:Addr}{S':xB}(q:∀b,S b↔b=a∨S' b)(h:C a)(k:∀b,S' b->C b)(b:Addr)(hb:S b):C b:=((q b).mp hb).elim (λe=>e▸h) (k b)
theorem Tr.dom2:(∀{st:Bool}{v:V}{t:T}{S:xB},Tr K F H st v t S->∀b,S b->H b≠none/\F b=none)/\∀{st:Bool}{vs:LV}{ts:LT}{S:xB},Trs K F H st vs ts S->∀b,S b->H b≠none/\F b=none :=
 have y:∀{a:Addr}{o:HO},H a=some o->H a≠none:=λh z=>by rw[h]at z;cases z
 Tr.both (P:=λ_ _ _ S=>∀b,S b->H b≠none/\F b=none) (R:=λ_ _ _ S=>∀b,S b->H b≠none/\F b=none)
  (λ_ n b hb=>absurd hb (n b)) (λh f _ _ q x=>D6 q ⟨y h,f⟩ x) (λh f _ _ q x=>D6 q ⟨y h,f⟩ x) (λ_ _ n b hb=>absurd hb (n b)) (λh _ f _ _ q x=>D6 q ⟨y h,f⟩ x)
  (λn b hb=>absurd hb (n b)) λ_ _ _ q k u b hb=>((q b).mp hb).elim (k b) (u b)
theorem Tr.dom(h:Tr K F H st v t S):∀b,S b->H b≠none/\F b=none:=Tr.dom2.1 h
theorem Trs.dom(h:Trs K F H st vs ts S):∀b,S b->H b≠none/\F b=none:=Tr.dom2.2 h
theorem Tr.kept2(e:Same F w):(∀{st:Bool}{v:V}{t:T}{S:xB},Tr K F H st v t S->(∀b u,S b->H b=some u->w b=some u)->Rep K w v t.er)/\∀{st:Bool}{vs:LV}{ts:LT}{S:xB},Trs K F H st vs ts S->(∀b u,S b->H b=some u->w b=some u)->Reps K w vs (ersT ts) :=
 Tr.both (P:=λ_ v t S=>(∀b u,S b->H b=some u->w b=some u)->Rep K w v t.er) (R:=λ_ v t S=>(∀b u,S b->H b=some u->w b=some u)->Reps K w v (ersT t))
  (λr _ _=>r.mono e)
  (λ{_ a _ _ _ _} h _ _ _ q x k=>by unfold T.er;exact .lst (RC.of (k a _ ((q a).mpr (.inl rfl)) h)) (x λb u hb=>k b u ((q b).mpr (.inr hb))))
  (λ{_ a _ _ _ _} h _ _ _ q x k=>by unfold T.er;exact .tup (GD.of (k a _ ((q a).mpr (.inl rfl)) h)) (x λb u hb=>k b u ((q b).mpr (.inr hb))))
  (λh r _ _=>by unfold T.er;rw[pB];exact .lst (e.seq h) (r.mono e))
  (λ{_ _ a _ _ _ _ _ _} h dk _ _ _ q x k=>by unfold T.er;exact .dct (k a _ ((q a).mpr (.inl rfl)) h) (dk.mono e) (x λb u hb=>k b u ((q b).mpr (.inr hb))))
  (λ_ _=>.nil)
  (λ_ _ _ q z y k=>.cons (z λb u hb=>k b u ((q b).mpr (.inl hb))) (y λb u hb=>k b u ((q b).mpr (.inr hb))))
theorem Tr.kept(e:Same F w)(h:Tr K F H st v t S)(k:∀b u,S b->H b=some u->w b=some u):Rep K w v t.er:=(Tr.kept2 e).1 h k
theorem Tr.rep(f:Same F H)(h:Tr K F H st v t S):Rep K H v t.er:=h.kept f λ_ _ _ e=>e
theorem Trs.ind(z:∀{st:Bool}{S:xB},(∀b,¬ S b)->R st [] [] S)
  (x:∀{st:Bool}{v:V}{t:T}{vs:LV}{ts:LT}{S S1 y:xB},Tr K F H st v t S1->Trs K F H st vs ts y->(∀b,S1 b->¬ y b)->(∀b,S b↔S1 b∨y b)->R st vs ts y->R st (v::vs) (t::ts) S) (h:Trs K F H st vs ts S):R st vs ts S :=
 (Tr.both (P:=λ_ _ _ _=>True) (λ_ _=>trivial) (λ_ _ _ _ _ _=>trivial) (λ_ _ _ _ _ _=>trivial) (λ_ _ _=>trivial) (λ_ _ _ _ _ _ _=>trivial) z λh t n q _ r=>x h t n q r).2 h
theorem Trs.length(h:Trs K F H st vs ts S):vs.length=ts.length:=Trs.ind (R:=λ_ vs ts _=>vs.length=ts.length) (λ_=>rfl) (λ_ _ _ _ e=>congrArg Nat.succ e) h
theorem Trs.of_reps(h:Reps K F vs ds):Trs K F H st vs (ds.map T.d) (λ_=>False) :=
 Reps.ind (R:=λvs ds=>Trs K F H st vs (ds.map T.d) λ_=>False) (.nil λ_ z=>z) (λh t=>.cons (.d h λ_ z=>z) t (λ_ z=>z.elim) λb=>by simp) h
theorem Trs.un(h:Trs K F H st vs ts S)(e:BF ts=some ds):Reps K F vs ds/\∀b,¬ S b:=by
 have u:=UL e;clear e;revert ds;refine Trs.ind (R:=λ_ vs ts S=>∀{ds:List D},ts=ds.map T.d->Reps K F vs ds/\∀b,¬ S b) (λn ds e=>?_) (λh _ _ q x ds e=>?_) h;cases ds with|nil=>exact⟨.nil,n⟩|cons d r=>cases e
 cases ds with
 |nil=>cases e|cons d r =>
  injection e with e1 e2;obtain⟨z,y⟩:=x e2;subst e1;cases h with|d rep m=>exact⟨.cons rep z,λb hb=>((q b).mp hb).elim (m b) (y b)⟩
theorem Trs.get{i:Nat}(h:Trs K F H st vs ts S)(e:ts[i]?=some t):∃v S1,vs[i]?=some v/\Tr K F H st v t S1/\∀b,S1 b->S b:=by
 revert i;refine Trs.ind (R:=λst vs ts S=>∀{i:Nat},ts[i]?=some t->∃v S1,vs[i]?=some v/\Tr K F H st v t S1/\∀b,S1 b->S b) (λn i e=>by cases e) (λh _ n q x i e=>?_) h;cases i with|zero=>cases e;exact⟨_,_,rfl,h,λb hb=>(q b).mpr (.inl hb)⟩|succ i=>obtain⟨v,S1,u,z,y⟩:=x (i:=i) e;exact⟨v,S1,u,z,λb hb=>(q b).mpr (.inr (y b hb))⟩
theorem Trs.at(r:Trs K F H st vs ts S)(h:fE ts i=some t):∃v S1,fE vs i=some v/\Tr K F H st v t S1/\∀b,S1 b->S b:=by
 unfold fE at h ⊢;rw[r.length];cases e:ET ts.length i with|none=>rw[e]at h;cases h|some j=>rw[e]at h;exact r.get h
theorem Trs.append{ws:LV}{us:LT}{S1 x:xB}(h:Trs K F H st vs ts S1)(r:Trs K F H st ws us x)(k:∀b,S1 b->¬ x b):Trs K F H st (vs++ws) (ts++us) (λb=>S1 b∨x b) :=
 Trs.ind (R:=λst vs ts S1=>Trs K F H st ws us x->(∀b,S1 b->¬ x b)->Trs K F H st (vs++ws) (ts++us) λb=>S1 b∨x b)
  (λ{_ S} n r _=>by have e:(λb=>S b∨x b)=x:=funext λb=>propext ⟨λz=>z.resolve_left (n b),.inr⟩;rw[e];exact r)
  (λh _ n q y r k=>.cons h (y r λb hb=>k b ((q b).mpr (.inr hb))) (λb hb z=>z.elim (n b hb) (k b ((q b).mpr (.inl hb)))) λb=>by rw[q b,or_assoc]) h r k
theorem Trs.one(h:Tr K F H st v t S):Trs K F H st [v] [t] S:=.cons h (.nil (S:=λ_=>False) λ_ z=>z) (λ_ _ z=>z) λb=>by simp
theorem sH(e:(T.d (.dict kvs)).vw=.ls ts):False:=by
 have e:uC kvs=.ls ts:=e;unfold uC at e;cases h:eD kvs with|none=>rw[h]at e;cases e|some b=>rw[h]at e;cases e
theorem iL(e:(T.d (.dict kvs)).vw=.tp ts):False:=by
 have e:uC kvs=.tp ts:=e;unfold uC at e;cases h:eD kvs with|none=>rw[h]at e;cases e|some b=>rw[h]at e;cases e
theorem Tr.ls(f:Same F H)(h:Tr K F H st v t S)(e:t.vw=.ls ts):∃a vs S',v=.ref a/\RC K H a vs/\Trs K F H false vs ts S'/\∀b,S' b->S b:=by
 cases h with
 |d r n =>
  cases r with|lst q r=>injection e with e;subst e;exact⟨_,_,_,rfl,f.seq q,Trs.of_reps r,λb hb=>hb.elim⟩|dct _ _ _=>exact(sH e).elim|_=>cases e
 |lst h _ r n q=>injection e with e;subst e;exact⟨_,_,_,rfl,RC.of h,r.weak,λb hb=>(q b).mpr (.inr hb)⟩|tup=>cases e|dct=>cases e|lstF h r n=>injection e with e;subst e;exact⟨_,_,_,rfl,f.seq h,Trs.of_reps r,λb hb=>hb.elim⟩
theorem Tr.tp(f:Same F H)(h:Tr K F H st v t S)(e:t.vw=.tp ts):∃a vs S',v=.ref a/\GD K H a vs/\Trs K F H false vs ts S'/\∀b,S' b->S b:=by
 cases h with
 |d r n =>
  cases r with|tup q r=>injection e with e;subst e;exact⟨_,_,_,rfl,f.tupl q,Trs.of_reps r,λb hb=>hb.elim⟩|dct _ _ _=>exact(iL e).elim|_=>cases e
 |tup h _ r n q=>injection e with e;subst e;exact⟨_,_,_,rfl,GD.of h,r.weak,λb hb=>(q b).mpr (.inr hb)⟩|lst=>cases e|lstF=>cases e|dct=>cases e
theorem vX{u:Bool}{o:HO}(h:oJ K H u o ks vs)(e:eD (ks.zip ds)=some b):u=b:=by
 cases ks with
 |nil=>cases e|cons k ks =>
  cases ds with
  |nil=>cases e|cons d ds =>
   cases u with
   |true =>
    obtain⟨m,kvs,_,y,_,g,_⟩:=h;cases kvs with
    |nil=>cases y|cons p r =>
     have a:=(g p QE).1;obtain⟨f,n,j⟩:=p;cases f with|s x=>cases a|t l=>rw[QU]at y;injection y with y _;subst y;injection e
   |false =>
    rcases h with⟨kvs,_,_,y,_⟩| ⟨_,_,y,_⟩
    rotate_left
    cases y;cases kvs with
    |nil=>cases y|cons p r =>
     rw[QU]at y;injection y with y _;subst y;obtain⟨k,v⟩:=p;cases k with|inl i=>cases e|inr z=>injection e
theorem Tr.dc(f:Same F H)(h:Tr K F H st v t S)(e:t.vw=.dc b ks ts):∃a o vs S',v=.ref a/\H a=some o/\oJ K F b o ks vs/\Trs K F H false vs ts S'/\(∀b,S' b->S b)/\∀w c,Same F w->Same w c->(∀b,S b->c b=H b)->c a=some o:=by
 cases h with
 |d r n =>
  cases r with
  |@dct X a o y l ds h q r =>
   have hl:y.length=ds.length:=by rw[q.len,Reps.length r]
   have g:(y.zip ds).map (λx=>x.1)=y:=Wr (wx hl);have u:(y.zip ds).map (λx=>x.2)=ds:=WG (wx hl.symm);have e:uC (y.zip ds)=.dc b ks ts:=e;unfold uC at e;cases z:eD (y.zip ds) with
   |none=>rw[z]at e;cases e|some p =>
    rw[z]at e;injection e with z1 z2 z3;subst z1;rw[g]at z2;subst z2;have m:ts=ds.map T.d:=by have j:=congrArg (List.map T.d) u;rw[QS]at j;rw[<- z3,<- j];rfl
    subst m;cases vX q z;exact⟨_,_,_,_,rfl,f _ _ h,q,Trs.of_reps r,λb hb=>hb.elim,λw c g u _=>u _ _ (g _ _ h)⟩
  |_=>cases e
 |dct h q _ r n s=>injection e with z1 z2 z3;subst z1 z2 z3;exact⟨_,_,_,_,rfl,h,q,r.weak,λb hb=>(s b).mpr (.inr hb),λw c _ _ k=>(k _ ((s _).mpr (.inl rfl))).trans h⟩|lst=>cases e|tup=>cases e|lstF=>cases e
theorem Tr.sc{x:D}(h:Tr K F H st v t S)(e:t.vw=.sc x):t=.d x/\Rep K F v x:=by
 cases h with
 |@d _ _ y _ r n =>
  cases y with
  |list ds=>cases e|tuple ds=>cases e|dict ds =>
   have e:uC ds=.sc x:=e;unfold uC at e;cases z:eD ds with|none=>rw[z]at e;injection e with e;subst e;exact⟨rfl,r⟩|some b=>rw[z]at e;cases e
  |_=>injection e with e;subst e;exact⟨rfl,r⟩
 |tup=>cases e|lst=>cases e|lstF=>cases e|dct=>cases e
theorem Tr.int(h:Tr K F H st v t S)(e:t.vw=.sc (.int i)):v=.int i:=by obtain⟨_,r⟩:=h.sc e;cases r;rfl
theorem Tr.str{i:Str}(h:Tr K F H st v t S)(e:t.vw=.sc (.str i)):v=.str i:=by obtain⟨_,r⟩:=h.sc e;cases r;rfl
theorem Tr.bool{i:Bool}(h:Tr K F H st v t S)(e:t.vw=.sc (.bool i)):v=.bl i:=by obtain⟨_,r⟩:=h.sc e;cases r;rfl
end
end
def Sl.t:Sl->T
 | .own t=>t|.ky t=>t
def Sl.st:Sl->Bool
 | .own _=>true|.ky _=>false
noncomputable abbrev Ft:=Nat->Addr->Prop
structure Rl(K:QC)(F H:Hp)(S:Ft)(ρ:kA)(σ:St):Prop where
 fh:Same F H
 len:ρ.length=σ.length
 sl:∀(i:Nat) s,ρ[i]?=some (some s)->∃v,σ[i]?=some (some v)/\Tr K F H s.st v s.t (S i)
 dj:∀(i j:Nat) t s,i≠j->ρ[i]?=some (some (.own t))->ρ[j]?=some (some s)->∀b,S i b->¬ S j b
def U(ρ:kA)(S:Ft)(b:Addr):Prop:=∃(i:Nat) (t:T),ρ[i]?=some (some (.own t))/\S i b
structure Stp(F H:Hp)(S:Ft)(ρ:kA)(F' H':Hp)(S':Ft)(ρ':kA):Prop where
 ff:Same F F'
 hh:∀b u,H b=some u->¬ U ρ S b->H' b=some u
 dm:∀b,H' b=none->H b=none
 fn:∀b,F b=none->F' b≠none->U ρ S b∨H b=none
 uu:∀b,U ρ' S' b->U ρ S b∨H b=none
 bo:∀(j:Nat) t,ρ'[j]?=some (some (.ky t))->t.isD=false->ρ[j]?=some (some (.ky t))/\S' j=S j
structure Ste(F H:Hp)(S:Ft)(ρ:kA)(F' H':Hp)(S':Ft)(ρ':kA):Prop extends Stp F H S ρ F' H' S' ρ' where
 ow:∀(j:Nat) t,ρ'[j]?=some (some (.own t))->∃t0,ρ[j]?=some (some (.own t0))
section
variable{K:QC}{F H X m B E:Hp}{S S1 C:Ft}{ρ l A:kA}{σ:St}
section
variable{v:V}{t:T}{Z W:xB}{i:Nat}{s:Sl}{b p:Addr}{vs:LN}{g:Hp}{c:Ft}{y:kA}{n:Bool}
theorem Stp.refl:Stp F H S ρ F H S ρ:=⟨.refl _,λ_ _ h _=>h,λ_ h=>h,λb h z=>absurd h z,λ_ h=>.inl h,λ_ _ h _=>⟨h,rfl⟩⟩
theorem Ste.refl:Ste F H S ρ F H S ρ:=⟨Stp.refl,λ_ t h=>⟨t,h⟩⟩
theorem Stp.trans(a:Stp F H S ρ X m S1 l)(b:Stp X m S1 l B E C A):Stp F H S ρ B E C A where
 ff:=a.ff.trans b.ff
 hh:=λx u h n=>b.hh x u (a.hh x u h n) λz=>by rcases a.uu x z with q|q;exact n q;rw[q]at h;cases h
 dm:=λx h=>a.dm x (b.dm x h)
 fn:=λx h z=>by
  by_cases q:X x=none;rcases b.fn x q z with w|w
  ·exact a.uu x w
  exact .inr (a.dm x w);exact a.fn x h q
 uu:=λx h=>by rcases b.uu x h with w|w;exact a.uu x w;exact .inr (a.dm x w)
 bo:=λj t h n=>by obtain⟨o,f⟩:=b.bo j t h n;obtain⟨e,k⟩:=a.bo j t o n;exact⟨e,f.trans k⟩
theorem Ste.trans(a:Ste F H S ρ X m S1 l)(b:Ste X m S1 l B E C A):Ste F H S ρ B E C A:=⟨a.toStp.trans b.toStp,λj t h=>by obtain⟨x,z⟩:=b.ow j t h;exact a.ow j x z⟩
theorem Stp.keep(s:Stp F H S ρ X m S1 l){st:Bool}(h:Tr K F H st v t Z)(n:∀b,Z b->¬ U ρ S b):Tr K X m st v t Z :=
 h.mono s.ff λb hb=>by
  obtain⟨x,w⟩:=h.dom b hb;refine⟨?_,?_⟩;cases e:H b with|none=>exact absurd e x|some u=>exact s.hh b u e (n b hb)
  by_cases q:X b=none
  ·exact q
  rcases s.fn b w q with z|z
  ·exact absurd z (n b hb)
  exact absurd z x
theorem Rl.dom(I:Rl K F H S ρ σ)(h:ρ[i]?=some (some s))(hb:S i b):H b≠none/\F b=none:=by obtain⟨v,_,r⟩:=I.sl i s h;exact r.dom b hb
theorem Rl.isD(I:Rl K F H S ρ σ)(h:ρ[i]?=some (some s))(x:s.t.isD=true):¬ S i b:=by
 obtain⟨v,_,r⟩:=I.sl i s h;generalize s.t=t at r x;generalize s.st=st at r;cases r with|d r n=>exact n b|_=>cases x
structure Held(F H:Hp)(S:Ft)(ρ:kA)(Z:xB):Prop where
 dom:∀b,Z b->H b≠none/\F b=none
 nw:∀(i:Nat) s,ρ[i]?=some (some s)->∀b,Z b->¬ S i b
theorem Held.nu(h:Held F H S ρ Z):∀b,Z b->¬ U ρ S b:=λb hb ⟨i,t,z,x⟩=>h.nw i _ z b hb x
theorem Held.step(h:Held F H S ρ Z)(s:Stp F H S ρ X m S1 l)(j:Rl K X m S1 l σ):Held X m S1 l Z where
 dom:=λb hb=>by
  obtain⟨u,k⟩:=h.dom b hb;refine⟨λz=>u (s.dm b z),?_⟩;by_cases q:X b=none;exact q;rcases s.fn b k q with z|z
  ·exact absurd z (h.nu b hb)
  exact absurd z u
 nw:=λi w e b hb z=>by
  cases w with
  |own t=>rcases s.uu b ⟨i,t,e,z⟩ with q|q;exact h.nu b hb q;exact(h.dom b hb).1 q
  |ky t =>
   cases x:t.isD with|true=>exact j.isD e x z|false=>obtain⟨f,a⟩:=s.bo i t e x;rw[a]at z;exact h.nw i _ f b hb z
theorem Held.none:Held F H S ρ λ_=>False:=⟨λ_ z=>z.elim,λ_ _ _ _ z=>z.elim⟩
theorem Held.or{Y:xB}(a:Held F H S ρ Z)(b:Held F H S ρ Y):Held F H S ρ λx=>Z x∨Y x:=⟨λx h=>h.elim (a.dom x) (b.dom x),λi s e x h=>h.elim (a.nw i s e x) (b.nw i s e x)⟩
def DI(F H:Hp)(W:xB):Hp:=open Classical in λb=>if W b then H b else F b
theorem CI(h:W b):DI F H W b=H b:=if_pos h
theorem mC(h:¬ W b):DI F H W b=F b:=if_neg h
theorem OG(h:∀b,W b->F b=none):Same F (DI F H W):=λb u e=>by rw[mC λz=>by rw[h b z]at e;cases e];exact e
theorem Ma(f:Same F H):Same (DI F H W) H:=λb u e=>by by_cases hb:W b;rw[CI hb]at e;exact e;rw[mC hb]at e;exact f b u e
theorem Rl.frz(I:Rl K F H S ρ σ){W:xB}(h:Held F H S ρ W):Rl K (DI F H W) H S ρ σ where
 fh:=Ma I.fh
 len:=I.len
 sl:=λi s e=>by obtain⟨v,u,x⟩:=I.sl i s e;refine⟨v,u,x.mono (OG λb hb=>(h.dom b hb).2) λb hb=>⟨rfl,?_⟩⟩;rw[mC λz=>h.nw i s e b z hb];exact(x.dom b hb).2
 dj:=I.dj
theorem Stp.frz(s:Stp F H S ρ X m S1 l){W:xB}(x:∀b,W b->X b=none)(fr:∀b,W b->H b=none∨U ρ S b):Stp F H S ρ (DI X m W) m S1 l :=
 ⟨s.ff.trans (OG x),s.hh,s.dm,λb h z=>by by_cases q:W b;exact(fr b q).symm;rw[mC q]at z;exact s.fn b h z,s.uu,s.bo⟩
theorem Ste.frz(s:Ste F H S ρ X m S1 l){W:xB}(h:∀b,W b->X b=none)(fr:∀b,W b->H b=none∨U ρ S b):Ste F H S ρ (DI X m W) m S1 l:=⟨s.toStp.frz h fr,s.ow⟩
theorem Stp.new(s:Stp F H S ρ X m S1 l){p:Addr}(h:m p=none)(o:HO):Stp F H S ρ X (BA m p o) S1 l :=
 ⟨s.ff,λb u e n=>LB h b u (s.hh b u e n),λb e=>by by_cases hb:b=p;rw[hb,JA]at e;cases e;rw[vA hb]at e;exact s.dm b e,s.fn,s.uu,s.bo⟩
theorem Ste.new(s:Ste F H S ρ X m S1 l){p:Addr}(h:m p=none)(o:HO):Ste F H S ρ X (BA m p o) S1 l:=⟨s.toStp.new h o,s.ow⟩
theorem Rl.same(I:Rl K F H S ρ σ)(h:Same H m):Rl K F m S ρ σ where
 fh:=I.fh.trans h
 len:=I.len
 sl:=λi s e=>by
  obtain⟨v,z,x⟩:=I.sl i s e;refine⟨v,z,x.mono (.refl _) λb hb=>⟨?_,(x.dom b hb).2⟩⟩;cases e:H b with|none=>exact absurd e (x.dom b hb).1|some u=>exact h b u e
 dj:=I.dj
theorem Rl.new(I:Rl K F H S ρ σ){p:Addr}(h:H p=none)(o:HO):Rl K F (BA H p o) S ρ σ:=I.same (LB h)
theorem Stp.newT(s:Stp F H S ρ X m S1 l)(h:m p=none)(u:X p=none)(o:HO):Stp F H S ρ (BA X p o) (BA m p o) S1 l :=
 let x:=s.new h o
 ⟨s.ff.trans (LB u),x.hh,x.dm,λb e z=>by by_cases hb:b=p;rw[hb];exact .inr (s.dm p h);rw[vA hb]at z;exact s.fn b e z,s.uu,s.bo⟩
theorem Ste.newT(s:Ste F H S ρ X m S1 l)(h:m p=none)(x:X p=none)(o:HO):Ste F H S ρ (BA X p o) (BA m p o) S1 l:=⟨s.toStp.newT h x o,s.ow⟩
theorem Rl.newT(I:Rl K F H S ρ σ)(h:H p=none)(o:HO):Rl K (BA F p o) (BA H p o) S ρ σ where
 fh:=λb u e=>by by_cases hb:b=p;rw[hb,JA]at e ⊢;exact e;rw[vA hb]at e ⊢;exact I.fh b u e
 len:=I.len
 sl:=λi s e=>by obtain⟨v,k,x⟩:=I.sl i s e;refine⟨v,k,x.mono (LB (I.fh.free h)) λb hb=>?_⟩;have w:b≠p:=λz=>(x.dom b hb).1 (by rw[z];exact h);rw[vA w,vA w];exact⟨rfl,(x.dom b hb).2⟩
 dj:=I.dj
theorem EY(ρ:kA)(i:Nat):(lockA ρ)[i]?=ρ[i]?.map IF:=by unfold lockA;rw[Qc]
theorem tB{ρ:kA}(h:(lockA ρ)[i]?=some (some s)):∃x,ρ[i]?=some (some x)/\s=.ky x.t:=by
 rw[EY]at h;cases e:ρ[i]? with
 |none=>rw[e]at h;cases h|some o =>
  rw[e]at h;cases o with
  |none=>cases h|some x =>
   cases x with|own t=>injection h with h;injection h with h;subst h;exact⟨_,rfl,rfl⟩|ky t=>injection h with h;injection h with h;subst h;exact⟨_,rfl,rfl⟩
theorem vD(b:Addr):¬ U (lockA ρ) S b:=λ⟨i,t,h,_⟩=>by obtain⟨x,_,e⟩:=tB h;cases e
theorem Rl.lockA(I:Rl K F H S ρ σ):Rl K F H S (lockA ρ) σ where
 fh:=I.fh
 len:=by unfold L3.lockA;rw[QF];exact I.len
 sl:=λi s e=>by obtain⟨x,h,rfl⟩:=tB e;obtain⟨v,u,z⟩:=I.sl i x h;exact⟨v,u,z.weak⟩
 dj:=λi j t s _ h=>by obtain⟨x,_,e⟩:=tB h;cases e
theorem Stp.unlockA(s:Stp F H S (L3.lockA ρ) X m S1 l):Stp F H S ρ X m S ρ :=
 ⟨s.ff,λb u e _=>s.hh b u e (vD b),s.dm,λb h z=>(s.fn b h z).elim (λq=>absurd q (vD b)) .inr,λ_ h=>.inl h,λ_ _ h _=>⟨h,rfl⟩⟩
theorem Rl.unlockA(I:Rl K F H S ρ σ)(s:Stp F H S (L3.lockA ρ) X m S1 l)(f:Same X m):Rl K X m S ρ σ where
 fh:=f
 len:=I.len
 sl:=λi sl e=>by obtain⟨v,x,h⟩:=I.sl i sl e;exact⟨v,x,s.keep h λb _=>vD b⟩
 dj:=I.dj
structure VR(K:QC)(vs:LN)(g:Hp)(c:Ft)(y:kA)(F H:Hp)(S:Ft)(ρ:kA)(v:V)(t:T)(n:Bool)(Z:xB):Prop where
 tr:Tr K F H n v t Z
 fr:n=true->∀b,Z b->g b=none∨U y c b
 tm:n=false->∀b,Z b->∃(i:Nat) (s:Sl),i∈vs/\ρ[i]?=some (some s)/\S i b
 nw:n=true->∀(i:Nat) s,ρ[i]?=some (some s)->∀b,Z b->¬ S i b
theorem VR.d{vs:LN}{g:Hp}{c:Ft}{y:kA}{v:V}{x:D}(n:Bool)(r:Rep K F v x):VR K vs g c y F H S ρ v (.d x) n (λ_=>False) :=
 ⟨.d r λ_ z=>z,λ_ _ z=>z.elim,λ_ _ z=>z.elim,λ_ _ _ _ _ z=>z.elim⟩
theorem VR.held(h:VR K vs g c y F H S ρ v t true Z):Held F H S ρ Z:=⟨λb hb=>h.tr.dom b hb,h.nw rfl⟩
theorem VR.vars{ws:LN}(h:VR K vs g c y F H S ρ v t n Z)(k:∀i∈vs,i∈ws):VR K ws g c y F H S ρ v t n Z :=
 ⟨h.tr,h.fr,λe b hb=>let⟨i,s,z,x⟩:=h.tm e b hb;⟨i,s,k i z,x⟩,h.nw⟩
theorem VR.from(s:Stp F H S ρ X m S1 l)(h:VR K vs m S1 l B E C A v t n Z):VR K vs H S ρ B E C A v t n Z :=
 ⟨h.tr,λe b hb=>by rcases h.fr e b hb with q|q;exact .inl (s.dm b q);exact(s.uu b q).symm,h.tm,h.nw⟩
theorem VR.frz{vs:LN}{v:V}{t:T}{n:Bool}{Z:xB}(s:Ste F H S ρ X m S1 l)(I:Rl K X m S1 l σ)(h:VR K vs H S ρ X m S1 l v t n Z) :
  ∃B o,Ste F H S ρ B m S1 l/\Rl K B m S1 l σ/\Tr K B m false v (oA t n) o/\(HH t n=true->Rep K B v t.er)/\(∀b,o b->∃(i:Nat) (s:Sl),i∈vs/\l[i]?=some (some s)/\S1 i b) /\
   ∀st a t' k,Tr K X m st a t' k->(∀b,k b->∃(i:Nat) (s:Sl),l[i]?=some (some s)/\S1 i b)->Tr K B m st a t' k:=by
 cases n with
 |true =>
  have w:=h.held;have j:=OG (H:=m) λb hb=>(w.dom b hb).2;have f:=h.tr.kept j λb u hb e=>by rw[CI hb];exact e
  refine⟨DI X m Z,λ_=>False,s.frz (λb hb=>(w.dom b hb).2) (h.fr rfl),I.frz w,.d f λ_ z=>z,λ_=>f,λb z=>z.elim,λst a t' k r G=>r.mono j λb hb=>⟨rfl,?_⟩⟩;obtain⟨i,Y,L,J⟩:=G b hb;rw[mC λz=>w.nw i Y L b z J];exact(r.dom b hb).2
 |false =>
  refine⟨X,Z,s,I,h.tr,?_,h.tm rfl,λ_ _ _ _ r _=>r⟩;intro e;have q:=h.tr;cases t with
  |d x=>cases q with|d r n=>exact r
  |_=>cases e
end
end
noncomputable abbrev zB(K:QC)(vs:LN)(F H:Hp)(S:Ft)(ρ:kA)(σ:St)(Q:TK)(R:VK):Prop :=
 ∀v z x y h t n Z,Ste F H S ρ z x y h->Rl K z x y h σ->VR K vs H S ρ z x y h v t n Z->Q t n h->R v x
noncomputable abbrev pH(K:QC)(F H:Hp)(S:Ft)(ρ:kA)(σ:St)(Q:Bool->kA->Prop)(R:Bool->Hp->Prop):Prop :=
 ∀b z x y h,Ste F H S ρ z x y h->Rl K z x y h σ->Q b h->R b x
section
variable{K:QC}{ws:LN}{F H B A:Hp}{S S1:Ft}{ρ Y:kA}{σ:St}{v w:V}{a b:T}{J G:xB}{Q:TK}{R:VK}{E C:Bool}
section
variable{X o:Hp}{m:Ft}{u:kA}{p:Addr}{vs:LV}{ds:List D}
theorem zB.from(k:zB K ws F H S ρ σ Q R)(s:Ste F H S ρ X o m u):zB K ws X o m u σ Q R:=λv f e y h t n Z x z r q=>k v f e y h t n Z (s.trans x) z (r.from s.toStp) q
theorem pH.from{Q:Bool->kA->Prop}{R:Bool->Hp->Prop}(k:pH K F H S ρ σ Q R)(s:Ste F H S ρ X o m u):pH K X o m u σ Q R:=λb f e y h x z q=>k b f e y h (s.trans x) z q
theorem zB.vars{us:LN}(k:zB K ws F H S ρ σ Q R)(h:∀i∈us,i∈ws):zB K us F H S ρ σ Q R:=λv e z y x t n Z s I r q=>k v e z y x t n Z s I (r.vars h) q
theorem zB.d(k:zB K ws F H S ρ σ Q R)(s:Ste F H S ρ B A S1 Y)(I:Rl K B A S1 Y σ){x:D}{n:Bool}(r:Rep K B v x)(q:Q (.d x) n Y):R v A:=k v B A S1 Y _ n _ s I (VR.d n r) q
theorem zB.list(k:zB K ws F H S ρ σ Q R)(s:Ste F H S ρ B A S1 Y)(I:Rl K B A S1 Y σ)(x:A p=none){ts:LT}{W:xB}(r:Trs K B A true vs ts W)
  (fr:∀b,W b->H b=none∨U ρ S b) (y:Held B A S1 Y W) (q:Q (.lst ts) true Y):R (.ref p) (BA A p (.lst vs)):=by
 have g:∀b,A b≠none->b≠p:=λb h z=>h (by rw[z];exact x);refine k _ B _ S1 Y _ true (λb=>b=p∨W b) (s.new x _) (I.new x _) ⟨.lst JA (I.fh.free x) (r.mono (.refl _) λb hb=>⟨?_,(y.dom b hb).2⟩) (λz=>(y.dom p z).1 x) (λb=>wP),λ_ b hb=>?_,λz=>(by cases z),λ_ i f e b hb z=>?_⟩ q;rw[vA (g b (y.dom b hb).1)];rcases hb with rfl|hb
 ·exact .inl (s.dm _ x)
 exact fr b hb;rcases hb with rfl|hb
 ·exact(I.dom e z).1 x
 exact y.nw i f e b hb z
theorem zB.listD(k:zB K ws F H S ρ σ Q R)(s:Ste F H S ρ B A S1 Y)(I:Rl K B A S1 Y σ)(h:A p=none)(r:Reps K B vs ds)(q:Q (.lst (ds.map T.d)) true Y):R (.ref p) (BA A p (.lst vs)) :=
 k.list s I h (Trs.of_reps r) (λb z=>z.elim) .none q
theorem zB.tupD(k:zB K ws F H S ρ σ Q R)(s:Ste F H S ρ B A S1 Y)(I:Rl K B A S1 Y σ)(h:A p=none){n:Bool}(r:Reps K B vs ds)(q:Q (.d (.tuple ds)) n Y):R (.ref p) (BA A p (.tup vs)) :=
 zB.d k (s.newT h (I.fh.free h) _) (I.newT h _) (.tup (GD.of JA) (r.mono (LB (I.fh.free h)))) q
theorem zB.tup(k:zB K ws F H S ρ σ Q R)(s:Ste F H S ρ B A S1 Y)(I:Rl K B A S1 Y σ){p:Addr}(x:A p=none){vs:LV}{ts:LT}{W:xB}(r:Trs K B A true vs ts W)
  (fr:∀b,W b->H b=none∨U ρ S b) (y:Held B A S1 Y W) (q:Q (YF ts) true Y):R (.ref p) (BA A p (.tup vs)):=by
 unfold YF at q;cases e:BF ts with
 |some ds=>rw[e]at q;exact k.tupD s I x (r.un e).1 q|none =>
  rw[e]at q;have g:∀b,A b≠none->b≠p:=λb h z=>h (by rw[z];exact x);refine k _ B _ S1 Y _ true (λb=>b=p∨W b) (s.new x _) (I.new x _) ⟨.tup JA (I.fh.free x) (r.mono (.refl _) λb hb=>⟨?_,(y.dom b hb).2⟩) (λz=>(y.dom p z).1 x) (λb=>wP),λ_ b hb=>?_,λz=>(by cases z),λ_ i f e b hb z=>?_⟩ q;rw[vA (g b (y.dom b hb).1)];rcases hb with rfl|hb
  ·exact .inl (s.dm _ x)
  exact fr b hb;rcases hb with rfl|hb
  ·exact(I.dom e z).1 x
  exact y.nw i f e b hb z
theorem mj{W:Operator}(s:Ste F H S ρ B A S1 Y)(I:Rl K B A S1 Y σ)(Z:Tr K B A E v a J)(r:Tr K B A C w b G)(h:binT W a.vw b.vw λz n=>Q z n Y)(k:zB K ws F H S ρ σ Q R):Xb K W v w A R:=by
 have g:∀{i j:Int},a.vw=.sc (.int i)->b.vw=.sc (.int j)->v=.int i/\w=.int j:=λf e=>⟨Z.int f,r.int e⟩
 cases W with
 |Add =>
  rcases h with⟨i,j,f,e,h⟩| ⟨x,y,f,e,h⟩| ⟨P,N,ds,es,f,e,e1,e2,hl,q⟩
  obtain⟨rfl,rfl⟩:=g f e;exact k.d s I (.int _) h;obtain rfl:=Z.str f;obtain rfl:=r.str e;exact⟨h.1,k.d s I (.str _) h.2⟩;obtain⟨p,xs,_,rfl,hp,rp,_⟩:=Z.ls I.fh f;obtain⟨p2,O,_,rfl,hq,rq,_⟩:=r.ls I.fh e;have M:=(rp.un e1).1;have L:=(rq.un e2).1;exact⟨xs,O,hp,hq,by rw[M.length,L.length];exact hl,λl hl=>k.listD s I hl (M.append L) q⟩
 |Sub=>obtain⟨i,j,f,e,h⟩:=h;obtain⟨rfl,rfl⟩:=g f e;exact k.d s I (.int _) h|Mult =>
  rcases h with⟨i,j,f,e,h⟩| ⟨x,y,f,e,h⟩
  obtain⟨rfl,rfl⟩:=g f e;exact⟨h.1,k.d s I (.int _) h.2⟩;obtain rfl:=Z.str f;obtain rfl:=r.int e;exact⟨h.1,k.d s I (.str _) h.2⟩
 |FloorDiv=>obtain⟨i,j,f,e,h⟩:=h;obtain⟨rfl,rfl⟩:=g f e;exact⟨h.1,k.d s I (.int _) h.2⟩|Mod=>obtain⟨i,j,f,e,h⟩:=h;obtain⟨rfl,rfl⟩:=g f e;exact⟨h.1,k.d s I (.int _) h.2⟩|_=>exact h.elim
theorem Xd{x y:D}{r:Bool->Prop}(neg:Bool)(e:Rep K A v x)(z:Rep K A w y)(h:yq x y λk=>r (if neg then !k else k))(k:∀c,r c->R (.bl c) A):rEq K neg v w A R:=by
 have n:TF x/\TF y/\r (if neg then !PyData.eqv x y else Qu x y)->(∃l f,Rep K A v l/\Rep K A w f/\TF l/\TF f/\R (.bl (if neg then !PyData.eqv l f else Qu l f)) A):=λ⟨Z,s,q⟩ =>
  ⟨x,y,e,z,Z,s,k _ q⟩
 unfold yq at h;split at h;cases e;cases z;exact k _ h;cases e;cases z;exact k _ h;cases e;cases z;exact k _ h;have g:=n h;rename_i n1 n2 n3;cases e with
 |int i =>
  cases z with|int j=>exact absurd rfl (n1 i j rfl)|_=>exact g
 |str i =>
  cases z with|str j=>exact absurd rfl (n2 i j rfl)|_=>exact g
 |bl i =>
  cases z with|bl j=>exact absurd rfl (n3 i j rfl)|_=>exact g
 |_=>exact g
theorem j6{F:Hp}{v w:V}{a b:D}(x:Rep K F v a)(h:Rep K F w b)(z:PB a=true)(y:PB b=true):Ra v w=Qu a b:=by cases x<;>cases h<;>first|exact absurd (show false=true from z) QG|exact absurd (show false=true from y) QG | (simp only[Qu];rfl) | (simp only[Qu])
theorem rV{F:Hp}{v:V}{a:D}(h:Rep K F v a)(x:PB a=true):uG v=true:=by cases h<;>first|rfl|exact absurd (show false=true from x) QG
theorem CS{F:Hp}(h:Reps K F vs ds)(f:ds.all PB=true):vs.all uG=true :=
 Reps.ind (R:=λvs ds=>ds.all PB=true->vs.all uG=true) (λ_=>rfl) (λh x f=>by rw[qb,Qa]at f ⊢;exact⟨rV h f.1,x f.2⟩) h f
theorem GM{F:Hp}{v:V}{a:D}(x:Rep K F v a)(z:PB a=true):∀{vs:LV}{ds:List D},Reps K F vs ds->ds.all PB=true->inV v vs=ds.any λy=>Qu y a
 |_,_,.nil,_=>rfl|_,_,.cons h t,f=>by rw[qb,Qa]at f;have e:=GM x z t f.2;unfold inV at e ⊢;rw[WA,WA,j6 h x f.1 z,e]
end
mutual
theorem sW{F:Hp}:∀{k:NK}{v:V},Rep K F v (tD k)->Mj K F k v
 | .s x,v,h=>by have h:Rep K F v (.str x):=h;cases h;rfl|.t ks,v,h=>by
  have h:Rep K F v (.tuple (tDs ks)):=h;cases h with|tup z y=>exact⟨_,_,rfl,z,reps_key y⟩
theorem reps_key{F:Hp}:∀{ks:List NK}{vs:LV},Reps K F vs (tDs ks)->KyVs K F ks vs
 |[],vs,h=>by have h:Reps K F vs []:=h;cases h;rfl|k::ks,vs,h=>by
  have h:Reps K F vs (tD k::tDs ks):=h;cases h with|cons h t=>exact⟨_,_,rfl,sW h,reps_key t⟩
end
section
variable{k x y:D}{o:HO}{ks ds:List D}{vs xs:LV}{u:Bool->Prop}{j:CmpOp}{X:Bool->Hp->Prop}{n:String}{Y:xB}{ts:LT}
theorem lQ{F:Hp}{v:V}(hk:HD true k)(r:Rep K F v k):∃q p,k=tD q/\v=.ref p/\RN K F p q:=by obtain⟨q,rfl,h⟩:=hk;have r:=sW r;obtain⟨p,_,rfl,_⟩:=id r;exact⟨_,p,rfl,rfl,r,h⟩
theorem XG(q:NK):∀(kvs:List KE),yH kvs q=(bA (kvs.map λp=>tD p.1) (tD q)).bind λn=>(kvs.map (·.2.2))[n]?
 |[]=>rfl|p::r=>by rw[QU,QU];unfold bA;by_cases e:p.1=q;rw[xR e,if_pos (by rw[e])];rfl;rw[uR e,if_neg λz=>e (gU z),XG q r];cases bA (r.map λp=>tD p.1) (tD q)<;>rfl
theorem rJ(q:Key):∀(kvs:List (Key×V)),ZL kvs q=(bA (kvs.map λp=>kD p.1) (kD q)).bind λn=>(kvs.map (·.2))[n]?
 |[]=>rfl|p::r=>by rw[QU,QU];unfold bA;by_cases e:p.1=q;rw[JL e,if_pos (by rw[e])];rfl;rw[YL e,if_neg λz=>e (K5 z),rJ q r];cases bA (r.map λp=>kD p.1) (kD q)<;>rfl
theorem oJ.get{a:Addr}{b:Bool}(v:H1 a=some o)(q:oJ K H1 b o ks vs)(f:Rep K H1 w k)(hk:HD b k):AQ K H1 a w ((bA ks k).bind λn=>vs[n]?):=by
 cases b with
 |true=>obtain⟨e,h,rfl,rfl,rfl,i,_⟩:=q;obtain⟨q,p,rfl,rfl,g⟩:=lQ hk f;exact⟨e,h,q,v,i,g,(XG q h).symm⟩|false =>
  obtain⟨z,rfl⟩:=hk;cases f;rcases q with⟨h,_,rfl,rfl,rfl,_⟩| ⟨e,rfl,rfl,rfl⟩
  exact .inl ⟨h,v,(rJ (.inr z) h).symm⟩;exact .inr ⟨e,v,rfl⟩
theorem FS{b:Bool}(q:oJ K H1 b o ks vs):((bA ks k).bind λn=>vs[n]?).isSome=(bA ks k).isSome:=by
 cases e:bA ks k with
 |none=>rfl|some n =>
  have z:=(Qf.mp (nC e)).1;have h:n<vs.length:=by rw[<- q.len];exact z
  simp[h]
theorem uV{b neg:Bool}{a:Addr}(w:H1 a=some o)(q:oJ K H1 b o ks vs)(z:Rep K H1 v x)(hk:HD b x)(h:R (.bl (if neg then !(bA ks x).isSome else(bA ks x).isSome)) H1):ZR K neg v (.ref a) H1 R :=
 .inr (.inr ⟨_,q.get w z hk,by rw[FS q];exact h⟩)
theorem zd(neg:Bool)(z:Rep K H1 v x)(f:Rep K H1 w y)(h:Ap x y λk=>u (if neg then !k else k))(k:∀c,u c->R (.bl c) H1):ZR K neg v w H1 R:=by
 unfold Ap at h;split at h;cases z;cases f;exact k _ h;rename_i ds;have e:=f;cases f with
 |lst p g =>
  rcases h.1 with⟨i,fs⟩| ⟨m,l⟩
  refine .inl ⟨_,_,rfl,.inl p,rV z i,CS g fs,?_⟩;rw[GM z i g fs];exact k _ h.2;exact .inr (.inl ⟨_,ds,z,.inl e,m,l,k _ h.2⟩)
 rename_i ds;have e:=f;cases f with
 |tup p g =>
  rcases h.1 with⟨i,fs⟩| ⟨m,l⟩
  refine .inl ⟨_,_,rfl,.inr p,rV z i,CS g fs,?_⟩;rw[GM z i g fs];exact k _ h.2;exact .inr (.inl ⟨_,ds,z,.inr e,m,l,k _ h.2⟩)
 obtain⟨b,s,hk,q⟩:=h;cases f with
 |@dct Z a o ks vs ds h dk r =>
  have hl:ks.length=ds.length:=by rw[dk.len,Reps.length r]
  rw[Wr (wx hl)]at q;cases vX dk s;exact uV h dk z hk (k _ q)
 exact h.elim
theorem KP{g:Int->Int->Bool}(a:Rep K H1 v x)(z:Rep K H1 w y)(h:JY g x y u)(k:∀c,u c->R (.bl c) H1):rY g v w H1 R:=by unfold JY at h;split at h;cases a;cases z;exact k _ h;exact h.elim
theorem Rep.non_iff(h:Rep K H1 v x):decide (v=.non)=F5 x:=by cases h<;>rfl
theorem iV(a:Rep K H1 v x)(z:Rep K H1 w y)(h:rZ j x y u)(k:∀c,u c->R (.bl c) H1):J6 K j v w H1 R:=by
 cases j with|Eq=>exact Xd false a z h k|NotEq=>exact Xd true a z h k|Lt=>exact KP a z h k|LtE=>exact KP a z h k|Gt=>exact KP a z h k|GtE=>exact KP a z h k|In=>exact zd false a z h k|NotIn=>exact zd true a z h k|Is=>have b:vZ x y u:=h;unfold vZ at b;split at b;cases z;have e:=a.non_iff;show R (.bl (decide (v=.non))) H1;rw[e];exact k _ b;cases z;cases a;exact⟨_,rfl,k _ b⟩;exact b.elim|IsNot=>have b:vZ x y λk=>u (!k):=h;unfold vZ at b;split at b;cases z;have e:=a.non_iff;show R (.bl (!decide (v=.non))) H1;rw[e];exact k _ b;cases z;cases a;exact⟨_,rfl,k _ b⟩;exact b.elim
theorem jb(f:Same F1 H1)(z:Rep K H1 v x)(a:Tr K F1 H1 sb w b Zb)(h:yb j x b u)(k:∀c,u c->R (.bl c) H1):J6 K j v w H1 R:=by
 cases b with
 |d y=>exact iV z (a.rep f) h k|lst ts=>exact iV z (a.rep f) h k|tup ts=>exact iV z (a.rep f) h k|dct b ks ts =>
  obtain⟨hk,h⟩:=h;cases a with
  |dct e dk _ _ _ _ =>
   rcases h with⟨rfl,q⟩| ⟨rfl,q⟩
   exact uV (neg:=false) e (dk.mono f) z hk (k _ q);exact uV (neg:=true) e (dk.mono f) z hk (k _ q)
theorem BI(r:Reps K F xs ds):(!ds.isEmpty)=!xs.isEmpty:=by cases r<;>rfl
theorem xW(z:Rep K H1 v x)(h:jI x u)(k:∀c,u c->X c H1):VF K v H1 X:=by
 unfold jI at h;split at h;cases z;exact k _ h;cases z;exact k _ h;cases z;exact k _ h;cases z;exact⟨h.1,k _ h.2⟩;cases z with|lst a w=>rw[BI w]at h;exact⟨_,.inl ⟨_,a,rfl⟩,k _ h⟩
 cases z with|tup a w=>rw[BI w]at h;exact⟨_,.inr (.inl ⟨_,a,rfl⟩),k _ h⟩
 exact h.elim
theorem F6(z:Rep K H1 v x)(h:Vj x u)(k:∀c,u c->X c H1):G6 v H1 X:=by unfold Vj at h;split at h;cases z;exact k _ h;exact h.elim
theorem Vi(s:Ste F H S ρ F1 H1 S1 ρ1)(I:Rl K F1 H1 S1 ρ1 σ)(B:Tr K F1 H1 sa v a Za)(G:∀b,Za b->∃(i:Nat) (s:Sl),i∈ws/\ρ1[i]?=some (some s)/\S1 i b)(A:Tr K F1 H1 sb w b Zb)(h:VN a.vw b.vw λz=>Q z false ρ1)(k:zB K ws F H S ρ σ Q R):sY K v w H1 R:=by
 rcases h with⟨z,i,c,m,l,g,f,q⟩| ⟨ts,i,d,m,l,g,q⟩| ⟨ts,i,d,m,l,g,q⟩
 obtain rfl:=B.str m;obtain rfl:=A.int l;exact⟨g,c,f,k.d s I (.str _) q⟩;obtain⟨p,xs,J,rfl,E,W,C⟩:=B.ls I.fh m;obtain rfl:=A.int l;obtain⟨x,Z,f,r,e⟩:=W.at g;exact⟨xs,x,.inl E,f,k _ F1 H1 S1 ρ1 _ false Z s I ⟨r,λz=>(by cases z),λ_ b hb=>G b (C b (e b hb)),λz=>(by cases z)⟩ q⟩;obtain⟨p,xs,J,rfl,E,W,C⟩:=B.tp I.fh m;obtain rfl:=A.int l;obtain⟨x,Z,f,r,e⟩:=W.at g;exact⟨xs,x,.inr E,f,k _ F1 H1 S1 ρ1 _ false Z s I ⟨r,λz=>(by cases z),λ_ b hb=>G b (C b (e b hb)),λz=>(by cases z)⟩ q⟩
theorem Si(s:Ste F H S ρ F1 H1 S1 ρ1)(I:Rl K F1 H1 S1 ρ1 σ)(W:Tr K F1 H1 sa v a Za)(f:∀b,Za b->∃(i:Nat) (s:Sl),i∈ws/\ρ1[i]?=some (some s)/\S1 i b)(m:Rep K H1 w y)(h:MS a.vw y λz=>Q z false ρ1)(k:zB K ws F H S ρ σ Q R):sY K v w H1 R:=by
 obtain⟨b,ks,ts,n,d,J,hk,E,B,q⟩:=h;obtain⟨p,o,vs,L,rfl,C,dk,l,A,_⟩:=W.dc I.fh J;obtain⟨x,Z,G,r,e⟩:=l.get B;have g:=(dk.mono I.fh).get C m hk;rw[E]at g;have g:AQ K H1 p w (vs[n]?):=g;rw[G]at g;have fin:=k _ F1 H1 S1 ρ1 _ false Z s I ⟨r,λz=>(by cases z),λ_ b hb=>f b (A b (e b hb)),λz=>(by cases z)⟩ q;cases w with|str z=>exact⟨x,g,fin⟩|ref c=>exact⟨x,g,fin⟩|_=>exact g.elim
theorem Reps.cut(r:Reps K F xs ds)(h z:Option Int):Reps K F (SS xs h z) (xF ds h z):=by unfold SS xF;rw[r.length];exact(r.drop _).take _
theorem fg{i m:Option Int}(s:Ste F H S ρ F1 H1 S1 ρ1)(I:Rl K F1 H1 S1 ρ1 σ)(f:Tr K F1 H1 sa v a Za)(h:HL a.vw i m λz n=>Q z n ρ1)(k:zB K ws F H S ρ σ Q R):yr K v i m H1 R:=by
 rcases h with⟨z,w,h⟩| ⟨ts,ds,w,e,q⟩| ⟨ts,ds,w,e,n,q⟩
 obtain rfl:=f.str w;exact⟨h.1,k.d s I (.str _) h.2⟩;obtain⟨p,xs,_,rfl,g,b,_⟩:=f.ls I.fh w;exact .inl ⟨p,xs,rfl,g,λl hl=>k.listD s I hl ((b.un e).1.cut _ _) q⟩;obtain⟨p,xs,_,rfl,g,b,_⟩:=f.tp I.fh w;refine .inr ⟨p,xs,rfl,g,by rw[(b.un e).1.length];exact n,λl hl=>k.tupD s I hl ((b.un e).1.cut _ _) q⟩
theorem E8{P:Option Int->Prop}{z:Option Int->Hp->Prop}(w:Rep K H1 v x)(h:RF x P)(k:∀o,P o->z o H1):gM v H1 z:=by unfold RF at h;split at h;cases w;exact k _ h;exact h.elim
def Gp:D->Value
 | .none=>.type "NoneType"|.bool _=>.type "bool"|.int _=>.type "int"|.str _=>.type "str"|.list _=>.type "list"|.tuple _=>.type "tuple"|.dict _=>.type "dict"
theorem Rep.ty(a:Rep K H1 v x):TyOf K H1 v (Gp x)∨Zu K H1 v (Gp x):=by
 cases a with
 |non=>exact .inl .non|bl b=>exact .inl (.bl _)|int b=>exact .inl (.int _)|str b=>exact .inl (.str _)|lst h w=>exact .inr (.inl ⟨_,_,rfl,h,rfl⟩)|tup h w=>exact .inr (.inr ⟨_,_,rfl,h,rfl⟩)|@dct b _ _ _ _ _ h q _ =>
  cases b with
  |true=>obtain⟨e,z,rfl,_⟩:=q;exact .inl (.dT h)|false =>
   rcases q with⟨z,_,rfl,_⟩| ⟨e,rfl,_⟩
   exact .inl (.dK h);exact .inl (.dT h)
theorem vi{k:Bool}(h:isD n x=some k)(z:dX n=true):QBL K (Gp x) (.type n)=some k:=by simp only[dX,wZ,beq_iff_eq]at z;rcases z with((((rfl|rfl)|rfl)|rfl)|rfl)|rfl<;>cases x<;>simp[isD]at h<;>subst h<;>rfl
theorem Ki{k:Bool}(z:Rep K H1 v x)(h:isD n x=some k)(w:dX n=true)(q:R (.bl k) H1):Cg K [v,.ty n] H1 R :=
 ⟨Gp x,.type n,k,z.ty,rfl,vi h w,q⟩
inductive Tn(K:QC)(F H:Hp)(Y:xB):LV->LT->Prop where
 |nil:Tn K F H Y [] []
 |cons {v:V}{t:T}{vs:LV}{ts:LT}{Z:xB}:Tr K F H false v t Z->(∀b,Z b->Y b)->Tn K F H Y vs ts->Tn K F H Y (v::vs) (t::ts)
theorem eL(ts:LT):∀{xs:List (T×Bool)},XN xs=ts->fC xs=ts.map T.vw
 |[],h=>by subst h;rfl|p::r,h=>by subst h;simp only[fC,XN,QU,eL _ rfl]
theorem Tn.one{x:Vw}(h:Tn K F H Y vs ts)(e:ts.map T.vw=[x]):∃v t Z,vs=[v]/\ts=[t]/\t.vw=x/\Tr K F H false v t Z/\∀b,Z b->Y b:=by
 cases h with
 |nil=>cases e|cons r z t =>
  simp only[QU,QAB]at e;cases t with|nil=>exact⟨_,_,_,rfl,rfl,e.1,r,z⟩|cons _ _ _=>simp at e
theorem BJ:∀{xs:LV}{z:LS},Reps K F xs (z.map PyData.str)->xs=z.map V.str
 |_,[],.nil=>rfl|_,y::z,.cons h t=>by cases h;rw[QU,BJ t]
theorem jO:∀(h:LS),Reps K F (h.map V.str) (h.map PyData.str)
 |[]=>.nil|y::h=>.cons (.str y) (jO h)
theorem iS:∀{xs:LV}{z:LI},Reps K F xs (z.map PyData.int)->xs=z.map V.int
 |_,[],.nil=>rfl|_,y::z,.cons h t=>by cases h;rw[QU,iS t]
theorem YO:∀(h:LI),Reps K F (h.map V.int) (h.map PyData.int)
 |[]=>.nil|y::h=>.cons (.int y) (YO h)
theorem oY{α:Type}{g:α->D}{w:LV}(A:xs.Perm w):∀{l:List α},Reps K F xs (l.map g)->∃z:List α,z.Perm l/\Reps K F w (z.map g):=by
 induction A with
 |nil=>intro l r;exact⟨l,QBO _,r⟩|cons x _ s =>
  intro l r;cases l with
  |nil=>cases r|cons a l=>cases r with|cons h t=>obtain⟨z,p,v⟩:=s t;exact⟨a::z,p.cons _,.cons h v⟩
 |swap x y E =>
  intro l r;cases l with
  |nil=>cases r|cons a l=>cases l with
   |nil=>cases r with|cons h t=>cases t
   |cons b l=>cases r with
    |cons h t=>cases t with|cons B t=>exact⟨b::a::l,QCO.swap _ _ _,.cons B (.cons h t)⟩
 |trans _ _ W Z=>intro l r;obtain⟨C,m,f⟩:=W r;obtain⟨q,i,e⟩:=Z f;exact⟨q,i.trans m,e⟩
theorem pU{ls:List (LS)}(h:Reps K F xs (ls.map IC)):∀x∈xs,∃a,∃v:LS,x=.ref a/\RC K F a (v.map V.str):=by
 induction ls generalizing xs with
 |nil=>cases h;exact λ_ z=>nomatch z
 |cons l ls w =>
  cases h with
  |cons r t =>
   intro x h;rcases QL.mp h with e|h;subst e;cases r with|lst q r=>exact⟨_,l,rfl,by rw[<- BJ r];exact q⟩
   exact w t x h
theorem Zj{L:Bi}(s:Ste F H S ρ F1 H1 S1 ρ1)(I:Rl K F1 H1 S1 ρ1 σ)(i:Tn K F1 H1 Y vs ts)(h:FX L (ts.map T.vw) λz n=>Q z n ρ1)(k:zB K ws F H S ρ σ Q R):Ho K L vs H1 R:=by
 cases L with
 |len =>
  rcases h with⟨z,e,h⟩| ⟨m,e,h⟩| ⟨m,e,h⟩
  obtain⟨v,t,Z,rfl,rfl,e,r,_⟩:=i.one e;obtain rfl:=r.str e;exact .inl ⟨_,rfl,h.1,k.d s I (.int _) h.2⟩;obtain⟨v,t,Z,rfl,rfl,e,r,_⟩:=i.one e;obtain⟨p,xs,_,rfl,w,f,_⟩:=r.ls I.fh e;exact .inr ⟨_,xs,rfl,.inl w,by rw[f.length];exact k.d s I (.int _) h⟩;obtain⟨v,t,Z,rfl,rfl,e,r,_⟩:=i.one e;obtain⟨p,xs,_,rfl,w,f,_⟩:=r.tp I.fh e;exact .inr ⟨_,xs,rfl,.inr w,by rw[f.length];exact k.d s I (.int _) h⟩
 |any=>obtain⟨m,bs,e,hb,q⟩:=h;obtain⟨v,t,Z,rfl,rfl,e,r,_⟩:=i.one e;obtain⟨p,xs,_,rfl,w,f,_⟩:=r.ls I.fh e;obtain rfl:=(f.un hb).1.bools;exact⟨bs,w,k.d s I (.bl _) q⟩|sorted =>
  rcases h with⟨m,C,e,hb,g,q⟩| ⟨m,ls,e,hb,g,q⟩| ⟨m,N,e,hb,g,q⟩
  obtain⟨v,t,Z,rfl,rfl,e,r,_⟩:=i.one e;obtain⟨p,xs,_,rfl,w,f,_⟩:=r.ls I.fh e;obtain rfl:=BJ (f.un hb).1;exact⟨_,rfl,.inl ⟨C,w,g,λl W hl A G=>k.listD s I hl (jO W) (q W A G)⟩⟩;obtain⟨v,t,Z,rfl,rfl,e,r,_⟩:=i.one e;obtain⟨p,xs,_,rfl,w,f,_⟩:=r.ls I.fh e;have E:=(f.un hb).1;refine⟨_,rfl,.inr (.inl ⟨xs,w,by rw[Reps.length E,QF];exact g,λx O=>?_,λl P hl w=>?_⟩)⟩;obtain⟨a,C,e,sq⟩:=pU E x O;exact⟨a,C,e,I.fh.seq sq⟩;obtain⟨J,A,M⟩:=oY w.symm E;exact k.listD s I hl M (q J A);obtain⟨v,t,Z,rfl,rfl,e,r,_⟩:=i.one e;obtain⟨p,xs,_,rfl,w,f,_⟩:=r.ls I.fh e;obtain rfl:=iS (f.un hb).1;exact⟨_,rfl,.inr (.inr ⟨N,w,g,λl B hl A G=>k.listD s I hl (YO B) (q B A G)⟩)⟩
 |tuple=>obtain⟨m,ds,e,hb,q⟩:=h;obtain⟨v,t,Z,rfl,rfl,e,r,_⟩:=i.one e;obtain⟨p,xs,_,rfl,w,f,_⟩:=r.ls I.fh e;exact⟨_,xs,rfl,w,λl hl=>k.tupD s I hl (f.un hb).1 q⟩|int=>obtain⟨b,e,q⟩:=h;obtain⟨v,t,Z,rfl,rfl,e,r,_⟩:=i.one e;obtain rfl:=r.bool e;exact⟨b,rfl,k.d s I (.int _) q⟩
theorem Ph{m:Mt}(s:Ste F H S ρ F1 H1 S1 ρ1)(I:Rl K F1 H1 S1 ρ1 σ)(w:Tr K F1 H1 sa v a Za)(b:Tn K F1 H1 Y vs ts)(h:lr m a.vw (ts.map T.vw) λz n=>Q z n ρ1)(k:zB K ws F H S ρ σ Q R):N9 K m v vs H1 R:=by
 cases m with|_=>exact h.elim
theorem Bn{x:Vw}(h:x.isS=true):∃z,x=.sc (.str z):=by
 cases x with
 |sc d=>cases d with|str z=>exact⟨z,rfl⟩|_=>exact(QG h).elim
 |_=>exact(QG h).elim
theorem zn{m:Mt}(w:Tr K F1 H1 sa v a Za)(h:M9 m a.vw=true):HZ K m.ty v H1:=by
 have h:=yA h;obtain⟨z,b⟩:=Bn h.1;obtain rfl:=w.str b;cases m with|_=>exact(QG h.2).elim
end
end
inductive AV(K:QC)(F H:Hp):List Md->LV->List (T×Bool)->(Addr->Prop)->(Addr->Prop)->Prop where
 |nil {md:List Md}{W Y:xB}:(∀b,¬ W b)->AV K F H md [] [] W Y
 |chg {md:List Md}{v:V}{vs:LV}{x:T}{xs:List (T×Bool)}{W Y:xB}:(md.headD .xx).isMut=true->AV K F H md.tail vs xs W Y->AV K F H md (v::vs) ((x,true)::xs) W Y
 |new {md:List Md}{v:V}{vs:LV}{x:T}{xs:List (T×Bool)}{Z W W' Y:xB}:(md.headD .xx).isMut=false->Tr K F H true v x Z->AV K F H md.tail vs xs W' Y->(∀b,Z b->¬ W' b)->(∀b,W b↔Z b∨W' b) ->
   AV K F H md (v::vs) ((x,true)::xs) W Y
 |tmp {md:List Md}{v:V}{vs:LV}{x:T}{xs:List (T×Bool)}{Z W Y:xB}:(md.headD .xx).isMut=false->Tr K F H false v x Z->(∀b,Z b->Y b)->AV K F H md.tail vs xs W Y ->
   AV K F H md (v::vs) ((x,false)::xs) W Y
section
variable{K:QC}{F H o l:Hp}{S S1:Ft}{ρ g:kA}{σ:St}
section
variable{Y W:xB}{md:List Md}{vs:LV}{xs:List (T×Bool)}{ws:LN}{c:Hp}{w:Ft}{y:kA}
theorem AV.sub{u:xB}(h:AV K F H md vs xs W Y)(k:∀b,Y b->u b):AV K F H md vs xs W u:=by
 induction h with|nil h=>exact .nil h|chg h t x=>exact .chg h (x k)|new h r t n q x=>exact .new h r (x k) n q|tmp h r z t x=>exact .tmp h r (λb hb=>k b (z b hb)) (x k)
theorem AV.dom(h:AV K F H md vs xs W Y):∀b,W b->H b≠none/\F b=none:=by
 induction h with|nil h=>exact λb hb=>absurd hb (h b)|chg h t x=>exact x|new h r t n q x=>exact λb hb=>((q b).mp hb).elim (r.dom b) (x b)|tmp h r z t x=>exact x
theorem AV.length(h:AV K F H md vs xs W Y):vs.length=xs.length:=by
 induction h with|nil h=>rfl|chg h t x=>simp[x]|new h r t n q x=>simp[x]|tmp h r z t x=>simp[x]
theorem AV.trs(h:AV K F H md vs xs W Y):(∀(i:Nat),(md.getD i .xx).isMut=false)->YE xs=true->Trs K F H true vs (KF xs) W:=by
 induction h with
 |nil h=>exact λ_ _=>.nil h|@chg md _ _ _ _ _ _ h t u =>
  intro m;have:=m 0;cases md with|nil=>cases h|cons a r=>exact absurd h (by simpa using this)
 |@new md v vs x xs Z W k Y h r t n q u =>
  intro m e;simp only[YE,Qa]at e;exact .cons r (u (λi=>by cases md with|nil=>exact m i|cons a md=>exact m (i+1)) e.2) n q
 |@tmp md v vs x xs Z W Y h r z t u =>
  intro m e;simp only[YE,Qa]at e;refine .cons (S1:=λ_=>False) ?_ (u (λi=>by cases md with|nil=>exact m i|cons a md=>exact m (i+1)) e.2) (λ_ z=>z.elim) λb=>by simp
  cases x with
  |d x=>cases r with|d r n=>exact .d r λ_ z=>z
  |_=>exact absurd e.1 (by simp[HH,T.isD])
theorem Lh(i:Nat):((([]:List Md).getD i .xx).isMut)=false:=rfl
theorem AV.tn(h:AV K F H md vs xs W Y)(e:Same F o)(k:∀b,W b->o b=H b)(f:∀b,Y b->F b=none->o b=none)(i:md=[]):Tn K o H Y vs (XN xs):=by
 induction h with|nil h=>exact .nil|chg h t a=>subst i;cases h|@new md v vs x xs Z W m Y h r t n q a=>subst i;refine .cons (Z:=λ_=>False) ?_ (λb z=>z.elim) (a (λb hb=>k b ((q b).mpr (.inr hb))) f rfl);exact .d (r.kept e λb u hb j=>by rw[k b ((q b).mpr (.inl hb))];exact j) λ_ z=>z|@tmp md v vs x xs Z W Y h r z t a=>subst i;exact .cons (r.mono e λb hb=>⟨rfl,f b (z b hb) (r.dom b hb).2⟩) z (a k f rfl)
structure AR(K:QC)(ws:LN)(md:List Md)(c:Hp)(w:Ft)(y:kA)(F H:Hp)(S:Ft)(ρ:kA)(vs:LV)(xs:List (T×Bool))(W Y:xB):Prop where
 av:AV K F H md vs xs W Y
 fr:∀b,W b->c b=none∨U y w b
 tm:∀b,Y b->∃(i:Nat) (s:Sl),i∈ws/\ρ[i]?=some (some s)/\S i b
 nw:∀(i:Nat) s,ρ[i]?=some (some s)->∀b,W b->¬ S i b
theorem AR.held(h:AR K ws md c w y F H S ρ vs xs W Y):Held F H S ρ W:=⟨h.av.dom,h.nw⟩
theorem AR.from{v u:Hp}{z:Ft}{x:kA}(s:Stp F H S ρ o l S1 g)(h:AR K ws md l S1 g v u z x vs xs W Y):AR K ws md H S ρ v u z x vs xs W Y :=
 ⟨h.av,λb hb=>by rcases h.fr b hb with q|q;exact .inl (s.dm b q);exact(s.uu b q).symm,h.tm,h.nw⟩
theorem AR.vars{us:LN}(h:AR K ws md c w y F H S ρ vs xs W Y)(k:∀i∈ws,i∈us):AR K us md c w y F H S ρ vs xs W Y :=
 ⟨h.av,h.fr,λb hb=>let⟨i,s,z,x⟩:=h.tm b hb;⟨i,s,k i z,x⟩,h.nw⟩
theorem AR.frz{ws:LN}{vs:LV}{xs:List (T×Bool)}{W Y:xB}(s:Ste F H S ρ o l S1 g)(I:Rl K o l S1 g σ)(h:AR K ws [] H S ρ o l S1 g vs xs W Y) :
  ∃v,Ste F H S ρ v l S1 g/\Rl K v l S1 g σ/\Tn K v l Y vs (XN xs) /\
   ∀st k t' u,Tr K o l st k t' u->(∀b,u b->∃(i:Nat) (s:Sl),g[i]?=some (some s)/\S1 i b)->Tr K v l st k t' u:=by
 have x:=h.held;have f:=OG (H:=l) λb hb=>(x.dom b hb).2;refine⟨DI o l W,s.frz (λb hb=>(x.dom b hb).2) h.fr,I.frz x,h.av.tn f (λb hb=>CI hb) (λb m n=>?_) rfl,λst k t' u r j=>r.mono f λb hb=>⟨rfl,?_⟩⟩;obtain⟨i,a,_,e,p⟩:=h.tm b m;rw[mC λz=>h.nw i a e b z p];exact n;obtain⟨i,a,q,e⟩:=j b hb;rw[mC λz=>x.nw i a q b z e];exact(r.dom b hb).2
def mB:List Md->LV->LV
 |_,[]=>[]|md,v::vs=>match md.headD .xx with
  | .chg=>v::mB md.tail vs|_=>mB md.tail vs
noncomputable abbrev xp(K:QC)(p:PX)(md:List Md)(F H:Hp)(S:Ft)(ρ:kA)(σ:St)(Q:List (T×Bool)->kA->Prop)(R:LV->Hp->Prop):Prop :=
 ∀vs u x z h xs W Y,Ste F H S ρ u x z h->Rl K u x z h σ->AR K (jH p) md H S ρ u x z h vs xs W Y->(mB md vs).map (λv=>some (some v))=(uA md p).map (λj=>σ[j]?)->Q xs h->R vs x
def No(K:QC)(F H:Hp)(x:XD)(h:Option Addr):Prop:=∃a fs,h=some a/\H a=some (.xd fs)/\Paired (λ(p:Str×V) (q:Str×D)=>p.1=q.1/\Rep K F p.2 q.2) fs x.2
def FE(K:QC)(F H:Hp)(S:Ft)(ρ:kA)(E:XE)(a:XK):Prop:=∀x v u h k z,Stp F H S ρ u h k z->Same u h->No K u h x v->E x->a x.1 v h
theorem FE.from{E:XE}{u:XK}(h:FE K F H S ρ E u)(s:Stp F H S ρ o l S1 g):FE K o l S1 g E u:=λx k e b a z v f r q=>h x k e b a z (s.trans v) f r q
theorem FE.never:FE K F H S ρ (λ_=>False) (λ_ _ _=>False):=λ_ _ _ _ _ _ _ _ _ z=>z
inductive ArgsR(K:QC)(F H:Hp)(Y:xB):List Md->LV->LT->Prop where
 |nil {md:List Md}:ArgsR K F H Y md [] []
 |chg {md:List Md}{v:V}{vs:LV}{t:T}{ts:LT}:md.headD .xx=.chg->ArgsR K F H Y md.tail vs ts->ArgsR K F H Y md (v::vs) (t::ts)
 |rd {md:List Md}{v:V}{vs:LV}{t:T}{ts:LT}{Z:xB}:md.headD .xx≠.chg->Tr K F H false v t Z->(∀b,Z b->Y b)->ArgsR K F H Y md.tail vs ts->ArgsR K F H Y md (v::vs) (t::ts)
structure Frm(M:xB)(F H F' H':Hp):Prop where
 ff:Same F F'
 fh:Same F' H'
 hh:∀b u,H b=some u->¬ M b->H' b=some u
 dm:∀b,H' b=none->H b=none
 fn:∀b,F b=none->F' b≠none->M b∨H b=none
noncomputable def lift(K:QC)(P:PSp):Sp:=λvs H Q E=>∃(F:Hp) (u:LT) (M Y:xB),Same F H/\ArgsR K F H Y P.md vs u/\Trs K F H true (mB P.md vs) (DB P.md u) M/\(∀b,Y b->¬ M b) /\
 P.run u (λr e=>∀v z h Z k,Frm M F H z h->Tr K z h true v r Z->Trs K z h true (mB P.md vs) e k->(∀b,Z b->¬ k b)->(∀b,Z b∨k b->M b∨H b=none)->Q v h)
  (λx=>∀a z h,Frm M F H z h->No K z h x a->E x.1 a h)
structure GOk(K:QC)(Γ:Ev)(Ψ:PEv):Prop where
 sp:∀f vs H Q E,lift K (Ψ.sp f) vs H Q E->Γ.sp f vs H Q E
 va:∀x d,Ψ.va x=some d->∀F,Rep K F (Γ.va x) d
structure PSnd(K:QC)(Γ:Ev)(Ψ:PEv)(p:PX):Prop where
 e:∀{E:XE}{EK:XK}{F H:Hp}{S:Ft}{ρ:kA}{σ:St}{Q:TK}{R:VK},Rl K F H S ρ σ->FE K F H S ρ E EK->(pe Ψ p E).e ρ Q->zB K (jH p) F H S ρ σ Q R->(wp K Γ p EK).e σ H R
 t:∀{E:XE}{EK:XK}{F H:Hp}{S:Ft}{ρ:kA}{σ:St}{Q:Bool->kA->Prop}{R:Bool->Hp->Prop},Rl K F H S ρ σ->FE K F H S ρ E EK->(pe Ψ p E).t ρ Q->pH K F H S ρ σ Q R->(wp K Γ p EK).t σ H R
 a:∀{E:XE}{EK:XK}{F H:Hp}{S:Ft}{ρ:kA}{σ:St}{md:List Md}{Q:List (T×Bool)->kA->Prop}{R:LV->Hp->Prop},Rl K F H S ρ σ->FE K F H S ρ E EK->(∀j∈uA md p,∃v,σ[j]?=some (some v))->(pe Ψ p E).a md ρ Q->xp K p md F H S ρ σ Q R->(wp K Γ p EK).a σ H R
end
end
section
variable{K:QC}{Γ:Ev}{Ψ:PEv}{E:XE}{c:XK}{F H A U:Hp}{S S1:Ft}{ρ o:kA}{σ:St}
section
variable{b a u:PX}{RR:LV->Hp->Prop}{P:List (T×Bool)->kA->Prop}{Y Z:xB}{t:T}{st:Bool}{ts:LT}{v:V}
theorem Nl(N:PSnd K Γ Ψ b)(I:Rl K F H S ρ σ)(X:FE K F H S ρ E c){x:T}{P:T×Bool->kA->Prop}{RR:VK}(h:sq x ρ (cu (pe Ψ b E).e) P)
  (M:∀w p g S' k y m Z,Ste F H S ρ p g S' k->Rl K p g S' k σ->(∀st v l,Tr K F H st v x l->Tr K p g st v x l)->(x.isD=false->k=ρ/\S'=S)->VR K (jH b) H S ρ p g S' k w y m Z->P (y,m) k->RR w g) :
  (wp K Γ b c).e σ H RR:=by
 unfold sq at h;cases W:x.isD with
 |true =>
  rw[W,if_pos rfl]at h;refine N.e I X h λw p g S' k y m Z s C r q=>M w p g S' k y m Z s C (λst v l B=>?_) (λz=>(by rw[W]at z;cases z)) r q;cases x with
  |d x=>cases B with|d r n=>exact .d (r.mono s.ff) n
  |_=>cases W
 |false =>
  rw[W,if_neg (by simp)]at h;have X':FE K F H S (lockA ρ) E c:=λx dx F2 H2 S2 O Q f r q=>X x dx F2 H2 S ρ Q.unlockA f r q;refine N.e I.lockA X' h λw p g S' k y m Z s C r q=>?_;have kp:∀st v t l,Tr K F H st v t l->Tr K p g st v t l:=λst v t l B=>s.keep B λb _=>vD b;refine M w p g S ρ y m Z ⟨s.unlockA,λj t h=>⟨t,h⟩⟩ (I.unlockA s.toStp C.fh) (λst v l B=>kp st v _ l B) (λ_=>⟨rfl,rfl⟩) ⟨r.tr,λe b hb=>?_,λe b hb=>?_,λe i L hi b hb z=>?_⟩ q;exact .inl ((r.fr e b hb).elim id λz=>absurd z (vD b));obtain⟨i,L,h1,J,G⟩:=r.tm e b hb;cases L with
  |own t=>obtain⟨t0,h0⟩:=s.ow i t J;obtain⟨_,_,e0⟩:=tB h0;cases e0|ky t =>
   cases W:t.isD with|true=>exact absurd G (C.isD J W)|false=>obtain⟨g1,g2⟩:=s.bo i t J W;obtain⟨R,g3,_⟩:=tB g1;rw[g2]at G;exact⟨i,R,h1,g3,G⟩
  rcases r.fr e b hb with q|q
  ·exact(I.dom hi z).1 q
  exact absurd q (vD b)
theorem Ol{md:List Md}(O:PSnd K Γ Ψ b)(I:Rl K F H S ρ σ)(X:FE K F H S ρ E c)(Q:∀j∈uA md b,∃v,σ[j]?=some (some v)){x:T}(h:sq x ρ ((pe Ψ b E).a md) P)
  (N:∀ws l e S' k L W Y,Ste F H S ρ l e S' k->Rl K l e S' k σ->(∀st v g,Tr K F H st v x g->Tr K l e st v x g)->(x.isD=false->k=ρ/\S'=S)->AR K (jH b) md H S ρ l e S' k ws L W Y->(mB md ws).map (λv=>some (some v))=(uA md b).map (λj=>σ[j]?)->P L k->RR ws e) :
  (wp K Γ b c).a σ H RR:=by
 unfold sq at h;cases m:x.isD with
 |true =>
  rw[m,if_pos rfl]at h;refine O.a I X Q h λw l e S' k y W Y s B r C q=>N w l e S' k y W Y s B (λst v g p=>?_) (λz=>(by rw[m]at z;cases z)) r C q;cases x with
  |d x=>cases p with|d r n=>exact .d (r.mono s.ff) n
  |_=>cases m
 |false =>
  rw[m,if_neg (by simp)]at h;have X':FE K F H S (lockA ρ) E c:=λx dx F2 H2 S2 R s2 f r q=>X x dx F2 H2 S ρ s2.unlockA f r q;refine O.a I.lockA X' Q h λw l e S' k y W Y s B r C q=>?_;have kp:∀st v t g,Tr K F H st v t g->Tr K l e st v t g:=λst v t g p=>s.keep p λb _=>vD b;refine N w l e S ρ y W Y ⟨s.unlockA,λj t h=>⟨t,h⟩⟩ (I.unlockA s.toStp B.fh) (λst v g p=>kp st v _ g p) (λ_=>⟨rfl,rfl⟩) ⟨r.av,λb hb=>?_,λb hb=>?_,λi M hi b hb z=>?_⟩ C q;exact .inl ((r.fr b hb).elim id λz=>absurd z (vD b));obtain⟨i,M,h1,J,G⟩:=r.tm b hb;cases M with
  |own t=>obtain⟨t0,h0⟩:=s.ow i t J;obtain⟨_,_,e0⟩:=tB h0;cases e0|ky t =>
   cases m:t.isD with|true=>exact absurd G (B.isD J m)|false=>obtain⟨g1,g2⟩:=s.bo i t J m;obtain⟨s0,g3,_⟩:=tB g1;rw[g2]at G;exact⟨i,s0,h1,g3,G⟩
  rcases r.fr b hb with q|q
  ·exact(I.dom hi z).1 q
  exact absurd q (vD b)
theorem JF(l:PSnd K Γ Ψ a)(I:Rl K F H S ρ σ)(X:FE K F H S ρ E c){P:TK}{RR:VK}(h:(pe Ψ a E).e ρ P)
  (j:∀v w z S' y x n Z,Ste F H S ρ w z S' y->Rl K w z S' y σ->FE K w z S' y E c->Tr K w z false v (oA x n) Z->(HH x n=true->Rep K w v x.er)->(∀b,Z b->∃(i:Nat) (s:Sl),i∈jH a/\y[i]?=some (some s)/\S' i b)->P x n y->RR v z) :
  (wp K Γ a c).e σ H RR:=by
 refine l.e I X h λv w z S' y x n Z s B r q=>?_;obtain⟨C,p,k,W,g,m,f,_⟩:=r.frz s B;exact j v C z S' y x n p k W (X.from k.toStp) g m f q
theorem V0(ia:PSnd K Γ Ψ a)(ib:PSnd K Γ Ψ b)(I:Rl K F H S ρ σ)(X:FE K F H S ρ E c){P:T->Bool->T->Bool->kA->Prop}{RR:V->V->Hp->Prop}
  (h:(pe Ψ a E).e ρ λx n o=>sq (oA x n) o (cu (pe Ψ b E).e) λy k=>P x n y.1 y.2 k)
  (kk:∀v w l f S' z x n y m j Zb,Ste F H S ρ l f S' z->Rl K l f S' z σ->FE K l f S' z E c->Tr K l f false v (oA x n) j->(∀b,j b->∃(i:Nat) (s:Sl),i∈jH a/\z[i]?=some (some s)/\S' i b)->Tr K l f false w (oA y m) Zb ->
   P x n y m z->RR v w f):(wp K Γ a c).e σ H λv U=>(wp K Γ b c).e σ U λw W=>RR v w W:=by
 refine JF ia I X h λv A U S1 o x n j M I1 X1 p _ G R=>?_;refine Nl ib I1 X1 R λw F2 W C k y m Z L I2 kp hs O Q=>?_;obtain⟨F3,Z3,J,I3,N,_,_,k3⟩:=O.frz L I2;have B:∀b,j b->∃(i:Nat) (s:Sl),i∈jH a/\k[i]?=some (some s)/\C i b:=by
  cases q:(oA x n).isD with
  |true =>
   intro b hb;exfalso;generalize oA x n=t at p q;cases p with|d r n=>exact n b hb|_=>cases q
  |false=>obtain⟨e1,e2⟩:=hs q;rw[e1,e2];exact G
 have g:=M.trans J;exact kk v w F3 W C k x n y m j Z3 g I3 (X.from g.toStp) (k3 _ _ _ _ (kp _ _ _ p) λb hb=>let⟨i,s,_,h2⟩:=B b hb;⟨i,s,h2⟩) B N Q
theorem MV(e:PSnd K Γ Ψ u)(I:Rl K F H S ρ σ)(X:FE K F H S ρ E c)(h:(pe Ψ u E).a [] ρ P)
  (k:∀vs z y S' x xs Y,Ste F H S ρ z y S' x->Rl K z y S' x σ->FE K z y S' x E c->Tn K z y Y vs (XN xs)->(∀b,Y b->∃(i:Nat) (s:Sl),i∈jH u/\x[i]?=some (some s)/\S' i b)->P xs x->RR vs y):(wp K Γ u c).a σ H RR:=by
 refine e.a (md:=[]) I X (λj f=>by cases u<;>cases f) h λvs z y S' x xs W Y s l r _ q=>?_;obtain⟨m,w,g,t,_⟩:=r.frz s l;exact k vs m y S' x xs Y w g (X.from w.toStp) t r.tm q
theorem ol(ia:PSnd K Γ Ψ a)(ib:PSnd K Γ Ψ u)(I:Rl K F H S ρ σ)(X:FE K F H S ρ E c){P1:T->Bool->Prop}{P:T->Bool->List (T×Bool)->kA->Prop}{R1:V->Hp->Prop}{RR:V->LV->Hp->Prop}
  (h:(pe Ψ a E).e ρ λx n o=>P1 x n/\sq (oA x n) o ((pe Ψ u E).a []) λxs z=>P x n xs z)
  (k1:∀v f w x n k,Tr K f w false v (oA x n) k->P1 x n->R1 v w)
  (kk:∀v vs f w S' y x n xs k Y,Ste F H S ρ f w S' y->Rl K f w S' y σ->FE K f w S' y E c->Tr K f w false v (oA x n) k->(∀b,k b->∃(i:Nat) (s:Sl),i∈jH a/\y[i]?=some (some s)/\S' i b)->Tn K f w Y vs (XN xs) ->
   P x n xs y->RR v vs w):(wp K Γ a c).e σ H λv U=>R1 v U/\(wp K Γ u c).a σ U λvs p=>RR v vs p:=by
 refine JF ia I X h λv A U S1 o x n k L I1 X1 l _ C ⟨Q,O⟩=>⟨k1 v A U x n k l Q,?_⟩
 refine Ol ib I1 X1 (λj hj=>by cases u<;>cases hj) O λvs F2 p B z xs W Y J I2 R hs M _ N=>?_;obtain⟨F3,G,I3,tn,k3⟩:=M.frz J I2;have q:∀b,k b->∃(i:Nat) (s:Sl),i∈jH a/\z[i]?=some (some s)/\B i b:=by
  cases m:(oA x n).isD with
  |true =>
   intro b hb;exfalso;generalize oA x n=t at l m;cases l with|d r n=>exact n b hb|_=>cases m
  |false=>obtain⟨e1,e2⟩:=hs m;rw[e1,e2];exact C
 have g:=L.trans G;exact kk v vs F3 p B z x n xs k Y g I3 (X.from g.toStp) (k3 _ _ _ _ (R _ _ _ l) λb hb=>let⟨i,s,_,h2⟩:=q b hb;⟨i,s,h2⟩) q tn N
def CZ(K:QC)(F H:Hp)(Y:xB):Item->T->Prop
 | .one v,t=>∃Z,Tr K F H false v t Z/\∀b,Z b->Y b|.tup vs,t=>∃h,t=.d (.tuple h)/\Reps K F vs h
theorem CZ.mono{it:Item}(h:CZ K F H Y it t)(e:Same F A)(k:∀b,Y b->U b=H b/\A b=none):CZ K A U Y it t:=by
 cases it with|one v=>obtain⟨Z,r,z⟩:=h;exact⟨Z,r.mono e λb hb=>k b (z b hb),z⟩|tup y=>obtain⟨ts,x,r⟩:=h;exact⟨ts,x,r.mono e⟩
theorem V5{xs:LV}(h:Trs K F H st xs ts Z)(z:∀b,Z b->Y b):Paired (CZ K F H Y) (xs.map .one) ts :=
 Trs.ind (R:=λ_ xs ts Z=>(∀b,Z b->Y b)->Paired (CZ K F H Y) (xs.map .one) ts) (λ_ _=>.nil) (λh _ _ q x z=>.cons ⟨_,h.weak,λb hb=>z b ((q b).mpr (.inl hb))⟩ (x λb hb=>z b ((q b).mpr (.inr hb)))) h z
theorem uX{Y:xB}{α:Type}(f:α->V)(g:α->D)(h:∀x,Rep K F (f x) (g x)):∀(l:List α),Paired (CZ K F H Y) (l.map λx=>.one (f x)) (l.map λx=>T.d (g x))
 |[]=>.nil|x::r=>.cons ⟨λ_=>False,.d (h x) λ_ z=>z,λ_ z=>z.elim⟩ (uX f g h r)
theorem Tr.lsS(f:Same F H)(h:Tr K F H st v t Z)(e:t.vw=.ls ts):∃a vs S',v=.ref a/\RC K H a vs/\Trs K F H false vs ts S'/\(∀b,S' b->Z b)/\∀y x,Same F y->Same y x->(∀b,Z b->x b=H b)->RC K x a vs:=by
 cases h with
 |d r n =>
  cases r with|lst q r=>injection e with e;subst e;exact⟨_,_,_,rfl,f.seq q,Trs.of_reps r,λb hb=>hb.elim,λy x w z _=>(w.trans z).seq q⟩|dct _ _ _=>exact(sH e).elim|_=>cases e
 |lst h _ r n q=>injection e with e;subst e;exact⟨_,_,_,rfl,RC.of h,r.weak,λb hb=>(q b).mpr (.inr hb),λy x _ _ k=>RC.of ((k _ ((q _).mpr (.inl rfl))).trans h)⟩|tup=>cases e|dct=>cases e|lstF h r n=>injection e with e;subst e;exact⟨_,_,_,rfl,f.seq h,Trs.of_reps r,λb hb=>hb.elim,λy x w z _=>(w.trans z).seq h⟩
theorem Tr.tpS(f:Same F H)(h:Tr K F H st v t Z)(e:t.vw=.tp ts):∃a vs S',v=.ref a/\GD K H a vs/\Trs K F H false vs ts S'/\(∀b,S' b->Z b)/\∀y x,Same F y->Same y x->(∀b,Z b->x b=H b)->GD K x a vs:=by
 cases h with
 |d r n =>
  cases r with|tup q r=>injection e with e;subst e;exact⟨_,_,_,rfl,f.tupl q,Trs.of_reps r,λb hb=>hb.elim,λy x w z _=>(w.trans z).tupl q⟩|dct _ _ _=>exact(iL e).elim|_=>cases e
 |tup h _ r n q=>injection e with e;subst e;exact⟨_,_,_,rfl,GD.of h,r.weak,λb hb=>(q b).mpr (.inr hb),λy x _ _ k=>GD.of ((k _ ((q _).mpr (.inl rfl))).trans h)⟩|lst=>cases e|lstF=>cases e|dct=>cases e
theorem Tr.seqS(f:Same F H)(h:Tr K F H st v t Z)(e:t.vw.seq=some ts):∃a vs sz,v=.ref (Src.adr sz)/\MZ K H sz vs/\(∃S',Trs K F H false vs ts S')/\a=Src.adr sz/\∀g k,Same F g->Same g k->(∀b,Z b->k b=H b)->MZ K k sz vs:=by
 generalize ev:t.vw=w at e;cases w with|ls i=>cases e;obtain⟨a,vs,S',rfl,z,x,_,y⟩:=h.lsS f ev;exact⟨a,vs,.l a,rfl,z,⟨S',x⟩,rfl,y⟩|tp i=>cases e;obtain⟨a,vs,S',rfl,z,x,_,y⟩:=h.tpS f ev;exact⟨a,vs,.t a,rfl,z,⟨S',x⟩,rfl,y⟩|_=>cases e
end
mutual
theorem IU{F:Hp}:∀{k:NK}{v:V},Mj K F k v->Rep K F v (tD k)
 | .s x,v,h=>by cases(show v=.str x from h);exact .str x|.t ks,v,⟨a,xs,e,q,p⟩=>by subst e;exact .tup q (ky_reps p)
theorem ky_reps{F:Hp}:∀{ks:List NK}{vs:LV},KyVs K F ks vs->Reps K F vs (tDs ks)
 |[],vs,h=>by cases(show vs=[] from h);exact .nil|k::ks,vs,⟨x,r,e,p,q⟩=>by subst e;exact .cons (IU p) (ky_reps q)
end
theorem cX{Y:xB}:∀{kvs:List KE}{ds:List D},ZG K F kvs->Reps K F (kvs.map (·.2.2)) ds->Paired (CZ K F H Y) (kvs.map λp=>.tup [.ref p.2.1,p.2.2]) (((kvs.map λp=>tD p.1).zip ds).map λp=>T.d (.tuple [p.1,p.2]))
 |[],_,_,.nil=>.nil|p::r,_,hk,.cons h t=>by simp only[QU,QAM];exact .cons ⟨[_,_],rfl,.cons (IU (hk p QE).1) (.cons h .nil)⟩ (cX (λp x=>hk p (QD _ x)) t)
theorem bX{Y:xB}:∀{kvs:List KE},ZG K F kvs->Paired (CZ K F H Y) (kvs.map λp=>.one (.ref p.2.1)) ((kvs.map λp=>tD p.1).map T.d)
 |[],_=>.nil|p::r,hk=>.cons ⟨λ_=>False,.d (IU (hk p QE).1) λ_ z=>z,λ_ z=>z.elim⟩ (bX λp h=>hk p (QD _ h))
theorem rS{Y:xB}:∀{xs:LV}{ds:List D}(_:Reps K F xs ds) (g:Nat->Int) (n:Nat),Paired (CZ K F H Y) ((xs.zipIdx n).map λp=>.tup [.int (g p.2),p.1]) ((ds.zipIdx n).map λp=>T.d (.tuple [.int (g p.2),p.1]))
 |_,_,.nil,g,n=>by simp only[List.zipIdx_nil,WK];exact .nil|_,_,.cons h t,g,n=>by simp only[List.zipIdx_cons,QU];exact .cons ⟨[_,_],rfl,.cons (.int _) (.cons h .nil)⟩ (rS t g (n+1))
theorem MJ{L:ItK}{Y:xB}{vs:LV}{ts:LT}{R:LT->Prop}{RR:List Item->(Hp->Prop)->Hp->Prop}(f:Same F H)(W:Tn K F H Y vs ts)(h:FB L (ts.map T.vw) R)
  (k:∀xs Q st,Paired (CZ K F H Y) xs Q->(∀l g,Same F l->Same l g->(∀b,Y b->g b=H b)->st g)->R Q->RR xs st H):JC K L vs H RR:=by
 cases L with
 |val =>
  rcases h with⟨G,e,h⟩| ⟨G,e,h⟩| ⟨B,G,e,h⟩
  obtain⟨v,t,Z,rfl,rfl,e,r,z⟩:=W.one e;obtain⟨p,xs,S',rfl,M,m,I,X⟩:=r.lsS f e;exact .inl ⟨xs,M,k _ _ _ (V5 m λb hb=>z b (I b hb)) (λl g y w q=>X l g y w λb hb=>q b (z b hb)) h⟩;obtain⟨v,t,Z,rfl,rfl,e,r,z⟩:=W.one e;obtain⟨p,xs,S',rfl,M,m,I,X⟩:=r.tpS f e;exact .inr (.inl ⟨xs,M,k _ _ _ (V5 m λb hb=>z b (I b hb)) (λl g y w q=>X l g y w λb hb=>q b (z b hb)) h⟩);obtain⟨v,t,Z,rfl,rfl,y,A,C⟩:=W.one e;obtain⟨a,o,xs,_,rfl,N,dk,m,_,X⟩:=A.dc f y;obtain⟨s,u,rfl,rfl,rfl,O,_⟩:=dk;exact .inr (.inr ⟨s,u,N,k _ _ _ (bX O) (λl g y w q=>X l g y w λb hb=>q b (C b hb)) h⟩)
 |rng1=>obtain⟨j,e,h⟩:=h;obtain⟨v,t,Z,rfl,rfl,e,r,_⟩:=W.one e;obtain rfl:=r.int e;exact⟨h.1,k _ _ _ (uX (λ(i:Nat)=>.int (i:Int)) (λ(i:Nat)=>.int (i:Int)) (λc=>.int _) _) (λ_ _ _ _ _=>trivial) h.2⟩|enum=>obtain⟨x,G,E,e,g1,P,q⟩:=h;obtain⟨v,t,Z,rfl,rfl,y,A,C⟩:=W.one e;obtain⟨a,xs,sz,rfl,S,⟨_,m⟩,_,X⟩:=A.seqS f (by rw[y];exact g1);exact⟨sz,xs,rfl,S,k _ _ _ (rS (m.un P).1 (λi=>(i:Int)) 0) (λl g y w q=>X l g y w λb hb=>q b (C b hb)) q⟩|itm =>
  rcases h with⟨B,G,E,e,P,q⟩| ⟨e,q⟩
  rotate_left
  obtain⟨v,t,Z,rfl,rfl,y,A,C⟩:=W.one e;obtain⟨_,m⟩:=A.sc y;generalize ed:PyData.dict []=d at m;cases m with
  |@dct b a o B vs E h J r =>
   have ez:B.zip E=[]:=by injection ed with ed;exact ed.symm
   have hl:B.length=E.length:=by rw[J.len,Reps.length r]
   have ek:B=[]:=by
    cases B with
    |nil=>rfl|cons k B =>
     cases E with|nil=>cases hl|cons d E=>cases ez
   subst ek;have eo:∃s,o=.dT s []:=by
    cases b with
    |true =>
     obtain⟨s,u,y,w,_⟩:=J;cases u with|nil=>exact⟨s,y⟩|cons p r=>cases w
    |false =>
     rcases J with⟨u,n,_,w,_⟩| ⟨s,y,_⟩
     cases u with|nil=>exact absurd rfl n|cons p r=>cases w
     exact⟨s,y⟩
   obtain⟨s,rfl⟩:=eo;exact⟨s,[],f _ _ h,k _ _ _ .nil (λl g y w _=>w _ _ (y _ _ h)) q⟩
  |_=>cases ed
  obtain⟨v,t,Z,rfl,rfl,y,A,C⟩:=W.one e;obtain⟨a,o,xs,_,rfl,N,dk,m,_,X⟩:=A.dc f y;obtain⟨s,u,rfl,rfl,rfl,O,_⟩:=dk;exact⟨s,u,N,k _ _ _ (cX O (m.un P).1) (λl g y w q=>X l g y w λb hb=>q b (C b hb)) q⟩
end
section
variable{i j:Nat}{Z:xB}
def tH(S:Ft)(i:Nat)(Z:xB):Ft:=λj=>if j=i then Z else S j
theorem RA{S:Ft}:tH S i Z i=Z:=if_pos rfl
theorem YA{S:Ft}(h:j≠i):tH S i Z j=S j:=if_neg h
theorem dA{α:Type}{l:List α}{x y:α}(h:(l.set i x)[j]?=some y):(i=j/\y=x/\i<l.length)∨(i≠j/\l[j]?=some y):=by rw[q0]at h;by_cases e:i=j;subst e;rw[if_pos rfl]at h;by_cases hl:i<l.length;rw[if_pos hl]at h;cases h;exact .inl ⟨rfl,rfl,hl⟩;rw[if_neg hl]at h;cases h;rw[if_neg e]at h;exact .inr ⟨e,h⟩
theorem fW{α:Type}{l:List α}{x:α}(h:i<l.length):(l.set i x)[i]?=some x:=by rw[q0,if_pos rfl,if_pos h]
theorem ID{α:Type}{l:List α}{x:α}(h:i≠j):(l.set i x)[j]?=l[j]?:=by rw[q0,if_neg h]
end
section
variable{K:QC}{Γ:Ev}{Ψ:PEv}{E:XE}{L:XK}{F H D G:Hp}{S S1:Ft}{ρ C:kA}{σ:St}
section
variable{Z Y:xB}{A X:Hp}{S':Ft}{g:kA}{o:St}{st:Bool}{B:Tg}{k:Nat}{l:List Bool}
theorem Rl.setB(I:Rl K F H S ρ σ)(i:Nat){v:V}{t:T}(r:Tr K F H false v t Z)(m:∀(j:Nat) u,j≠i->ρ[j]?=some (some (.own u))->∀b,Z b->¬ S j b):Rl K F H (tH S i Z) (ρ.set i (some (.ky t))) (σ.set i (some v)) where
 fh:=I.fh
 len:=by simpa using I.len
 sl:=λj s h=>by
  rcases dA h with⟨rfl,e,hl⟩| ⟨w,h⟩
  cases e;exact⟨v,fW (by rw[<- I.len];exact hl),by rw[RA];exact r⟩;rw[ID w,YA (qB w)];exact I.sl j s h
 dj:=λj k z s n x y b hb hk=>by
  rcases dA x with⟨_,e,_⟩| ⟨f,x⟩
  cases e;rw[YA (qB f)]at hb;rcases dA y with⟨e,_,_⟩| ⟨a,y⟩
  subst e;rw[RA]at hk;exact m j z n x b hk hb;rw[YA (qB a)]at hk;exact I.dj j k z s n x y b hb hk
structure Bd(J:LN)(F H:Hp)(S:Ft)(ρ:kA)(σ:St)(A X:Hp)(S':Ft)(g:kA)(o:St):Prop where
 ff:Same F A
 hh:Same H X
 fn:∀b,F b=none->A b≠none->H b=none
 out:∀j,j∉J->g[j]?=ρ[j]?/\S' j=S j/\o[j]?=σ[j]?
 inn:∀j t,j∈J->g[j]?≠some (some (.own t))
theorem Bd.U{J:LN}(h:Bd J F H S ρ σ A X S' g o){b:Addr}(u:U g S' b):L3.U ρ S b:=by obtain⟨i,t,x,z⟩:=u;by_cases y:i∈J;exact absurd x (h.inn i t y);obtain⟨w,v,_⟩:=h.out i y;rw[w]at x;rw[v]at z;exact⟨i,t,x,z⟩
theorem Bd.dm{J:LN}(h:Bd J F H S ρ σ A X S' g o)(b:Addr)(e:X b=none):H b=none:=h.hh.free e
theorem lW{Y:xB}(s:∀b,Y b->¬ U ρ S b):∀(w:LN) {vs:LV}{ts:LT}{S1:Ft}{C g:kA}{x:St}{J:LN},(∀i∈w,i∈J)->Rl K F H S1 C x->(∀b,U C S1 b->U ρ S b)->Tn K F H Y vs ts->yD w ts C=some g ->
  ∃o S',kB w vs x=some o/\Rl K F H S' g o/\(∀j,j∉J->g[j]?=C[j]?/\S' j=S1 j/\o[j]?=x[j]?)/\(∀j t,g[j]?=some (some (.own t))->j∉w/\C[j]?=some (some (.own t)))
 |[],_,_,S1,C,g,x,J,hJ,I,hu,.nil,h=>by simp only[yD,Qm]at h;subst h;exact⟨x,S1,rfl,I,λ_ _=>⟨rfl,rfl,rfl⟩,λj t h=>⟨(by simp),h⟩⟩|[],_,_,_,_,_,_,_,_,_,_,.cons _ _ _,h=>by simp[yD]at h|_::_,_,_,_,_,_,_,_,_,_,_,.nil,h=>by simp[yD]at h|i::w,_,_,S1,C,g,x,J,hJ,I,hu,.cons (v:=v) (t:=t) (Z:=Z) r z tl,h=>by
  simp only[yD]at h;have nu:∀b,Z b->¬ U C S1 b:=λb hb u=>s b (z b hb) (hu b u);have I2:=I.setB i r λj u _ y b hb N=>nu b hb ⟨j,u,y,N⟩;have p:∀b,U (C.set i (some (.ky t))) (tH S1 i Z) b->U ρ S b:=λb ⟨j,u,q,W⟩=>by
   rcases dA q with⟨_,e,_⟩| ⟨n,q⟩
   cases e;rw[YA (qB n)]at W;exact hu b ⟨j,u,q,W⟩
  obtain⟨o,S',R,Q,P,O⟩:=lW s w (λj y=>hJ j (QD _ y)) I2 p tl h;refine⟨o,S',R,Q,λj y=>?_,λj u y=>?_⟩;obtain⟨f,a,M⟩:=P j y;have n:i≠j:=λe=>y (e▸hJ i QE);rw[ID n]at f M;rw[YA (qB n)]at a;exact⟨f,a,M⟩;obtain⟨f,a⟩:=O j u y;rcases dA a with⟨_,e,_⟩| ⟨n,a⟩
  cases e;exact⟨λm=>(QL.mp m).elim (λe=>n e.symm) f,a⟩
theorem Tn.of_trs{vs:LV}{ts:LT}(h:Trs K F H st vs ts Z)(z:∀b,Z b->Y b):Tn K F H Y vs ts :=
 Trs.ind (R:=λ_ vs ts Z=>(∀b,Z b->Y b)->Tn K F H Y vs ts) (λ_ _=>.nil) (λh _ _ q x z=>.cons h.weak (λb hb=>z b ((q b).mpr (.inl hb))) (x λb hb=>z b ((q b).mpr (.inr hb)))) h z
theorem pT{it:Item}{t:T}{QP:kA->Prop}{RP:St->Hp->Prop}(I:Rl K F H S ρ σ)(hy:∀b,Y b->¬ U ρ S b)(r:CZ K F H Y it t)(h:DO B t ρ QP)
  (k:∀m f w x O,Bd B.ix F H S ρ σ w x O m f->Rl K w x O m f->QP m->RP f x):bindI K B it σ H RP:=by
 have nm:∀(i:Nat) {v:V}{t:T}{Z:xB}{w x:Hp}{O:Ft},Same F w->Same H x->(∀b,F b=none->w b≠none->H b=none)->Rl K w x O ρ σ->O=S->Tr K w x false v t Z->(∀b,Z b->¬ U ρ S b)->QP (ρ.set i (some (.ky t)))->B=.nm i->RP (σ.set i (some v)) x:=by
  intro i v t Z w x O R e2 e3 I2 hS r hz q ht;subst hS ht;refine k _ _ w x (tH O i Z) ⟨R,e2,e3,λj N=>?_,λj u N hu=>?_⟩ (I2.setB i r λj u _ N b hb hs=>hz b hb ⟨j,u,N,hs⟩) q;have n:i≠j:=λe=>N (by subst e;exact QI.mpr rfl);exact⟨ID n,YA (qB n),ID n⟩;have e:j=i:=QI.mp N;subst e;rcases dA hu with⟨_,e,_⟩| ⟨n,_⟩
  cases e;exact n rfl
 have tp:∀(y:LN) {W:LV}{P:LT}{x:Hp}{g:kA},Same H x->B=.tp y->Tn K F x Y W P->yD y P ρ=some g->QP g->∃o,kB y W σ=some o/\RP o x:=by intro y W P x g e2 ht r e q;subst ht;obtain⟨o,S',g1,g2,g3,g4⟩:=lW hy y (J:=y) (λi hi=>hi) (I.same e2) (λb u=>u) r e;exact⟨o,g1,k _ _ F x S' ⟨.refl _,e2,λb h z=>absurd h z,g3,λj u N hu=>(g4 j u hu).1 N⟩ g2 q⟩
 cases it with
 |one v =>
  obtain⟨Z,r,z⟩:=r;cases B with|nm i=>exact nm i (.refl _) (.refl _) (λb h z=>absurd h z) I rfl r (λb hb=>hy b (z b hb)) h rfl|tp y=>have Q:(match t.vw with | .tp P=>∃g,yD y P ρ=some g/\QP g|_=>False):=h;split at Q;rename_i P e;obtain⟨g,R,q⟩:=Q;obtain⟨a,W,S',rfl,M,rp,z2⟩:=r.tp I.fh e;obtain⟨o,g1,g2⟩:=tp y (.refl _) rfl (Tn.of_trs rp λb hb=>z b (z2 b hb)) R q;exact⟨W,o,M,g1,g2⟩;exact Q.elim
 |tup W =>
  obtain⟨ds,rfl,rd⟩:=r;cases B with|nm i=>intro p M;refine nm i (LB (I.fh.free M)) (LB M) (λb h1 Q=>?_) (I.newT M (.tup W)) rfl (.d (S:=λ_=>False) (.tup (GD.of JA) (rd.mono (LB (I.fh.free M)))) λ_ z=>z) (λb z=>z.elim) h rfl;by_cases hb:b=p;rw[hb];exact M;rw[vA hb]at Q;exact absurd h1 Q|tp y=>intro X s;obtain⟨g,R,q⟩:=h;exact tp y s rfl (Tn.of_trs (Trs.of_reps (st:=false) rd) λb hb=>hb.elim) R q
def Sa(k:Nat)(S:Ft):Ft:=λi=>if i<k then λ_=>False else S (i - k)
theorem aO:∀(m:List Bool) (ρ:kA) (i:Nat) s,(NC m ρ)[i]?=some (some s)->ρ[i]?=some (some s)/\m.getD i false=false
 |[],ρ,i,s,h=>by
  have e:NC [] ρ=ρ:=by cases ρ<;>rfl
  rw[e]at h;exact⟨h,rfl⟩
 |b::m,[],i,s,h=>by simp[NC]at h|b::m,v::ρ,0,s,h=>by
  cases b with|true=>simp[NC]at h|false=>simp[NC]at h;simp[h]
 |b::m,v::ρ,i+1,s,h=>by simp only[NC,wc]at h;obtain⟨y,x⟩:=aO m ρ i s h;exact⟨by simpa using y,by simpa using x⟩
theorem rO:∀(m:List Bool) (σ:St) (i:Nat) v,σ[i]?=some (some v)->m.getD i false=false->(MC m σ)[i]?=some (some v)
 |[],σ,i,v,h,_=>by
  have e:MC [] σ=σ:=by cases σ<;>rfl
  rw[e];exact h
 |b::m,[],i,v,h,_=>by simp at h|b::m,w::σ,0,v,h,hb=>by
  have:b=false:=by simpa using hb
  subst this;simpa[MC]using h
 |b::m,w::σ,i+1,v,h,hb=>by simp only[MC,wc];exact rO m σ i v (by simpa using h) (by simpa using hb)
theorem sO:∀(m:List Bool) (ρ:kA),(NC m ρ).length=ρ.length
 |[],ρ=>by cases ρ<;>rfl|_::_,[]=>rfl|b::m,v::ρ=>by simp[NC,sO m ρ]
theorem cG{ρ:kA}{i:Nat}{s:Sl}(h:(UN k l ρ)[i]?=some (some s)):k<=i/\ρ[i - k]?=some (some s)/\l.getD (i - k) false=false:=by unfold UN at h;rcases QA5 i k with z|z;rw[qS (by simpa using z),wf]at h;split at h<;>cases h;rw[qH (by simpa using z)]at h;simp only[qm]at h;obtain⟨y,x⟩:=aO l ρ _ s h;exact⟨z,y,x⟩
theorem Rl.ent(I:Rl K F H S ρ σ)(k:Nat)(l:List Bool):Rl K F H (Sa k S) (UN k l ρ) (NI k l σ) where
 fh:=I.fh
 len:=by simp[UN,NI,sO,LJ,I.len]
 sl:=λi s h=>by obtain⟨u,z,y⟩:=cG h;obtain⟨v,a,w⟩:=I.sl _ s z;refine⟨v,?_,?_⟩;unfold NI;rw[qH (by simpa using u)];simp only[qm];exact rO l σ _ v a y;unfold Sa;rw[if_neg (by omega)];exact w
 dj:=λi j t s n z y b hb x=>by obtain⟨p,f,_⟩:=cG z;obtain⟨m,e,_⟩:=cG y;unfold Sa at hb x;rw[if_neg (by omega)]at hb x;exact I.dj (i - k) (j - k) t s (by omega) f e b hb x
theorem aX(b:Addr):¬ U (UN k l (lockA ρ)) S' b:=λ⟨i,t,h,_⟩=>by obtain⟨_,x,_⟩:=cG h;obtain⟨_,_,e⟩:=tB x;cases e
theorem Paired.get_of{α v:Type}{R:α->v->Prop}{xs:List α}{u:List v}(h:Paired R xs u):∀{i:Nat}{x:α},xs[i]?=some x->∃y,u.drop i=y::u.drop (i+1)/\R x y:=by
 induction h with
 |nil=>intro i x e;simp at e|@cons x y xs u h t a =>
  intro i z e;cases i with|zero=>simp at e;subst e;exact⟨y,by simp,h⟩|succ i=>obtain⟨w,f,b⟩:=a (i:=i) (by simpa using e);exact⟨w,by simpa using f,b⟩
structure Pur(F H A X:Hp):Prop where
 ff:Same F A
 hh:Same H X
 fn:∀b,F b=none->A b≠none->H b=none
theorem Pur.trans{u y:Hp}(a:Pur F H D G)(b:Pur D G u y):Pur F H u y:=⟨a.ff.trans b.ff,a.hh.trans b.hh,λx h z=>by by_cases q:D x=none;exact a.hh.free (b.fn x q z);exact a.fn x h q⟩
theorem Pur.ste(p:Pur F H D G):Ste F H S ρ D G S ρ:=⟨⟨p.ff,λb u h _=>p.hh b u h,λb h=>p.hh.free h,λb h z=>.inr (p.fn b h z),λb h=>.inl h,λ_ _ h _=>⟨h,rfl⟩⟩,λ_ t h=>⟨t,h⟩⟩
theorem Pur.rl(p:Pur F H D G)(f:Same D G)(I:Rl K F H S ρ σ):Rl K D G S ρ σ:=⟨f,I.len,λi s e=>by
 obtain⟨v,y,h⟩:=I.sl i s e;exact⟨v,y,h.mono p.ff λb hb=>by
  obtain⟨x,z⟩:=h.dom b hb;refine⟨?_,?_⟩;cases e:H b with|none=>exact absurd e x|some u=>exact p.hh b u e
  by_cases q:D b=none
  ·exact q
  exact absurd (p.fn b z q) x⟩,I.dj⟩
theorem Stp.pur(s:Stp F H S ρ D G S' g)(n:∀b,¬ U ρ S b):Pur F H D G:=⟨s.ff,λb u h=>s.hh b u h (n b),λb h z=>(s.fn b h z).elim (λq=>absurd q (n b)) id⟩
theorem Pur.trs(p:Pur F H D G){v:LV}{t:LT}(h:Trs K F H st v t Z):Trs K D G st v t Z:=h.mono p.ff λb hb=>by
  obtain⟨x,y⟩:=h.dom b hb;refine⟨?_,?_⟩;cases e:H b with|none=>exact absurd e x|some u=>exact p.hh b u e
  by_cases q:D b=none
  ·exact q
  exact absurd (p.fn b y q) x
theorem r6{ws:LN}{N:Nat}{c:kA->(Bool->kA->Prop)->Prop}{e:kA->TK->Prop}{tc:TT}{te:TE}{us:LN}
  (ic:∀{F H:Hp}{S:Ft}{ρ:kA}{σ:St}{Q:Bool->kA->Prop}{R:Bool->Hp->Prop},Rl K F H S ρ σ->c ρ Q->pH K F H S ρ σ Q R->tc σ H R)
  (ie:∀{F H:Hp}{S:Ft}{ρ:kA}{σ:St}{Q:TK}{R:VK},Rl K F H S ρ σ->e ρ Q->zB K us F H S ρ σ Q R->te σ H R)
  {F0 H0:Hp}{S0:Ft}{P:kA}(s:Ste F0 H0 S0 P F H S ρ) (I:Rl K F H S ρ σ) {xs:List Item}{M:LT}{st:Hp->Prop}(pr:Paired (CZ K F H Y) xs M) (hyd:∀b,Y b->H b≠none/\F b=none) (hst:∀A X,Same F A->Same A X->(∀b,Y b->X b=H b)->st X) {Q:TK}{R:VK}
  (h:ZD (fG B (UN N l (lockA ρ)) c e) M [] λM=>Q (.lst M) true ρ) (k:zB K ws F0 H0 S0 P σ Q R) :
  AX K xs st B tc te (NI N l σ) H R:=by
 refine t6 ?_;have len:=qI pr;have yk:∀{A X:Hp},Pur F H A X->∀b,Y b->X b=H b/\A b=none:=λ{A X} p b hb=>by
  obtain⟨d1,d2⟩:=hyd b hb;refine⟨?_,?_⟩;cases e:H b with|none=>exact absurd e d1|some u=>exact p.hh b u e
  by_cases q:A b=none
  ·exact q
  exact absurd (p.fn b d2 q) d1
 refine⟨λi m X=>∃A w W,Pur F H A X/\Same A X/\Trs K A X true m w W/\(∀b,W b->H b=none)/\ZD (fG B (UN N l (lockA ρ)) c e) (M.drop i) w λM=>Q (.lst M) true ρ,
  ⟨F,[],λ_=>False,⟨.refl _,.refl _,λb h z=>absurd h z⟩,I.fh,.nil λ_ z=>z,λ_ z=>z.elim,by simpa using h⟩,?_,?_,?_⟩
 rintro i m X _ ⟨A,w,W,p,f,_,_,_⟩;exact hst A X p.ff f λb hb=>(yk p b hb).1;rintro i x m G hx ⟨D,w,W,p1,f1,J,hw,hc⟩;obtain⟨y,hd,ry⟩:=Paired.get_of pr hx;rw[hd]at hc;unfold ZD at hc;unfold fG at hc;have I1:Rl K D G (Sa N S) (UN N l (lockA ρ)) (NI N l σ):=((p1.rl f1 I).lockA).ent N l;refine pT I1 (λb _=>aX b) (ry.mono p1.ff (yk p1)) hc λρ2 σ2 F2 H2 S2 O I2 hc=>?_;have p2:Pur D G F2 H2:=⟨O.ff,O.hh,O.fn⟩
 have nu2:∀b,¬ U ρ2 S2 b:=λb u=>aX b (O.U u);refine ic I2 hc λb F3 H3 S3 ρ3 s3 I3 q=>?_;have p3:Pur F2 H2 F3 H3:=s3.toStp.pur nu2;have nu3:∀b,¬ U ρ3 S3 b:=λb ⟨j,t,h1,_⟩=>by obtain⟨t0,h0⟩:=s3.ow j t h1;by_cases hj:j∈B.ix;exact O.inn j t0 hj h0;rw[(O.out j hj).1]at h0;obtain⟨_,h1,_⟩:=cG h0;obtain⟨_,_,e⟩:=tB h1;cases e
 have a:=p1.trans (p2.trans p3);cases b with
 |false=>exact⟨F3,w,W,a,I3.fh,p3.trs (p2.trs J),hw,q⟩|true =>
  refine ie I3 q λv F4 H4 S4 ρ4 z n Z s4 I4 r4 ⟨hk,hl,hc⟩=>?_;have p4:Pur F3 H3 F4 H4:=s4.toStp.pur nu3;have ra4:=p4.trs (p3.trs (p2.trs J));have rz:∃Z',Tr K F4 H4 true v z Z'/\∀b,Z' b->H3 b=none:=by
   cases n with
   |true=>exact⟨Z,r4.tr,λb hb=>(r4.fr rfl b hb).elim id λu=>absurd u (nu3 b)⟩|false =>
    cases z with
    |d x =>
     have tr:=r4.tr;cases tr with|d r n=>exact⟨λ_=>False,.d r λ_ z=>z,λ_ z=>z.elim⟩
    |_=>exact absurd hk (by simp[HH,T.isD])
  obtain⟨Z',rz,fz⟩:=rz;refine⟨by rw[J.length];exact hl,F4,_,λb=>W b∨Z' b,a.trans p4,I4.fh,ra4.append (Trs.one rz) λb hb hz=>?_,λb hb=>?_,hc⟩;have q1:=(J.dom b hb).1;exact q1 ((p2.trans p3).hh.free (fz b hz));rcases hb with hb|hb
  ·exact hw b hb
  exact a.hh.free (fz b hb)
 rintro m X ⟨A,w,W,p,f,J,hw,hc⟩;rw[len,List.drop_length]at hc;unfold ZD at hc;have I':=p.rl f I;refine⟨by rw[J.length];exact hc.1,λq hq=>?_⟩;refine zB.list (k.from s) (p.ste) I' hq J (λb hb=>.inl (hw b hb)) ⟨J.dom,λi sl hi b hb z=>?_⟩ hc.2;exact(I.dom hi z).1 (hw b hb)
end
end
section
variable{K:QC}{Γ:Ev}{Ψ:PEv}{E:XE}{p:XK}{F H l c:Hp}{S S1:Ft}{ρ y:kA}{σ:St}
theorem Tr.xy{v:V}{u t:T}{Z:xB}(h:Tr K F H false v u Z)(e:nE u=some t):Tr K F H false v t Z:=by
 unfold nE at e;split at e;rename_i ts ev;cases x:BF ts with
 |none=>rw[x]at e;cases e|some f =>
  rw[x]at e;injection e with e;subst e;cases h with
  |d r n =>
   cases r with|lst q r=>injection ev with ev;subst ev;rw[iA]at x;injection x with x;subst x;exact .lstF q r n|dct _ _ _=>exact(sH ev).elim|_=>cases ev
  |lst k w z b a=>injection ev with ev;subst ev;show Tr K F H false _ (.lst (f.map T.d)) Z;rw[<- UL x];exact .lst k w z b a|tup=>cases ev|dct=>cases ev|lstF k w z=>injection ev with ev;subst ev;rw[iA]at x;injection x with x;subst x;exact .lstF k w z
 split at e
 ·injection e with e;subst e;exact h
 cases e
theorem AV.pass{Y:xB}{md:List Md}{vs:LV}{xs:List (T×Bool)}{W:xB}(h:AV K F H md vs xs W Y)(e:Same F l)(k:∀b,W b->l b=H b)(G:∀b,Y b->F b=none->l b=none) :
  ∀{g ts:LT},VA md xs g=some ts->ArgsR K l H Y md vs ts/\DB md ts=g:=by
 induction h with
 |nil h =>
  intro g ts w;cases g with|nil=>simp only[VA,Qm]at w;subst w;exact⟨.nil,rfl⟩|cons _ _=>simp[VA]at w
 |@chg md v vs x xs W Y h t C =>
  intro g ts w;have f:md.headD .xx=.chg:=by generalize md.headD .xx=m at h;cases m<;>first|rfl|cases h
  unfold VA at w;rw[f]at w;cases g with
  |nil=>cases w|cons o g =>
   cases a:VA md.tail xs g with|none=>simp only[a,wa]at w;cases w|some B=>simp only[a,Q1,Qm]at w;subst w;obtain⟨s,j⟩:=C k G a;refine⟨.chg f s,?_⟩;unfold DB;rw[f];simp only[j]
 |@new md v vs x xs Z W J Y h r t n q C =>
  intro g ts w;have X:Tr K l H false v (.d x.er) (λ_=>False):=.d (r.kept e λb u hb I=>by rw[k b ((q b).mpr (.inl hb))];exact I) λ_ z=>z;have i:=@C (λb hb=>k b ((q b).mpr (.inr hb))) G;unfold VA at w;cases f:md.headD .xx with
  |chg=>rw[f]at h;cases h|xx =>
   simp only[f,oA]at w;cases a:VA md.tail xs g with|none=>simp only[a,wa]at w;cases w|some B=>simp only[a,Q1,Qm]at w;subst w;obtain⟨s,j⟩:=i a;exact⟨.rd (by rw[f];simp) X (λ_ z=>z.elim) s,by unfold DB;rw[f];exact j⟩
  |xy =>
   simp only[f,oA]at w;cases A:nE (.d x.er) with
   |none=>simp only[A]at w;cases w|some u =>
    simp only[A]at w;cases a:VA md.tail xs g with|none=>simp only[a,wa]at w;cases w|some B=>simp only[a,Q1,Qm]at w;subst w;obtain⟨s,j⟩:=i a;exact⟨.rd (by rw[f];simp) (X.xy A) (λ_ z=>z.elim) s,by unfold DB;rw[f];exact j⟩
  |ky =>
   simp only[f,oA]at w;cases a:VA md.tail xs g with|none=>simp only[a,wa]at w;cases w|some B=>simp only[a,Q1,Qm]at w;subst w;obtain⟨s,j⟩:=i a;exact⟨.rd (by rw[f];simp) X (λ_ z=>z.elim) s,by unfold DB;rw[f];exact j⟩
 |@tmp md v vs x xs Z W Y h r z t C =>
  intro g ts w;have X:Tr K l H false v x Z:=r.mono e λb hb=>⟨rfl,G b (z b hb) (r.dom b hb).2⟩
  have i:=@C k G;unfold VA at w;cases f:md.headD .xx with
  |chg=>rw[f]at h;cases h|xx =>
   simp only[f,oA]at w;cases x with
   |d x =>
    cases a:VA md.tail xs g with|none=>simp only[a,wa]at w;cases w|some B=>simp only[a,Q1,Qm]at w;subst w;obtain⟨s,j⟩:=i a;exact⟨.rd (by rw[f];simp) X z s,by unfold DB;rw[f];exact j⟩
   |_=>cases w
  |xy =>
   simp only[f,oA]at w;cases A:nE x with
   |none=>simp only[A]at w;cases w|some u =>
    simp only[A]at w;cases a:VA md.tail xs g with|none=>simp only[a,wa]at w;cases w|some B=>simp only[a,Q1,Qm]at w;subst w;obtain⟨s,j⟩:=i a;exact⟨.rd (by rw[f];simp) (X.xy A) z s,by unfold DB;rw[f];exact j⟩
  |ky =>
   simp only[f,oA]at w;cases a:VA md.tail xs g with|none=>simp only[a,wa]at w;cases w|some B=>simp only[a,Q1,Qm]at w;subst w;obtain⟨s,j⟩:=i a;exact⟨.rd (by rw[f];simp) X z s,by unfold DB;rw[f];exact j⟩
theorem lD:∀(J:LN) (ρ:kA) (i:Nat) s,(clear J ρ)[i]?=some (some s)->i∉J/\ρ[i]?=some (some s)
 |[],ρ,i,s,h=>⟨(by simp),h⟩|j::J,ρ,i,s,h=>by
  unfold clear at h;obtain⟨u,z⟩:=lD J _ i s h;rcases dA z with⟨_,e,_⟩| ⟨n,x⟩
  cases e;exact⟨λm=>(QL.mp m).elim (λe=>n e.symm) u,x⟩
theorem XO:∀(J:LN) (ρ:kA),(clear J ρ).length=ρ.length
 |[],_=>rfl|j::J,ρ=>by unfold clear;rw[XO J];simp
theorem Rl.drop(I:Rl K F H S ρ σ)(hl:y.length=ρ.length)(h:∀(i:Nat) s,y[i]?=some (some s)->ρ[i]?=some (some s)):Rl K F H S y σ :=
 ⟨I.fh,hl.trans I.len,λi s e=>I.sl i s (h i s e),λi j t s n z x=>I.dj i j t s n (h i _ z) (h j _ x)⟩
theorem OD:∀{J:LN}{ρ:kA}{x:LT},CA J ρ=some x->x.length=J.length/\∀(i:Nat) j,J[i]?=some j->∃t,x[i]?=some t/\ρ[j]?=some (some (.own t))
 |[],ρ,x,h=>by simp only[CA,Qm]at h;subst h;exact⟨rfl,λi j e=>by simp at e⟩|j::J,ρ,x,h=>by
  unfold CA at h;split at h;rename_i t e;cases z:CA J ρ with
  |none=>rw[z]at h;cases h|some f =>
   rw[z]at h;injection h with h;subst h;obtain⟨w,v⟩:=OD z;refine⟨by simp[w],λi k hk=>?_⟩;cases i with|zero=>simp at hk;subst hk;exact⟨t,rfl,e⟩|succ i=>obtain⟨u,b,a⟩:=v i k (by simpa using hk);exact⟨u,by simpa using b,a⟩
  cases h
theorem Rl.trs(I:Rl K F H S ρ σ):∀{J:LN}{w:LT}{vs:LV},J.Nodup->CA J ρ=some w->vs.map (λv=>some (some v))=J.map (λj=>σ[j]?)->Trs K F H true vs w (λb=>∃j∈J,S j b)
 |[],w,vs,_,h,hv=>by
  simp only[CA,Qm]at h;subst h;cases vs with|nil=>exact .nil λb ⟨j,m,_⟩=>by simp at m|cons _ _=>simp at hv
 |j::J,w,vs,nd,h,hv=>by
  unfold CA at h;split at h;rename_i t e;cases a:CA J ρ with
  |none=>rw[a]at h;cases h|some r =>
   rw[a]at h;injection h with h;subst h;cases vs with
   |nil=>simp at hv|cons v vs =>
    simp only[QU,QAB]at hv;obtain⟨f,q,o⟩:=I.sl j _ e;rw[q]at hv;have:v=f:=by simpa using hv.1
    subst this;have x:=Qh.mp nd;refine .cons o (Rl.trs I x.2 a hv.2) (λb hb ⟨k,hk,z⟩=>?_) λb=>?_;obtain⟨i,n⟩:=Wp.mp hk;obtain⟨u,_,g⟩:=(OD a).2 i k n;exact I.dj j k t _ (λz=>x.1 (z▸hk)) e g b hb z;constructor
    ·rintro⟨k,hk,z⟩
     rcases QL.mp hk with e|e;subst e;exact .inl z;exact .inr ⟨k,e,z⟩
    rintro(z|⟨k,hk,z⟩)
    ·exact⟨j,QE,z⟩
    exact⟨k,QD _ hk,z⟩
  cases h
theorem Rl.setO(I:Rl K F H S ρ σ)(i:Nat){v:V}{t:T}{Z:xB}(hv:σ[i]?=some (some v))(r:Tr K F H true v t Z)(w:∀(j:Nat) s,j≠i->ρ[j]?=some (some s)->∀b,Z b->¬ S j b):Rl K F H (tH S i Z) (ρ.set i (some (.own t))) σ where
 fh:=I.fh
 len:=by simpa using I.len
 sl:=λj s h=>by
  rcases dA h with⟨rfl,e,hl⟩| ⟨g,h⟩
  cases e;exact⟨v,hv,by rw[RA];exact r⟩;rw[YA (qB g)];exact I.sl j s h
 dj:=λj k a s n u x b hb hk=>by
  rcases dA u with⟨e,_,_⟩| ⟨f,u⟩
  subst e;rw[RA]at hb;rcases dA x with⟨e,_,_⟩| ⟨z,x⟩
  exact n e;rw[YA (qB z)]at hk;exact w k s (qB z) x b hb hk;rw[YA (qB f)]at hb;rcases dA x with⟨e,_,_⟩| ⟨z,x⟩
  subst e;rw[RA]at hk;exact w j _ n u b hk hb;rw[YA (qB z)]at hk;exact I.dj j k a s n u x b hb hk
theorem EL:∀{J:LN}{w:LT}{vs:LV}{M:xB}{S1:Ft}{y x:kA},J.Nodup->Rl K F H S1 y σ->Trs K F H true vs w M->vs.map (λv=>some (some v))=J.map (λj=>σ[j]?)->Held F H S1 y M->xC J w y=some x ->
  ∃f,Rl K F H f x σ/\(∀i,i∉J->x[i]?=y[i]?/\f i=S1 i)/\∀i∈J,∀s,x[i]?=some (some s)->(∃t,s=.own t)/\∀b,f i b->M b
 |[],w,vs,M,S1,y,x,nd,I,r,hv,hm,h=>by
  cases w with|nil=>simp only[xC,Qm]at h;subst h;exact⟨S1,I,λ_ _=>⟨rfl,rfl⟩,λi u=>by simp at u⟩|cons _ _=>simp[xC]at h
 |j::J,w,vs,M,S1,y,x,nd,I,r,hv,hm,h=>by
  cases r with
  |nil _=>simp[xC]at h|@cons _ v t vs ts _ Z Q G C n q =>
   simp only[xC]at h;simp only[QU,QAB]at hv;have a:=Qh.mp nd;have R:=I.setO j hv.1.symm G λk s _ hk b hb=>hm.nw k s hk b ((q b).mpr (.inl hb));have W:Held F H (tH S1 j Z) (y.set j (some (.own t))) Q:=⟨λb hb=>hm.dom b ((q b).mpr (.inr hb)),λi s u b hb z=>by
    rcases dA u with⟨rfl,_,_⟩| ⟨X,u⟩
    rw[RA]at z;exact n b z hb;rw[YA (qB X)]at z;exact hm.nw i s u b ((q b).mpr (.inr hb)) z⟩
   obtain⟨f,P,B,O⟩:=EL a.2 R C hv.2 W h;refine⟨f,P,λi u=>?_,λi u s Y=>?_⟩;have A:j≠i:=λe=>u (e▸QE);obtain⟨o,g⟩:=B i λm=>u (QD _ m);rw[ID A]at o;rw[YA (qB A)]at g;exact⟨o,g⟩;rcases QL.mp u with e|e
   ·subst e
    obtain⟨o,g⟩:=B i a.1;rw[o]at Y;rcases dA Y with⟨_,e,_⟩| ⟨X,_⟩
    injection e with e;refine⟨⟨t,e⟩,λb hb=>?_⟩;rw[g,RA]at hb;exact(q b).mpr (.inl hb);exact absurd rfl X
   obtain⟨N,L⟩:=O i e s Y;exact⟨N,λb hb=>(q b).mpr (.inr (L b hb))⟩
theorem db{f:Str}{as:PX}(g:GOk K Γ Ψ)(ia:PSnd K Γ Ψ as)(I:Rl K F H S ρ σ)(X:FE K F H S ρ E p){Q:TK}{R:VK}{ws:LN}(h:(pe Ψ (.call f as) E).e ρ Q)(k:zB K ws F H S ρ σ Q R):(wp K Γ (.call f as) p).e σ H R:=by
 obtain⟨os,ho,nd,h⟩:=h;generalize hJ:uA (Ψ.sp f).md as=J at ho nd h;have C:∀j∈J,∃t,ρ[j]?=some (some (.own t)):=λj A=>by obtain⟨i,hi⟩:=Wp.mp A;obtain⟨t,_,e⟩:=(OD ho).2 i j hi;exact⟨t,e⟩
 have I0:Rl K F H S (clear J ρ) σ:=I.drop (XO J ρ) λi s e=>(lD J ρ i s e).2;have P:∀b,U (clear J ρ) S b->U ρ S b:=λb ⟨i,t,h1,O⟩=>⟨i,t,(lD J ρ i _ h1).2,O⟩
 have X0:FE K F H S (clear J ρ) E p:=λx dx F2 H2 S2 L m ff r q=>X x dx F2 H2 (λ_ _=>False) [] ⟨m.ff,λb u e n=>m.hh b u e λz=>n (P b z),m.dm,λb e z=>(m.fn b e z).imp (P b) id,λb ⟨i,t,e,_⟩=>by simp at e,λj t e=>by simp at e⟩ ff r q;have hm:∀j∈uA (Ψ.sp f).md as,∃v,σ[j]?=some (some v):=λj A=>by obtain⟨t,e⟩:=C j (hJ▸A);obtain⟨v,h1,_⟩:=I.sl j _ e;exact⟨v,h1⟩
 show(wp K Γ as p).a σ H λvs c=>Γ.sp f vs c R p;refine ia.a I0 X0 hm h λvs l c S1 y xs W Y s1 I1 r1 mv q1=>?_;rw[hJ]at mv;obtain⟨ts,hp,q1⟩:=q1;have hw:=r1.held;have m:=s1.frz (λb hb=>(hw.dom b hb).2) r1.fr;have I2:=I1.frz hw;have yk:∀b,Y b->l b=none->DI l c W b=none:=λb hy hf=>by obtain⟨i,sl,_,O,h3⟩:=r1.tm b hy;rw[mC λz=>r1.nw i sl O b z h3];exact hf
 obtain⟨ar,mt⟩:=r1.av.pass (OG λb hb=>(hw.dom b hb).2) (λb hb=>CI hb) yk hp;generalize DI l c W=F2 at m I2 yk ar;have M0:=I.trs nd ho mv;have hM:Held F H S (clear J ρ) (λb=>∃j∈J,S j b):=⟨λb ⟨j,A,hb⟩=>let⟨t,e⟩:=C j A;I.dom e hb,λi s e b ⟨j,A,hb⟩ z=>by obtain⟨G,B⟩:=lD J ρ i s e;obtain⟨t,et⟩:=C j A;exact I.dj j i t s (λq=>G (q▸A)) et B b hb z⟩
 have N:=hM.step m.toStp I2;have M2:Trs K F2 c true (mB (Ψ.sp f).md vs) (DB (Ψ.sp f).md ts) (λb=>∃j∈J,S j b):=by
  rw[mt];refine M0.mono m.ff λb hb=>?_;refine⟨?_,(N.dom b hb).2⟩;cases e:H b with|none=>exact absurd e (hM.dom b hb).1|some u=>exact m.hh b u e (hM.nu b hb)
 refine g.sp f vs c R p ⟨F2,ts,_,Y,I2.fh,ar,M2,λb hy hb=>?_,?_⟩;obtain⟨i,sl,_,O,h3⟩:=r1.tm b hy;exact N.nw i sl O b hb h3
 ·have up:∀b,(∃j∈J,S j b)->U ρ S b:=λb ⟨j,A,hb⟩=>let⟨t,e⟩:=C j A;⟨j,t,e,hb⟩
  have lk:∀b,(∃j∈J,S j b)∨c b=none->U ρ S b∨H b=none:=λb hb=>hb.imp (up b) (m.dm b);refine(Ψ.sp f).mono ?_ ?_ q1
  rotate_left
  rintro x qx dx F' H' o xr;refine X x dx F' H' (λ_ _=>False) [] ⟨m.ff.trans o.ff,λb u e n=>o.hh b u (m.hh b u e λz=>n (P b z)) λz=>n (up b z),λb e=>m.dm b (o.dm b e),λb e z=>?_,λb ⟨i,t,e,_⟩=>by simp at e,λj t e=>by simp at e⟩ o.fh xr qx;by_cases q:F2 b=none;exact lk b (o.fn b q z);exact(m.fn b e q).imp (P b) id;rintro r os' ⟨L,hput,q⟩ v F' H' Z M' o tr trs dz hf;have I3:Rl K F' H' S1 y σ:=⟨o.fh,I2.len,λi s e=>by
   obtain⟨w,g1,g2⟩:=I2.sl i s e;refine⟨w,g1,g2.mono o.ff λb hb=>?_⟩;obtain⟨d1,d2⟩:=g2.dom b hb;have nM:¬ ∃j∈J,S j b:=λz=>N.nw i s e b z hb;refine⟨?_,?_⟩;cases e:c b with|none=>exact absurd e d1|some u=>exact o.hh b u e nM
   by_cases z:F' b=none
   ·exact z
   exact((o.fn b d2 z).elim nM d1).elim,I2.dj⟩
  have nw3:∀b,(∃j∈J,S j b)∨c b=none->∀(i:Nat) s,y[i]?=some (some s)->¬ S1 i b:=λb hb i s e z=>by rcases hb with hb|hb;exact N.nw i s e b hb z;exact(I2.dom e z).1 hb
  have hM':Held F' H' S1 y M':=⟨trs.dom,λi s e b hb=>nw3 b (hf b (.inr hb)) i s e⟩
  obtain⟨S2,I4,g2,g3⟩:=EL nd I3 trs mv hM' hput;have M:∀i s,L[i]?=some (some s)->(i∈J/\(∃t,s=.own t)/\∀b,S2 i b->M' b)∨(i∉J/\y[i]?=some (some s)/\S2 i=S1 i):=λi s e=>by by_cases hi:i∈J;exact .inl ⟨hi,g3 i hi s e⟩;obtain⟨G,B⟩:=g2 i hi;exact .inr ⟨hi,G▸e,B⟩
  have st:Ste F H S ρ F' H' S2 L:=⟨⟨m.ff.trans o.ff,λb u e n=>o.hh b u (m.hh b u e λz=>n (P b z)) λz=>n (up b z),λb e=>m.dm b (o.dm b e),λb e z=>by
    by_cases q:F2 b=none;exact lk b (o.fn b q z);exact(m.fn b e q).imp (P b) id,
   λb ⟨i,t,h1,O⟩=>by
    rcases M i _ h1 with⟨_,_,e⟩| ⟨_,G,B⟩
    exact lk b (hf b (.inr (e b O)));rw[B]at O;exact(m.uu b ⟨i,t,G,O⟩).imp (P b) id,
   λj t e hd=>by
    rcases M j _ e with⟨_,⟨t',z⟩,_⟩| ⟨_,G,B⟩
    cases z;obtain⟨b1,b2⟩:=m.bo j t G hd;exact⟨(lD J ρ j _ b1).2,B.trans b2⟩⟩,
   λj t e=>by
    rcases M j _ e with⟨A,_,_⟩| ⟨_,G,B⟩
    exact C j A;obtain⟨t0,e0⟩:=m.ow j t G;exact⟨t0,(lD J ρ j _ e0).2⟩⟩
  refine k v F' H' S2 L r true Z st I4 ⟨tr,λ_ b hb=>?_,λz=>(by cases z),λ_ i s e b hb z=>?_⟩ q;exact(lk b (hf b (.inl hb))).symm;rcases M i s e with⟨_,_,B⟩| ⟨_,G,B⟩
  ·exact dz b hb (B b z)
  rw[B]at z;exact nw3 b (hf b (.inl hb)) i s G z
end
section
variable{K:QC}{Γ:Ev}{Ψ:PEv}{E:XE}{O:XK}{F H F1 H1:Hp}{S S1:Ft}{ρ Q:kA}{σ:St}
section
variable{j i:Nat}{t s:T}{b:Bool}{G C:Hp}{B:Ft}{Y:kA}{W P Z:xB}{vs L:LV}{ts us:LT}{a:Addr}{M o:HO}{v A J:V}{x y:D}{ks:List D}{R:Hp->Prop}{N:T->Prop}
theorem bC(z:ρ[j]?=some (some (.own t))){s:Sl}(h:(ρ.set j (some (.ky t)))[i]?=some (some s)):(i=j/\s=.ky t)∨(i≠j/\ρ[i]?=some (some s)):=by
 rcases dA h with⟨rfl,e,_⟩| ⟨n,h⟩
 injection e with e;exact .inl ⟨rfl,e⟩;exact .inr ⟨qB n,h⟩
theorem Rl.lock1(I:Rl K F H S ρ σ)(h:ρ[j]?=some (some (.own t))):Rl K F H S (ρ.set j (some (.ky t))) σ where
 fh:=I.fh
 len:=by simpa using I.len
 sl:=λi s e=>by
  rcases bC h e with⟨rfl,rfl⟩| ⟨_,e⟩
  obtain⟨v,g,f⟩:=I.sl i _ h;exact⟨v,g,f.weak⟩;exact I.sl i s e
 dj:=λi k u s n p m=>by
  rcases bC h p with⟨_,z⟩| ⟨r,w⟩
  cases z;rcases bC h m with⟨q,_⟩| ⟨_,l⟩
  ·exact I.dj i k u _ n w (q▸h)
  exact I.dj i k u s n w l
theorem Rl.lock1U(I:Rl K F H S ρ σ)(w:ρ[j]?=some (some (.own t)))(b:Addr)(hb:S j b):¬ U (ρ.set j (some (.ky t))) S b:=λ⟨i,u,h,k⟩=>by
 rcases bC w h with⟨_,z⟩| ⟨n,h⟩
 cases z;exact I.dj i j u _ n h w b k hb
theorem lock1U(k:ρ[j]?=some (some (.own t))){b:Addr}(h:U (ρ.set j (some (.ky t))) S b):U ρ S b:=by
 obtain⟨i,u,w,e⟩:=h;rcases bC k w with⟨_,z⟩| ⟨n,w⟩
 cases z;exact⟨i,u,w,e⟩
theorem FE.lock1(X:FE K F H S ρ E O)(w:ρ[j]?=some (some (.own t))):FE K F H S (ρ.set j (some (.ky t))) E O:=λx k G C B Y h f r q =>
 X x k G C (λ_ _=>False) [] ⟨h.ff,λb u e n=>h.hh b u e λz=>n (lock1U w z),h.dm,λb e z=>(h.fn b e z).imp (lock1U w) id,λb ⟨i,t,e,_⟩=>by simp at e,λj t e=>by simp at e⟩ f r q
theorem bS(I:Rl K F H S ρ σ)(h:ρ[j]?=some (some (.own t)))(s:Ste F H S (ρ.set j (some (.ky t))) G C B Y)(l:Rl K G C B Y σ){b:Addr}(hb:S j b) :
  ∀(i:Nat) w,i≠j->Y[i]?=some (some w)->¬ B i b:=λi w n e z=>by
 cases w with
 |own u=>rcases s.uu b ⟨i,u,e,z⟩ with q|q;exact I.lock1U h b hb q;exact(I.dom h hb).1 q
 |ky u =>
  cases f:u.isD with
  |true=>exact l.isD e f z|false =>
   obtain⟨k,g⟩:=s.bo i u e f;rw[g]at z;rcases bC h k with⟨q,_⟩| ⟨_,k⟩
   exact n q;exact I.dj j i t _ (qB n) h k b hb z
theorem fI{t':T}{v0:V}{m:Hp}{Z':xB}(I:Rl K F H S ρ σ)(w:ρ[j]?=some (some (.own t)))(hv:σ[j]?=some (some v0))(s:Ste F H S (ρ.set j (some (.ky t))) G C B Y)(l:Rl K G C B Y σ)
  (hH:∀b u,C b=some u->¬ S j b->m b=some u) (dm:∀b,m b=none->C b=none) (r:Tr K G m true v0 t' Z') (hz:∀b,Z' b->S j b∨W b∨C b=none) (hw:Held G C B Y W) (frW:∀b,W b->H b=none∨U (ρ.set j (some (.ky t))) S b) :
  Ste F H S ρ G m (tH B j Z') (Y.set j (some (.own t')))/\Rl K G m (tH B j Z') (Y.set j (some (.own t'))) σ/\∀b,S j b∨W b∨C b=none->∀(i:Nat) h,i≠j->Y[i]?=some (some h)->¬ B i b:=by
 have nw:∀b,S j b∨W b∨C b=none->∀(i:Nat) h,i≠j->Y[i]?=some (some h)->¬ B i b:=λb hb i h n e z=>by rcases hb with hb|hb|hb;exact bS I w s l hb i h n e z;exact hw.nw i h e b hb z;exact(l.dom e z).1 hb
 have uj:∀b,S j b->U ρ S b:=λb hb=>⟨j,t,w,hb⟩
 have lk:∀b,S j b∨W b∨C b=none->U ρ S b∨H b=none:=λb hb=>by rcases hb with hb|hb|hb;exact .inl (uj b hb);exact(frW b hb).symm.imp (lock1U w) id;exact .inr (s.dm b hb)
 have fS:∀b,S j b->G b=none:=λb hb=>by
  by_cases q:G b=none;exact q;rcases s.fn b (I.dom w hb).2 q with z|z
  ·exact absurd z (I.lock1U w b hb)
  exact absurd z (I.dom w hb).1
 have fh:Same G m:=λb u e=>hH b u (l.fh b u e) λz=>by rw[fS b z]at e;cases e
 have I3:Rl K G m B (Y.set j none) σ:=⟨fh,by simpa using l.len,λi h e=>by
   rcases dA e with⟨_,z,_⟩| ⟨n,e⟩
   cases z;obtain⟨v,p,f⟩:=l.sl i h e;refine⟨v,p,f.mono (.refl _) λb hb=>⟨?_,(f.dom b hb).2⟩⟩;cases eb:C b with|none=>exact absurd eb (f.dom b hb).1|some u=>exact hH b u eb λz=>bS I w s l z i h (qB n) e hb,
  λi k u h n g X=>by
   rcases dA g with⟨_,z,_⟩| ⟨_,g⟩
   cases z;rcases dA X with⟨_,z,_⟩| ⟨_,X⟩
   ·cases z
   exact l.dj i k u h n g X⟩
 have I4:=I3.setO j hv r λi h n e b hb=>by
  rcases dA e with⟨_,z,_⟩| ⟨_,e⟩
  cases z;exact nw b (hz b hb) i h n e
 have es:(Y.set j none).set j (some (.own t'))=Y.set j (some (.own t')):=by simp
 rw[es]at I4;refine⟨⟨⟨s.ff,λb u e n=>hH b u (s.hh b u e λz=>n (lock1U w z)) λz=>n (uj b z),λb e=>s.dm b (dm b e),λb e z=>(s.fn b e z).imp (lock1U w) id,λb ⟨i,u,p,f⟩=>?_,λi u e hd=>?_⟩,λi u e=>?_⟩,I4,nw⟩;rcases dA p with⟨rfl,_,_⟩| ⟨n,p⟩
 ·rw[RA]at f
  exact lk b (hz b f)
 rw[YA (qB n)]at f;exact(s.uu b ⟨i,u,p,f⟩).imp (lock1U w) id;rcases dA e with⟨rfl,z,_⟩| ⟨n,e⟩
 ·cases z
 obtain⟨g,X⟩:=s.bo i u e hd;rcases bC w g with⟨z,_⟩| ⟨_,g⟩
 exact absurd z.symm n;exact⟨g,by rw[YA (qB n)];exact X⟩;rcases dA e with⟨rfl,_,_⟩| ⟨n,e⟩
 ·exact⟨t,w⟩
 obtain⟨t0,e0⟩:=s.ow i u e;rcases bC w e0 with⟨_,z⟩| ⟨_,e0⟩
 cases z;exact⟨t0,e0⟩
theorem Trs.erase{st:Bool}{S:xB}{k:Nat}(h:Trs K F H st vs ts S)(e:ts[k]?=some t):∃v P1 u,vs[k]?=some v/\Tr K F H st v t P1/\Trs K F H st (vs.eraseIdx k) (ts.eraseIdx k) u/\(∀b,P1 b->¬ u b)/\∀b,P1 b∨u b->S b:=by
 revert k;refine Trs.ind (R:=λst vs ts S=>∀{k:Nat},ts[k]?=some t->∃v P1 u,vs[k]?=some v/\Tr K F H st v t P1/\Trs K F H st (vs.eraseIdx k) (ts.eraseIdx k) u/\(∀b,P1 b->¬ u b)/\∀b,P1 b∨u b->S b) (λn k e=>by cases e) (λ{_ _ _ _ _ _ r _} h t n q f k e=>?_) h;cases k with|zero=>cases e;exact⟨_,_,_,rfl,h,t,n,λb hb=>(q b).mpr hb⟩|succ k=>obtain⟨v,P1,u,p,m,l,g,w⟩:=f (k:=k) e;refine⟨v,P1,λb=>r b∨u b,p,m,.cons h l (λb hb z=>n b hb (w b (.inr z))) λb=>wP,λb hb z=>z.elim (λz=>n b z (w b (.inl hb))) (g b hb),λb hb=>(q b).mpr ?_⟩;rcases hb with hb|hb|hb;exact .inr (w b (.inl hb));exact .inl hb;exact .inr (w b (.inr hb))
theorem iI{α:Type}:∀{l:List α}{k:α},l.Nodup->¬ k∈l->(l++[k]).Nodup
 |[],k,_,_=>by simp|a::r,k,h,hk=>by obtain⟨u,z⟩:=Qh.mp h;show(a::(r++[k])).Nodup;refine Qh.mpr ⟨λm=>?_,iI z λm=>hk (QL.mpr (Or.inr m))⟩;rcases Qe.mp m with q|q;exact u q;exact hk (QL.mpr (Or.inl (QI.mp q).symm))
theorem bL(h:F a=none)(r:Trs K F H true L us P)(n:¬ P a):Tr K F (BA H a (.lst L)) true (.ref a) (.lst us) λb=>b=a∨P b :=
 .lst (S':=P) JA h (r.mono (.refl _) λb hb=>⟨vA λz=>n (z▸hb),(r.dom b hb).2⟩) n λb=>wP
theorem cD(w:Z a)(b:Addr)(u:HO)(e:H b=some u)(hb:¬ Z b):BA H a M b=some u:=by have h:b≠a:=λz=>hb (by rw[z];exact w);rw[vA h];exact e
theorem XB(b:Addr)(e:BA H a M b=none):H b=none:=by by_cases hb:b=a;rw[hb,JA]at e;cases e;rw[vA hb]at e;exact e
theorem F9{m:Mt}{N:T->T->Prop}{R:VK}(f:Same F H)(r:Tr K F H true v s Z)(rv:Trs K F H true vs ts W)(dj:∀b,Z b->¬ W b)(h:MK m s ts N)
  (k:∀w r s' H' S1 Zr,(∀b u,H b=some u->¬ Z b->H' b=some u)->(∀b,H' b=none->H b=none)->Tr K F H' true v s' S1->Tr K F H' true w r Zr->(∀b,Zr b->¬ S1 b)->(∀b,S1 b∨Zr b->Z b∨W b∨H b=none)->N r s'->R w H'):N9 K m v vs H R:=by
 cases m with
 |append =>
  obtain⟨us0,t0,rfl,rfl,h⟩:=h;cases r with
  |@lst _ a xs _ _ S' h1 h2 l X e =>
   have g:Z a:=(e a).mpr (.inl rfl);cases rv with
   |@cons _ w t ws us _ W1 W2 p r2 n q =>
    cases r2 with
    |nil n2 =>
     have hW:∀b,W b↔W1 b:=λb=>by rw[q b];simp[n2 b]
     refine⟨a,xs,w,rfl,rfl,h1,by rw[l.length];exact h.1,k .non (.d .none) _ _ _ (λ_=>False) (cD g) XB (bL h2 (Trs.append l (Trs.one p) λb hb hw=>dj b ((e b).mpr (.inr hb)) ((hW b).mpr hw)) λz=>z.elim X λz=>dj a g ((hW a).mpr z)) (.d .non λ_ z=>z) (λ_ z=>z.elim) (λb hb=>?_) h.2⟩;rcases hb with(hb|hb|hb)|hb;exact .inl (hb▸g);exact .inl ((e b).mpr (.inr hb));exact .inr (.inl ((hW b).mpr hb));exact hb.elim
 |extend =>
  obtain⟨us0,vs0,rfl,rfl,h⟩:=h;cases r with
  |@lst _ a xs _ _ S' h1 h2 l X e =>
   have g:Z a:=(e a).mpr (.inl rfl);cases rv with
   |@cons _ w t ws us _ W1 W2 p r2 n q =>
    cases r2 with
    |nil n2 =>
     have hW:∀b,W b↔W1 b:=λb=>by rw[q b];simp[n2 b]
     cases p with|@lst _ c zs _ _ B g1 g2 g3 g4 I=>have dw:∀b,B b->W b:=λb hb=>(hW b).mpr ((I b).mpr (.inr hb));refine⟨a,c,xs,zs,rfl,rfl,h1,g1,by rw[l.length,g3.length];exact h.1,k .non (.d .none) _ _ _ (λ_=>False) (cD g) XB (bL h2 (Trs.append l g3 λb hb hw=>dj b ((e b).mpr (.inr hb)) (dw b hw)) λz=>z.elim X λz=>dj a g (dw a z)) (.d .non λ_ z=>z) (λ_ z=>z.elim) (λb hb=>?_) h.2⟩;rcases hb with(hb|hb|hb)|hb;exact .inl (hb▸g);exact .inl ((e b).mpr (.inr hb));exact .inr (.inl (dw b hb));exact hb.elim
 |pop =>
  obtain⟨us0,i,j,t0,rfl,rfl,hi,ht,q⟩:=h;cases r with
  |@lst _ a xs _ _ S' h1 h2 l X e =>
   have g:Z a:=(e a).mpr (.inl rfl);obtain⟨w,P1,P2,g1,g2,g3,g4,I⟩:=l.erase ht;have na:¬ P1 a:=λz=>X (I a (.inl z));have nb:¬ P2 a:=λz=>X (I a (.inr z));cases rv with
   |cons p r2 n q2 =>
    cases r2;cases p with
    |d p n1 =>
     cases p;refine⟨a,i,xs,j,w,rfl,rfl,h1,by rw[l.length];exact hi,g1,k w t0 _ _ _ P1 (cD g) XB (bL h2 g3 nb) (g2.mono (.refl _) λb hb=>⟨vA λz=>na (z▸hb),(g2.dom b hb).2⟩) (λb hb z=>?_) (λb hb=>?_) q⟩;rcases z with z|z
     ·exact na (z▸hb)
     exact g4 b hb z;rcases hb with(hb|hb)|hb
     ·exact .inl (hb▸g)
     exact .inl ((e b).mpr (.inr (I b (.inr hb))));exact .inl ((e b).mpr (.inr (I b (.inl hb))))
 |_=>exact h.elim
theorem Trs.setD(w:Rep K F A x){S:xB}(n:Nat)(h:Trs K F H true vs ts S):∃P,Trs K F H true (vs.set n A) (ts.set n (.d x)) P/\∀b,P b->S b:=by
 revert n;refine Trs.ind (R:=λst vs ts S=>∀n:Nat,∃P,Trs K F H st (vs.set n A) (ts.set n (.d x)) P/\∀b,P b->S b) (λ{_ S} z n=>⟨S,.nil z,λ_ h=>h⟩) (λ{_ _ _ _ _ _ S1 B} h t m q k n=>?_) h;cases n with|zero=>exact⟨B,.cons (S1:=λ_=>False) (.d w λ_ z=>z) t (λ_ z=>z.elim) λb=>by simp,λb hb=>(q b).mpr (.inr hb)⟩|succ n=>obtain⟨P,e,u⟩:=k n;exact⟨λb=>S1 b∨P b,.cons h e (λb hb z=>m b hb (u b z)) λb=>wP,λb hb=>(q b).mpr (hb.imp id (u b))⟩
theorem Trs.part{S:xB}(h:Trs K F H true vs ts S)(e:ts[i]?=some t):∃v S1,vs[i]?=some v/\Tr K F H true v t S1/\(∀b,S1 b->S b) /\
  ∀(w:Hp) t' u,(∀b,S b->¬ S1 b->w b=H b)->Tr K F w true v t' u->(∀b,u b->S1 b)->∃P,Trs K F w true vs (ts.set i t') P/\∀b,P b->S b:=by
 revert i;refine Trs.ind (R:=λst vs ts S=>∀{i:Nat},ts[i]?=some t->∃v S1,vs[i]?=some v/\Tr K F H st v t S1/\(∀b,S1 b->S b)/\∀(w:Hp) t' u,(∀b,S b->¬ S1 b->w b=H b)->Tr K F w st v t' u->(∀b,u b->S1 b)->∃P,Trs K F w st vs (ts.set i t') P/\∀b,P b->S b) (λn i e=>by cases e) (λ{_ _ _ _ _ _ m P2} h t n q p i e=>?_) h;cases i with|zero=>cases e;exact⟨_,m,rfl,h,λb hb=>(q b).mpr (.inl hb),λw t' u k r f=>⟨λb=>u b∨P2 b,.cons r (t.mono (.refl _) λb hb=>⟨k b ((q b).mpr (.inr hb)) λz=>n b z hb,(t.dom b hb).2⟩) (λb hb z=>n b (f b hb) z) λb=>wP,λb hb=>(q b).mpr (hb.imp (f b) id)⟩⟩|succ i=>obtain⟨v,S1,h1,h2,g,I⟩:=p (i:=i) e;refine⟨v,S1,h1,h2,λb hb=>(q b).mpr (.inr (g b hb)),λw t' u k r f=>?_⟩;obtain⟨P,g1,l⟩:=I w t' u (λb hb X=>k b ((q b).mpr (.inr hb)) X) r f;exact⟨λb=>m b∨P b,.cons (h.mono (.refl _) λb hb=>⟨k b ((q b).mpr (.inl hb)) λz=>n b hb (g b z),(h.dom b hb).2⟩) g1 (λb hb z=>n b hb (l b z)) λb=>wP,λb hb=>(q b).mpr (hb.imp id (l b))⟩
def Rp(ks:List D)(k:D):List D:=match bA ks k with
 |some _=>ks|none=>ks++[k]
def Fp{α:Type}(ks:List D)(vs:List α)(k:D)(x:α):List α:=match bA ks k with
 |some n=>vs.set n x|none=>vs++[x]
theorem rP{α h:Type}[DecidableEq α](k:α)(key:h->α)(f:h->h)(hf:∀p,key (f p)=key p):∀(l:List h) (n:Nat),(l.map key).Nodup->(l.map key)[n]?=some k->(∀(g:h->V) (x:V),(∀p,key p=k->g (f p)=x)->(l.map λp=>if key p=k then f p else p).map g=(l.map g).set n x)
 |[],n,_,e=>by simp at e|p::r,0,nd,e=>by
  intro g x w;have e:key p=k:=by simpa using e
  rw[QU]at nd;obtain⟨u,m⟩:=Qh.mp nd;have e2:(r.map λp=>if key p=k then f p else p)=r:=by rw[show r=r.map id from(QCP r).symm,QS];refine wF λq I=>?_;have:key q≠k:=λz=>u (QT.mpr ⟨q,by simpa using I,z.trans e.symm⟩);simp[this]
  rw[QU,e2,QU,QU,if_pos e,w p e];rfl
 |p::r,n+1,nd,e=>by
  intro g x w;rw[QU]at nd;obtain⟨u,m⟩:=Qh.mp nd;have e:(r.map key)[n]?=some k:=by simpa using e
  have X:¬ key p=k:=λz=>u (by rw[z];exact Q4 e);rw[QU,QU,QU,if_neg X,rP k key f hf r n m e g x w];rfl
theorem put_keys{α h z:Type}[DecidableEq α](k:α)(key:h->α)(f:h->h)(g:h->z)(u:∀p,g (f p)=g p)(l:List h):(l.map λp=>if key p=k then f p else p).map g=l.map g:=by rw[QS];refine wF λp _=>?_;show g (if key p=k then f p else p)=g p;split;exact u p;rfl
theorem oJ.put{k:D}(f:Same F H)(ha:H a=some o)(dk:oJ K F b o ks vs)(ry:Rep K F J k)(hk:HD b k)(hl:ks.length<sizeLine)
  (kk:∀o',oJ K F b o' (Rp ks k) (Fp ks vs k A)->R (BA H a o')):tR K (.ref a) J A H R:=by
 cases b with
 |true =>
  obtain⟨ep,u,rfl,rfl,rfl,h4,X⟩:=dk;cases lQ hk ry with
  |intro q h =>
   obtain⟨p,rfl,rfl,hq⟩:=h;refine⟨ep,u,q,ha,λp hp=>f.key (h4 p hp),f.key hq,by simpa using hl,λI=>kk _ ?_⟩;have w:=XG q u;unfold AL Rp Fp;cases e:bA (u.map λp=>tD p.1) (tD q) with
   |none =>
    rw[e]at w;have w:yH u q=none:=w;rw[w];refine⟨I,u++[(q,p,A)],rfl,by simp,by simp,λx l=>?_,?_⟩;rcases Qe.mp l with l|l
    ·exact h4 x l
    rw[QI.mp l];exact hq;rw[QR];refine iI X λm=>XA.mp e ?_;obtain⟨x,l,ex⟩:=QT.mp m;exact QT.mpr ⟨x,l,by rw[ex]⟩
   |some n =>
    rw[e]at w;have g:=nC e;have r:(u.map (·.1))[n]?=some q:=by
     rw[Qc]at g ⊢;cases en:u[n]? with|none=>rw[en]at g;cases g|some x=>rw[en]at g;rw[Q1,Qm]at g ⊢;exact gU g
    have hs:(yH u q).isSome=true:=by
     rw[w];have:n<u.length:=by have:=(Qf.mp r).1;simpa using this
     simp[this]
    rw[if_pos hs];refine⟨I,_,rfl,(put_keys q (·.1) (λp=>(p.1,p.2.1,A)) (λp=>tD p.1) (λ_=>rfl) u).symm,(rP q (·.1) (λp=>(p.1,p.2.1,A)) (λ_=>rfl) u n X r (·.2.2) A λ_ _=>rfl).symm,λx l=>?_,?_⟩;obtain⟨y,hy,ey⟩:=QT.mp l;have hy:=h4 y hy;by_cases z:y.1=q;rw[if_pos z]at ey;subst ey;exact hy;rw[if_neg z]at ey;subst ey;exact hy;have:=put_keys q (·.1) (λp:KE=>(p.1,p.2.1,A)) (·.1) (λ_=>rfl) u;rw[this];exact X
 |false =>
  obtain⟨z,rfl⟩:=hk;cases ry;rcases dk with⟨u,hne,rfl,rfl,rfl,X⟩| ⟨ep,rfl,rfl,rfl⟩
  rotate_left
  exact .inr ⟨ep,ha,kk _ (.inl ⟨[(.inr z,A)],by simp,rfl,rfl,rfl,by simp⟩)⟩;refine .inl ⟨u,ha,by simpa using hl,kk _ (.inl ?_)⟩;have w:=rJ (.inr z) u;have ez:kD (.inr z)=.str z:=rfl;rw[ez]at w;unfold rU Rp Fp;rw[vR];cases e:bA (u.map λp=>kD p.1) (.str z) with
  |none=>rw[e]at w;have w:ZL u (.inr z)=none:=w;rw[w];refine⟨u++[(.inr z,A)],by simp,rfl,by simp[ez],by simp,?_⟩;rw[QR];refine iI X λm=>XA.mp e ?_;obtain⟨x,l,ex⟩:=QT.mp m;exact QT.mpr ⟨x,l,by rw[ex];rfl⟩|some n =>
   rw[e]at w;have g:=nC e;have r:(u.map (·.1))[n]?=some (.inr z):=by
    rw[Qc]at g ⊢;cases en:u[n]? with|none=>rw[en]at g;cases g|some x=>rw[en]at g;rw[Q1,Qm]at g ⊢;exact K5 g
   have hs:(ZL u (.inr z)).isSome=true:=by
    rw[w];have:n<u.length:=by have:=(Qf.mp r).1;simpa using this
    simp[this]
   rw[if_pos hs];refine⟨_,by simpa using hne,rfl,(put_keys (.inr z) (·.1) (λp=>(p.1,A)) (λp=>kD p.1) (λ_=>rfl) u).symm,(rP (.inr z) (·.1) (λp=>(p.1,A)) (λ_=>rfl) u n X r (·.2) A λ_ _=>rfl).symm,?_⟩;have:=put_keys (.inr z) (·.1) (λp:Key×V=>(p.1,A)) (·.1) (λ_=>rfl) u;rw[this];exact X
theorem BQ(h:F a=none)(dk:oJ K F b o ks L)(r:Trs K F H true L us P)(n:¬ P a):Tr K F (BA H a o) true (.ref a) (.dct b ks us) λb=>b=a∨P b :=
 .dct (S':=P) JA dk h (r.mono (.refl _) λb hb=>⟨vA λz=>n (z▸hb),(r.dom b hb).2⟩) n λb=>wP
theorem R0(f:Same F H)(r:Tr K F H true v s Z)(ry:Rep K F J y)(rx:Rep K F A x)(h:Ll s y x N)
  (k:∀s' H' S1,(∀b u,H b=some u->¬ Z b->H' b=some u)->(∀b,H' b=none->H b=none)->Tr K F H' true v s' S1->(∀b,S1 b->Z b)->N s'->R H'):tR K v J A H R:=by
 cases s with
 |lst ts =>
  cases y with
  |int i =>
   obtain⟨n,hn,q⟩:=h;cases ry;cases r with|@lst _ a xs _ _ S' h1 h2 m I l=>have g:Z a:=(l a).mpr (.inl rfl);obtain⟨P,X,p⟩:=m.setD rx n;refine⟨xs,n,h1,by rw[m.length];exact hn,k _ _ _ (cD g) XB (bL h2 X λz=>I (p a z)) (λb hb=>?_) q⟩;rcases hb with hb|hb;exact hb▸g;exact(l b).mpr (.inr (p b hb))
  |_=>exact h.elim
 |dct b ks ts =>
  obtain⟨hk,hl,q⟩:=h;cases r with
  |@dct _ _ a o _ vs _ _ S' h1 dk h2 m I l =>
   have g:Z a:=(l a).mpr (.inl rfl);refine dk.put f h1 ry hk hl λo' w=>?_;unfold Rp Fp at w;unfold YH at q;cases e:bA ks y with
   |some n=>rw[e]at w q;obtain⟨P,X,p⟩:=m.setD rx n;refine k _ _ _ (cD g) XB (BQ h2 w X λz=>I (p a z)) (λb hb=>?_) q;rcases hb with hb|hb;exact hb▸g;exact(l b).mpr (.inr (p b hb))
   |none=>rw[e]at w q;have X:=Trs.append m (Trs.one (Tr.d (S:=λ_=>False) rx λ_ z=>z)) λ_ _ z=>z;refine k _ _ _ (cD g) XB (BQ h2 w X λz=>z.elim I id) (λb hb=>?_) q;rcases hb with hb|hb|hb;exact hb▸g;exact(l b).mpr (.inr hb);exact hb.elim
 |_=>exact h.elim
theorem oJ.vs_inj{m:Hp}{f:List D}{u:LV}(h:oJ K F b o ks vs)(h':oJ K m b o f u):vs=u:=by
 cases b with|true=>obtain⟨l,k,e,_,rfl,_⟩:=h;obtain⟨g,w,z,_,rfl,_⟩:=h';rw[e]at z;cases z;rfl|false=>rcases h with⟨k,_,e,_,rfl,_⟩| ⟨l,e,_,rfl⟩<;>rcases h' with⟨w,_,z,_,rfl,_⟩| ⟨g,z,_,rfl⟩<;>rw[e]at z<;>cases z<;>rfl
theorem E7{F0:Hp}{n:Nat}{w:V}(f:Same F H)(r:Tr K F H true (.ref a) (.dct b ks ts) Z)(l:H a=some o)(q:oJ K F0 b o ks vs)(hw:vs[n]?=some w)(ht:ts[n]?=some s)
  (ry:Rep K F J y) (rx:Rep K F A x) (h:Ll s y x N)
  (k:∀s' g S1,(∀b u,H b=some u->¬ Z b->g b=some u)->(∀b,g b=none->H b=none)->Tr K F g true (.ref a) (.dct b ks (ts.set n s')) S1->(∀b,S1 b->Z b)->N s'->R g):tR K w J A H R:=by
 cases r with
 |@dct _ _ a o' _ vs' _ _ S' h1 dk h2 h3 h4 p =>
  rw[l]at h1;cases h1;cases q.vs_inj dk;have ha:Z a:=(p a).mpr (.inl rfl);obtain⟨w',S1,g1,g2,g3,g4⟩:=h3.part ht;rw[hw]at g1;cases g1;refine R0 f g2 ry rx h λs' g X hh dm rs sub q2=>?_;have keep:∀b,¬ S1 b->H b≠none->g b=H b:=λb hb m=>by
   cases e:H b with|none=>exact absurd e m|some u=>exact hh b u e hb
  have na:¬ S1 a:=λz=>h4 (g3 a z);obtain⟨P,p1,I⟩:=g4 g s' X (λb hb m=>keep b m (h3.dom b hb).1) rs sub;refine k _ g (λb=>b=a∨P b) (λb u e hb=>hh b u e λz=>hb ((p b).mpr (.inr (g3 b z)))) dm (.dct (S':=P) ((keep a na (by rw[l];simp)).trans l) dk h2 p1 (λz=>h4 (I a z)) λb=>wP) (λb hb=>?_) q2;rcases hb with hb|hb;exact hb▸ha;exact(p b).mpr (.inr (I b hb))
theorem Jg{p:Addr}(f:Same F H)(X:H p=none)(r:Tr K F H true v t Z)(ry:Rep K F J y)(h:ig y t N)
  (k:∀s' l S1,(∀b u,H b=some u->¬ Z b->l b=some u)->(∀b,l b=none->H b=none)->Tr K F l true v s' S1->(∀b,S1 b->Z b∨b=p)->N s'->R l):kL K v [J,.ref p] (BA H p (.dT 0 [])) λ_ l=>R l:=by
 obtain⟨ks,ts,rfl,hk,hl,h⟩:=h;cases r with
 |@dct _ _ a o _ vs _ _ S' h1 dk h2 h3 h4 h5 =>
  have ha:Z a:=(h5 a).mpr (.inl rfl);obtain⟨ep,w,rfl,rfl,rfl,d4,d5⟩:=dk;have ap:a≠p:=aA h1 X;have fp:F p=none:=f.free X;have sm:Same H (BA H p (.dT 0 [])):=LB X;cases lQ hk ry with
  |intro q hh =>
   obtain⟨c,rfl,rfl,hq⟩:=hh;have vf:=XG q w;refine⟨a,c,.ref p,ep,w,q,rfl,rfl,(vA ap).trans h1,λx g=>(f.trans sm).key (d4 x g),(f.trans sm).key hq,by simpa using hl,λu eu=>?_,λen I=>?_⟩;rcases h with⟨n,e,q⟩| ⟨e,q⟩
   ·have r0:Tr K F H true (.ref a) (.dct true (w.map λp=>tD p.1) ts) Z:=.dct h1 ⟨ep,w,rfl,rfl,rfl,d4,d5⟩ h2 h3 h4 h5
    refine k _ _ Z (λb u e _=>sm b u e) (λb e=>XB b e) (r0.mono (.refl _) λb hb=>⟨vA λz=>(r0.dom b hb).1 (by rw[z];exact X),(r0.dom b hb).2⟩) (λb hb=>.inl hb) q
   rw[e]at vf;rw[vf]at eu;cases eu;rcases h with⟨n,e,q⟩| ⟨e,q2⟩
   ·have hn:=nC e
    rw[e]at vf;have:n<w.length:=by have:=(Qf.mp hn).1;simpa using this
    rw[vf]at en;have en:(w.map (·.2.2))[n]?=none:=en;rw[List.getElem?_eq_none_iff,QF]at en;omega
   have ep2:AL w q c (.ref p)=w++[(q,c,.ref p)]:=by unfold AL;rw[en];rfl
   rw[ep2];have np:¬ S' p:=λz=>(h3.dom p z).1 X;have g0:Tr K F (BA H p (.dT 0 [])) true (.ref p) (.dct true [] []) λb=>b=p :=
    .dct (S':=λ_=>False) (vs:=[]) JA ⟨0,[],rfl,rfl,rfl,λ_ z=>(nomatch z),Q0⟩ fp (.nil λ_ z=>z) (λz=>z) λb=>by simp
   have g3:Trs K F (BA H p (.dT 0 [])) true (w.map (·.2.2)) ts S':=h3.mono (.refl _) λb hb=>⟨vA λz=>np (z▸hb),(h3.dom b hb).2⟩
   have g1:=Trs.append g3 (Trs.one g0) λb hb z=>np (z▸hb);have dk':oJ K F true (.dT I (w++[(q,c,.ref p)])) ((w.map λp=>tD p.1)++[tD q]) (w.map (·.2.2)++[.ref p]):=by
    refine⟨I,_,rfl,by simp,by simp,λx g=>?_,?_⟩;rcases Qe.mp g with g|g
    ·exact d4 x g
    rw[QI.mp g];exact hq;rw[QR];refine iI d5 λm=>XA.mp e ?_;obtain⟨x,g,ex⟩:=QT.mp m;exact QT.mpr ⟨x,g,by rw[ex]⟩
   refine k _ _ _ (λb u e hb=>?_) (λb e=>XB b (XB b e)) (BQ h2 dk' g1 λz=>z.elim h4 ap) (λb hb=>?_) q2;rw[vA λz=>hb (by rw[z];exact ha)];exact sm b u e;rcases hb with hb|hb|hb
   ·exact .inl (hb▸ha)
   exact .inl ((h5 b).mpr (.inr hb));exact .inr hb
end
end
section
variable{K:QC}{Γ:Ev}{Ψ:PEv}
section
variable{p:PX}{F H:Hp}{S:Ft}{ρ:kA}{Z:xB}
noncomputable abbrev BZ(K:QC)(Γ:Ev)(Ψ:PEv)(p:PX):Prop:=∀{E:XE}{x:XK}{F H:Hp}{S:Ft}{ρ:kA}{h:St}{Q:TK}{R:VK},Rl K F H S ρ h->FE K F H S ρ E x->(pe Ψ p E).e ρ Q->zB K (jH p) F H S ρ h Q R->(wp K Γ p x).e h H R
theorem cU(f:BZ K Γ Ψ p){E:XE}{w:XK}{σ:St}{Q:Bool->kA->Prop}{R:Bool->Hp->Prop}(I:Rl K F H S ρ σ)(X:FE K F H S ρ E w)(h:(pe Ψ p E).e ρ λt _ y=>jI t.er λb=>Q b y)(k:pH K F H S ρ σ Q R) :
  (wp K Γ p w).e σ H λx i=>VF K x i R :=
 f I X h λv l j g z t n Z s u r q=>xW (r.tr.rep u.fh) q λc a=>k c l j g z s u a
theorem PSnd.of_e(w:∀E ρ Q,(pe Ψ p E).t ρ Q=(pe Ψ p E).e ρ λt _ y=>jI t.er λb=>Q b y)(z:∀v σ H R,(wp K Γ p v).t σ H R=(wp K Γ p v).e σ H λx g=>VF K x g R)(f:∀E,(pe Ψ p E).a=aE.a)(u:BZ K Γ Ψ p):PSnd K Γ Ψ p where
 e:=u
 t:=λI X h k=>by rw[w]at h;rw[z];exact cU u I X h k
 a:=λI X _ h k=>by rw[f]at h;exact h.elim
theorem PSnd.of_0(x:∀E,(pe Ψ p E).t=aE.t)(z:∀E,(pe Ψ p E).a=aE.a)(y:BZ K Γ Ψ p):PSnd K Γ Ψ p where
 e:=y
 t:=λI X h k=>by rw[x]at h;exact h.elim
 a:=λI X _ h k=>by rw[z]at h;exact h.elim
theorem PSnd.of_t(l:∀E ρ Q,(pe Ψ p E).e ρ Q=(pe Ψ p E).t ρ λb u=>Q (.d (.bool b)) false u)(v:∀z σ H R,(wp K Γ p z).t σ H R=(wp K Γ p z).e σ H λx n=>G6 x n R)(m:∀E,(pe Ψ p E).a=aE.a)
  (f:∀{E:XE}{z:XK}{F H:Hp}{S:Ft}{ρ:kA}{σ:St}{Q:Bool->kA->Prop}{R:VK},Rl K F H S ρ σ->FE K F H S ρ E z->(pe Ψ p E).t ρ Q->pH K F H S ρ σ Q (λb=>R (.bl b))->(wp K Γ p z).e σ H R):PSnd K Γ Ψ p where
 e:=λI X h k=>by rw[l]at h;exact f I X h λb j i g y s w q=>zB.d k s w (.bl b) q
 t:=λI X h k=>by rw[v];exact f I X h λb j i g y s w q=>k b j i g y s w q
 a:=λI X _ h k=>by rw[m]at h;exact h.elim
theorem Ab(i:Nat):BZ K Γ Ψ (.xz i):=by
 intro E a F H S ρ y Q R I X h k;have x:Op ρ[i]? λt=>Q t false ρ:=h;show(match y[i]? with|some (some v)=>R v H|_=>False);have key:∀s,ρ[i]?=some (some s)->Q s.t false ρ->(match y[i]? with|some (some v)=>R v H|_=>False):=λs e q=>by obtain⟨v,w,u⟩:=I.sl i _ e;rw[w];exact k v F H S ρ s.t false (S i) .refl I ⟨u.weak,λz=>(by cases z),λ_ b hb=>⟨i,s,QI.mpr rfl,e,hb⟩,λz=>(by cases z)⟩ q
 unfold Op at x;split at x;rename_i e;exact key _ e x;rename_i e;exact key _ e x;exact x.elim;exact x.elim
theorem Oh{m:Mt}{v:V}{s:T}(h:isMut m=true)(x:JI m s=true)(r:Tr K F H true v s Z):HZ K m.ty v H:=by
 unfold JI at x;split at x;cases r with
 |lst y _ _ _ _ =>
  refine .inl ⟨?_,_,RC.of y⟩;cases m with|append=>rfl|pop=>rfl|extend=>rfl|_=>cases x
 cases x
theorem gr{m:Mt}{o g:PX}(io:PSnd K Γ Ψ o)(ia:PSnd K Γ Ψ g):BZ K Γ Ψ (.mt m o g):=by
 intro E EK F H S ρ L Q R I X h k;show(wp K Γ o EK).e L H λx J=>HZ K m.ty x J/\(wp K Γ g EK).a L J λA l=>N9 K m x A l R;cases hm:isMut m with
 |false =>
  have h:(pe Ψ o E).e ρ λx n M=>M9 m (oA x n).vw=true/\sq (oA x n) M ((pe Ψ g E).a []) λf y=>lr m (oA x n).vw (fC f) λz k=>Q z k y:=by have C:(if isMut m=true then _ else _):=h;rw[hm,if_neg (by simp)]at C;exact C
  refine ol (P1:=λx n=>M9 m (oA x n).vw=true) (R1:=λv J=>HZ K m.ty v J) (RR:=λv A l=>N9 K m v A l R) io ia I X h (λv F' H' x n Za r p=>zn r p) λv A F' H' S' ρ' x n f Za Y s I' X' r _ tn q=>?_;rw[eL _ rfl]at q;exact Ph s I' r tn q k
 |true =>
  have h:bc (J2 o) λj=>zD ρ[j]? λt=>JI m t=true/\(pe Ψ g E).a [] (ρ.set j (some (.ky t))) λf y=>YE f=true/\y[j]?=some (some (.ky t))/\MK m t (KF f) λr s'=>Q r true (y.set j (some (.own s'))):=by have C:(if isMut m=true then _ else _):=h;rw[hm,if_pos rfl]at C;exact C
  cases o with
  |xz j =>
   have h:zD ρ[j]? _:=h;unfold zD at h;split at h;rename_i t u;obtain⟨ht,q1⟩:=h;obtain⟨v0,hv,B⟩:=I.sl j _ u;have IL:=I.lock1 u;have n0:=I.lock1U u;have B:Tr K F H true v0 t (S j):=B;have XL:=X.lock1 u;show(match L[j]? with|some (some v)=>_|_=>False);rw[hv];refine⟨Oh hm ht B,?_⟩;refine ia.a (md:=[]) IL XL (λj u=>by cases g<;>cases u) q1 λA F2 l S2 y f W Y N I2 G _ P=>?_;obtain⟨he,hj2,P⟩:=P;have r2:Tr K F2 l true v0 t (S j):=N.toStp.keep B n0;have hw:=G.held;have trs:=G.av.trs Lh he;have wS:∀b,S j b->¬ W b:=λb hb hb2=>by rcases G.fr b hb2 with q|q;exact(B.dom b hb).1 q;exact n0 b hb q
   refine F9 I2.fh r2 trs wS P λw r s' H3 S3 Zr hh dm O rr dz hf q=>?_;obtain⟨st,I3,nw⟩:=fI I u hv N I2 hh dm O (λb hb=>hf b (.inl hb)) hw G.fr;have zr:∀b,Zr b->S j b∨W b∨l b=none:=λb hb=>hf b (.inr hb);refine k w F2 H3 _ _ r true Zr st I3 ⟨rr,λ_ b hb=>?_,λz=>(by cases z),λ_ i sl e b hb z=>?_⟩ q;rcases zr b hb with q|q|q
   ·exact .inr ⟨j,t,u,q⟩
   exact(G.fr b q).imp id (lock1U u);exact .inl (N.dm b q);rcases dA e with⟨rfl,_,_⟩| ⟨n,e⟩
   ·rw[RA]at z
    exact dz b hb z
   rw[YA (qB n)]at z;exact nw b (zr b hb) i sl (qB n) e z
   all_goals exact h.elim
  |_=>exact h.elim
theorem zB.dct{ws:LN}{F H x y:Hp}{S S1:Ft}{ρ h:kA}{σ:St}{Q:TK}{R:VK}(k:zB K ws F H S ρ σ Q R)(s:Ste F H S ρ x y S1 h)(I:Rl K x y S1 h σ){p:Addr}(g:H p=none)(m:x p=none)(j:Held x y S1 h λb=>b=p){o:HO}{b:Bool}{ks:List D}{vs:LV}{ts:LT}{W:xB}(dk:oJ K x b o ks vs)(r:Trs K x y true vs ts W)
  (fr:∀b,W b->H b=none∨U ρ S b) (f:Held x y S1 h W) (a:¬ W p) (q:Q (.dct b ks ts) true h):R (.ref p) (BA y p o):=by
 have Y:∀b u,H b=some u->b≠p:=λb u e=>aA e g;have X:Ste F H S ρ x (BA y p o) S1 h:=⟨⟨s.ff,λb u e n=>by rw[vA (Y b u e)];exact s.hh b u e n,λb e=>s.dm b (XB b e),s.fn,s.uu,s.bo⟩,s.ow⟩
 have B:Rl K x (BA y p o) S1 h σ:=⟨λb u e=>by rw[vA λz=>by rw[z,m]at e;cases e];exact I.fh b u e,I.len,λi w e=>by obtain⟨v,A,l⟩:=I.sl i w e;exact⟨v,A,l.mono (.refl _) λb hb=>⟨vA λz=>j.nw i w e b z hb,(l.dom b hb).2⟩⟩,I.dj⟩
 refine k _ x _ S1 h _ true (λb=>b=p∨W b) X B ⟨.dct JA dk m (r.mono (.refl _) λb hb=>⟨vA λz=>a (z▸hb),(f.dom b hb).2⟩) a (λb=>wP),λ_ b hb=>?_,λz=>(by cases z),λ_ i w e b hb z=>?_⟩ q;rcases hb with hb|hb
 ·exact .inl (hb▸g)
 exact fr b hb;rcases hb with hb|hb
 ·exact j.nw i w e b hb z
 exact f.nw i w e b hb z
theorem VR.strict{u y:Hp}{S1:Ft}{h:kA}{ws:LN}{v:V}{t:T}{n:Bool}(r:VR K ws H S ρ u y S1 h v t n Z)(e:HH t n=true):∃W,Tr K u y true v t W/\Held u y S1 h W/\∀b,W b->H b=none∨U ρ S b:=by
 cases n with
 |true=>exact⟨Z,r.tr,r.held,r.fr rfl⟩|false =>
  have w:=r.tr;cases t with
  |d x=>cases w with|d q _=>exact⟨λ_=>False,.d q λ_ z=>z,.none,λ_ z=>z.elim⟩
  |_=>cases e
theorem UM{σ:St}(I:Rl K F H S ρ σ){p:Addr}(h:H p=none)(o:HO):Held F (BA H p o) S ρ λb=>b=p :=
 ⟨λb hb=>⟨by rw[hb,JA];simp,by rw[hb];exact I.fh.free h⟩,λi x e b hb z=>(I.dom e z).1 (by rw[hb];exact h)⟩
theorem A2{F:Hp}:∀{nd:List (Str×D)}{vs:LV},Reps K F vs (nd.map λp=>PyData.tuple [.str p.1,p.2])->∃x:Kk,vs=x.map (λz=>V.ref z.1)/\(∀z∈x,GD K F z.1 [.str z.2.1,z.2.2])/\(x.map λz=>z.2.1)=(nd.map λp=>p.1)/\Reps K F (x.map λz=>z.2.2) (nd.map λp=>p.2)
 |[],vs,h=>by cases h;exact⟨[],rfl,λ_ z=>(nomatch z),rfl,.nil⟩
 | (s,d)::nd,vs,h=>by
  cases h with
  |cons a b =>
   obtain⟨x,rfl,k,v,u⟩:=A2 b;cases a with
   |tup q r =>
    cases r with
    |cons c e =>
     cases e with|cons w f=>cases f;cases c;refine⟨(_,s,_)::x,rfl,λz y=>?_,by rw[QU,QU,v],.cons w u⟩;rcases QL.mp y with rfl|y;exact q;exact k z y
theorem vo{nd:List (Str×D)}{h:Kk}(u:nd≠[])(x:(h.map λz=>z.2.1)=(nd.map λp=>p.1))(y:(nd.map λp=>p.1).Nodup):oJ K F false (.dK (VW h)) (nd.map λp=>.str p.1) (h.map λz=>z.2.2):=by refine .inl ⟨VW h,λz=>u ?_,rfl,?_,?_,y3 (by rw[x];exact y)⟩;have:h=[]:=wg.mp z;subst this;exact wg.mp x.symm;have:=congrArg (List.map PyData.str) x;rw[QS,QS]at this;unfold VW;rw[QS];exact this.symm;unfold VW;rw[QS];rfl
theorem AA(g:GOk K Γ Ψ):∀(p:PX),PSnd K Γ Ψ p
 | .xz i=>⟨Ab i,λI X h k=>cU (Γ:=Γ) (Ψ:=Ψ) (Ab i) I X h k,λI X _ h k=>h.elim⟩|.int i=>⟨λI X h k=>zB.d k .refl I (.int i) h,λI X h k=>k _ _ _ _ _ .refl I h,λI X _ h k=>h.elim⟩|.str x=>⟨λI X h k=>zB.d k .refl I (.str x) h,λI X h k=>h.elim,λI X _ h k=>h.elim⟩|.bl b=>⟨λI X h k=>zB.d k .refl I (.bl b) h,λI X h k=>k _ _ _ _ _ .refl I h,λI X _ h k=>h.elim⟩|.non=>⟨λI X h k=>zB.d k .refl I .non h,λI X h k=>k _ _ _ _ _ .refl I h,λI X _ h k=>h.elim⟩|.glo x=>.of_e (λ_ _ _=>rfl) (λ_ _ _ _=>rfl) (λ_=>rfl) λ{E M F H S ρ G Q R} I X h k=>by have h:(match Ψ.va x with|some d=>Q (.d d) false ρ|none=>False):=h;split at h;rename_i d e;exact zB.d k .refl I (g.va x d e F) h;exact h.elim
 | .bty _ _=>⟨λI X h k=>h.elim,λI X h k=>h.elim,λI X _ h k=>h.elim⟩|.bin op a b=>.of_e (λ_ _ _=>rfl) (λ_ _ _ _=>rfl) (λ_=>rfl) λ{E M F H S ρ G Q R} I X h k =>
  V0 (P:=λx n y m J=>binT op (oA x n).vw (oA y m).vw λz k=>Q z k J) (RR:=λx y H2=>Xb K op x y H2 R) (AA g a) (AA g b) I X h λv w F' N S' A x n y m Za Zb s C X' ra _ rb q=>mj s C ra rb q k
 | .cmp op a b=>.of_t (λ_ _ _=>rfl) (λ_ _ _ _=>rfl) (λ_=>rfl) λ{E M F H S ρ G Q R} I X h k =>
  V0 (P:=λx n y m J=>yb op x.er (oA y m) λk=>Q k J) (RR:=λx y H2=>J6 K op x y H2 R) (AA g a) (AA g b) I X h λv w F' N S' A x n y m Za Zb s C X' ra _ rb q =>
   jb C.fh (by have:=ra.rep C.fh;rwa [oX]at this) rb q λc qc=>k c F' N S' A s C qc
 | .and a b=>⟨λ{E M F H S ρ G Q R} I X h k=>by
   refine(AA g a).e (Q:=λx _ B=>Vj x.er λc=>if c=true then(pe Ψ b E).e B Q else Q (.d (.bool false)) false B) (R:=λx L=>G6 x L λc H2=>if c=true then(wp K Γ b M).e G H2 R else R (.bl false) H2) I X h λv F' N S' A x n Z s C r q=>?_;refine F6 (r.tr.rep C.fh) q λc qc=>?_;cases c with|false=>exact zB.d k s C (.bl false) qc|true=>exact(AA g b).e C (X.from s.toStp) qc ((k.from s).vars λi hi=>QZ _ hi),
  λ{E M F H S ρ G Q R} I X h k=>by
   refine(AA g a).t (Q:=λc B=>if c=true then(pe Ψ b E).t B Q else Q false B) (R:=λc L=>if c=true then(wp K Γ b M).t G L R else R false L) I X h λc F' N S' A s C qc=>?_;cases c with|false=>exact k _ F' N S' A s C qc|true=>exact(AA g b).t C (X.from s.toStp) qc (pH.from k s),λI X _ h k=>h.elim⟩
 | .or a b=>⟨λ{E M F H S ρ G Q R} I X h k=>by
   refine(AA g a).e (Q:=λx _ B=>Vj x.er λc=>if c=true then Q (.d (.bool true)) false B else(pe Ψ b E).e B Q) (R:=λx L=>G6 x L λc H2=>if c=true then R (.bl true) H2 else(wp K Γ b M).e G H2 R) I X h λv F' N S' A x n Z s C r q=>?_;refine F6 (r.tr.rep C.fh) q λc qc=>?_;cases c with|true=>exact zB.d k s C (.bl true) qc|false=>exact(AA g b).e C (X.from s.toStp) qc ((k.from s).vars λi hi=>QZ _ hi),
  λ{E M F H S ρ G Q R} I X h k=>by
   refine(AA g a).t (Q:=λc B=>if c=true then Q true B else(pe Ψ b E).t B Q) (R:=λc L=>if c=true then R true L else(wp K Γ b M).t G L R) I X h λc F' N S' A s C qc=>?_;cases c with|true=>exact k _ F' N S' A s C qc|false=>exact(AA g b).t C (X.from s.toStp) qc (pH.from k s),λI X _ h k=>h.elim⟩
 | .not a=>⟨λ{E M F H S ρ G Q R} I X h k=>by
   refine(AA g a).e (Q:=λx _ B=>jI x.er λc=>Q (.d (.bool (!c))) false B) (R:=λx L=>VF K x L λc H2=>R (.bl (!c)) H2) I X h λv F' N S' A x n Z s C r q=>?_;exact xW (r.tr.rep C.fh) q λc qc=>zB.d k s C (.bl _) qc,
  λ{E M F H S ρ G Q R} I X h k=>(AA g a).t (Q:=λc B=>Q (!c) B) (R:=λc L=>R (!c) L) I X h λc F' N S' A s C qc=>k _ F' N S' A s C qc,λI X _ h k=>h.elim⟩
 | .call f as=>.of_e (λ_ _ _=>rfl) (λ_ _ _ _=>rfl) (λ_=>rfl) λ{E M F H S ρ G Q R} I X h k=>db g (AA g as) I X h k|.isi a c=>by
  have key:∀{E:XE}{M:XK}{F H:Hp}{S:Ft}{ρ:kA}{G:St}{Q:Bool->kA->Prop}{R:VK},Rl K F H S ρ G->FE K F H S ρ E M->(pe Ψ (.isi a c) E).t ρ Q->pH K F H S ρ G Q (λb=>R (.bl b))->(wp K Γ (.isi a c) M).e G H R:=by
   intro E M F H S ρ G Q R I X h k;refine(AA g a).e (Q:=λx _ B=>Xn c x.er λb=>Q b B) I X h λv F' N S' A x n Z s C r q=>?_;cases c with|bty z n=>obtain⟨b,h1,h2,q⟩:=q;exact Ki (r.tr.rep C.fh) h1 h2 (k b F' N S' A s C q)|_=>exact q.elim
  refine⟨λI X h k=>key I X h λb F' N S' A s C q=>zB.d k s C (.bl b) q,λ{E M F H S ρ G Q R} I X h k=>?_,λI X _ h k=>h.elim⟩;exact key (R:=λv L=>VF K v L R) I X h λb F' N S' A s C q=>k b F' N S' A s C q
 | .bi f as=>.of_e (λ_ _ _=>rfl) (λ_ _ _ _=>rfl) (λ_=>rfl) λ{E M F H S ρ G Q R} I X h k =>
  MV (P:=λxs B=>FX f (fC xs) λz k=>Q z k B) (RR:=λvs L=>Ho K f vs L R) (AA g as) I X h λvs F' N S' A xs Y s C X' tn _ q=>by rw[eL _ rfl]at q;exact Zj s C tn q k
 | .mt m o as=>.of_e (λ_ _ _=>rfl) (λ_ _ _ _=>rfl) (λ_=>rfl) (gr (AA g o) (AA g as))|.idx a b=>by
  have he:BZ K Γ Ψ (.idx a b):=λ{E M F H S ρ G Q R} I X h k =>
   V0 (P:=λx n y m J=>(VN (oA x n).vw (oA y m).vw λz=>Q z false J)∨(MS (oA x n).vw y.er λz=>Q z false J)) (RR:=λx y H2=>sY K x y H2 R) (AA g a) (AA g b) I X h λv w F' N S' A x n y m Za Zb s C X' ra za rb q=>by rcases q with q|q;exact Vi s C ra za rb q k;exact Si s C ra za (by have:=rb.rep C.fh;rwa [oX]at this) q k
  exact⟨he,λI X h k=>cU he I X h k,λI X _ h k=>h.elim⟩
 | .slc a lo hi=>.of_0 (λ_=>rfl) (λ_=>rfl) λ{E M F H S ρ G Q R} I X h k=>by
  have part:∀(p:PX),PSnd K Γ Ψ p->∀{F H:Hp}{S:Ft}{ρ:kA}{x:T}{P:Option Int->kA->Prop}{RP:Option Int->Hp->Prop},Rl K F H S ρ G->FE K F H S ρ E M ->
    sq (α:=Option Int) x ρ (if isNop p=true then λρ (R:Option Int->kA->Prop)=>R none ρ else λρ R=>(pe Ψ p E).e ρ λl _ J=>RF l.er λo=>R o J) P ->
    (∀o F' N S' A,Ste F H S ρ F' N S' A->Rl K F' N S' A G->(∀st v Zx,Tr K F H st v x Zx->Tr K F' N st v x Zx)->P o A->RP o N) ->
    (if isNop p=true then λ(R:Option Int->Hp->Prop)=>R none H else λR=>(wp K Γ p M).e G H λl H2=>gM l H2 R) RP:=by
   intro p ip F H S ρ x P RP I X h k;cases hn:isNop p with
   |true=>simp only[hn,if_true]at h ⊢;refine k none F H S ρ .refl I (λ_ _ _ r=>r) ?_;unfold sq at h;split at h<;>exact h|false =>
    simp only[hn,Qo,if_false]at h ⊢;have h2:sq x ρ (cu (pe Ψ p E).e) λy A=>RF y.1.er λo=>P o A:=by unfold sq at h ⊢;exact h
    refine Nl ip I X h2 λw F' N S' A y m Z s C kp _ r q=>E8 (r.tr.rep C.fh) q λo qo=>k o F' N S' A s C kp qo
  refine JF (AA g a) I X h λv F1 L S1 B x n Za s1 I1 X1 r1 _ z1 h1=>?_;refine part lo (AA g lo) I1 X1 h1 λl F2 H2 S2 J s2 I2 k2 h2=>?_;refine part hi (AA g hi) I2 (X1.from s2.toStp) h2 λu F3 H3 S3 ρ3 s3 I3 k3 h3=>?_;exact fg (s1.trans (s2.trans s3)) I3 (k3 _ _ _ (k2 _ _ _ r1)) h3 k
 | .nop=>⟨λI X h k=>h.elim,λI X h k=>h.elim,λI X _ h k=>h.elim⟩|.lst as=>.of_0 (λ_=>rfl) (λ_=>rfl) λ{E M F H S ρ G Q R} I X h k=>by refine(AA g as).a (md:=[]) (R:=λxs L=>xs.length<=sizeLine/\∀p,L p=none->R (.ref p) (BA L p (.lst xs))) I X (λj hj=>by cases as<;>cases hj) h λvs F' N S' A xs W Y s C r _ q=>?_;exact⟨by rw[r.av.length];exact q.2.1,λp hp=>zB.list k s C hp (r.av.trs Lh q.1) r.fr r.held q.2.2⟩|.tup as=>.of_0 (λ_=>rfl) (λ_=>rfl) λ{E M F H S ρ G Q R} I X h k=>by refine(AA g as).a (md:=[]) (R:=λxs L=>xs.length<=sizeLine/\∀p,L p=none->R (.ref p) (BA L p (.tup xs))) I X (λj hj=>by cases as<;>cases hj) h λvs F' N S' A xs W Y s C r _ q=>?_;exact⟨by rw[r.av.length];exact q.2.1,λp hp=>zB.tup k s C hp (r.av.trs Lh q.1) r.fr r.held q.2.2⟩|.comp mask tgs tg ik its cond elt=>.of_0 (λ_=>rfl) (λ_=>rfl) λ{E M F H S ρ G Q R} I X h k=>by
  refine MV (RR:=λvs L=>JC K ik vs L λxs st H2=>AX K xs st tg (if isNop cond=true then λ_ H Q=>Q true H else(wp K Γ cond (λ_ _ _=>False)).t) (wp K Γ elt (λ_ _ _=>False)).e (NI tgs.length mask G) H2 R) (AA g its) I X h λvs F1 L S1 B xs Y s1 I1 X1 tn tm q1=>?_;rw[eL _ rfl]at q1;refine MJ I1.fh tn q1 λxs ys st pr hst hc=>?_;refine r6 (us:=jH elt) ?_ ?_ s1 I1 pr (λb hb=>?_) hst hc k;intro F H S ρ G Q R I h k;cases hn:isNop cond with|true=>simp only[hn,if_true]at h ⊢;exact k true F H S ρ .refl I h|false=>simp only[hn,Qo,if_false]at h ⊢;exact(AA g cond).t I FE.never h k
  intro F H S ρ G Q R I h k;exact(AA g elt).e I FE.never h k;obtain⟨i,sl,_,h2,h3⟩:=tm b hb;exact I1.dom h2 h3
 | .dnew b=>.of_0 (λ_=>rfl) (λ_=>rfl) λ{E M F H S ρ G Q R} I X h k=>by
  intro p hp;have hh:=UM I hp (.dT 0 []);have e:=zB.dct (o:=.dT 0 []) (b:=b) (ks:=[]) (vs:=[]) (ts:=[]) (W:=λ_=>False) k (Ste.refl.new hp (.dT 0 [])) (I.new hp _) hp (I.fh.free hp) hh ?_ (.nil λ_ z=>z) (λ_ z=>z.elim) .none (λz=>z) h;rw[zW]at e;exact e;cases b with
  |true=>exact⟨0,[],rfl,rfl,rfl,λ_ z=>(nomatch z),Q0⟩
  |false=>exact .inr ⟨0,rfl,rfl,rfl⟩
 | .dof a=>.of_0 (λ_=>rfl) (λ_=>rfl) λ{E M F H S ρ G Q R} I X h k =>
  JF (P:=λx n B=>Ta (oA x n).vw λz k=>Q z k B) (RR:=λx L=>Dg K x L R) (AA g a) I X h λv F' N S' A x n Z s C _ r _ _ ⟨us,nd,e,hb,ne,ndp,q⟩=>by obtain⟨p,xs,_,rfl,hp,rp,_⟩:=r.ls C.fh e;obtain⟨zs,rfl,t1,t2,t3⟩:=A2 (rp.un hb).1;refine⟨p,zs,rfl,hp,λz hz=>C.fh.tupl (t1 z hz),by rw[t2];exact ndp,λd hd=>?_⟩;have e:=zB.dct (o:=.dK (VW zs)) (b:=false) (ks:=nd.map λp=>.str p.1) (vs:=zs.map λz=>z.2.2) (ts:=(nd.map λp=>p.2).map T.d) (W:=λ_=>False) k (s.new hd (.dK (VW zs))) (C.new hd _) (s.dm d hd) (C.fh.free hd) (UM C hd _) (vo ne t2 ndp) (Trs.of_reps t3) (λ_ z=>z.elim) .none (λz=>z) q;rw[zW]at e;exact e
 | .dsp a b=>.of_0 (λ_=>rfl) (λ_=>rfl) λ{E M F H S ρ G Q R} I X h k=>by
  intro p hp;have hh:=UM I hp (.dT 0 []);have s0:Ste F H S ρ F (BA H p (.dT 0 [])) S ρ:=Ste.refl.new hp _;refine JF (AA g a) (I.new hp _) (X.from s0.toStp) h λy F1 L S1 B x n Z s1 I1 X1 _ er _ ⟨he,q1⟩=>?_;have hh1:=hh.step s1.toStp I1;have ry:=er he;refine(AA g b).e I1 X1 q1 λv F2 H2 S2 J t m Zb s2 I2 r2 q2=>?_;have hh2:=hh1.step s2.toStp I2;obtain⟨he2,hk,q2⟩:=q2;obtain⟨W,rw,hw,frw⟩:=(r2.from s1.toStp).strict he2;have hp2:H2 p=some (.dT 0 []):=s2.hh p _ (s1.hh p _ JA (hh.nu p rfl)) (hh1.nu p rfl);have np:¬ W p:=λz=>by rcases frw p z with q|q;rw[JA]at q;cases q;exact hh.nu p rfl q
  have ry2:=ry.mono s2.ff;refine⟨hp2,?_⟩;generalize x.er=d at hk ry2 q2;cases lQ hk ry2 with|intro ks hh=>obtain⟨c,rfl,rfl,hq⟩:=hh;refine⟨c,ks,rfl,I2.fh.key hq,λep=>?_⟩;exact zB.dct (o:=.dT ep [(ks,c,v)]) (b:=true) (vs:=[v]) (ts:=[t]) k (s0.trans (s1.trans s2)) I2 hp (hh2.dom p rfl).2 hh2 ⟨ep,_,rfl,rfl,rfl,λz hz=>by rw[QI.mp hz];exact hq,by simp⟩ (Trs.one rw) (λb hb=>by rcases frw b hb with q|q;exact .inl (XB b q);exact .inr q) hw np q2
 | .nz=>⟨λI X h k=>h.elim,λI X h k=>h.elim,λ{E M F H S ρ G md Q R} I X _ h k=>k [] F H S ρ [] (λ_=>False) (λ_=>False) .refl I ⟨.nil λ_ z=>z,λ_ z=>z.elim,λ_ z=>z.elim,λ_ _ _ _ z=>z.elim⟩ (by cases md with|nil=>rfl|cons m r=>cases m<;>rfl) h⟩
 | .ny a as=>⟨λI X h k=>h.elim,λI X h k=>h.elim,λ{E M F H S ρ G md Q R} I X hm h k=>by
  show(wp K Γ a M).e G H λx L=>(wp K Γ as M).a G L λxs H2=>R (x::xs) H2;have vr2:∀i∈jH as,i∈jH (.ny a as):=λi hi=>QZ _ hi;cases O:(md.headD .xx).isMut with
  |true =>
   have h2:D5 a=true/\(pe Ψ as E).a md.tail ρ λxs B=>Q ((.d .none,true)::xs) B:=by have h3:(if(md.headD .xx).isMut=true then _ else _):=h;rw[O,if_pos rfl]at h3;exact h3
   obtain⟨m,md',rfl⟩:∃m md',md=m::md':=by
    cases md with|nil=>cases O|cons m md'=>exact⟨m,md',rfl⟩
   have em:m=.chg:=by have O:m.isMut=true:=O;cases m<;>first|rfl|cases O
   subst em;cases a with
   |xz j=>obtain⟨v,hv⟩:=hm j (show j∈j::uA md' as from QE);show(match G[j]? with|some (some v)=>_|_=>False);rw[hv];refine(AA g as).a I X (λi hi=>hm i (QD _ hi)) h2.2 λvs F' N S' A xs W Y s C r mv q=>?_;refine k (v::vs) F' N S' A _ W Y s C ⟨.chg O r.av,r.fr,(r.vars vr2).tm,r.nw⟩ ?_ q;show(some (some v))::(mB md' vs).map _=G[j]?::(uA md' as).map _;have mv:(mB md' vs).map (λv=>some (some v))=(uA md' as).map (λj=>G[j]?):=mv;rw[hv,mv]
   |_=>exact absurd h2.1 (by simp[D5])
  |false =>
   have h2:(pe Ψ a E).e ρ λx n B=>sq (α:=List (T×Bool)) (if n=true then .d .none else x) B ((pe Ψ as E).a md.tail) λxs J=>Q ((x,n)::xs) J:=by have h3:(if(md.headD .xx).isMut=true then _ else _):=h;rw[O,if_neg (by simp)]at h3;exact h3
   have hroots:uA md (.ny a as)=uA md.tail as:=by
    cases md with|nil=>cases as<;>rfl|cons m md'=>have O:m.isMut=false:=O;cases m<;>first|rfl|cases O
   have hmv:∀v vs,mB md (v::vs)=mB md.tail vs:=λv vs=>by unfold mB;generalize md.headD .xx=m at O;cases m<;>first | (cases vs<;>rfl)|cases O
   refine(AA g a).e I X h2 λv F1 L S1 B x n Z s1 I1 r1 q1=>?_;refine Ol (AA g as) I1 (X.from s1.toStp) (λi hi=>hm i (by rw[hroots];exact hi)) q1 λvs F2 H2 S2 J xs W Y s2 I2 kp hs r2 mv q2=>?_;have s12:=s1.trans s2;have r2':=(r2.from s1.toStp).vars vr2;have mv':(mB md (v::vs)).map (λv=>some (some v))=(uA md (.ny a as)).map (λj=>G[j]?):=by rw[hroots,hmv];exact mv
   cases n with
   |true =>
    have hd:=r1.held;have hd2:=hd.step s2.toStp I2;refine k (v::vs) F2 H2 S2 J _ (λb=>Z b∨W b) Y s12 I2 ⟨.new O (s2.toStp.keep r1.tr hd.nu) r2.av (λb hb hw=>?_) λb=>wP,λb hb=>?_,r2'.tm,λi sl e b hb=>?_⟩ mv' q2;rcases r2.fr b hw with q|q
    ·exact(hd.dom b hb).1 q
    exact hd.nu b hb q;rcases hb with hb|hb
    ·exact r1.fr rfl b hb
    exact r2'.fr b hb;rcases hb with hb|hb
    ·exact hd2.nw i sl e b hb
    exact r2.nw i sl e b hb
   |false =>
    have za:∀b,Z b->∃(i:Nat) (s:Sl),i∈jH a/\J[i]?=some (some s)/\S2 i b:=by
     cases hd:x.isD with
     |true =>
      intro b hb;exfalso;have tr:=r1.tr;cases x with
      |d x=>cases tr with|d r n=>exact n b hb
      |_=>cases hd
     |false=>obtain⟨e1,e2⟩:=hs hd;rw[e1,e2];exact r1.tm rfl
    refine k (v::vs) F2 H2 S2 J _ W (λb=>Z b∨Y b) s12 I2 ⟨.tmp O (kp _ _ _ r1.tr) (λb hb=>.inl hb) (r2.av.sub λb hb=>.inr hb),r2'.fr,λb hb=>?_,r2.nw⟩ mv' q2;rcases hb with hb|hb;obtain⟨i,sl,h1,h2⟩:=za b hb;exact⟨i,sl,Ql _ h1,h2⟩;exact r2'.tm b hb⟩
end
end
structure Sts(C J:LN)(F H:Hp)(S:Ft)(ρ:kA)(σ:St)(F' H':Hp)(S':Ft)(ρ':kA)(σ':St):Prop where
 ff:Same F F'
 hh:∀b u,H b=some u->¬ U ρ S b->H' b=some u
 dm:∀b,H' b=none->H b=none
 fn:∀b,F b=none->F' b≠none->U ρ S b∨H b=none
 uu:∀b,U ρ' S' b->U ρ S b∨H b=none
 bo:∀(j:Nat) t,j∉J->ρ'[j]?=some (some (.ky t))->t.isD=false->ρ[j]?=some (some (.ky t))/\S' j=S j/\σ'[j]?=σ[j]?
 sg:∀j∈C,σ'[j]?=σ[j]?
structure Stc(C:LN)(F H:Hp)(S:Ft)(ρ:kA)(σ:St)(F' H':Hp)(S':Ft)(ρ':kA)(σ':St):Prop where
 ff:Same F F'
 hh:∀b u,H b=some u->¬ U ρ S b->H' b=some u
 dm:∀b,H' b=none->H b=none
 fn:∀b,F b=none->F' b≠none->U ρ S b∨H b=none
 uu:∀b,U ρ' S' b->U ρ S b∨H b=none
 sg:∀j∈C,σ'[j]?=σ[j]?
section
variable{K:QC}{Γ:Ev}{Ψ:PEv}{E:XE}{L:XK}{F H m p A G:Hp}{S S1 B:Ft}{ρ y X:kA}{σ g Y:St}{C J:LN}
section
variable{t:T}{Z:xB}{i:Nat}
theorem Stp.sts(s:Stp F H S ρ m p S1 y):Sts C J F H S ρ σ m p S1 y σ:=⟨s.ff,s.hh,s.dm,s.fn,s.uu,λj t _ e h=>let⟨z,x⟩:=s.bo j t e h;⟨z,x,rfl⟩,λ_ _=>rfl⟩
theorem Sts.refl:Sts C J F H S ρ σ F H S ρ σ:=Stp.refl.sts
theorem Sts.trans(a:Sts C J F H S ρ σ m p S1 y g)(b:Sts C [] m p S1 y g A G B X Y):Sts C J F H S ρ σ A G B X Y where
 ff:=a.ff.trans b.ff
 hh:=λx u h n=>b.hh x u (a.hh x u h n) λz=>by rcases a.uu x z with q|q;exact n q;rw[q]at h;cases h
 dm:=λx h=>a.dm x (b.dm x h)
 fn:=λx h z=>by
  by_cases q:m x=none;rcases b.fn x q z with w|w
  ·exact a.uu x w
  exact .inr (a.dm x w);exact a.fn x h q
 uu:=λx h=>by rcases b.uu x h with w|w;exact a.uu x w;exact .inr (a.dm x w)
 bo:=λj t v h n=>by obtain⟨r,o,l⟩:=b.bo j t (by simp) h n;obtain⟨f,e,k⟩:=a.bo j t v r n;exact⟨f,o.trans e,l.trans k⟩
 sg:=λj v=>(b.sg j v).trans (a.sg j v)
theorem Sts.c(s:Sts C J F H S ρ σ m p S1 y g):Stc C F H S ρ σ m p S1 y g:=⟨s.ff,s.hh,s.dm,s.fn,s.uu,s.sg⟩
theorem Stc.trans(a:Stc C F H S ρ σ m p S1 y g)(b:Stc C m p S1 y g A G B X Y):Stc C F H S ρ σ A G B X Y where
 ff:=a.ff.trans b.ff
 hh:=λx u h n=>b.hh x u (a.hh x u h n) λz=>by rcases a.uu x z with q|q;exact n q;rw[q]at h;cases h
 dm:=λx h=>a.dm x (b.dm x h)
 fn:=λx h z=>by
  by_cases q:m x=none;rcases b.fn x q z with w|w
  ·exact a.uu x w
  exact .inr (a.dm x w);exact a.fn x h q
 uu:=λx h=>by rcases b.uu x h with w|w;exact a.uu x w;exact .inr (a.dm x w)
 sg:=λj v=>(b.sg j v).trans (a.sg j v)
theorem FE.fromS(h:FE K F H S ρ E L)(s:Sts C J F H S ρ σ m p S1 y g):FE K m p S1 y E L:=λx k A G B X v f r q =>
 h x k A G (λ_ _=>False) [] ⟨s.ff.trans v.ff,λb u e n=>v.hh b u (s.hh b u e n) (λz=>(s.uu b z).elim n λw=>(by rw[w]at e;cases e)),λb e=>s.dm b (v.dm b e),λb e z=>by
  by_cases q:m b=none;rcases v.fn b q z with w|w
  ·exact s.uu b w
  exact .inr (s.dm b w);exact s.fn b e q,λb ⟨i,t,e,_⟩=>by simp at e,λj t e=>by simp at e⟩ f r q
structure EndsOk(K:QC)(C:LN)(F H:Hp)(S:Ft)(ρ:kA)(σ:St)(Z:PEnds)(Dn:Ends):Prop where
 nx:∀F' H' S' ρ' σ',Sts C [] F H S ρ σ F' H' S' ρ' σ'->Rl K F' H' S' ρ' σ'->Z.nx ρ'->Dn.nx σ' H'
 rt:∀v t W F' H' S' ρ' σ',Stc C F H S ρ σ F' H' S' ρ' σ'->Rl K F' H' S' ρ' σ'->Tr K F' H' true v t W->Held F' H' S' ρ' W->(∀b,W b->H b=none∨U ρ S b)->Z.rt t ρ'->Dn.rt v H'
 bk:∀F' H' S' ρ' σ',Sts C [] F H S ρ σ F' H' S' ρ' σ'->Rl K F' H' S' ρ' σ'->Z.bk ρ'->Dn.bk σ' H'
 ct:∀F' H' S' ρ' σ',Sts C [] F H S ρ σ F' H' S' ρ' σ'->Rl K F' H' S' ρ' σ'->Z.ct ρ'->Dn.ct σ' H'
theorem Bs(s:Sts C J F H S ρ σ m p S1 y g){W:xB}(fr:∀b,W b->p b=none∨U y S1 b):∀b,W b->H b=none∨U ρ S b:=λb hb=>by rcases fr b hb with q|q;exact .inl (s.dm b q);exact(s.uu b q).symm
theorem EndsOk.from{Z:PEnds}{b:Ends}(ok:EndsOk K C F H S ρ σ Z b)(s:Sts C [] F H S ρ σ m p S1 y g):EndsOk K C m p S1 y g Z b :=
 ⟨λa k w z x u I q=>ok.nx a k w z x (s.trans u) I q,λv t W a k w z x u I r h fr q=>ok.rt v t W a k w z x (s.c.trans u) I r h (Bs s fr) q,
  λa k w z x u I q=>ok.bk a k w z x (s.trans u) I q,λa k w z x u I q=>ok.ct a k w z x (s.trans u) I q⟩
theorem Sts.setD(s:Sts C J F H S ρ σ m p S1 y g)(i:Nat)(a:i∉C)(v:V)(k:t.isD=true)(Z:xB):Sts C J F H S ρ σ m p (tH S1 i Z) (y.set i (some (.ky t))) (g.set i (some v)) :=
 ⟨s.ff,s.hh,s.dm,s.fn,λb ⟨j,u,z,w⟩=>by
  rcases dA z with⟨_,e,_⟩| ⟨n,z⟩
  cases e;rw[YA (qB n)]at w;exact s.uu b ⟨j,u,z,w⟩,
 λj u h e x=>by
  rcases dA e with⟨_,e,_⟩| ⟨n,e⟩
  injection e with e;injection e with e;subst e;rw[k]at x;cases x;rw[YA (qB n),ID n];exact s.bo j u h e x,
 λj h=>by have n:i≠j:=λe=>a (e▸h);rw[ID n];exact s.sg j h⟩
theorem Rl.setD(I:Rl K F H S ρ σ)(i:Nat){v:V}{x:D}(r:Rep K F v x):Rl K F H (tH S i λ_=>False) (ρ.set i (bD x)) (σ.set i (some v)) :=
 I.setB i (.d r λ_ z=>z) λ_ _ _ _ _ z=>z.elim
theorem Rl.setN(I:Rl K F H S ρ σ)(i:Nat){v:V}(r:Tr K F H true v t Z)(w:∀(j:Nat) s,j≠i->ρ[j]?=some (some s)->∀b,Z b->¬ S j b):Rl K F H (tH S i Z) (ρ.set i (some (.own t))) (σ.set i (some v)) where
 fh:=I.fh
 len:=by simpa using I.len
 sl:=λj s h=>by
  rcases dA h with⟨rfl,e,hl⟩| ⟨a,h⟩
  cases e;exact⟨v,fW (by rw[<- I.len];exact hl),by rw[RA];exact r⟩;rw[ID a,YA (qB a)];exact I.sl j s h
 dj:=λj k f s n u x b hb hk=>by
  rcases dA u with⟨e,_,_⟩| ⟨l,u⟩
  subst e;rw[RA]at hb;rcases dA x with⟨e,_,_⟩| ⟨z,x⟩
  exact n e;rw[YA (qB z)]at hk;exact w k s (qB z) x b hb hk;rw[YA (qB l)]at hb;rcases dA x with⟨e,_,_⟩| ⟨z,x⟩
  subst e;rw[RA]at hk;exact w j _ n u b hk hb;rw[YA (qB z)]at hk;exact I.dj j k f s n u x b hb hk
theorem Sts.setN(s:Sts C J F H S ρ σ m p S1 y g)(i:Nat)(w:i∉C)(v:V)(t:T)(fr:∀b,Z b->H b=none∨U ρ S b):Sts C J F H S ρ σ m p (tH S1 i Z) (y.set i (some (.own t))) (g.set i (some v)) :=
 ⟨s.ff,s.hh,s.dm,s.fn,λb ⟨j,u,z,x⟩=>by
  rcases dA z with⟨rfl,_,_⟩| ⟨n,z⟩
  rw[RA]at x;exact(fr b x).symm;rw[YA (qB n)]at x;exact s.uu b ⟨j,u,z,x⟩,
 λj u h e k=>by
  rcases dA e with⟨_,e,_⟩| ⟨n,e⟩
  cases e;rw[YA (qB n),ID n];exact s.bo j u h e k,
 λj h=>by have n:i≠j:=λe=>w (e▸h);rw[ID n];exact s.sg j h⟩
theorem Rl.frz1(I:Rl K F H S ρ σ)(h:ρ[i]?=some (some (.own t))):Rl K (DI F H (S i)) H (tH S i λ_=>False) (ρ.set i (bD t.er)) σ/\Sts C [] F H S ρ σ (DI F H (S i)) H (tH S i λ_=>False) (ρ.set i (bD t.er)) σ:=by
 obtain⟨v,hv,r⟩:=I.sl i _ h;have k:=OG (H:=H) λb (hb:S i b)=>(r.dom b hb).2;have O:Rl K F H S (ρ.set i none) σ:=I.drop (by simp) λj s e=>by
  rcases dA e with⟨_,z,_⟩| ⟨_,e⟩
  cases z;exact e
 have l:Held F H S (ρ.set i none) (S i):=⟨r.dom,λj s e b hb z=>by
  rcases dA e with⟨_,q,_⟩| ⟨n,e⟩
  cases q;exact I.dj i j t s n h e b hb z⟩
 have N:=O.frz l;have f:Rep K (DI F H (S i)) v t.er:=Tr.kept k r λb u hb e=>by rw[CI hb];exact e
 have a:=N.setD i f;have M:(ρ.set i none).set i (bD t.er)=ρ.set i (bD t.er):=by simp
 have W:σ.set i (some v)=σ:=by apply qy;intro j;rw[q0];split;rename_i e;subst e;split;exact hv.symm;rename_i n;rw[qA (by omega)];rfl
 rw[M,W]at a;refine⟨a,⟨k,λb u e _=>e,λb e=>e,λb e z=>.inl ?_,λb ⟨j,u,x,w⟩=>.inl ?_,λj u _ e o=>?_,λ_ _=>rfl⟩⟩;by_cases hb:S i b
 ·exact⟨i,t,h,hb⟩
 rw[mC hb]at z;exact absurd e z;rcases dA x with⟨_,q,_⟩| ⟨n,x⟩
 ·cases q
 rw[YA (qB n)]at w;exact⟨j,u,x,w⟩;rcases dA e with⟨_,q,_⟩| ⟨n,e⟩
 ·injection q with q;injection q with q;subst q;cases o
 exact⟨e,YA (qB n),rfl⟩
theorem SY{f:Option Sl->Option Sl}:ρ.modify i f=match ρ[i]? with|some o=>ρ.set i (f o)|none=>ρ:=by
 apply qy;intro j;rw[Wt];cases h:ρ[i]? with|none=>simp only;by_cases e:i=j;subst e;simp[h];simp[e]|some o=>simp only;rw[q0];by_cases e:i=j;subst e;obtain⟨hl,rfl⟩:=Qf.mp h;simp[hl];simp[e]
theorem rR{α:Type}{l:List α}{o:α}(h:l[i]?=some o):l.set i o=l:=by apply qy;intro j;rw[q0];split;rename_i e;subst e;rw[if_pos (Qf.mp h).1,h];rfl
theorem Rl.frzAt:∀(x:LN) {F:Hp}{S:Ft}{ρ:kA},Rl K F H S ρ σ->∃z S',Rl K z H S' (frzAt x ρ) σ/\Sts C [] F H S ρ σ z H S' (frzAt x ρ) σ
 |[],F,S,ρ,I=>⟨F,S,I,.refl⟩|i::x,F,S,ρ,I=>by
  have one:∃m S1,Rl K m H S1 (ρ.modify i mV) σ/\Sts C [] F H S ρ σ m H S1 (ρ.modify i mV) σ:=by
   rw[SY];cases h:ρ[i]? with
   |none=>exact⟨F,S,I,.refl⟩|some o =>
    cases o with
    |none=>have e:ρ.set i (mV none)=ρ:=rR h;simp only[e];exact⟨F,S,I,.refl⟩|some u =>
     cases u with|ky t=>have e:ρ.set i (mV (some (.ky t)))=ρ:=rR h;simp only[e];exact⟨F,S,I,.refl⟩|own t=>exact⟨_,_,I.frz1 h⟩
  obtain⟨m,S1,a,w⟩:=one;obtain⟨A,B,k,v⟩:=Rl.frzAt x a;exact⟨A,B,k,w.trans v⟩
end
end
noncomputable def GJ(C:LN):PT->Bool
 | .seq s r=>GJ C s&&GJ C r|.set i _=>!C.contains i|.own i _=>!C.contains i|.ife _ a b=>GJ C a&&GJ C b|.for_ x _ _ h=>x.ix.all (λi=>!C.contains i)&&GJ C h|.nil=>true|.expr _=>true|.ret _=>true|.six _ _ _=>true|.sdf _ _=>true|.whl _ h=>GJ C h|.frz _ s=>GJ C s
section
variable{K:QC}{Γ:Ev}{Ψ:PEv}{E:XE}{N:XK}{F H D B F2 M:Hp}{S S1 O:Ft}{ρ A P:kA}{σ G R:St}{C J:LN}
theorem Sts.bind{L:LN}(s:Sts C J F H S ρ σ D B S1 A G)(b:Bd L D B S1 A G F2 M O P R)(v:∀j∈L,j∈J)(w:∀j∈L,j∉C):Sts C J F H S ρ σ F2 M O P R :=
 ⟨s.ff.trans b.ff,λx u e n=>b.hh x u (s.hh x u e n),λx e=>s.dm x (b.dm x e),λx e z=>by
  by_cases q:D x=none;exact .inr (s.dm x (b.fn x q z));exact s.fn x e q,λx u=>s.uu x (b.U u),λj t h e y=>by
  obtain⟨l,i,g⟩:=b.out j λz=>h (v j z);rw[l]at e;obtain⟨f,a,k⟩:=s.bo j t h e y;exact⟨f,i.trans a,g.trans k⟩,λj h=>(b.out j λz=>w j z h).2.2.trans (s.sg j h)⟩
theorem rX{g:Tg}{body:PEnds->kA->Prop}{tb:TS}{Z:PEnds}{o:Ends}{xs:List Item}{p:LT}{st:Hp->Prop}{Y:xB}
  (ib:∀{F H:Hp}{S:Ft}{ρ:kA}{σ:St}{Z:PEnds}{o:Ends},Rl K F H S ρ σ->FE K F H S ρ E N->body Z ρ->EndsOk K C F H S ρ σ Z o->tb o σ H)
  (I:Rl K F H S ρ σ) (X:FE K F H S ρ E N) (hC:∀j∈g.ix,j∉C) (pr:Paired (CZ K F H Y) xs p) (hy:∀b,Y b->¬ U ρ S b/\H b≠none/\F b=none) (hst:∀f k,Same F f->Same f k->(∀b,Y b->k b=H b)->st k) (h:GH body g Z p ρ)
  (onx:∀f k S' z w,Sts C g.ix F H S ρ σ f k S' z w->Rl K f k S' z w->Z.nx z->o.nx w k)
  (ort:∀v t W f k S' z w,Stc C F H S ρ σ f k S' z w->Rl K f k S' z w->Tr K f k true v t W->Held f k S' z W->(∀b,W b->H b=none∨U ρ S b)->Z.rt t z->o.rt v k):Nj K xs st g tb o σ H:=by
 intro J hJ;have len:=qI pr;have yk:∀{D B:Hp}{S1:Ft}{A:kA}{G:St},Sts C g.ix F H S ρ σ D B S1 A G->∀b,Y b->B b=H b/\D b=none:=λ{D B S1 A G} s b hb=>by
  obtain⟨n,d1,d2⟩:=hy b hb;refine⟨?_,?_⟩;cases e:H b with|none=>exact absurd e d1|some u=>exact s.hh b u e n
  by_cases q:D b=none
  ·exact q
  exact((s.fn b d2 q).elim n d1).elim
 refine⟨λi m w k=>i<=xs.length/\m=xs.length - i/\∃z f S',Sts C g.ix F H S ρ σ f k S' z w/\Rl K f k S' z w/\GH body g Z (p.drop i) z,⟨_,Qz _,rfl,ρ,F,S,.refl,I,by simpa using h⟩,?_⟩;rintro i m G B ⟨hi,rfl,A,D,S1,L,I1,h1⟩;have hs:=hst D B L.ff I1.fh λb hb=>(yk L b hb).1;rcases QA5 i xs.length with l|hge;refine .inr ⟨hJ.go i B hs l,λw k=>i+1<=xs.length/\∃z f S',Sts C g.ix F H S ρ σ f k S' z w/\Rl K f k S' z w/\GH body g Z (p.drop (i+1)) z,λw k ⟨a,b⟩=>⟨_,by omega,a,rfl,b⟩,λx M hyl=>?_⟩;obtain⟨it,hx,hm⟩:=hJ.yld i B x M hs l hyl;obtain⟨y,hd,ry⟩:=Paired.get_of pr hx;rw[hd]at h1;unfold GH at h1;have key:L3.bindI K g it G B λR M=>tb { o with nx:=λw k=>i+1<=xs.length/\∃z f S',Sts C g.ix F H S ρ σ f k S' z w/\Rl K f k S' z w/\GH body g Z (p.drop (i+1)) z,ct:=λw k=>i+1<=xs.length/\∃z f S',Sts C g.ix F H S ρ σ f k S' z w/\Rl K f k S' z w/\GH body g Z (p.drop (i+1)) z,bk:=o.nx } R M:=by
  refine pT I1 (λb hb u=>?_) (ry.mono L.ff (yk L)) h1 λP R F2 H3 O bd I2 h2=>?_;rcases L.uu b u with q|q
  ·exact(hy b hb).1 q
  exact(hy b hb).2.1 q;have s2:=L.bind bd (λj hj=>hj) hC;exact ib I2 (X.fromS s2) h2 ⟨λf k S' z w Q I' q=>⟨l,z,f,S',s2.trans Q,I',q⟩,λv t W f k S' z w Q I' r hw fr q=>ort v t W f k S' z w (s2.c.trans Q) I' r hw (Bs s2 fr) q,
   λf k S' z w Q I' q=>onx f k S' z w (s2.trans Q) I' q,λf k S' z w Q I' q=>⟨l,z,f,S',s2.trans Q,I',q⟩⟩
 exact IM hm key;have e:p.drop i=[]:=Wa (by omega);rw[e]at h1;exact .inl ⟨hJ.stop i B hs hge,onx D B S1 A G L I1 h1⟩
theorem zG:∀(J:LN) (ρ:kA) (i:Nat) s,(kill J ρ)[i]?=some (some s)->ρ[i]?=some (some s)/\(i∈J->∀t,s=.ky t->t.isD=true)
 |[],ρ,i,s,h=>⟨h,λz=>by simp at z⟩|j::J,ρ,i,s,h=>by
  unfold kill at h;obtain⟨x,w⟩:=zG J _ i s h;rw[Wt]at x;by_cases e:j=i;subst e;simp only[reduceIte]at x;cases q:ρ[j]? with
  |none=>rw[q]at x;cases x|some o =>
   rw[q]at x;have x:KM o=some s:=by simpa using x
   cases o with
   |none=>cases x|some v =>
    cases v with
    |own t=>cases x;exact⟨rfl,λ_ u z=>by cases z⟩|ky t =>
     have x:(if t.isD=true then some (Sl.ky t) else none)=some s:=x;cases y:t.isD with|true=>rw[y,if_pos rfl]at x;cases x;exact⟨rfl,λ_ u z=>by cases z;exact y⟩|false=>rw[y]at x;simp at x
  simp only[e,if_false]at x;refine⟨by simpa using x,λm=>w ((QL.mp m).elim (λz=>absurd z.symm e) id)⟩
theorem ZM:∀(J:LN) (ρ:kA),(kill J ρ).length=ρ.length
 |[],_=>rfl|j::J,ρ=>by unfold kill;rw[ZM J];simp
theorem Sts.kill(s:Sts C J F H S ρ σ D B S1 A G):Sts C [] F H S ρ σ D B S1 (L3.kill J A) G :=
 ⟨s.ff,s.hh,s.dm,s.fn,λb ⟨i,t,y,x⟩=>s.uu b ⟨i,t,(zG J A i _ y).1,x⟩,λj t _ e h=>by obtain⟨y,x⟩:=zG J A j _ e;by_cases z:j∈J;rw[x z t rfl]at h;cases h;exact s.bo j t z y h,s.sg⟩
theorem uS:∀(L:LN) (ρ:kA) (j:Nat),(lock L ρ)[j]?=if j∈L then ρ[j]?.map IF else ρ[j]?
 |[],ρ,j=>by simp[lock]|i::L,ρ,j=>by
  have x:∀o,IF (IF o)=IF o:=λo=>by
   match o with
   |none=>rfl|some (.own _)=>rfl|some (.ky _)=>rfl
  unfold lock;rw[uS L,Wt];by_cases e:i=j;subst e;cases h:ρ[i]? with|none=>simp|some o=>simp[x]
  have y:¬ j=i:=λz=>e z.symm;simp[e,y]
theorem xS:∀(L:LN) (ρ:kA),(lock L ρ).length=ρ.length
 |[],_=>rfl|i::L,ρ=>by unfold lock;rw[xS L];simp
theorem VL:∀(L:LN) (x ρ:kA) (j:Nat),(∀i∈L,i<ρ.length)->(UC L x ρ)[j]?=if j∈L then some (x[j]?.getD none) else ρ[j]?
 |[],x,ρ,j,_=>by simp[UC]|i::L,x,ρ,j,h=>by unfold UC;rw[VL L x _ j (λk hk=>by simpa using h k (QD _ hk)),q0];by_cases e:i=j;subst e;simp[h i QE];have y:¬ j=i:=λz=>e z.symm;simp[e,y]
theorem KL:∀(L:LN) (h ρ:kA),(UC L h ρ).length=ρ.length
 |[],_,_=>rfl|i::L,h,ρ=>by unfold UC;rw[KL L];simp
theorem VH{ρ:kA}:∀(x:LN),∀i∈gC ρ x,∃t,ρ[i]?=some (some (.own t))
 |[],i,h=>by simp[gC]at h|j::x,i,h=>by
  unfold gC at h;split at h
  ·rename_i ho
   rcases QL.mp h with e|e
   ·subst e
    unfold oM at ho;split at ho;rename_i t e;exact⟨t,e⟩
    all_goals cases ho
   exact VH x i e
  exact VH x i h
theorem mM{ρ:kA}{i:Nat}{t:T}(h:ρ[i]?=some (some (.own t))):∀(x:LN),i∈x->i∈gC ρ x
 |[],hi=>by simp at hi|j::x,hi=>by
  unfold gC;rcases QL.mp hi with e|e;subst e;have:oM ρ[i]?=true:=by rw[h];rfl
  rw[if_pos this];exact QE;have:=mM h x e;split;exact QD _ this;exact this
section
variable{L:LN}(y:∀i∈L,∃t,ρ[i]?=some (some (.own t)))
include y
theorem eK{i:Nat}{s:Sl}(h:(lock L ρ)[i]?=some (some s)):(i∈L/\∃t,ρ[i]?=some (some (.own t))/\s=.ky t)∨(i∉L/\ρ[i]?=some (some s)):=by rw[uS]at h;by_cases x:i∈L;rw[if_pos x]at h;obtain⟨t,e⟩:=y i x;rw[e]at h;injection h with h;injection h with h;exact .inl ⟨x,t,e,h.symm⟩;rw[if_neg x]at h;exact .inr ⟨x,h⟩
theorem jF{b:Addr}(h:U (lock L ρ) S b):U ρ S b:=by
 obtain⟨i,t,x,z⟩:=h;rcases eK y x with⟨_,u,_,e⟩| ⟨_,x⟩
 cases e;exact⟨i,t,x,z⟩
theorem Rl.lock(I:Rl K F H S ρ σ):Rl K F H S (L3.lock L ρ) σ where
 fh:=I.fh
 len:=by rw[xS];exact I.len
 sl:=λi s e=>by
  rcases eK y e with⟨_,t,h,rfl⟩| ⟨_,h⟩
  obtain⟨v,u,x⟩:=I.sl i _ h;exact⟨v,u,x.weak⟩;exact I.sl i s h
 dj:=λi j t s n k w=>by
  rcases eK y k with⟨_,_,_,z⟩| ⟨_,u⟩
  cases z;rcases eK y w with⟨_,a,x,_⟩| ⟨_,x⟩
  ·exact I.dj i j t _ n u x
  exact I.dj i j t s n u x
theorem Rl.lockU(I:Rl K F H S ρ σ){i:Nat}(x:i∈L){b:Addr}(hb:S i b):¬ U (L3.lock L ρ) S b:=λ⟨j,t,h,v⟩=>by
 obtain⟨w,e⟩:=y i x;rcases eK y h with⟨_,_,_,z⟩| ⟨u,h⟩
 cases z;exact I.dj j i t _ (λz=>u (z▸x)) h e b v hb
theorem jY(I:Rl K F H S ρ σ)(s:Sts C [] F H S (lock L ρ) σ D B S1 A G)(W:Rl K D B S1 A G)(hl:∀i∈L,A[i]?=ρ[i]?.map IF) :
  ∃O,Rl K D B O (UC L ρ A) G/\Sts C [] F H S ρ σ D B O (UC L ρ A) G:=by
 classical
 have l1:∀i∈L,∃t,ρ[i]?=some (some (.own t))/\A[i]?=some (some (.ky t)):=λi h=>by obtain⟨t,e⟩:=y i h;have:=hl i h;rw[e]at this;exact⟨t,e,this⟩
 have hlt:∀i∈L,i<A.length:=λi h=>by obtain⟨t,_,e⟩:=l1 i h;exact(Qf.mp e).1
 let O:Ft:=λi=>if i∈L then S i else S1 i
 have l:∀i∈L,O i=S i:=λi h=>if_pos h;have g:∀i,i∉L->O i=S1 i:=λi h=>if_neg h;have get:∀i a,(UC L ρ A)[i]?=some (some a)->(i∈L/\∃t,ρ[i]?=some (some (.own t))/\A[i]?=some (some (.ky t))/\a=.own t)∨(i∉L/\A[i]?=some (some a)):=λi a e=>by rw[VL L ρ A i hlt]at e;by_cases h:i∈L;rw[if_pos h]at e;obtain⟨t,f,Y⟩:=l1 i h;rw[f]at e;injection e with e;have e:some (Sl.own t)=some a:=e;injection e with e;exact .inl ⟨h,t,f,Y,e.symm⟩;rw[if_neg h]at e;exact .inr ⟨h,e⟩
 have Q:∀i∈L,∀k a,k∉L->A[k]?=some (some a)->∀b,S i b->¬ S1 k b:=λi h k a hk e b hb z=>by
  obtain⟨t,f,_⟩:=l1 i h;cases a with
  |own u=>rcases s.uu b ⟨k,u,e,z⟩ with q|q;exact I.lockU y h hb q;exact(I.dom f hb).1 q
  |ky u =>
   cases o:u.isD with
   |true=>exact W.isD e o z|false =>
    obtain⟨m,p,_⟩:=s.bo k u (by simp) e o;rw[p]at z;rcases eK y m with⟨q,_⟩| ⟨_,m⟩
    exact hk q;exact I.dj i k t _ (λq=>hk (q▸h)) f m b hb z
 refine⟨O,⟨W.fh,by rw[KL];exact W.len,λi a e=>?_,λi k t a n f Y b hb hk=>?_⟩,⟨s.ff,λb u e n=>s.hh b u e λz=>n (jF y z),s.dm,λb e z=>(s.fn b e z).imp (jF y) id,λb ⟨i,t,h1,h2⟩=>?_,λj t _ e o=>?_,s.sg⟩⟩;rcases get i a e with⟨h,t,f,Y,rfl⟩| ⟨h,f⟩
 ·rw[l i h]
  obtain⟨v,m,p⟩:=I.sl i _ f;cases o:t.isD with
  |true =>
   obtain⟨v',g3,g4⟩:=W.sl i _ Y;refine⟨v',g3,?_⟩;have nb:∀b,¬ S i b:=λb=>I.isD f o;cases t with
   |d x =>
    have g4:Tr K D B false v' (.d x) (S1 i):=g4;cases g4 with|d r _=>exact .d r nb
   |_=>cases o
  |false =>
   obtain⟨_,_,g5⟩:=s.bo i t (by simp) Y o;refine⟨v,g5.trans m,?_⟩;have p:Tr K F H true v t (S i):=p;refine p.mono s.ff λb hb=>?_;obtain⟨d1,d2⟩:=p.dom b hb;have nu:=I.lockU y h hb;refine⟨?_,?_⟩;cases eb:H b with|none=>exact absurd eb d1|some u=>exact s.hh b u eb nu
   by_cases q:D b=none
   ·exact q
   exact((s.fn b d2 q).elim nu d1).elim
 rw[g i h];exact W.sl i a f;rcases get i _ f with⟨h,t',X,a2,_⟩| ⟨h,X⟩
 ·rw[l i h]at hb
  rcases get k a Y with⟨w,t2,Z,b2,_⟩| ⟨w,Z⟩
  rw[l k w]at hk;exact I.dj i k t' _ n X Z b hb hk;rw[g k w]at hk;exact Q i h k a w Z b hb hk
 rw[g i h]at hb;rcases get k a Y with⟨w,t2,Z,b2,_⟩| ⟨w,Z⟩
 rw[l k w]at hk;exact Q k w i _ h X b hk hb;rw[g k w]at hk;exact W.dj i k t a n X Z b hb hk;rcases get i _ h1 with⟨h,t',X,a2,_⟩| ⟨h,X⟩
 ·rw[l i h]at h2
  exact .inl ⟨i,t',X,h2⟩
 rw[g i h]at h2;exact(s.uu b ⟨i,t,X,h2⟩).imp (jF y) id;rcases get j _ e with⟨_,_,_,_,z⟩| ⟨hj,f⟩
 ·cases z
 obtain⟨m,p,g3⟩:=s.bo j t (by simp) f o;rcases eK y m with⟨q,_⟩| ⟨_,m⟩
 exact absurd q hj;exact⟨m,(g j hj).trans p,g3⟩
end
theorem LP{i:Nat}(h:(!C.contains i)=true):i∉C:=λz=>by have:C.contains i=true:=Qp.mpr z;rw[this]at h;cases h
theorem X4{x:LN}(h:(x.all λi=>!C.contains i)=true):∀i∈x,i∉C:=λi y=>LP (Qv.mp h i y)
theorem HX:∀{xs:List (T×Bool)},RQ xs=true->∀t∈XN xs,t.isD=true
 |[],_,t,h=>by simp[XN]at h|p::r,h,t,y=>by
  simp only[RQ,Qa]at h;simp only[XN,QL]at y;rcases y with rfl|y;obtain⟨x,n⟩:=p;cases n with
  |true=>rfl|false =>
   have z:=h.1;cases x with|d x=>rfl|_=>cases z
  exact HX h.2 t y
theorem Tn.bare{Y:xB}{vs:LV}{ts:LT}(h:Tn K F H Y vs ts):(∀t∈ts,t.isD=true)->Tn K F H (λ_=>False) vs ts:=by
 induction h with
 |nil=>exact λ_=>.nil|@cons v t vs ts Z r z a w =>
  intro y;refine .cons (Z:=λ_=>False) ?_ (λ_ z=>z) (w λu k=>y u (QD _ k));have y:=y t QE;cases t with
  |d x=>cases r with|d q _=>exact .d q λ_ z=>z
  |_=>cases y
theorem K2{v:V}{t:T}{W:xB}{Z:PEnds}{h:Ends}(ok:EndsOk K C F H S ρ σ Z h)(s:Ste F H S ρ D B S1 A)(I:Rl K D B S1 A σ)(r:Tr K D B true v t W)(x:Held D B S1 A W)(fr:∀b,W b->H b=none∨U ρ S b)(q:Z.rt t A):h.rt v B :=
 ok.rt v t W D B S1 A σ (s.toStp.sts (J:=[])).c I r x fr q
theorem t8(g:GOk K Γ Ψ):∀(e:PX) {F H:Hp}{S:Ft}{ρ:kA}{σ:St}{Z:PEnds}{k:Ends},Rl K F H S ρ σ->FE K F H S ρ E N->bI Ψ E Z.rt e ρ->EndsOk K C F H S ρ σ Z k->(wp K Γ e N).e σ H k.rt:=by
  intro e F H S ρ σ Z k I X h ok;have f:∀e,(pe Ψ e E).e ρ (λx n A=>HH x n=true/\Z.rt x A)->(wp K Γ e N).e σ H k.rt:=λe h=>by refine(AA g e).e (Q:=λx n A=>HH x n=true/\Z.rt x A) I X h λv F' H' S' l x n Za s J r ⟨Y,q⟩=>?_;obtain⟨W,m,o,fr⟩:=r.strict Y;exact K2 ok s J m o fr q
  cases e with
  |xz i =>
   have y:jr ρ i Z.rt ρ[i]?:=h;show(match σ[i]? with|some (some v)=>k.rt v _|_=>False)
   match a:ρ[i]?,y with
   |some (some (.own t)),y =>
    obtain⟨v,w,r⟩:=I.sl i _ a;rw[w];have I0:Rl K F H S (ρ.set i none) σ:=I.drop (by simp) λj s e=>by
     rcases dA e with⟨_,z,_⟩| ⟨_,e⟩
     cases z;exact e
    refine ok.rt v t (S i) F H S (ρ.set i none) σ ⟨.refl _,λb u e _=>e,λb e=>e,λb e z=>absurd e z,λb ⟨j,u,w,L⟩=>.inl ?_,λ_ _=>rfl⟩ I0 r ⟨r.dom,λj s e b hb z=>?_⟩ (λb hb=>.inr ⟨i,t,a,hb⟩) y;rcases dA w with⟨_,z,_⟩| ⟨_,w⟩
    ·cases z
    exact⟨j,u,w,L⟩;rcases dA e with⟨_,q,_⟩| ⟨n,e⟩
    ·cases q
    exact I.dj i j t s n a e b hb z
   |some (some (.ky t)),y =>
    obtain⟨v,w,r⟩:=I.sl i _ a;rw[w];obtain⟨p,y⟩:=y;cases t with
    |d x =>
     have r:Tr K F H false v (.d x) (S i):=r;cases r with|d q n=>exact K2 (W:=λ_=>False) ok .refl I (.d q λ_ z=>z) .none (λ_ z=>z.elim) y
    |_=>cases p
   |some none,y=>exact y.elim|none,y=>exact y.elim
  |_=>exact f _ h
theorem mI(g:GOk K Γ Ψ):∀(p:PT) {F H:Hp}{S:Ft}{ρ:kA}{σ:St}{Z:PEnds}{Dn:Ends},GJ C p=true->Rl K F H S ρ σ->FE K F H S ρ E N->bB Ψ E p Z ρ->EndsOk K C F H S ρ σ Z Dn->yR K Γ N p Dn σ H
 | .nil,_,_,_,_,_,_,_,c,I,X,h,ok=>ok.nx _ _ _ _ _ .refl I h|.seq s r,_,_,_,_,_,_,_,c,I,X,h,ok=>by obtain⟨c1,c2⟩:=yA c;exact mI g s c1 I X h ⟨λF' H' S' L σ' s' J q=>mI g r c2 J (X.fromS s') q (ok.from s'),ok.rt,ok.bk,ok.ct⟩|.set i e,F,H,S,ρ,σ,Z,Dn,c,I,X,h,ok=>by have hi:=LP c;refine JF (RR:=λx B=>Dn.nx (σ.set i (some x)) B) (AA g e) I X h λv F' H' S' L x n Za s J X' r er _ ⟨he,q⟩=>?_;exact ok.nx _ _ _ _ _ (s.toStp.sts.setD i hi v rfl _) (J.setD i (er he)) q|.expr e,F,H,S,ρ,σ,Z,Dn,c,I,X,h,ok=>(AA g e).e I X h λv F' H' S' L x n Za s J r q=>ok.nx _ _ _ _ _ s.toStp.sts J q|.ret e,F,H,S,ρ,σ,Z,Dn,c,I,X,h,ok=>t8 g e I X h ok|.ife t a b,F,H,S,ρ,σ,Z,Dn,c,I,X,h,ok=>by
  obtain⟨c1,c2⟩:=yA c;refine(AA g t).t I X h λk F' H' S' L s J q=>?_;cases k with|true=>exact mI g a c1 J (X.from s.toStp) q (ok.from s.toStp.sts)|false=>exact mI g b c2 J (X.from s.toStp) q (ok.from s.toStp.sts)
 | .for_ tg ik its body,F,H,S,ρ,σ,Z,Dn,c,I,X,h,ok=>by
  obtain⟨c1,c2⟩:=yA c;have hC:=X4 c1;refine MV (RR:=λvs B=>JC K ik vs B λxs st M=>Nj K xs st tg (yR K Γ N body) Dn σ M) (AA g its) I X h λvs D B S1 A xs Y s1 I1 X1 tn tm q=>?_;rw[eL _ rfl]at q;have ok1:=ok.from s1.toStp.sts;cases ha:RQ xs with
  |true=>have tn':=tn.bare (HX ha);refine MJ I1.fh tn' q λits ys st pr hst hc=>?_;rw[ha,if_pos rfl]at hc;refine rX (λI X h ok=>mI g body c2 I X h ok) I1 X1 hC pr (λb z=>z.elim) hst hc ?_ ?_;exact λF' H' S' L σ' s' I' q=>ok1.nx _ _ _ _ _ s'.kill (I'.drop (ZM _ _) λi sl e=>(zG _ _ i sl e).1) q;exact λv t W F' H' S' L σ' s' I' r hw fr q=>ok1.rt v t W F' H' S' L σ' s' I' r hw fr q|false =>
   refine MJ I1.fh tn q λits' ys st pr hst hc=>?_;rw[ha,if_neg (by simp)]at hc;have hL:=VH (ρ:=A) (jH its);have IL:=I1.lock hL;have sL:Sts C [] D B S1 A σ D B (λ_ _=>False) [] σ:=⟨.refl _,λb u e _=>e,λb e=>e,λb e z=>absurd e z,λb ⟨i,t,e,_⟩=>by simp at e,λj t _ e=>by simp at e,λ_ _=>rfl⟩
   have XL:FE K D B S1 (lock (gC A (jH its)) A) E N:=λx dx F2 M O P s2 f r q =>
    X1 x dx F2 M (λ_ _=>False) [] ⟨s2.ff,λb u e n=>s2.hh b u e λz=>n (jF hL z),s2.dm,λb e z=>(s2.fn b e z).imp (jF hL) id,λb ⟨i,t,e,_⟩=>by simp at e,λj t e=>by simp at e⟩ f r q
   refine rX (λI X h ok=>mI g body c2 I X h ok) IL XL hC pr (λb hb=>?_) hst hc ?_ ?_;obtain⟨i,sl,h1,h2,h3⟩:=tm b hb;refine⟨λu=>?_,I1.dom h2 h3⟩;cases sl with
   |own t=>exact I1.lockU hL (mM h2 _ h1) h3 u|ky t =>
    obtain⟨j,t',e1,e2⟩:=u;rcases eK hL e1 with⟨_,_,_,z⟩| ⟨_,e1⟩
    cases z;exact I1.dj j i t' _ (λz=>by subst z;rw[h2]at e1;cases e1) e1 h2 b e2 h3
   intro F' H' S' L σ' s' I' ⟨q1,q2⟩;have sk:=s'.kill;have Ik:=I'.drop (ZM tg.ix L) λi sl e=>(zG _ _ i sl e).1;obtain⟨O,I2,s2⟩:=jY hL I1 sk Ik λi hi=>(q1 i hi).2;exact ok1.nx _ _ _ _ _ s2 I2 q2;intro v t W F' H' S' L σ' s' I' r hw fr q;exact ok1.rt v t W F' H' S' L σ' ⟨s'.ff,λb u e n=>s'.hh b u e λz=>n (jF hL z),s'.dm,λb e z=>(s'.fn b e z).imp (jF hL) id,λb u=>(s'.uu b u).imp (jF hL) id,s'.sg⟩ I' r hw (λb hb=>(fr b hb).imp id (jF hL)) q
 | .own i e,F,H,S,ρ,σ,Z,Dn,c,I,X,h,ok=>by refine(AA g e).e (Q:=λx n A=>HH x n=true/\Z.nx (A.set i (some (.own x)))) I X h λv F' H' S' L x n Za s J r ⟨he,q⟩=>?_;obtain⟨W,r2,hw,fr⟩:=r.strict he;exact ok.nx _ _ _ _ _ (s.toStp.sts.setN i (LP c) v x fr) (J.setN i r2 λj sl _ e b hb=>hw.nw j sl e b hb) q|.six o i e,F,H,S,ρ,σ,Z,Dn,c,I,X,h,ok=>by
  have later:∀{j:Nat}{t:T}{v0:V},ρ[j]?=some (some (.own t))->Tr K F H true v0 t (S j)->∀{F' H':Hp}{S':Ft}{L:kA},Ste F H S (ρ.set j (some (.ky t))) F' H' S' L->Tr K F' H' true v0 t (S j)/\∀b,S j b->H' b=H b:=λ{j t v0} hj r0 {F' H' S' L} s=>⟨s.toStp.keep r0 (I.lock1U hj),λb hb=>by
   cases e:H b with|none=>exact absurd e (r0.dom b hb).1|some u=>exact s.hh b u e (I.lock1U hj b hb)⟩
  cases o with
  |xz j =>
   have h:zD ρ[j]? _:=h;unfold zD at h;split at h;rename_i t hj;obtain⟨v0,hv,r0⟩:=I.sl j _ hj;have r0:Tr K F H true v0 t (S j):=r0;show(wp K Γ e N).e σ H λv B=>(wp K Γ (.xz j) N).e σ B λov M=>(wp K Γ i N).e σ M λiv H3=>tR K ov iv v H3 λH4=>Dn.nx σ H4;refine JF (AA g e) (I.lock1 hj) (X.lock1 hj) h λxv D B S1 A x n Zx s1 I1 X1 _ er1 _ ⟨he,q1⟩=>?_;have rx:=er1 he;show(match σ[j]? with|some (some v)=>_|_=>False);rw[hv];refine JF (AA g i) I1 X1 q1 λiv F2 M O P y m Zy s2 I2 X2 _ er2 _ ⟨he2,hj2,q2⟩=>?_;have s12:=s1.trans s2;refine R0 I2.fh (later hj r0 s12).1 (er2 he2) (rx.mono s2.ff) q2 λt' H3 S3 hh dm rt sub q=>?_;obtain⟨st,I3,_⟩:=fI (W:=λ_=>False) I hj hv s12 I2 hh dm rt (λb hb=>.inl (sub b hb)) .none (λ_ z=>z.elim);exact ok.nx _ _ _ _ _ st.toStp.sts I3 q
   all_goals exact h.elim
  |idx a k =>
   cases a with
   |xz j =>
    have h:zD ρ[j]? _:=h;unfold zD at h;split at h;rename_i t hj;obtain⟨v0,hv,r0⟩:=I.sl j _ hj;have r0:Tr K F H true v0 t (S j):=r0;show(wp K Γ e N).e σ H λv B=>(wp K Γ (.xz j) N).e σ B λov M=>(wp K Γ k N).e σ M λzv H3=>sY K ov zv H3 λow H4=>(wp K Γ i N).e σ H4 λiv H5=>tR K ow iv v H5 λH6=>Dn.nx σ H6;refine JF (AA g e) (I.lock1 hj) (X.lock1 hj) h λxv D B S1 A x n Zx s1 I1 X1 _ er1 _ ⟨he,q1⟩=>?_;have rx:=er1 he;show(match σ[j]? with|some (some v)=>_|_=>False);rw[hv];refine JF (AA g k) I1 X1 q1 λzv F2 M O P z l Zz s2 I2 X2 _ er2 _ ⟨hez,b,ks,ts,n,s,et,hk,hf,ht,q2⟩=>?_;have s12:=s1.trans s2;have rz:=er2 hez;subst et;obtain⟨r2,k2⟩:=later hj r0 s12;obtain⟨a,o,vs,ea,ho,dk,hw⟩:∃a o vs,v0=.ref a/\M a=some o/\oJ K F2 b o ks vs/\∃w,vs[n]?=some w/\S j a:=by
     cases r2 with|dct h1 dk h2 h3 h4 h5=>obtain⟨w,_,g1,_⟩:=h3.get ht;exact⟨_,_,_,rfl,h1,dk,w,g1,(h5 _).mpr (.inl rfl)⟩
    obtain⟨w,hw,sa⟩:=hw;subst ea;have gd:=(dk.mono I2.fh).get ho (rz.mono I2.fh) hk;rw[hf]at gd;have gd:AQ K M a zv (vs[n]?):=gd;rw[hw]at gd;have fin:(wp K Γ i N).e σ M λiv H5=>tR K w iv xv H5 λH6=>Dn.nx σ H6:=by
     refine JF (AA g i) I2 X2 q2 λiv F3 H3 S3 ρ3 y m Zy s3 I3 X3 _ er3 _ ⟨he3,hj3,q3⟩=>?_;have s13:=s12.trans s3;obtain⟨r3,k3⟩:=later hj r0 s13;have ho3:H3 a=some o:=by rw[k3 a sa,<- k2 a sa];exact ho
     refine E7 I3.fh r3 ho3 dk hw ht (er3 he3) ((rx.mono s2.ff).mono s3.ff) q3 λt' H4 S4 hh dm rt sub q=>?_;obtain⟨st,I4,_⟩:=fI (W:=λ_=>False) I hj hv s13 I3 hh dm rt (λb hb=>.inl (sub b hb)) .none (λ_ z=>z.elim);exact ok.nx _ _ _ _ _ st.toStp.sts I4 q
    cases zv with|str z=>exact⟨w,gd,fin⟩|ref c=>exact⟨w,gd,fin⟩|_=>exact gd.elim
    all_goals exact h.elim
   |_=>exact h.elim
  |_=>exact h.elim
 | .sdf j k,F,H,S,ρ,σ,Z,Dn,c,I,X,h,ok=>by
  have h:zD ρ[j]? _:=h;unfold zD at h;split at h;rename_i t hj;obtain⟨v0,hv,r0⟩:=I.sl j _ hj;have r0:Tr K F H true v0 t (S j):=r0;obtain⟨hd,h⟩:=h;show(match σ[j]? with|some (some v)=>HZ K "dict" v H/\(wp K Γ k N).e σ H λx B=>∀p,B p=none->kL K v [x,.ref p] (BA B p (.dT 0 [])) λ_ M=>Dn.nx σ M|_=>False);rw[hv];constructor;cases r0 with
  |@dct _ b _ _ _ _ _ _ _ h1 dk _ _ _ _ =>
   cases b with|true=>obtain⟨ep,kvs,rfl,_⟩:=dk;exact .inr (.inr (.inl ⟨rfl,.inr ⟨ep,kvs,h1⟩⟩))|false=>cases hd
  |_=>cases hd
  refine JF (AA g k) (I.lock1 hj) (X.lock1 hj) h λiv D B S1 A y m Zy s1 I1 X1 _ er _ ⟨he,hj1,q1⟩=>?_;intro p hp;have r1:=s1.toStp.keep r0 (I.lock1U hj);refine Jg I1.fh hp r1 (er he) q1 λt' H3 S3 hh dm rt sub q=>?_;obtain⟨st,I3,_⟩:=fI (W:=λ_=>False) I hj hv s1 I1 hh dm rt (λb hb=>(sub b hb).imp id λ(z:b=p)=>.inr (by rw[z];exact hp)) .none (λ_ z=>z.elim);exact ok.nx _ _ _ _ _ st.toStp.sts I3 q
  all_goals exact h.elim
 | .whl t body,F,H,S,ρ,σ,Z,Dn,c,I,X,h,ok=>by
  obtain⟨W,⟨m0,w0⟩,turn⟩:=h;refine⟨λm σ' H'=>∃L F' S',Sts C [] F H S ρ σ F' H' S' L σ'/\Rl K F' H' S' L σ'/\W m L,⟨m0,ρ,F,S,.refl,I,w0⟩,?_⟩;rintro m G B ⟨A,D,S1,s1,I1,w1⟩;refine(AA g t).t I1 (X.fromS s1) (turn m A w1) λk F' H' S' L s' J q=>?_;have s2:=s1.trans s'.toStp.sts;cases k with
  |false=>exact ok.nx _ _ _ _ _ s2 J q|true =>
   refine⟨λσ' H'=>∃m',m' < m/\∃L F' S',Sts C [] F H S ρ σ F' H' S' L σ'/\Rl K F' H' S' L σ'/\W m' L,λ_ _ z=>z,?_⟩;refine mI g body c J (X.fromS s2) q ⟨?_,?_,?_,?_⟩;exact λF' H' S' L σ' s' I' ⟨m',hm,w⟩=>⟨m',hm,L,F',S',s2.trans s',I',w⟩
   exact λv t W F' H' S' L σ' s' I' r hw fr q=>ok.rt v t W F' H' S' L σ' (s2.c.trans s') I' r hw (Bs s2 fr) q;exact λF' H' S' L σ' s' I' q=>ok.nx _ _ _ _ _ (s2.trans s') I' q;exact λF' H' S' L σ' s' I' ⟨m',hm,w⟩=>⟨m',hm,L,F',S',s2.trans s',I',w⟩
 | .frz is s,F,H,S,ρ,σ,Z,Dn,c,I,X,h,ok=>by obtain⟨F',S',I',s'⟩:=I.frzAt (C:=C) is;exact mI g s c I' (X.fromS s') h (ok.from s')
end
section
variable{z:Ev}{n:Need}
noncomputable def iq(x:Str)(n:String):Bool:=(x==("bool":Str)&&n == "bool")||(x==("int":Str)&&n == "int")||(x==("str":Str)&&n == "str")||(x==("list":Str)&&n == "list")||(x==("tuple":Str)&&n == "tuple")||(x==("ValueError":Str)&&n == "ValueError")
theorem Tf{x:Str}{n:String}(h:iq x n=true):bootBuiltins x=some (.type n):=by simp only[iq,wZ,Qa,beq_iff_eq]at h;rcases h with((((⟨rfl,rfl⟩| ⟨rfl,rfl⟩)|⟨rfl,rfl⟩)|⟨rfl,rfl⟩)|⟨rfl,rfl⟩)|⟨rfl,rfl⟩<;>kernel_rfl
structure Need where
 fn:LS
 va:LS
 no:LS
def Cr(n:Need):ItK->Bool
 | .val=>true|.rng1=>n.no.contains ("range":Str)|.enum=>n.no.contains ("enumerate":Str)|.itm=>true
noncomputable def uB(n:Need):PX->Bool
 | .glo x=>n.va.contains x|.bty x t=>n.no.contains x&&iq x t|.dof a=>n.no.contains "dict" && uB n a|.bin _ a b | .cmp _ a b | .and a b | .or a b | .idx a b | .ny a b | .dsp a b=>uB n a&&uB n b
 | .not a | .lst a | .tup a=>uB n a
 | .slc a b c=>uB n a&&(uB n b&&uB n c)|.call f y=>n.fn.contains f&&uB n y|.bi f y=>n.no.contains f.nm&&uB n y|.isi a c=>n.no.contains ("isinstance":Str)&&(uB n a&&uB n c)|.mt _ o y=>uB n o&&uB n y|.comp _ _ _ w u h v=>Cr n w&&(uB n u&&(uB n h&&uB n v))|_=>true
noncomputable def EE(n:Need):PT->Bool
 | .seq s r=>EE n s&&EE n r|.set _ e=>uB n e|.own _ e=>uB n e|.expr e=>uB n e|.ret e=>uB n e|.ife c a b=>uB n c&&(EE n a&&EE n b)|.for_ _ y x h=>Cr n y&&(uB n x&&EE n h)|.six o i e=>uB n o&&(uB n i&&uB n e)|.sdf i k=>uB n (El i k)|.whl c b=>uB n c&&EE n b|.frz _ s=>EE n s|.nil=>true
def eQ(z:Ev)(n:Need):Glob:=⟨z,λf=>f∈n.fn,λx=>x∈n.va,λx=>x∈n.no⟩
theorem L5{x:ItK}(h:Cr n x=true):Hn (eQ z n) x:=by
 cases x with|val=>trivial|itm=>trivial|_=>exact Qp.mp h
theorem HC:∀(p:PX),uB n p=true->IA (eQ z n) p:=by
 intro p;induction p with
 |glo x=>intro h;exact Qp.mp h|bty x t=>intro h;obtain⟨v,u⟩:=yA h;exact⟨Qp.mp v,Tf u⟩|dof a y=>intro h;obtain⟨v,u⟩:=yA h;exact⟨Qp.mp v,y u⟩|bin _ a b y w|cmp _ a b y w|and a b y w|or a b y w|idx a b y w|ny a b y w|dsp a b y w=>intro h;obtain⟨v,u⟩:=yA h;exact⟨y v,w u⟩
 |not a y|lst a y|tup a y=>intro h;exact y h
 |slc a b c y w g=>intro h;obtain⟨v,k⟩:=yA h;obtain⟨u,e⟩:=yA k;exact⟨y v,w u,g e⟩|call f j y=>intro h;obtain⟨v,u⟩:=yA h;exact⟨Qp.mp v,y u⟩|bi f j y=>intro h;obtain⟨v,u⟩:=yA h;exact⟨Qp.mp v,y u⟩|isi a c y g=>intro h;obtain⟨v,k⟩:=yA h;obtain⟨u,e⟩:=yA k;exact⟨Qp.mp v,y u,g e⟩|mt _ o j m y=>intro h;obtain⟨v,u⟩:=yA h;exact⟨m v,y u⟩|comp _ _ _ Z l i Y s r q=>intro h;obtain⟨v,h⟩:=yA h;obtain⟨u,h⟩:=yA h;obtain⟨e,X⟩:=yA h;exact⟨L5 v,s u,r e,q X⟩|_=>intro _;trivial
theorem CY:∀(p:PT),EE n p=true->AE (eQ z n) p:=by
 intro p;induction p with
 |seq s r f l=>intro h;obtain⟨u,y⟩:=yA h;exact⟨f u,l y⟩|set _ e|own _ e|expr e|ret e=>intro h;exact HC _ h
 |six o i e=>intro h;obtain⟨u,x⟩:=yA h;obtain⟨y,w⟩:=yA x;exact⟨HC _ u,HC _ y,HC _ w⟩|sdf i k=>intro h;exact HC _ h|frz _ s f=>intro h;exact f h|whl c b v=>intro h;obtain⟨u,y⟩:=yA h;exact⟨HC _ u,v y⟩|ife c a b m v=>intro h;obtain⟨u,x⟩:=yA h;obtain⟨y,w⟩:=yA x;exact⟨HC _ u,m y,v w⟩|for_ _ q j g v=>intro h;obtain⟨u,x⟩:=yA h;obtain⟨y,w⟩:=yA x;exact⟨L5 u,HC _ y,v w⟩|_=>intro _;trivial
def DM(N h:LS)(sc:Scope):Bool:=sc.kind==.function&&!sc.isCoroutine&&!sc.isGenerator&&FJ N&&N.take h.length==h &&
 h.all (λx=>sc.names.lookup x==some .local||sc.names.lookup x==some .cell)&&sc.names.all λy=>y.2 != .free
theorem XS{N x:LS}{sc:Scope}(h:DM N x sc=true):FnScope N x sc:=by simp only[DM,Qa,Qv,wZ,beq_iff_eq,Q6,bne_iff_ne,ne_eq]at h;obtain⟨⟨⟨⟨⟨⟨b,a⟩,k⟩,w⟩,v⟩,u⟩,y⟩:=h;exact⟨b,a,k,sE w,v,u,y⟩
def aB(n:Need)(b:PT)(N h:LS)(st:Stmt):Bool:=DM N h (LA st)&&UQ b ⟨N,LA st⟩ (oC st)&&EE n b
def xh:Md->T->Sl
 | .chg,t=>.own t|_,t=>.ky t
def jE:List Md->LT->kA
 |_,[]=>[]|md,t::ts=>some (xh (md.headD .xx) t)::jE md.tail ts
def fB(N:LS)(md:List Md)(ts:LT):kA:=jE md ts++QAT (N.length - ts.length) none
def YB:Nat->List Md->Nat->LN
 |_,_,0=>[]|k,md,n+1=>match md.headD .xx with
  | .chg=>k::YB (k+1) md.tail n|_=>YB (k+1) md.tail n
def aU:Option (LT)->(LT->Prop)->Prop
 |some os,Q=>Q os|none,_=>False
def YD(P:PSp)(n:Nat)(Q:T->LT->Prop):PEnds where
 nx:=λh=>aU (CA (YB 0 P.md n) h) (Q (.d .none))
 rt:=λt h=>aU (CA (YB 0 P.md n) h) (Q t)
abbrev EG(Ψ:PEv)(b:PT)(p:PSp)(N h:LS)(ds:LT)(Q:T->LT->Prop):Prop:=ds.length=h.length/\pF Ψ b (YD p h.length Q) (fB N p.md ds)
def kU(mg:Str->Option Value)(x:Str):V:=((mg x).bind kN).getD .non
def yo(K:QC)(mg:Str->Option Value)(Ψ:PEv):Ev:=⟨λf=>lift K (Ψ.sp f),kU mg⟩
structure ValsOk(P:Program)(w:World)(K:QC)(mg:Str->Option Value)(Ψ:PEv)(va:LS):Prop where
 rep:∀x d,Ψ.va x=some d->∀F,Rep K F (kU mg x) d
 has:∀x∈va,∃u v,mg x=some u/\kN u=some v
theorem tW{u:Value}{v:V}(h:kN u=some v):rA v u:=by cases u<;>first | (obtain rfl:=Qn h;first|rfl|exact⟨_,rfl⟩)|exact nomatch (show(none:Option V)=some v from h)
end
section
variable{P:Program}{w:World}{K:QC}{mg:Str->Option Value}{base:Heap}{Ψ:PEv}
section
variable{k:Nat}{F H:Hp}{Y M:xB}{md:List Md}{vs:LV}{ts:LT}{N l:LS}{R:PSp}{x o:Str}{st:Stmt}{f:Addr}{p:FuncData}{n:Need}
def KG(P:Program)(w:World)(K:QC)(mg:Str->Option Value)(base:Heap)(Ψ:PEv)(k:Nat)(f:Str):Prop :=
 ∃(a:Addr) (p:FuncData) (l:LS),FnOk P w K mg base RZ k a p l (lift K (Ψ.sp f))/\mg f=some (.ref a)/\wL K (.ref a)=true/\mJ K p l []
theorem KG.mono{j:Nat}{f:Str}(h:KG P w K mg base Ψ j f)(hk:j<=k):KG P w K mg base Ψ k f:=by obtain⟨a,p,l,z,y⟩:=h;exact⟨a,p,l,z.mono hk,y⟩
theorem ArgsR.length(h:ArgsR K F H Y md vs ts):vs.length=ts.length:=by
 induction h with|nil=>rfl|chg _ _ e=>exact congrArg Nat.succ e|rd _ _ _ _ e=>exact congrArg Nat.succ e
theorem pI:∀(m:List Md) (ts:LT),(jE m ts).length=ts.length
 |_,[]=>rfl|m,d::ds=>by unfold jE;rw[QM,QM,pI]
theorem M3{m:Md}(h:m≠.chg)(t:T):xh m t=.ky t:=by cases m<;>first|rfl|exact absurd rfl h
theorem BH(md:List Md)(v:V)(vs:LV):mB md (v::vs)=match md.headD .xx with | .chg=>v::mB md.tail vs|_=>mB md.tail vs:=by first | (rw[mB];done) | (rw[mB];cases md.headD .xx<;>rfl)
theorem eM(md:List Md)(v:T)(vs:LT):DB md (v::vs)=match md.headD .xx with | .chg=>v::DB md.tail vs|_=>DB md.tail vs:=by first | (rw[DB];done) | (rw[DB];cases md.headD .xx<;>rfl)
theorem mO(md:List Md)(t:T)(ts:LT):jE md (t::ts)=some (xh (md.headD .xx) t)::jE md.tail ts:=by rw[jE]
theorem Ub(h:ArgsR K F H Y md vs ts)(r:Trs K F H true (mB md vs) (DB md ts) M) :
  ∃Z:Ft,(∀(i:Nat) s,(jE md ts)[i]?=some (some s)->∃v,vs[i]?=some v/\Tr K F H s.st v s.t (Z i))/\(∀(i:Nat) t,(jE md ts)[i]?=some (some (.own t))->∀b,Z i b->M b)/\(∀(i:Nat) t,(jE md ts)[i]?=some (some (.ky t))->∀b,Z i b->Y b) /\
   ∀(i j:Nat) t u,i≠j->(jE md ts)[i]?=some (some (.own t))->(jE md ts)[j]?=some (some (.own u))->∀b,Z i b->¬ Z j b:=by
 induction h generalizing M with
 |nil=>exact⟨λ_ _=>False,λi s e=>by simp[jE]at e,λi t e=>by simp[jE]at e,λi t e=>by simp[jE]at e,λi j t u _ e=>by simp[jE]at e⟩|@chg md v vs t ts a O A =>
  have J:mB md (v::vs)=v::mB md.tail vs:=by rw[BH,a]
  have I:DB md (t::ts)=t::DB md.tail ts:=by rw[eM,a]
  rw[J,I]at r;cases r with
  |@cons _ _ _ _ _ _ L Z2 W Q n q =>
   obtain⟨Z,E,g,C,B⟩:=A Q;have G:jE md (t::ts)=some (.own t)::jE md.tail ts:=by rw[mO,a];rfl
   rw[G];refine⟨λi=>match i with|0=>L|i+1=>Z i,λi s e=>?_,λi u e b hb=>?_,λi u e b hb=>?_,λi j u w X e m b hb y=>?_⟩;cases i with|zero=>simp at e;subst e;exact⟨v,rfl,W⟩|succ i=>exact E i s (by simpa using e)
   cases i with|zero=>exact(q b).mpr (.inl hb)|succ i=>exact(q b).mpr (.inr (g i u (by simpa using e) b hb))
   cases i with|zero=>simp at e|succ i=>exact C i u (by simpa using e) b hb
   cases i with
   |zero =>
    cases j with|zero=>exact X rfl|succ j=>exact n b hb (g j w (by simpa using m) b y)
   |succ i =>
    cases j with|zero=>exact n b y (g i u (by simpa using e) b hb)|succ j=>exact B i j u w (λz=>X (by rw[z])) (by simpa using e) (by simpa using m) b hb y
 |@rd md v vs t ts L a W S O A =>
  have J:mB md (v::vs)=mB md.tail vs:=by rw[BH];cases e:md.headD .xx<;>first|exact absurd e a|rfl
  have I:DB md (t::ts)=DB md.tail ts:=by rw[eM];cases e:md.headD .xx<;>first|exact absurd e a|rfl
  rw[J,I]at r;obtain⟨Z,E,g,C,B⟩:=A r;have G:jE md (t::ts)=some (.ky t)::jE md.tail ts:=by rw[mO,M3 a]
  rw[G];refine⟨λi=>match i with|0=>L|i+1=>Z i,λi s e=>?_,λi u e b hb=>?_,λi u e b hb=>?_,λi j u w X e m b hb y=>?_⟩;cases i with|zero=>simp at e;subst e;exact⟨v,rfl,W⟩|succ i=>exact E i s (by simpa using e)
  cases i with|zero=>simp at e|succ i=>exact g i u (by simpa using e) b hb
  cases i with|zero=>exact S b hb|succ i=>exact C i u (by simpa using e) b hb
  cases i with
  |zero=>simp at e|succ i =>
   cases j with|zero=>simp at m|succ j=>exact B i j u w (λz=>X (by rw[z])) (by simpa using e) (by simpa using m) b hb y
theorem O0(f:Same F H)(h:ArgsR K F H Y md vs ts)(r:Trs K F H true (mB md vs) (DB md ts) M)(dj:∀b,Y b->¬ M b) :
  ∃S,Rl K F H S (fB N md ts) (mD N vs)/\∀b,U (fB N md ts) S b->M b:=by
 obtain⟨Z,A,a,W,X⟩:=Ub h r;have hl:=h.length;have get:∀(i:Nat) s,(fB N md ts)[i]?=some (some s)->(jE md ts)[i]?=some (some s):=λi s e=>by
  unfold fB at e;rcases QA5 i ts.length with z|z
  ·rwa [qS (by rw[pI];exact z)]at e
  rw[qH (by rw[pI];exact z),wf]at e;split at e<;>cases e
 refine⟨Z,⟨f,?_,λi s e=>?_,λi j t s n q m b hb y=>?_⟩,λb ⟨i,t,e,hb⟩=>a i t (get i _ e) b hb⟩;unfold fB mD;rw[QJ,QJ,pI,QF,qm,qm,hl];obtain⟨v,g,B⟩:=A i s (get i s e);refine⟨v,?_,B⟩;unfold mD;rw[qS (by rw[QF];exact(Qf.mp g).1),Qc,g];rfl;cases s with|own u=>exact X i j t u n (get i _ q) (get j _ m) b hb y|ky u=>exact dj b (W j u (get j _ m) b y) (a i t (get i _ q) b hb)
theorem BO:∀{md:List Md}{k n:Nat}{vs:LV}{σ:St},vs.length=n->(∀(i:Nat) v,vs[i]?=some v->σ[k+i]?=some (some v))->(mB md vs).map (λv=>some (some v))=(YB k md n).map λj=>σ[j]?
 |md,k,0,vs,σ,h,g=>by
  cases vs with|nil=>rfl|cons _ _=>cases h
 |md,k,n+1,vs,σ,h,g=>by
  cases vs with
  |nil=>cases h|cons v vs =>
   have y:=BO (md:=md.tail) (k:=k+1) (n:=n) (vs:=vs) (σ:=σ) (by simpa using h) λi w z=>by have:=g (i+1) w (by simpa using z);rw[show k+1+i=k+(i+1) by omega];exact this
   have g0:=g 0 v rfl;rw[BH];unfold YB;cases e:md.headD .xx with|chg=>simp only[QU,y];rw[show σ[k]?=some (some v) from g0]|_=>exact y
theorem RM:∀{md:List Md}{k n j:Nat},j∈YB k md n->k<=j
 |md,k,0,j,h=>by simp[YB]at h|md,k,n+1,j,h=>by
  unfold YB at h;cases e:md.headD .xx with
  |chg=>rw[e]at h;rcases QL.mp h with z|z;omega;have:=RM z;omega
  |_=>rw[e]at h;have:=RM h;omega
theorem IS:∀(md:List Md) (k n:Nat),(YB k md n).Nodup
 |md,k,0=>Q0|md,k,n+1=>by
  have h:=IS md.tail (k+1) n;unfold YB;cases e:md.headD .xx with|chg=>exact Qh.mpr ⟨λz=>by have:=RM z;omega,h⟩|_=>exact h
theorem E5{b:PT}(F:Fun K x o st f p)(zC:aB n b N l st=true)(hc:GJ (YB 0 R.md l.length) b=true)
  (fns:∀g∈n.fn,KG P w K mg base Ψ k g) (G:ValsOk P w K mg Ψ n.va) (nos:∀y∈n.no,mg y=none)
  (body:∀ts Q E,R.run ts Q E->ts.length=l.length/\pF Ψ b (YD R l.length Q) (fB N R.md ts)):FnOk P w K mg base RZ (k+1) f p l (lift K R):=by
 obtain⟨c12,c3⟩:=yA zC;obtain⟨c1,c2⟩:=yA c12;have S:=XS c1;refine F.ok S (λvs H Q E h=>?_) (λcdv A L s H vs Q E hr h=>?_);obtain⟨F',ts,M,Y,h1,h2,h3,h4,h5⟩:=h;rw[h2.length];exact(body ts _ _ h5).1;obtain⟨F',ts,M,Y,h1,h2,h3,h4,h5⟩:=h;have q:=(body ts _ _ h5).2;have hlen:=(body ts _ _ h5).1;have ok:OkS ((tV RZ P w K mg base N o (LA st) f cdv A L s H E).nox) ⟨N,LA st⟩ (eQ (yo K mg Ψ) n) E0:={
  N:=rfl
  sc:=rfl
  calm:=rfl
  un:=by have:=hr.un;show(A.deeper _).units+66<cLine;omega
  fn:=λg hg=>by obtain⟨a,gd,gps,g1,g2,g3,g4⟩:=fns g hg;exact⟨RZ,k,a,gd,gps,g1,hr,g2,g3,g4,Km,λ_ _ _ _ _ z=>z⟩
  val:=λy hy=>by obtain⟨u,v,e1,e2⟩:=G.has y hy;refine⟨u,e1,?_⟩;show rA (kU mg y) u;unfold kU;rw[e1];show rA ((kN u).getD .non) u;rw[e2];exact tW e2
  no:=λy hy=>nos y hy
  po:=PassesOwn.never
  nd:=S.nd
  cel:=λ_=>rfl }
 refine⟨_,(Lq b ok c2 (CY b c3)).1,?_⟩;obtain⟨S0,I,hU⟩:=O0 (N:=N) h1 h2 h3 h4;have g:GOk K (yo K mg Ψ) Ψ:=⟨λ_ _ _ _ _ h=>h,λy d e F=>G.rep y d e F⟩
 have hvl:vs.length=l.length:=h2.length.trans hlen;have fin:∀v t W C B J m X,Stc (YB 0 R.md l.length) F' H S0 (fB N R.md ts) (mD N vs) C B J m X->Rl K C B J m X->Tr K C B true v t W->Held C B J m W->(∀b,W b->H b=none∨U (fB N R.md ts) S0 b) ->
   aU (CA (YB 0 R.md l.length) m) (λos=>∀v F3 H3 Z M',Frm M F' H F3 H3->Tr K F3 H3 true v t Z->Trs K F3 H3 true (mB R.md vs) os M'->(∀b,Z b->¬ M' b)->(∀b,Z b∨M' b->M b∨H b=none)->Q v H3)->Q v B:=by
  intro v t W C B J m X s I2 r hw fr q;cases eo:CA (YB 0 R.md l.length) m with
  |none=>rw[eo]at q;exact q.elim|some os =>
   rw[eo]at q;have hv:(mB R.md vs).map (λv=>some (some v))=(YB 0 R.md l.length).map λj=>X[j]?:=by rw[BO (md:=R.md) (k:=0) (n:=l.length) (vs:=vs) (σ:=mD N vs) hvl λi w hw=>?_];exact wF λj O=>(s.sg j O).symm;unfold mD;rw[Wk,qS (by rw[QF];exact(Qf.mp hw).1),Qc,hw];rfl
   have trs:=I2.trs (IS _ _ _) eo hv;have own:∀j∈YB 0 R.md l.length,∃t,m[j]?=some (some (.own t)):=λj O=>by obtain⟨i,hi⟩:=Wp.mp O;obtain⟨t,_,e⟩:=(OD eo).2 i j hi;exact⟨t,e⟩
   have lk:∀b,U (fB N R.md ts) S0 b∨H b=none->M b∨H b=none:=λb hb=>hb.imp (hU b) id;refine q v C B W _ ⟨s.ff,I2.fh,λb u e n=>s.hh b u e λz=>n (hU b z),s.dm,λb e z=>lk b (s.fn b e z)⟩ r trs (λb hb ⟨j,O,z⟩=>?_) λb hb=>?_;obtain⟨t',e⟩:=own j O;exact hw.nw j _ e b hb z;rcases hb with hb|⟨j,O,z⟩
   ·exact lk b (fr b hb).symm
   obtain⟨t',e⟩:=own j O;exact lk b (s.uu b ⟨j,t',e,z⟩)
 refine mI g b hc I (λ_ _ _ _ _ _ _ _ _ z=>z.elim) q ⟨?_,?_,λ_ _ _ _ _ _ _ z=>z.elim,λ_ _ _ _ _ _ _ z=>z.elim⟩;intro C B J m X s I2 q;exact fin .non (.d .none) (λ_=>False) C B J m X s.c I2 (.d .non λ_ z=>z) .none (λ_ z=>z.elim) q;intro v t W C B J m X s I2 r hw fr q;exact fin v t W C B J m X s I2 r hw fr q
theorem P5{h:PEv}{b:PT}(F:Fun K x o st f p)(a:mg x=some (.ref f))(hb:mJ K p l [])(zC:aB n b N l st=true)(hc:GJ (YB 0 R.md l.length) b=true)
  (v:∀g∈n.fn,KG P w K mg base Ψ k g) (z:ValsOk P w K mg Ψ n.va) (u:∀y∈n.no,mg y=none)
  (body:∀ts Q E,R.run ts Q E->ts.length=l.length/\pF Ψ b (YD R l.length Q) (fB N R.md ts)) (e:h.sp x=R):KG P w K mg base h (k+1) x :=
 ⟨f,p,l,by rw[e];exact E5 F zC hc v z u body,a,F.kp,hb⟩
end
end
def ZP:PSp where
 md:=[.xy]
 run:=λy Q _=>∃x:LI,x.length<=63/\(∀n∈x,QAC n<=1048576)/\y=[.lst ((x.map PyData.int).map T.d)]/\Q (.d (.bool true)) []
 mono:=λh _ ⟨x,v,u,z,q⟩=>⟨x,v,u,z,h _ _ q⟩
def jk:PSp:=⟨[],λ_ _ _=>False,λ_ _ h=>h⟩
theorem bO{K:QC}{F:Hp}:∀(ns:LI),Reps K F (ns.map V.int) (ns.map PyData.int)
 |[]=>.nil|n::r=>.cons (.int n) (bO r)
theorem RL{K:QC}{F:Hp}:∀(ns:LS),Reps K F (ns.map V.str) (ns.map PyData.str)
 |[]=>.nil|n::r=>.cons (.str n) (RL r)
theorem Ih(K:QC)(H:Hp)(a:Addr)(ns:LI)(hl:ns.length<=63)(h:∀n∈ns,QAC n<=1048576)(x:RC K H a (ns.map V.int)):lift K ZP [.ref a] H (λv _=>v=.bl true) λ_ _ _=>False:=by
 refine⟨H,[.lst ((ns.map PyData.int).map T.d)],λ_=>False,λ_=>False,.refl _,.rd (Z:=λ_=>False) (by simp[ZP]) (.lstF x (bO ns) λ_ z=>z) (λ_ z=>z) .nil,.nil λ_ z=>z,λ_ z=>z.elim,ns,hl,h,rfl,λv w u Z y _ r _ _ _=>?_⟩;cases r with|d r _=>cases r;rfl
theorem yU{ns:LI}:∀n∈ns,Wu (.int n)<=wj (ns.map W4.int):=by
 induction ns with|nil=>intro n h;cases h|cons m ns x=>intro n h;show _<=Wu (.int m)+1+wj (ns.map W4.int);rcases QL.mp h with rfl|h;omega;have:=x n h;omega
theorem Vb{ns:LI}(h:W4.layableAll [.list (ns.map .int)]=true):∀n∈ns,QAC n<=1048576:=by
 intro n z;have v:=(PySem.W.layableW_iff.mp (PySem.W.layableW_arg h _ QE)).2.2;have k:wj (ns.map W4.int)<=2 ^ 20:=v;have y:=yU n z;have u:Wu (.int n)=if n==0 then 0 else n.natAbs.log2+1:=rfl
 rw[PySem.intBits_le_iff];by_cases x:n=0;subst x;exact Nat.pow_pos (by decide);have:(n==0)=false:=by simpa using x
 rw[u,this]at y;have w:n.natAbs.log2+1<=1048576:=by have:n.natAbs.log2+1<=wj (ns.map W4.int):=y;omega
 exact(Nat.log2_lt (show n.natAbs≠0 by omega)).mp (by omega)
def TX(K:QC)(x:Str)(st:Stmt):Prop:=∃f h,qk K mainGlobals x=some (some (.ref f))/\Fun K x x st f h
def vN(K:QC)(x:Str)(d:D):Prop:=∃u v,qk K mainGlobals x=some (some u)/\kN u=some v/\∀F,Rep K F v d
theorem Y0{K:QC}{x:Str}{f:Addr}{xs:LS}{v:Option Addr}{its:LW}{n:Nat}{z:Array (Option Value)}(a:qk K mainGlobals x=some (some (.ref f)))
  (l:K.lookup f=some ⟨.type "tuple",v,.seq its.toArray n,z⟩) (h:its.map kN=xs.map λy=>some (.str y)) (k:xs.length<=sizeLine):vN K x (.tuple (xs.map PyData.str)):=by
 refine⟨_,_,a,rfl,λF=>.tup (.inr ⟨_,its.toArray,n,l,rfl,rfl,?_,?_⟩) (RL xs)⟩;have:=congrArg wA h;simp at this;simp;omega;have key:∀(its:LW) (xs:LS),its.map kN=xs.map (λy=>some (.str y))->nA (xs.map V.str) its:=by
  intro its;induction its with
  |nil =>
   intro xs h;cases xs with|nil=>exact .nil|cons _ _=>simp at h
  |cons u its w =>
   intro xs h;cases xs with|nil=>simp at h|cons y xs=>simp only[QU,QAB]at h;exact .cons (tW h.1) (w xs h.2)
 simpa using key its xs h
section
variable{P:Program}{w:World}{K:QC}{mg:Str->Option Value}{base h:Heap}{Ψ:PEv}
section
variable{x:Str}{st:Stmt}{z:LS}{k:Nat}
theorem vN.inMg(X:K.In h)(G:h.Ns mainGlobals mg){d:D}(v:vN K x d):(∀F,Rep K F (kU mg x) d)/\∃u v,mg x=some u/\kN u=some v:=by
 obtain⟨u,v,b,y,a⟩:=v;have e:=WV X G b;refine⟨λF=>?_,u,v,e,y⟩;have:kU mg x=v:=by unfold kU;rw[e];show(kN u).getD .non=v;rw[y];rfl
 rw[this];exact a F
theorem R5{R:PSp}{u:PEv}{N:LS}{b:PT}{n:Need}(X:K.In h)(G:h.Ns mainGlobals mg)(D:TX K x st)(zC:aB n b N z st=true)(hc:GJ (YB 0 R.md z.length) b=true)
  (hb:∀(kV j m:Value) (q:Option Addr) (l ct:Value) (us:LW),us.length=z.length->bindArgs (ql x x (uD st) (oC st) (LA st) .none kV j m q l ct) ⟨us,[]⟩=pure (z.zip us))
  (i:∀g∈n.fn,KG P w K mg base Ψ k g) (v:ValsOk P w K mg Ψ n.va) (e:∀y∈n.no,qk K mainGlobals y=some none)
  (body:∀ts Q E,R.run ts Q E->ts.length=z.length/\pF Ψ b (YD R z.length Q) (fB N R.md ts)) (p:u.sp x=R):KG P w K mg base u (k+1) x:=by
 obtain⟨f,r,a,F⟩:=D;exact P5 F (WV X G a) (F.binds hb) zC hc i v (λy o=>QAN X G (e y o)) body p
theorem ji{j:Addr}(X:K.In h)(G:h.Ns mainGlobals mg)(D:TX K "law" st)(q:z=[x])(g:mg "law"=some (.ref j))(p:Ψ.sp "law"=ZP)
  (hb:∀(kV v i:Value) (l:Option Addr) (b ct:Value) (us:LW),us.length=z.length->bindArgs (ql "law" "law" (uD st) (oC st) (LA st) .none kV v i l b ct) ⟨us,[]⟩=pure (z.zip us))
  (H:∀base:Heap,K.In base->base.Ns mainGlobals mg->∀f y,Fun K "law" "law" st f y->mg "law"=some (.ref f)->FnOk P w K mg base RZ k f y z (lift K (Ψ.sp "law"))) :
  ∃y:FuncData,(∀(s:Shared) (u:Value),BindsTo s y ⟨[u],[]⟩ [(x,u)])/\∀base:Heap,K.In base->base.Ns mainGlobals mg->FnOk P w K mg base RZ k j y [x] (lift K ZP):=by
 obtain⟨f,y,a,F⟩:=D;have e:=g.symm.trans (WV X G a);cases e;subst q;refine⟨y,λs u=>?_,λbase o n=>?_⟩;obtain⟨Z,Y,kV,v,i,l,b,ct,m,rfl,lk,r⟩:=F.ex;exact .of_eq (hb kV v i l b ct [u] rfl);rw[<- p];exact H base o n j y F g
end
end
theorem rB{α:Type}{body:T->(Option T->Prop)->Prop}(g f:α->T):∀(l:List α) (h:LT) (Q:LT->Prop),(∀x∈l,∀R:Option T->Prop,R (some (f x))->body (g x) R)->h.length+l.length<=sizeLine->Q (h++l.map f)->ZD body (l.map g) h Q
 |[],h,Q,_,hl,q=>by simp only[WK,ZD];exact⟨by simpa using hl,by simpa using q⟩|x::r,h,Q,hb,hl,q=>by simp only[QU,ZD];refine hb x QE _ ?_;simp only[QM]at hl;refine⟨by omega,rB g f r _ Q (λy z=>hb y (QD _ z)) (by simp;omega) (by simpa using q)⟩
theorem fA{α:Type}{body:T->(Option T->Prop)->Prop}(g f:α->T)(p:α->Bool):∀(l:List α) (h:LT) (Q:LT->Prop),(∀x∈l,∀R:Option T->Prop,R (if p x=true then some (f x) else none)->body (g x) R)->h.length+l.length<=sizeLine->Q (h++(l.filter p).map f)->ZD body (l.map g) h Q
 |[],h,Q,_,hl,q=>by simp only[WK,ZD];exact⟨by simpa using hl,by simpa using q⟩|x::r,h,Q,hb,hl,q=>by
  simp only[QU,ZD];refine hb x QE _ ?_;simp only[QM]at hl;cases u:p x with|true=>refine⟨by omega,fA g f p r _ Q (λy z=>hb y (QD _ z)) (by simp;omega) ?_⟩;rw[WI,if_pos u]at q;simpa using q|false=>refine fA g f p r _ Q (λy z=>hb y (QD _ z)) (by omega) ?_;rw[WI,if_neg (by rw[u];simp)]at q;exact q
theorem LQ{α:Type}{xs:List α}{i:Int}(y:0<=i)(x:i<xs.length):∃v,fE xs i=some v/\xs[i.toNat]?=some v:=by
 have h:i.toNat<xs.length:=by omega
 have e:((i.toNat:Nat):Int)=i:=by omega
 have q:=tF (Qq h);rw[e]at q;exact⟨xs[i.toNat],q,Qq h⟩
theorem AG{α h:Type}(f:α->h)(xs:List α)(i:Int):fE (xs.map f) i=(fE xs i).map f:=by
 unfold fE;rw[QF];cases ET xs.length i with|none=>rfl|some j=>exact Qc
theorem MA{Ψ:PEv}{E:XE}{α:Type}{body:PT}{u:Tg}{Z:PEnds}(g:α->T)(W:List α->kA->Prop)(k:∀ρ,W [] ρ->Z.nx ρ)
  (v:∀x xs ρ (N:kA->Prop),(∀y,W xs y->N y)->W (x::xs) ρ->DO u (g x) ρ λz=>bB Ψ E body { Z with nx:=N,ct:=N,bk:=Z.nx } z):∀(xs:List α) (ρ:kA),W xs ρ->GH (bB Ψ E body) u Z (xs.map g) ρ
 |[],ρ,w=>k ρ w|x::xs,ρ,w=>v x xs ρ (λh=>GH (bB Ψ E body) u Z (xs.map g) h) (λh a=>MA g W k v xs h a) w
def kc(y:List (Str×PSp))(h:List (Str×D)):PEv:=⟨λf=>(y.lookup f).getD jk,λx=>h.lookup x⟩
theorem yW{P:Program}{w:World}{K:QC}{mg:Str->Option Value}{h:Heap}{v:List (Str×PSp)}{tbl:List (Str×D)}{z:LS}(X:K.In h)(G:h.Ns mainGlobals mg)(u:∀p∈tbl,vN K p.1 p.2)
  (y:(z.all λx=>(tbl.map qP).contains x)=true):ValsOk P w K mg (kc v tbl) z:=by
 refine⟨λx d e F=>((u (x,d) (qM e)).inMg X G).1 F,λx k=>?_⟩;have:=Qv.mp y x k;obtain⟨p,a,e⟩:=QT.mp (Qp.mp this);rw[<- e];exact((u p a).inMg X G).2
theorem uP{α:Type}[BEq α][LawfulBEq α]{l m:List α}(h:(l.all λx=>m.contains x)=true):∀x∈l,x∈m:=λx y=>Qp.mp (Qv.mp h x y)
section
variable{a b c:PX}{i:Nat}{n:Int}{x:Str}{m:Mt}{f:Str}{g:Bi}{u:Operator}{w:CmpOp}{is:List Bool}{h:LS}{z:Tg}{v:ItK}{y:String}
theorem jW:jH (.xz i)=[i]:=rfl
theorem EN:jH (.ny a b)=jH a++jH b:=rfl
theorem kR:jH .nz=[]:=rfl
end
def XF{α:Type}(o:Option α)(K:α->Prop):Prop:=∃a,o=some a/\K a
theorem XF.mk{α:Type}{o:Option α}{a:α}{K:α->Prop}(e:o=some a)(k:K a):XF o K:=⟨a,e,k⟩
theorem EB{α:Type}{a:α}{K:α->Prop}:XF (some a) K=K a:=propext ⟨λ⟨_,e,k⟩=>by cases e;exact k,λk=>⟨a,rfl,k⟩⟩
theorem SF{α h:Type}{o:Option α}{f:α->h}{K:h->Prop}:XF (o.map f) K=XF o λa=>K (f a):=by
 cases o with|none=>exact propext ⟨λ⟨_,e,_⟩=>(by cases e),λ⟨_,e,_⟩=>(by cases e)⟩|some a=>rw[Q1,EB,EB]
def lB(Ψ:PEv)(e:PX)(E:XE)(ρ:kA)(K:TK):Prop:=(pe Ψ e E).e ρ K
def iP(Ψ:PEv)(e:PX)(E:XE)(ρ:kA)(K:Bool->kA->Prop):Prop:=(pe Ψ e E).t ρ K
def dM(Ψ:PEv)(e:PX)(E:XE)(md:List Md)(ρ:kA)(K:List (T×Bool)->kA->Prop):Prop:=(pe Ψ e E).a md ρ K
def eB(p:PSp)(ts:LT)(K:T->LT->Prop)(E:XE):Prop:=p.run ts K E
def A0(x:T)(n:Bool)(Ψ:PEv)(b:PX)(E:XE)(ρ:kA)(K:TK):Prop:=sq (oA x n) ρ (cu (pe Ψ b E).e) λy h=>K y.1 y.2 h
def J7(x:T)(n:Bool)(Ψ:PEv)(b:PX)(E:XE)(md:List Md)(ρ:kA)(K:List (T×Bool)->kA->Prop):Prop:=sq (if n=true then .d .none else x) ρ ((pe Ψ b E).a md) K
def DH(i:Nat)(σ ρ:kA)(K:TK):Prop:=Op σ[i]? λt=>K t false ρ
def e8(i:Nat)(σ:kA)(ρ:kA)(j:Nat)(R:T->kA->Prop):Prop:=jr ρ j R σ[i]?
def LL(Ψ:PEv)(E:XE)(r:PT)(Z:PEnds)(i:Nat)(x:T)(n:Bool)(ρ:kA):Prop:=HH x n=true/\bB Ψ E r Z (ρ.set i (bD x.er))
def Xm(Ψ:PEv)(E:XE)(r:PT)(Z:PEnds)(i:Nat)(x:T)(n:Bool)(ρ:kA):Prop:=HH x n=true/\bB Ψ E r Z (ρ.set i (some (.own x)))
def ZC(x:T)(n:Bool)(P:Prop):Prop:=HH x n=true/\P
def hG(h:Operator)(x:T)(n:Bool)(y:T)(m:Bool)(Q:T->Bool->Prop):Prop:=binT h (oA x n).vw (oA y m).vw Q
def MB(h:CmpOp)(x y:T)(Q:Bool->Prop):Prop:=yb h x.er y Q
def dU(x:T)(Q:Bool->Prop):Prop:=jI x.er Q
def Ju(x:T)(Q:Bool->Prop):Prop:=Vj x.er Q
def NO(f:Bi)(xs:List (T×Bool))(Q:T->Bool->Prop):Prop:=FX f (fC xs) Q
def DA(x:T)(n:Bool)(y:T)(m:Bool)(Q:T->Prop):Prop:=VN (oA x n).vw (oA y m).vw Q∨MS (oA x n).vw y.er Q
def Rk(Ψ:PEv)(E:XE)(c:PX)(q:PT)(Z:PEnds)(ρ:kA):Prop:=bB Ψ E (.whl c q) Z ρ
def T7(t y x:T)(Q:T->Prop):Prop:=Ll t y.er x.er Q
def Dl(z t:T)(Q:T->(T->T)->Prop):Prop:=Fl z.er t Q
def Al(y t:T)(Q:T->Prop):Prop:=ig y.er t Q
def VJ(x:T)(n:Bool)(l u:Option Int)(Q:T->Bool->Prop):Prop:=HL (oA x n).vw l u Q
def JM(xs:List (T×Bool))(C:LT->Prop):Prop:=YE xs=true/\C (KF xs)
def xL(h:ItK)(xs:List (T×Bool))(R:LT->Prop):Prop:=FB h (fC xs) R
def iB(md:List Md)(xs:List (T×Bool))(C:LT->Prop):Prop:=XF (VA md xs []) C
def RI(Ψ:PEv)(E:XE)(x:List Bool)(y:LS)(u:Tg)(h z:PX)(ρ:kA):T->(Option T->Prop)->Prop:=fG u (UN y.length x (lockA ρ)) (if isNop h=true then λρ R=>R true ρ else(pe Ψ h E).t) (pe Ψ z E).e
def BX(h:Tg)(x:T)(ρ:kA)(K:kA->Prop):Prop:=DO h x ρ K
section
variable{Ψ:PEv}{E:XE}{ρ:kA}{K:TK}{L:Bool->kA->Prop}{M:List (T×Bool)->kA->Prop}{a b c q its Y Z:PX}{X:T->kA->Prop}
section
variable{i j:Nat}{x:T}{v:CmpOp}{f t:Str}{p:PSp}{md:List Md}{w m:List Bool}{g:LS}{l:Tg}{o:ItK}{R:Option T->Prop}{s:Option Sl}{σ:kA}{n:Bool}{ts:LT}
theorem yf:lB Ψ (.xz i) E ρ K=DH i ρ ρ K:=rfl
theorem Ye:iP Ψ (.xz i) E ρ L=DH i ρ ρ λt _ ρ=>dU t λb=>L b ρ:=rfl
theorem mf{i:Int}:lB Ψ (.int i) E ρ K=K (.d (.int i)) false ρ:=rfl
theorem xf{x:Str}:lB Ψ (.str x) E ρ K=K (.d (.str x)) false ρ:=rfl
theorem Xp{x:Bool}:lB Ψ (.bl x) E ρ K=K (.d (.bool x)) false ρ:=rfl
theorem df:lB Ψ .non E ρ K=K (.d .none) false ρ:=rfl
theorem rH{x:Str}{d:D}(h:Ψ.va x=some d):lB Ψ (.glo x) E ρ K=K (.d d) false ρ:=by show(match Ψ.va x with|some d=>K (.d d) false ρ|none=>False)=_;rw[h]
theorem Jf{v:Operator}:lB Ψ (.bin v a b) E ρ K=lB Ψ a E ρ λx n u=>A0 x n Ψ b E u λy m h=>hG v x n y m λz k=>K z k h:=rfl
theorem Ze:iP Ψ (.cmp v a b) E ρ L=lB Ψ a E ρ λx n z=>A0 x n Ψ b E z λy m h=>MB v x (oA y m) λk=>L k h:=rfl
theorem af:lB Ψ (.cmp v a b) E ρ K=iP Ψ (.cmp v a b) E ρ λk h=>K (.d (.bool k)) false h:=rfl
theorem Zf:lB Ψ (.and a b) E ρ K=lB Ψ a E ρ λx _ h=>Ju x λc=>if c=true then lB Ψ b E h K else K (.d (.bool false)) false h:=rfl
theorem Ke:iP Ψ (.and a b) E ρ L=iP Ψ a E ρ λc h=>if c=true then iP Ψ b E h L else L false h:=rfl
theorem Fb:iP Ψ (.or a b) E ρ L=iP Ψ a E ρ λc h=>if c=true then L true h else iP Ψ b E h L:=rfl
theorem bf:lB Ψ (.not a) E ρ K=lB Ψ a E ρ λx _ h=>dU x λc=>K (.d (.bool (!c))) false h:=rfl
theorem xA(h:Ψ.sp f=p)(G:p.md=md)(F:(md.all λm=>!m.isMut)=true):lB Ψ (.call f q) E ρ K=dM Ψ q E md ρ λxs y=>iB md xs λts=>eB p ts (λr u=>u=[]/\K r true y) E:=by
 have B:∀(md:List Md) (q:PX),(md.all λm=>!m.isMut)=true->uA md q=[]:=by
  intro md;induction md with
  |nil=>intro q _;cases q<;>rfl|cons m md C =>
   intro q h;rw[qb,Qa]at h;cases m with
   |chg=>cases h.1|_=>cases q with|ny a q=>exact C q h.2|_=>rfl
 show(∃u,CA (uA (Ψ.sp f).md q) ρ=some u/\(uA (Ψ.sp f).md q).Nodup/\(pe Ψ q E).a (Ψ.sp f).md (clear (uA (Ψ.sp f).md q) ρ) λxs y=>∃ts,VA (Ψ.sp f).md xs u=some ts/\(Ψ.sp f).run ts (λr W=>∃z,xC (uA (Ψ.sp f).md q) W y=some z/\K r true z) E)=_;rw[h,G,B md q F];have A:∀(r:T) (u:LT) (y:kA),(∃z,xC [] u y=some z/\K r true z)=(u=[]/\K r true y):=by
  intro r u y;cases u with|nil=>exact propext ⟨λ⟨_,e,k⟩=>by cases e;exact⟨rfl,k⟩,λk=>⟨_,rfl,k.2⟩⟩|cons _ _=>exact propext ⟨λ⟨_,e,k⟩=>(by cases e),λk=>(by cases k.1)⟩
 have:=λ(y:kA)=>funext λr=>funext λu=>A r u y;simp only[this];exact propext ⟨λ⟨_,e,_,k⟩=>by cases e;exact k,λk=>⟨_,rfl,Q0,k⟩⟩
theorem P6:iP Ψ (.call f q) E ρ L=lB Ψ (.call f q) E ρ λt _ h=>dU t λb=>L b h:=rfl
theorem Up{f:Bi}:lB Ψ (.bi f q) E ρ K=dM Ψ q E [] ρ λxs h=>NO f xs λz k=>K z k h:=rfl
theorem uf:lB Ψ (.mt .pop (.xz j) q) E ρ K=zD ρ[j]? λt=>JI .pop t=true/\dM Ψ q E [] (ρ.set j (some (.ky t))) λxs h=>YE xs=true/\h[j]?=some (some (.ky t))/\MK .pop t (KF xs) λr s'=>K r true (h.set j (some (.own s'))):=rfl
theorem c7{x:Bool}:lB Ψ (.dnew x) E ρ K=K (.dct x [] []) true ρ:=rfl
theorem sf:lB Ψ (.dsp a b) E ρ K=lB Ψ a E ρ λy m z=>ZC y m (lB Ψ b E z λx n h=>ZC x n (HD true y.er/\K (.dct true [y.er] [x]) true h)):=rfl
theorem IG(h:Ψ.sp f=p)(P:p.md=.chg::md)(O:(md.all λm=>!m.isMut)=true):lB Ψ (.call f (.ny (.xz j) q)) E ρ K=zD ρ[j]? λt=>dM Ψ q E md (ρ.set j none) λxs y=>iB md xs λts=>eB p (t::ts) (λr u=>∃t',u=[t']/\K r true (y.set j (some (.own t')))) E:=by
 have J:∀(md:List Md) (q:PX),(md.all λm=>!m.isMut)=true->uA md q=[]:=by
  intro md;induction md with
  |nil=>intro q _;cases q<;>rfl|cons m md N =>
   intro q h;rw[qb,Qa]at h;cases m with
   |chg=>cases h.1|_=>cases q with|ny a q=>exact N q h.2|_=>rfl
 show(∃u,CA (uA (Ψ.sp f).md (.ny (.xz j) q)) ρ=some u/\(uA (Ψ.sp f).md (.ny (.xz j) q)).Nodup/\(pe Ψ (.ny (.xz j) q) E).a (Ψ.sp f).md (clear (uA (Ψ.sp f).md (.ny (.xz j) q)) ρ) λxs y=>∃ts,VA (Ψ.sp f).md xs u=some ts/\(Ψ.sp f).run ts (λr W=>∃A,xC (uA (Ψ.sp f).md (.ny (.xz j) q)) W y=some A/\K r true A) E)=_;rw[h,P];have Q:uA (.chg::md) (.ny (.xz j) q)=[j]:=by show j::uA md q=[j];rw[J md q O]
 rw[Q];have B:∀(r:T) (u:LT) (y:kA),(∃A,xC [j] u y=some A/\K r true A)=(∃t',u=[t']/\K r true (y.set j (some (.own t')))):=by
  intro r u y
  match u with
  |[]=>exact propext ⟨λ⟨_,e,k⟩=>(by cases e),λ⟨_,e,k⟩=>(by cases e)⟩|[t]=>exact propext ⟨λ⟨_,e,k⟩=>by cases e;exact⟨t,rfl,k⟩,λ⟨_,e,k⟩=>by cases e;exact⟨_,rfl,k⟩⟩|_::_::_=>exact propext ⟨λ⟨_,e,k⟩=>(by cases e),λ⟨_,e,k⟩=>(by cases e)⟩
 have C:=λ(y:kA)=>funext λr=>funext λu=>B r u y;simp only[C];have F:∀(t:T) (xs:List (T×Bool)) (G:LT->Prop),(∃ts,VA (.chg::md) ((.d .none,true)::xs) [t]=some ts/\G ts)=iB md xs λts=>G (t::ts):=by
  intro t xs G;show(∃ts,(VA md xs []).map (t::·)=some ts/\G ts)=XF (VA md xs []) λts=>G (t::ts);cases VA md xs []with|none=>exact propext ⟨λ⟨_,e,_⟩=>(by cases e),λ⟨_,e,_⟩=>(by cases e)⟩|some ts=>exact propext ⟨λ⟨_,e,k⟩=>by cases e;exact⟨_,rfl,k⟩,λ⟨_,e,k⟩=>by cases e;exact⟨_,rfl,k⟩⟩
 have I:∀t,ρ[j]?=some (some (.own t))->CA [j] ρ=some [t]:=λt e=>by unfold CA;rw[e];rfl
 have S:∀(u:LT),((pe Ψ (.ny (.xz j) q) E).a (.chg::md) (clear [j] ρ) λxs y=>∃ts,VA (.chg::md) xs u=some ts/\p.run ts (λr W=>∃t',W=[t']/\K r true (y.set j (some (.own t')))) E)=(dM Ψ q E md (ρ.set j none) λxs y=>∃ts,VA (.chg::md) ((.d .none,true)::xs) u=some ts/\p.run ts (λr W=>∃t',W=[t']/\K r true (y.set j (some (.own t')))) E):=λu=>propext ⟨λh=>h.2,λh=>⟨rfl,h⟩⟩;simp only[S]
 match e:ρ[j]? with
 |some (some (.own t))=>show _=(dM Ψ q E md (ρ.set j none) λxs y=>iB md xs λts=>eB p (t::ts) (λr u=>∃t',u=[t']/\K r true (y.set j (some (.own t')))) E);rw[I t e];have:=λxs (y:kA)=>F t xs λts=>p.run ts (λr W=>∃t',W=[t']/\K r true (y.set j (some (.own t')))) E;refine propext ⟨λ⟨_,e,_,k⟩=>?_,λk=>⟨_,rfl,by simp,?_⟩⟩;cases e;simp only[this]at k;exact k;simp only[this];exact k|some (some (.ky t))=>exact propext ⟨λ⟨_,z,_⟩=>(by unfold CA at z;rw[e]at z;cases z),λk=>k.elim⟩|some none=>exact propext ⟨λ⟨_,z,_⟩=>(by unfold CA at z;rw[e]at z;cases z),λk=>k.elim⟩|none=>exact propext ⟨λ⟨_,z,_⟩=>(by unfold CA at z;rw[e]at z;cases z),λk=>k.elim⟩
theorem FT:lB Ψ (.mt .extend (.xz j) q) E ρ K=zD ρ[j]? λt=>JI .extend t=true/\dM Ψ q E [] (ρ.set j (some (.ky t))) λxs h=>YE xs=true/\h[j]?=some (some (.ky t))/\MK .extend t (KF xs) λr s'=>K r true (h.set j (some (.own s'))):=rfl
theorem GT:lB Ψ (.mt .append (.xz j) q) E ρ K=zD ρ[j]? λt=>JI .append t=true/\dM Ψ q E [] (ρ.set j (some (.ky t))) λxs h=>YE xs=true/\h[j]?=some (some (.ky t))/\MK .append t (KF xs) λr s'=>K r true (h.set j (some (.own s'))):=rfl
theorem rf:lB Ψ (.idx a b) E ρ K=lB Ψ a E ρ λx n u=>A0 x n Ψ b E u λy m h=>DA x n y m λz=>K z false h:=rfl
theorem gf:lB Ψ (.lst q) E ρ K=dM Ψ q E [] ρ λxs y=>xs.length<=sizeLine/\JM xs λts=>K (.lst ts) true y:=by have:∀(xs:List (T×Bool)) y,(xs.length<=sizeLine/\JM xs λts=>K (.lst ts) true y)=(YE xs=true/\xs.length<=sizeLine/\K (.lst (KF xs)) true y):=λxs y=>propext ⟨λh=>⟨h.2.1,h.1,h.2.2⟩,λh=>⟨h.2.1,h.1,h.2.2⟩⟩;simp only[this];rfl
theorem zf:lB Ψ (.tup q) E ρ K=dM Ψ q E [] ρ λxs y=>xs.length<=sizeLine/\JM xs λts=>K (YF ts) true y:=by have:∀(xs:List (T×Bool)) y,(xs.length<=sizeLine/\JM xs λts=>K (YF ts) true y)=(YE xs=true/\xs.length<=sizeLine/\K (YF (KF xs)) true y):=λxs y=>propext ⟨λh=>⟨h.2.1,h.1,h.2.2⟩,λh=>⟨h.2.1,h.1,h.2.2⟩⟩;simp only[this];rfl
theorem f7:lB Ψ (.comp w g l o its Z Y) E ρ K=dM Ψ its E [] ρ λxs y=>xL o xs λh =>
   ZD (RI Ψ (λ_=>False) w g l Z Y y) h [] λz=>K (.lst z) true y:=rfl
theorem ke:RI Ψ E [] [t] (.nm 0) .nop Y ρ x R=lB Ψ Y E (some (.ky x)::lockA ρ) λy n _=>ZC y n (R (some y)):=rfl
theorem N6{u:Str}{x y:D}:RI Ψ E [] [t,u] (.tp [0,1]) .nop Y ρ (.d (.tuple [x,y])) R=lB Ψ Y E (bD x::bD y::lockA ρ) λy n _=>ZC y n (R (some y)):=EB
theorem ve:RI Ψ E [] [t] (.nm 0) (.cmp v a b) Y ρ x R=iP Ψ (.cmp v a b) E (some (.ky x)::lockA ρ) λk h=>if k=true then lB Ψ Y E h λy n _=>ZC y n (R (some y)) else R none:=rfl
theorem Vf:dM Ψ .nz E md ρ M=M [] ρ:=rfl
theorem t7:dM Ψ (.ny a q) E [] ρ M=lB Ψ a E ρ λx n y=>J7 x n Ψ q E [] y λxs h=>M ((x,n)::xs) h:=rfl
theorem NT:dM Ψ (.ny a q) E (.xy::md) ρ M=lB Ψ a E ρ λx n y=>J7 x n Ψ q E md y λxs h=>M ((x,n)::xs) h:=rfl
theorem OT:dM Ψ (.ny a q) E (.ky::md) ρ M=lB Ψ a E ρ λx n y=>J7 x n Ψ q E md y λxs h=>M ((x,n)::xs) h:=rfl
theorem Me:bI Ψ E X (.xz i) ρ=e8 i ρ ρ i X:=rfl
theorem So{x:Bool}:bI Ψ E X (.bl x) ρ=X (.d (.bool x)) ρ:=propext ⟨λh=>h.2,λh=>⟨rfl,h⟩⟩
theorem A6:bI Ψ E X (.call f q) ρ=lB Ψ (.call f q) E ρ λx n h=>ZC x n (X x h):=rfl
theorem Se{v:Operator}:bI Ψ E X (.bin v a b) ρ=lB Ψ (.bin v a b) E ρ λx n h=>ZC x n (X x h):=rfl
theorem Re:bI Ψ E X (.cmp v a b) ρ=lB Ψ (.cmp v a b) E ρ λx n h=>ZC x n (X x h):=rfl
theorem Te:bI Ψ E X (.and a b) ρ=lB Ψ (.and a b) E ρ λx n h=>ZC x n (X x h):=rfl
theorem To{f:Bi}:bI Ψ E X (.bi f q) ρ=lB Ψ (.bi f q) E ρ λx n h=>ZC x n (X x h):=rfl
theorem Pe:bI Ψ E X (.idx a b) ρ=lB Ψ (.idx a b) E ρ λx n h=>ZC x n (X x h):=rfl
theorem Oe:bI Ψ E X (.tup q) ρ=lB Ψ (.tup q) E ρ λx n h=>ZC x n (X x h):=rfl
theorem T6:bI Ψ E X (.comp w g l o its Z Y) ρ=lB Ψ (.comp w g l o its Z Y) E ρ λx n h=>ZC x n (X x h):=rfl
theorem Kv:DH (i+1) (s::σ) ρ K=DH i σ ρ K:=rfl
theorem Bv{t:T}:DH 0 (some (.ky t)::σ) ρ K=K t false ρ:=rfl
theorem Vv{t:T}:DH 0 (some (.own t)::σ) ρ K=K t false ρ:=rfl
theorem Uv:DH i (lockA σ) ρ K=DH i σ ρ K:=by
 unfold DH lockA;rw[Qc];cases σ[i]? with
 |none=>rfl|some s=>cases s with|none=>rfl|some s=>cases s<;>rfl
theorem Xv{b:Bool}:DH (i+1) (NC (b::m) (lockA (s::σ))) ρ K=DH i (NC m (lockA σ)) ρ K:=rfl
theorem Kp:DH 0 (NC (false::m) (lockA (s::σ))) ρ K=DH 0 (lockA (s::σ)) ρ K:=rfl
theorem Zp:DH i (NC [] (lockA σ)) ρ K=DH i (lockA σ) ρ K:=rfl
theorem Yv:e8 (i+1) (s::σ) ρ j X=e8 i σ ρ j X:=rfl
theorem Zv{t:T}:e8 0 (some (.own t)::σ) ρ j X=X t (ρ.set j none):=rfl
theorem Uu{x:D}:A0 (.d x) n Ψ b E ρ K=lB Ψ b E ρ K:=by cases n<;>rfl
theorem Ku:A0 x true Ψ b E ρ K=lB Ψ b E ρ K:=rfl
theorem Vu:A0 (.lst ts) false Ψ b E ρ K=lB Ψ b E (lockA ρ) λy m _=>K y m ρ:=rfl
theorem dv{x:D}:J7 (.d x) n Ψ b E md ρ M=dM Ψ b E md ρ M:=by cases n<;>rfl
theorem uv:J7 x true Ψ b E md ρ M=dM Ψ b E md ρ M:=rfl
theorem bv:J7 (.lst ts) false Ψ b E md ρ M=dM Ψ b E md (lockA ρ) λxs _=>M xs ρ:=rfl
end
end
section
variable{Ψ:PEv}{E:XE}{ρ σ:kA}{Z:PEnds}{s r q:PT}{i:Nat}{e c its:PX}{o:Option Sl}{n:Bool}{v:D}{P:Prop}{ds:List D}{x:T}
section
variable{j:Nat}{A B:Prop}
theorem zA:bB Ψ E .nil Z ρ=Z.nx ρ:=rfl
theorem Be:bB Ψ E (.seq (.set i e) r) Z (o::σ)=lB Ψ e E (o::σ) λx n h=>LL Ψ E r Z i x n h:=rfl
theorem Fe:bB Ψ E (.seq (.own i e) r) Z (o::σ)=lB Ψ e E (o::σ) λx n h=>Xm Ψ E r Z i x n h:=rfl
theorem S6:bB Ψ E (.seq (.expr e) r) Z (o::σ)=lB Ψ e E (o::σ) λ_ _ h=>bB Ψ E r Z h:=rfl
theorem De:bB Ψ E (.seq (.ret e) r) Z (o::σ)=bI Ψ E Z.rt e (o::σ):=rfl
theorem Ge:bB Ψ E (.seq (.ife c s .nil) r) Z (o::σ)=iP Ψ c E (o::σ) λk h=>if k=true then bB Ψ E s { Z with nx:=λy=>bB Ψ E r Z y } h else bB Ψ E r Z h:=rfl
theorem Le{u:Tg}{k:ItK}:bB Ψ E (.seq (.for_ u k its q) r) Z (o::σ)=dM Ψ its E [] (o::σ) λxs h=>xL k xs λy =>
   if RQ xs=true then GH (bB Ψ E q) u { Z with nx:=λz=>bB Ψ E r Z (kill u.ix z) } y h
   else GH (bB Ψ E q) u { Z with nx:=λz=>vU u.ix (gC h (jH its)) h (λw=>bB Ψ E r Z w) (kill u.ix z) } y (lock (gC h (jH its)) h):=rfl
theorem Ue{a:PX}:bB Ψ E (.seq (.six (.xz j) a e) r) Z (o::σ)=zD (o::σ)[j]? λt=>lB Ψ e E ((o::σ).set j (some (.ky t))) λx n z=>ZC x n (lB Ψ a E z λy m h=>ZC y m (h[j]?=some (some (.ky t))/\T7 t y x λt'=>bB Ψ E r Z (h.set j (some (.own t'))))):=rfl
theorem R6{a k:PX}:bB Ψ E (.seq (.six (.idx (.xz j) k) a e) r) Z (o::σ)=zD (o::σ)[j]? λt=>lB Ψ e E ((o::σ).set j (some (.ky t))) λx n w=>ZC x n (lB Ψ k E w λz l u=>ZC z l (Dl z t λs put=>lB Ψ a E u λy m h=>ZC y m (h[j]?=some (some (.ky t))/\T7 s y x λs'=>bB Ψ E r Z (h.set j (some (.own (put s'))))))):=rfl
theorem Ce{k:PX}:bB Ψ E (.seq (.sdf j k) r) Z (o::σ)=zD (o::σ)[j]? λt=>Aa t=true/\lB Ψ k E ((o::σ).set j (some (.ky t))) λy m h=>ZC y m (h[j]?=some (some (.ky t))/\Al y t λt'=>bB Ψ E r Z (h.set j (some (.own t')))):=rfl
theorem He{h:LN}:bB Ψ E (.seq (.frz h s) r) Z (o::σ)=bB Ψ E (.seq s r) Z (frzAt h (o::σ)):=rfl
theorem Xe:bB Ψ E (.seq (.whl c q) r) Z (o::σ)=Rk Ψ E c q { Z with nx:=λh=>bB Ψ E r Z h } (o::σ):=rfl
theorem vv:LL Ψ E r Z i (.d v) n ρ=bB Ψ E r Z (ρ.set i (bD v)):=propext ⟨λh=>h.2,λh=>⟨by cases n<;>rfl,h⟩⟩
theorem gp:LL Ψ E r Z i (.lst (ds.map T.d)) true ρ=bB Ψ E r Z (ρ.set i (bD (.list ds))):=by unfold LL T.er;rw[pB];exact propext ⟨λh=>h.2,λh=>⟨rfl,h⟩⟩
theorem Hu:Xm Ψ E r Z i x true ρ=bB Ψ E r Z (ρ.set i (some (.own x))):=propext ⟨λh=>h.2,λh=>⟨rfl,h⟩⟩
theorem Dv:ZC (.d v) n P=P:=propext ⟨λh=>h.2,λh=>⟨by cases n<;>rfl,h⟩⟩
theorem Cv:ZC x true P=P:=propext ⟨λh=>h.2,λh=>⟨rfl,h⟩⟩
theorem RW:(([]:LT)=[]/\P)=P:=propext ⟨λh=>h.2,λh=>⟨rfl,h⟩⟩
theorem Ln:(if(true:Bool)=true then A else B)=A:=rfl
theorem Mn:(if(false:Bool)=true then A else B)=B:=rfl
theorem Eu{v h:Option Sl}:bB Ψ E r Z (WD (h::σ) 0 v)=bB Ψ E r Z (v::σ):=rfl
theorem Au{v h y:Option Sl}:bB Ψ E r Z (WD (h::y::σ) 1 v)=bB Ψ E r Z (h::v::σ):=rfl
theorem Tu{v y h z:Option Sl}:bB Ψ E r Z (WD (y::h::z::σ) 2 v)=bB Ψ E r Z (y::h::v::σ):=rfl
theorem Su{v z y h u:Option Sl}:bB Ψ E r Z (WD (z::y::h::u::σ) 3 v)=bB Ψ E r Z (z::y::h::v::σ):=rfl
theorem Ru{v u z y h w:Option Sl}:bB Ψ E r Z (WD (u::z::y::h::w::σ) 4 v)=bB Ψ E r Z (u::z::y::h::v::σ):=rfl
theorem Pu{v w u z y h k:Option Sl}:bB Ψ E r Z (WD (w::u::z::y::h::k::σ) 5 v)=bB Ψ E r Z (w::u::z::y::h::v::σ):=rfl
theorem Ou{v k w u z y h a:Option Sl}:bB Ψ E r Z (WD (k::w::u::z::y::h::a::σ) 6 v)=bB Ψ E r Z (k::w::u::z::y::h::v::σ):=rfl
theorem Nu{v a k w u z y h b:Option Sl}:bB Ψ E r Z (WD (a::k::w::u::z::y::h::b::σ) 7 v)=bB Ψ E r Z (a::k::w::u::z::y::h::v::σ):=rfl
theorem Mu{v b a k w u z y h f:Option Sl}:bB Ψ E r Z (WD (b::a::k::w::u::z::y::h::f::σ) 8 v)=bB Ψ E r Z (b::a::k::w::u::z::y::h::v::σ):=rfl
theorem Lu{v f b a k w u z y h g:Option Sl}:bB Ψ E r Z (WD (f::b::a::k::w::u::z::y::h::g::σ) 9 v)=bB Ψ E r Z (f::b::a::k::w::u::z::y::h::v::σ):=rfl
theorem vp{v l g f b a k w u z y h:Option Sl}:bB Ψ E r Z (WD (l::g::f::b::a::k::w::u::z::y::h::σ) 10 v)=bB Ψ E r Z (l::g::f::b::a::k::w::u::z::y::v::σ):=rfl
theorem zp{v m l g f b a k w u z h y:Option Sl}:bB Ψ E r Z (WD (m::l::g::f::b::a::k::w::u::z::h::y::σ) 11 v)=bB Ψ E r Z (m::l::g::f::b::a::k::w::u::z::h::v::σ):=rfl
theorem yp{v p m l g f b a k w u y h z:Option Sl}:bB Ψ E r Z (WD (p::m::l::g::f::b::a::k::w::u::y::h::z::σ) 12 v)=bB Ψ E r Z (p::m::l::g::f::b::a::k::w::u::y::h::v::σ):=rfl
theorem jp{v X p m l g f b a k w z y h u:Option Sl}:bB Ψ E r Z (WD (X::p::m::l::g::f::b::a::k::w::z::y::h::u::σ) 13 v)=bB Ψ E r Z (X::p::m::l::g::f::b::a::k::w::z::y::h::v::σ):=rfl
end
end
section
variable{d:D}{n m:Bool}{i j:Int}{z y:Str}{b:Bool}{xs:List (T×Bool)}{ts:LT}{ds es:List D}{md:List Md}{t:T}{C:LT->Prop}{Q:T->Bool->Prop}{L:Bool->Prop}{R:T->Prop}{W:LT->Prop}
section
variable{ρ:kA}{P:kA->Prop}{e k:D}{v:CmpOp}{ks:List D}{kvs:List (D×D)}{l u:Option Int}
theorem Hq{i:Int}{x:D}{Q:T->Prop}(a:0<=i)(w:i<ds.length)(q:Q (.lst ((ds.set i.toNat x).map T.d))):T7 (.lst (ds.map T.d)) (.d (.int i)) (.d x) Q:=by
 have h:i.toNat<ds.length:=by omega
 refine⟨i.toNat,?_,by rw[<- QBA];exact q⟩;unfold ET;rw[QF];rw[if_pos a,if_pos w]
theorem Je{J:LN}{x:kA}{N:kA->Prop}:vU J [] x N ρ=N ρ:=propext ⟨λh=>h.2,λh=>⟨λ_ z=>(nomatch z),h⟩⟩
theorem lA{α:Type}(f:α->D)(l:List α):l.map (λc=>T.d (f c))=(l.map f).map T.d:=by rw[QS];rfl
theorem yE:(oA (.lst (ds.map T.d)) n).vw=.ls (ds.map T.d):=by cases n;rfl;show Vw.ls ((ersT (ds.map T.d)).map T.d)=_;rw[pB]
theorem Ae:iB md [] C=C []:=EB
theorem Du:iB [] ((.d d,n)::xs) C=iB [] xs λts=>C (.d d::ts):=by
 have e:VA [] ((.d d,n)::xs) []=(VA [] xs []).map (.d d::·):=by cases n<;>rfl
 unfold iB;rw[e,SF]
theorem Cu:iB [] ((.lst (ds.map T.d),true)::xs) C=iB [] xs λts=>C (.d (.list ds)::ts):=by have e:VA [] ((.lst (ds.map T.d),true)::xs) []=(VA [] xs []).map (.d (.list (ersT (ds.map T.d)))::·):=rfl;unfold iB;rw[e,SF,pB]
theorem Fu:iB (.ky::md) ((t,false)::xs) C=iB md xs λts=>C (t::ts):=by have e:VA (.ky::md) ((t,false)::xs) []=(VA md xs []).map (t::·):=rfl;unfold iB;rw[e,SF]
theorem K1:nE (.lst (ds.map T.d))=some (.lst (ds.map T.d)):=by simp only[nE,T.vw,iA,Q1]
theorem Bu{u:T}(h:nE (oA t n)=some u):iB (.xy::md) ((t,n)::xs) C=iB md xs λts=>C (u::ts):=by
 have e:VA (.xy::md) ((t,n)::xs) []=(VA md xs []).map (u::·):=by show(match nE (oA t n) with|some t=>(VA md xs []).map (t::·)|none=>none)=_;rw[h]
 unfold iB;rw[e,SF]
theorem Ao:iB (.xy::md) ((.lst (ds.map T.d),n)::xs) C=iB md xs λts=>C (.lst (ds.map T.d)::ts):=Bu (by cases n;exact K1;show nE (.d (.list (ersT (ds.map T.d))))=_;rw[pB];simp only[nE,T.vw,iA,Q1])
theorem Ie:JM [] C=C []:=propext ⟨λh=>h.2,λh=>⟨rfl,h⟩⟩
theorem Bt:JM ((.lst (ds.map T.d),true)::xs) C=JM xs λts=>C (.lst (ds.map T.d)::ts):=by show((HH (.lst (ds.map T.d)) true&&YE xs)=true/\C (.lst (ds.map T.d)::KF xs))=(YE xs=true/\C (.lst (ds.map T.d)::KF xs));rw[show HH (.lst (ds.map T.d)) true=true from rfl,w9]
theorem Iu:JM ((.d d,n)::xs) C=JM xs λts=>C (.d d::ts):=by show((HH (.d d) n&&YE xs)=true/\C (.d d::KF xs))=(YE xs=true/\C (.d d::KF xs));rw[show HH (.d d) n=true by cases n<;>rfl,w9]
theorem Kf{i j:Nat}{x y:D}:BX (.tp [i,j]) (.d (.tuple [x,y])) ρ P=P ((ρ.set i (bD x)).set j (bD y)):=EB
theorem Dp{i:Nat}:BX (.nm i) t ρ P=P (ρ.set i (some (.ky t))):=rfl
theorem lj{h:Tg}:DO h t ρ P=BX h t ρ P:=rfl
theorem ae:hG .Add (.d (.int i)) n (.d (.int j)) m Q=Q (.d (.int (i+j))) false:=by unfold hG;rw[pA,pA];exact Yj i j
theorem se:hG .Add (.d (.str z)) n (.d (.str y)) m Q=(z.length+y.length<=sizeLine/\Q (.d (.str (z++y))) false):=by unfold hG;rw[pA,pA];exact Jj z y
theorem de:hG .Sub (.d (.int i)) n (.d (.int j)) m Q=Q (.d (.int (i - j))) false:=by unfold hG;rw[pA,pA];exact sj i j
theorem ge:hG .Mult (.d (.int i)) n (.d (.int j)) m Q=(IntMulOk i j/\Q (.d (.int (i * j))) false):=by unfold hG;rw[pA,pA];exact rj i j
theorem fe:hG .Mult (.d (.str z)) n (.d (.int j)) m Q=((-(2 ^ 31)<=j/\j<2 ^ 31/\z.length * j.toNat<=sizeLine)/\Q (.d (.str (CJ z j))) false):=by unfold hG;rw[pA,pA];exact pj z j
theorem re:hG .FloorDiv (.d (.int i)) n (.d (.int j)) m Q=((0<j/\j<2 ^ 200)/\Q (.d (.int (i / j))) false):=by unfold hG;rw[pA,pA];exact oj i j
theorem oe:hG .Mod (.d (.int i)) n (.d (.int j)) m Q=(0<j/\Q (.d (.int (i % j))) false):=by unfold hG;rw[pA,pA];exact nj i j
theorem gn:YF [.d d,.d e]=.d (.tuple [d,e]):=rfl
theorem dn{f g:D}:YF [.d d,.d e,.d f,.d g]=.d (.tuple [d,e,f,g]):=rfl
theorem Ad:MB .Eq (.d (.int i)) (.d (.int j)) L=L (decide (i=j)):=rfl
theorem Td:MB .Eq (.d (.str z)) (.d (.str y)) L=L (decide (z=y)):=rfl
theorem Gd:MB .NotEq (.d (.str z)) (.d (.str y)) L=L (!decide (z=y)):=rfl
theorem Hd{c:Bool}:MB .NotEq (.d (.bool b)) (.d (.bool c)) L=L (!decide (b=c)):=rfl
theorem Yo:MB .Lt (.d (.int i)) (.d (.int j)) L=L (decide (i<j)):=rfl
theorem i6:MB v (.d d) (.lst (ds.map T.d)) L=rZ v d (.list ds) L:=by show rZ v d (.list (ersT (ds.map T.d))) L=_;rw[pB]
theorem Ko:MB .Gt (.d (.int i)) (.d (.int j)) L=L (decide (j<i)):=rfl
theorem iu:MB v t (oA (.d d) m) L=MB v t (.d d) L:=by rw[pA]
theorem Uo{u:T}:MB v t (oA u false) L=MB v t u L:=rfl
theorem Pd:MB .In (.d (.str z)) (.d (.list ds)) L=(((PB (.str z)=true/\ds.all PB=true)∨(TF (.str z)/\TF (.list ds)))/\L (ds.any λy=>Qu y (.str z))):=rfl
theorem U6:MB .NotIn (.d (.str z)) (.lst (ds.map T.d)) L=(((PB (.str z)=true/\ds.all PB=true)∨(TF (.str z)/\TF (.list ds)))/\L (!(ds.any λy=>Qu y (.str z)))):=by exact i6
theorem UX:MB .In (.d d) (.dct b ks ts) L=(HD b d/\L (bA ks d).isSome):=by show(HD b d/\((CmpOp.In=.In/\L (bA ks d).isSome)∨(CmpOp.In=.NotIn/\L (!(bA ks d).isSome))))=_;simp
theorem RJ:MB .NotIn (.d d) (.dct b ks ts) L=(HD b d/\L (!(bA ks d).isSome)):=by show(HD b d/\((CmpOp.NotIn=.In/\L (bA ks d).isSome)∨(CmpOp.NotIn=.NotIn/\L (!(bA ks d).isSome))))=_;simp
theorem Nd:MB .In (.d (.str z)) (.d (.tuple ds)) L=(((PB (.str z)=true/\ds.all PB=true)∨(TF (.str z)/\TF (.list ds)))/\L (ds.any λy=>Qu y (.str z))):=rfl
theorem Od:MB .In (.d (.str z)) (.lst (ds.map T.d)) L=(((PB (.str z)=true/\ds.all PB=true)∨(TF (.str z)/\TF (.list ds)))/\L (ds.any λy=>Qu y (.str z))):=by exact i6
theorem xu:dU (.d (.bool b)) L=L b:=rfl
theorem Yu:Ju (.d (.bool b)) L=L b:=rfl
theorem jn:NO .len [(.d (.list ds),n)] Q=Q (.d (.int ds.length)) false:=by unfold NO fC;rw[pA];refine(ze _).trans ?_;rw[QF]
theorem Im:NO .len [(.lst (ds.map T.d),n)] Q=Q (.d (.int ds.length)) false:=by unfold NO fC;rw[yE];refine(ze _).trans ?_;rw[QF]
theorem O4:NO .any [(.lst (ds.map T.d),n)] Q=∃bs:List Bool,ds=bs.map PyData.bool/\Q (.d (.bool (bs.any id))) false:=by unfold NO fC;rw[yE];refine(Go _).trans ?_;simp only[iA,Qm]
theorem c6:MS (.ls ts) k R=False:=propext ⟨λ⟨_,_,_,_,_,e,_⟩=>(by cases e),Qd⟩
theorem Pi:MS (.tp ts) k R=False:=propext ⟨λ⟨_,_,_,_,_,e,_⟩=>(by cases e),Qd⟩
theorem Ri{x:D}:MS (.sc x) k R=False:=propext ⟨λ⟨_,_,_,_,_,e,_⟩=>(by cases e),Qd⟩
theorem Et:DA (.lst (ds.map T.d)) n (.d (.int i)) m R=XF (fE ds i) λd=>R (.d d):=by unfold DA;rw[yE,pA,c6,or_false];refine(M5 _ _).trans ?_;show XF (fE (ds.map T.d) i) R=_;rw[AG,SF]
theorem Ff:DA (.d (.list ds)) n (.d (.int i)) m R=XF (fE ds i) λd=>R (.d d):=by unfold DA;rw[pA,pA,show(T.d (.list ds)).vw=.ls (ds.map T.d) from rfl,c6,or_false];refine(M5 _ _).trans ?_;show XF (fE (ds.map T.d) i) R=_;rw[AG,SF]
theorem TZ:DA (.d (.tuple ds)) n (.d (.int i)) m R=XF (fE ds i) λd=>R (.d d):=by unfold DA;rw[pA,pA,show(T.d (.tuple ds)).vw=.tp (ds.map T.d) from rfl,Pi,or_false];refine(Xi _ _).trans ?_;show XF (fE (ds.map T.d) i) R=_;rw[AG,SF]
theorem Lk:DA (.lst [.d d,.d e]) n t m R=DA (.lst ([d,e].map T.d)) n t m R:=rfl
theorem At:DA (.d (.str z)) n (.d (.int i)) m R=(z.length<=sizeLine/\XF (fE z.cps.toList i) λc=>R (.d (.str ⟨#[c]⟩))):=by unfold DA;rw[pA,pA,show(T.d (.str z)).vw=.sc (.str z) from rfl,Ri,or_false];exact Ui _ _
theorem Mk{q:Bool}{l:Nat}(f:eD kvs=some q)(a:HD q k)(w:bA (kvs.map (·.1)) k=some l)(h:(kvs.map (·.2))[l]?=some e)(x:R (.d e)):DA (.d (.dict kvs)) n (.d k) m R:=by
 unfold DA;rw[pA];refine .inr ?_;show MS (uC kvs) k R;unfold uC;rw[f];refine⟨q,_,_,l,.d e,rfl,a,w,?_,x⟩;rw[Qc]at h ⊢;cases z:kvs[l]? with|none=>rw[z]at h;cases h|some p=>rw[z]at h;cases h;rfl
theorem fu:VJ (.d (.str z)) n l u Q=(z.length<=sizeLine/\Q (.d (.str (wo z l u))) false):=by unfold VJ;rw[pA];exact lg z
theorem gu:VJ (.d (.list ds)) n l u Q=Q (.lst ((xF ds l u).map T.d)) true:=by unfold VJ;rw[pA];refine(gg _).trans ?_;rw[iA];exact EB
theorem yu:xL .val [(.d (.list ds),n)] W=W (ds.map T.d):=by unfold xL fC;rw[pA];exact UI _
theorem ju:xL .val [(.d (.tuple ds),n)] W=W (ds.map T.d):=by unfold xL fC;rw[pA];exact B5 _
theorem yl:xL .val [(.lst (ds.map T.d),n)] W=W (ds.map T.d):=by unfold xL fC;rw[yE];exact UI _
theorem Tk:xL .rng1 [(.d (.int j),n)] W=((-(2 ^ 62)<=j/\j<2 ^ 62)/\W ((Qs j.toNat).map λ(i:Nat)=>.d (.int (i:Int)))):=by unfold xL fC;rw[pA];exact U5 j
theorem ul:xL .enum [(.d (.list ds),n)] W=W (ds.zipIdx.map λp=>.d (.tuple [.int (p.2:Int),p.1])):=by unfold xL fC;rw[pA];refine(aS _).trans ?_;exact propext ⟨λ⟨_,_,x,h,k⟩=>by cases x;rw[iA]at h;cases h;exact k,λk=>⟨_,_,rfl,iA _,k⟩⟩
theorem Tb:xL .enum [(.lst (ds.map T.d),n)] W=W (ds.zipIdx.map λp=>.d (.tuple [.int (p.2:Int),p.1])):=by unfold xL fC;rw[yE];refine(aS _).trans ?_;exact propext ⟨λ⟨_,_,x,h,k⟩=>by cases x;rw[iA]at h;cases h;exact k,λk=>⟨_,_,rfl,iA _,k⟩⟩
theorem zl(h:kvs=[]∨eD kvs=some true):xL .itm [(.d (.dict kvs),n)] W=W (kvs.map λp=>.d (.tuple [p.1,p.2])):=by
 unfold xL fC;rw[pA];show FB .itm [uC kvs] W=_;rcases h with rfl|h;exact X5;unfold uC;rw[h];refine(tS _ _).trans ?_;have e:(kvs.map λp=>T.d p.2)=(kvs.map (·.2)).map T.d:=by rw[QS];rfl
 have x:((kvs.map (·.1)).zip (kvs.map (·.2))).map (λp=>T.d (.tuple [p.1,p.2]))=kvs.map λp=>T.d (.tuple [p.1,p.2]):=by rw[List.zip_map',QS];rfl
 refine propext ⟨λ⟨ds,w,k⟩=>?_,λk=>⟨kvs.map (·.2),by rw[e,iA],?_⟩⟩;rw[e,iA]at w;cases w;rw[x]at k;exact k;rw[x];exact k
def eZ(Q:T->LT->Prop):PEnds:={ nx:=λ_=>Q (.d .none) [],rt:=λt _=>Q t [] }
theorem Ud{Q:T->LT->Prop}{t:T}:(eZ Q).rt t ρ=Q t []:=rfl
theorem gA{Ψ:PEv}{b:PT}{p:PSp}{N x:LS}{ds:LT}{Q:T->LT->Prop}(ρ:kA)(hl:ds.length=x.length)(hc:YB 0 p.md x.length=[])(w:fB N p.md ds=ρ)(h:pF Ψ b (eZ Q) ρ):ds.length=x.length/\pF Ψ b (YD p x.length Q) (fB N p.md ds):=by
 have e:YD p x.length Q=eZ Q:=by unfold YD;rw[hc];rfl
 rw[e,w];exact⟨hl,h⟩
end
end
end L2.L3
namespace L2.L3.K31
open PySem PySem.Spec PyProof.Rows L2 L2.L3
section
variable{p q:Pt}{r:Rm}{Q:T->Prop}{l:Inn}{v:Int}{a b n g:Str}{w:Wy}{e:Str×Str}
def top(i:Nat):Stmt:=Qr.main.body.getD i (.Pass ⟨0,0,0,0⟩)
def YG:LS:=["edges","starts","goal","rooms","came_from","firsts","chains"]
def iF:LS:=["edges","starts","goal"]
def aM:Need:=⟨["rooms_of","points_reached","lay_chain","chain_from","full_names"],["BEGIN"],["sorted"]⟩
def XC:PT :=
  %[.expr (.call "lay_chain" %[.xz 3,.xz 4,.tup %[.xz 2,.str "to"|1]|1]),.set 4 (.call "points_reached" %[.xz 3|1])|2]
noncomputable def aG:PT :=
  %[.own 3 (.call "rooms_of" %[.xz 0,.xz 1,.xz 2|1]),.set 4 (.call "points_reached" %[.xz 3|1]),.whl (.cmp .In (.tup %[.xz 2,.str "to"|1]) (.xz 4)) XC,.set 5 (.comp [] ["point"] (.nm 0) .val %[.idx (.xz 3) (.glo "BEGIN")|1] (.cmp .Gt (.idx (.idx (.xz 4) (.xz 0)) (.glo "BEGIN")) (.int 0)) (.idx (.xz 0) (.int 0))),.set 6 (.comp [] ["first"] (.nm 0) .val %[.xz 5|1] .nop (.call "chain_from" %[.xz 4,.xz 0,.xz 3|1])),.ret (.tup %[.bi .sorted %[.xz 6|1],.call "full_names" %[.xz 4|1]|1])|2]
theorem AK:aB aM aG YG iF (top 3)=true:=by kernel_rfl
def dN:LS:=["edges","starts","goal","rooms","name","first","second"]
def fK:LS:=["edges","starts","goal"]
def GU:Need:=⟨["add_name","add_way"],["BEGIN","WIDE"],[]⟩
def cF:PT :=
  %[.ife (.cmp .NotEq (.xz 4) (.xz 2)) %[.expr (.call "add_name" %[.xz 3,.xz 4|1]),.expr (.call "add_way" %[.xz 3,.glo "BEGIN",.tup %[.xz 4,.str "to"|1],.glo "WIDE"|1])|2] .nil|2]
noncomputable def bF:PT :=
  %[.ife (.and (.cmp .NotEq (.xz 5) (.xz 2)) (.cmp .NotEq (.xz 5) (.xz 6))) %[.expr (.call "add_name" %[.xz 3,.xz 5|1]),.expr (.call "add_name" %[.xz 3,.xz 6|1]),.expr (.call "add_way" %[.xz 3,.tup %[.xz 5,.str "from"|1],.tup %[.xz 6,.str "to"|1],.glo "WIDE"|1])|2] .nil|2]
def jN:PT :=
  %[.own 3 (.dsp (.glo "BEGIN") (.dnew true)),.for_ (.nm 4) .val %[.xz 1|1] cF,.for_ (.tp [5,6]) .val %[.xz 0|1] bF,.ret (.xz 3)|2]
theorem zT:aB GU jN dN fK (top 4)=true:=by kernel_rfl
def rN:LS:=["rooms","name"]
def rK:LS:=["rooms","name"]
def RU:Need:=⟨["add_way"],[],[]⟩
def SH:PT :=
  %[.expr (.call "add_way" %[.xz 0,.tup %[.xz 1,.str "to"|1],.tup %[.xz 1,.str "from"|1],.int 1|1])|2]
theorem gT:aB RU SH rN rK (top 5)=true:=by kernel_rfl
def kP:LS:=["rooms","here","there","room"]
def uM:LS:=["rooms","here","there","room"]
def NY:Need:=⟨[],[],[]⟩
def OO:PT :=
  %[.sdf 0 (.xz 1),.sdf 0 (.xz 2),.six (.idx (.xz 0) (.xz 1)) (.xz 2) (.xz 3),.six (.idx (.xz 0) (.xz 2)) (.xz 1) (.int 0)|2]
theorem BV:aB NY OO kP uM (top 6)=true:=by kernel_rfl
def DE:LS:=["rooms","came_from","waiting","here","there","room"]
def ND:LS:=["rooms"]
def HJ:Need:=⟨[],["BEGIN"],["len"]⟩
def jB:PT :=
  %[.ife (.and (.cmp .Gt (.xz 5) (.int 0)) (.cmp .NotIn (.xz 4) (.xz 1))) %[.six (.xz 1) (.xz 4) (.xz 3),.expr (.mt .append (.xz 2) %[.xz 4|1])|2] .nil|2]
def UD:PT :=
  %[.set 3 (.mt .pop (.xz 2) %[.int 0|1]),.for_ (.tp [4,5]) .itm %[.idx (.xz 0) (.xz 3)|1] jB|2]
def VE:PT :=
  %[.own 1 (.dsp (.glo "BEGIN") .non),.own 2 (.lst %[.glo "BEGIN"|1]),.whl (.cmp .Gt (.bi .len %[.xz 2|1]) (.int 0)) UD,.ret (.xz 1)|2]
theorem SI:aB HJ VE DE ND (top 7)=true:=by kernel_rfl
def DK:LS:=["rooms","came_from","last","there","here"]
def nI:LS:=["rooms","came_from","last"]
def TR:Need:=⟨[],["BEGIN"],[]⟩
noncomputable def cE:PT :=
  %[.set 4 (.idx (.xz 1) (.xz 3)),.six (.idx (.xz 0) (.xz 4)) (.xz 3) (.bin .Sub (.idx (.idx (.xz 0) (.xz 4)) (.xz 3)) (.int 1)),.six (.idx (.xz 0) (.xz 3)) (.xz 4) (.bin .Add (.idx (.idx (.xz 0) (.xz 3)) (.xz 4)) (.int 1)),.set 3 (.xz 4)|2]
def mG:PT :=
  %[.set 3 (.xz 2),.whl (.cmp .NotEq (.xz 3) (.glo "BEGIN")) cE|2]
theorem CQ:aB TR mG DK nI (top 8)=true:=by kernel_rfl
def gJ:LS:=["rooms","first","goal","chain","name"]
def gH:LS:=["rooms","first","goal"]
def bQ:Need:=⟨["name_behind"],[],[]⟩
def DD:PT :=
  %[.expr (.mt .append (.xz 3) %[.xz 4|1]),.set 4 (.call "name_behind" %[.xz 0,.xz 4|1])|2]
def sF:PT :=
  %[.own 3 (.lst .nz),.set 4 (.xz 1),.whl (.cmp .NotEq (.xz 4) (.xz 2)) DD,.ret (.xz 3)|2]
theorem NN:aB bQ sF gJ gH (top 9)=true:=by kernel_rfl
def nH:LS:=["rooms","name","here"]
def OF:LS:=["rooms","name"]
def YN:Need:=⟨[],[],[]⟩
noncomputable def bE:PT :=
  %[.set 2 (.tup %[.xz 1,.str "from"|1]),.ret (.idx (.comp [] ["there"] (.nm 0) .val %[.idx (.xz 0) (.xz 2)|1] (.and (.cmp .NotEq (.idx (.xz 0) (.int 0)) (.xz 2)) (.cmp .Gt (.idx (.idx (.xz 1) (.xz 0)) (.xz 3)) (.int 0))) (.idx (.xz 0) (.int 0))) (.int 0))|2]
theorem TM:aB YN bE nH OF (top 10)=true:=by kernel_rfl
def fJ:LS:=["came_from"]
def fH:LS:=["came_from"]
def uQ:Need:=⟨[],[],["sorted"]⟩
noncomputable def rF:PT :=
  %[.ret (.bi .sorted %[.comp [] ["point"] (.nm 0) .val %[.xz 0|1] (.and (.cmp .Eq (.idx (.xz 0) (.int 1)) (.str "to")) (.cmp .NotIn (.tup %[.idx (.xz 0) (.int 0),.str "from"|1]) (.xz 1))) (.idx (.xz 0) (.int 0))|1])|2]
theorem MN:aB uQ rF fJ fH (top 11)=true:=by kernel_rfl
def JG:LS:=["edges","seers","needs","ground","found","grown","name","number","chains"]
def eF:LS:=["edges","seers","needs"]
def tM:Need:=⟨["told_through"],[],["len"]⟩
noncomputable def VC:PT :=
  %[.ife (.cmp .NotIn (.xz 6) (.xz 4)) %[.set 8 (.idx (.call "told_through" %[.xz 0,.xz 1,.xz 4,.xz 6|1]) (.int 0)),.ife (.cmp .GtE (.bi .len %[.xz 8|1]) (.xz 7)) %[.expr (.mt .append (.xz 3) %[.tup %[.xz 6,.slc (.xz 8) .nop (.xz 7)|1]|1]),.expr (.mt .append (.xz 4) %[.xz 6|1]),.set 5 (.bl true)|2] .nil|2] .nil|2]
def KC:PT :=
  %[.set 5 (.bl false),.for_ (.tp [6,7]) .val %[.xz 2|1] VC|2]
noncomputable def tG:PT :=
  %[.own 3 (.comp [false,false,false,false,false,false,true,true] ["name","number"] (.tp [0,1]) .val %[.xz 2|1] (.cmp .In (.xz 0) (.xz 3)) (.tup %[.xz 0,.lst .nz|1])),.own 4 (.comp [false,false,false,false,false,false,true,false,true] ["name","chains"] (.tp [0,1]) .val %[.xz 3|1] .nop (.xz 0)),.set 5 (.bl true),.whl (.xz 5) KC,.ret (.xz 3)|2]
theorem SK:aB tM tG JG eF (top 13)=true:=by kernel_rfl
def iG:LS:=["edges","seers","people","goal"]
def aF:LS:=["edges","seers","people","goal"]
def sM:Need:=⟨["apart_chains"],[],[]⟩
def VD:PT :=
  %[.ret (.call "apart_chains" %[.comp [] ["edge"] (.nm 0) .val %[.xz 0|1] (.cmp .In (.idx (.xz 0) (.int 0)) (.xz 3)) (.xz 0),.xz 1,.xz 3|1])|2]
theorem RK:aB sM VD iG aF (top 14)=true:=by kernel_rfl
def k7:LS:=["world","events","past","taken","wrong","held","known","steps","number","believed","live"]
def ZW:LS:=["world"]
def Nh:Need:=⟨["going_order","is_taken","wrong_among","live_among","held_among"],[],[]⟩
noncomputable def yK:PT :=
  %[.own 4 (.call "wrong_among" %[.xz 0,.xz 2|1]),.set 10 (.call "live_among" %[.xz 1,.xz 3,.xz 4|1]),.set 5 (.call "held_among" %[.xz 0,.xz 2,.xz 10,.xz 6|1]),.expr (.mt .append (.xz 7) %[.tup %[.xz 8,.xz 9,.xz 10,.xz 5|1]|1])|2]
noncomputable def zN:PT :=
  (.seq (.set 9 (.call "is_taken" %[.xz 0,.idx (.xz 1) (.xz 8),.xz 4,.xz 5|1]))
  (.seq (.expr (.mt .append (.xz 2) %[.xz 8|1]))
  (.seq (.ife (.and (.xz 9) (.cmp .Eq (.idx (.idx (.xz 1) (.xz 8)) (.int 0)) (.str "tell"))) %[.expr (.mt .append (.xz 3) %[.xz 8|1])|2] .nil)
  yK)))
noncomputable def HV:PT :=
  %[.set 1 (.idx (.xz 0) (.int 3)),.own 2 (.lst .nz),.own 3 (.lst .nz),.own 4 (.dnew true),.set 5 (.lst .nz),.own 6 (.dnew true),.own 7 (.lst .nz),.for_ (.nm 8) .val %[.call "going_order" %[.xz 1|1]|1] zN,.ret (.xz 7)|2]
theorem ub:aB Nh HV k7 ZW (top 17)=true:=by kernel_rfl
def mN:LS:=["world","event","wrong","held","teller","hearer","matter"]
def nK:LS:=["world","event","wrong","held"]
def NU:Need:=⟨["has_against","rank_of","floor_of"],[],[]⟩
noncomputable def mF:PT :=
  %[.ife (.cmp .Eq (.idx (.xz 1) (.int 0)) (.str "see")) %[.ret (.bl true)|2] .nil,.set 4 (.idx (.xz 1) (.int 2)),.set 5 (.idx (.xz 1) (.int 3)),.set 6 (.idx (.xz 1) (.int 4)),.ife (.or (.cmp .NotIn (.tup %[.xz 4,.xz 6|1]) (.xz 3)) (.cmp .In (.tup %[.xz 4,.xz 5|1]) (.xz 2))) %[.ret (.bl false)|2] .nil,.ret (.and (.cmp .GtE (.call "rank_of" %[.xz 0,.xz 4|1]) (.call "floor_of" %[.xz 0,.xz 5|1])) (.not (.call "has_against" %[.xz 0,.xz 3,.xz 5,.xz 6|1])))|2]
theorem uT:aB NU mF mN nK (top 18)=true:=by kernel_rfl
def AO:LS:=["world","name"]
def yM:LS:=["world","name"]
def FY:Need:=⟨[],[],[]⟩
def TJ:PT :=
  %[.ret (.idx (.comp [] ["person"] (.nm 0) .val %[.idx (.xz 0) (.int 0)|1] (.cmp .Eq (.idx (.xz 0) (.int 0)) (.xz 2)) (.idx (.xz 0) (.int 1))) (.int 0))|2]
theorem YV:aB FY TJ AO yM (top 19)=true:=by kernel_rfl
def nN:LS:=["world","name"]
def oK:LS:=["world","name"]
def OU:Need:=⟨[],[],[]⟩
def PH:PT :=
  %[.ret (.idx (.comp [] ["person"] (.nm 0) .val %[.idx (.xz 0) (.int 0)|1] (.cmp .Eq (.idx (.xz 0) (.int 0)) (.xz 2)) (.idx (.xz 0) (.int 2))) (.int 0))|2]
theorem bT:aB OU PH nN oK (top 20)=true:=by kernel_rfl
def oH:LS:=["world","pairs","name","matter","rivals"]
def PF:LS:=["world","pairs","name","matter"]
def ZN:Need:=⟨[],[],["any"]⟩
noncomputable def dE:PT :=
  %[.own 4 (.comp [] ["first","second"] (.tp [0,1]) .val %[.idx (.xz 0) (.int 2)|1] (.cmp .Eq (.xz 0) (.xz 5)) (.xz 1)),.expr (.mt .extend (.xz 4) %[.comp [] ["first","second"] (.tp [0,1]) .val %[.idx (.xz 0) (.int 2)|1] (.cmp .Eq (.xz 1) (.xz 5)) (.xz 0)|1]),.ret (.bi .any %[.comp [] ["rival"] (.nm 0) .val %[.xz 4|1] .nop (.cmp .In (.tup %[.xz 3,.xz 0|1]) (.xz 2))|1])|2]
theorem AM:aB ZN dE oH PF (top 21)=true:=by kernel_rfl
def mH:LS:=["world","past","seen","wrong","number","event"]
def NF:LS:=["world","past"]
def JN:Need:=⟨["seen_among","has_against"],[],[]⟩
noncomputable def ZF:PT :=
  %[.set 5 (.idx (.idx (.xz 0) (.int 3)) (.xz 4)),.ife (.and (.cmp .Eq (.idx (.xz 5) (.int 0)) (.str "tell")) (.cmp .NotIn (.tup %[.idx (.xz 5) (.int 3),.idx (.xz 5) (.int 4)|1]) (.xz 2))) %[.ife (.call "has_against" %[.xz 0,.xz 2,.idx (.xz 5) (.int 3),.idx (.xz 5) (.int 4)|1]) %[.six (.xz 3) (.tup %[.idx (.xz 5) (.int 2),.idx (.xz 5) (.int 3)|1]) (.bl true)|2] .nil|2] .nil|2]
def uE:PT :=
  %[.own 2 (.call "seen_among" %[.idx (.xz 0) (.int 3),.xz 1|1]),.own 3 (.dnew true),.for_ (.nm 4) .val %[.xz 1|1] ZF,.ret (.xz 3)|2]
theorem SM:aB JN uE mH NF (top 22)=true:=by kernel_rfl
def uJ:LS:=["events","past","seen","number"]
def uH:LS:=["events","past"]
def zQ:Need:=⟨[],[],[]⟩
def lG:PT :=
  %[.ife (.cmp .Eq (.idx (.idx (.xz 0) (.xz 3)) (.int 0)) (.str "see")) %[.six (.xz 2) (.tup %[.idx (.idx (.xz 0) (.xz 3)) (.int 2),.idx (.idx (.xz 0) (.xz 3)) (.int 3)|1]) (.bl true)|2] .nil|2]
def uF:PT :=
  %[.own 2 (.dnew true),.for_ (.nm 3) .val %[.xz 1|1] lG,.ret (.xz 2)|2]
theorem DN:aB zQ uF uJ uH (top 23)=true:=by kernel_rfl
def bJ:LS:=["events","taken","wrong"]
def bH:LS:=["events","taken","wrong"]
def kQ:Need:=⟨[],[],["sorted"]⟩
def fF:PT :=
  %[.ret (.bi .sorted %[.comp [] ["number"] (.nm 0) .val %[.xz 1|1] (.cmp .NotIn (.tup %[.idx (.idx (.xz 1) (.xz 0)) (.int 2),.idx (.idx (.xz 1) (.xz 0)) (.int 3)|1]) (.xz 3)) (.xz 0)|1])|2]
theorem FN:aB kQ fF bJ bH (top 24)=true:=by kernel_rfl
def dJ:LS:=["world","past","live","known","seen","holders","matter","web","held","person"]
def dH:LS:=["world","past","live","known"]
def xQ:Need:=⟨["seen_among","edges_of","seers_of","holders_in"],[],[]⟩
def AC:PT :=
  %[.six (.xz 5) (.xz 6) (.idx (.xz 3) (.xz 7))|2]
noncomputable def CD:PT :=
  (.seq (.set 7 (.tup %[.call "seers_of" %[.xz 0,.xz 4,.xz 6|1],.call "edges_of" %[.idx (.xz 0) (.int 3),.xz 2,.xz 6|1]|1]))
  (.seq (.ife (.cmp .NotIn (.xz 7) (.xz 3)) %[.six (.xz 3) (.xz 7) (.call "holders_in" %[.xz 0,.xz 7|1])|2] .nil)
  AC))
noncomputable def BD:PT :=
  %[.expr (.mt .extend (.xz 8) %[.comp [false,false,false,false,false,false,true] ["matter"] (.nm 0) .val %[.idx (.xz 0) (.int 1)|1] (.cmp .In (.idx (.xz 10) (.int 0)) (.idx (.xz 6) (.xz 0))) (.tup %[.idx (.xz 10) (.int 0),.xz 0|1])|1])|2]
noncomputable def oF:PT :=
  %[.own 4 (.call "seen_among" %[.idx (.xz 0) (.int 3),.xz 1|1]),.own 5 (.dnew false),.for_ (.nm 6) .val %[.idx (.xz 0) (.int 1)|1] CD,.own 8 (.lst .nz),.for_ (.nm 9) .val %[.idx (.xz 0) (.int 0)|1] BD,.ret (.xz 8)|2]
theorem HN:aB xQ oF dJ dH (top 25)=true:=by kernel_rfl
def cN:LS:=["world","seen","matter"]
def cK:LS:=["world","seen","matter"]
def FU:Need:=⟨[],[],["tuple"]⟩
def LH:PT :=
  %[.ret (.bi .tuple %[.comp [] ["person"] (.nm 0) .val %[.idx (.xz 0) (.int 0)|1] (.cmp .In (.tup %[.idx (.xz 0) (.int 0),.xz 3|1]) (.xz 2)) (.idx (.xz 0) (.int 0))|1])|2]
theorem yT:aB FU LH cN cK (top 26)=true:=by kernel_rfl
def pN:LS:=["events","live","matter","tells"]
def pK:LS:=["events","live","matter"]
def PU:Need:=⟨[],[],["tuple"]⟩
noncomputable def RH:PT :=
  %[.set 3 (.comp [] ["number"] (.nm 0) .val %[.xz 1|1] (.cmp .Eq (.idx (.idx (.xz 1) (.xz 0)) (.int 4)) (.xz 3)) (.idx (.xz 1) (.xz 0))),.ret (.bi .tuple %[.comp [] ["event"] (.nm 0) .val %[.xz 3|1] .nop (.tup %[.idx (.xz 0) (.int 2),.idx (.xz 0) (.int 3)|1])|1])|2]
theorem cT:aB PU RH pN pK (top 27)=true:=by kernel_rfl
def cJ:LS:=["world","web"]
def cH:LS:=["world","web"]
def vQ:Need:=⟨["ground_alone","needs_of"],[],[]⟩
def nF:PT :=
  %[.ret (.comp [] ["name","chains"] (.tp [0,1]) .val %[.call "ground_alone" %[.idx (.xz 1) (.int 1),.idx (.xz 1) (.int 0),.call "needs_of" %[.xz 0|1]|1]|1] .nop (.xz 0))|2]
theorem GN:aB vQ nF cJ cH (top 28)=true:=by kernel_rfl
def fN:LS:=["world"]
def gK:LS:=["world"]
def HU:Need:=⟨[],[],[]⟩
def MH:PT :=
  %[.ret (.comp [] ["person"] (.nm 0) .val %[.idx (.xz 0) (.int 0)|1] .nop (.tup %[.idx (.xz 0) (.int 0),.idx (.xz 0) (.int 3)|1]))|2]
theorem kT:aB HU MH fN gK (top 29)=true:=by kernel_rfl
def UT:LS:=["_law_script","_law_k","_law_many","_law_cell","_law_number"]
def fO:LS:=["_law_script","_law_k","_law_many"]
def N4:Need:=⟨[],[],["len"]⟩
noncomputable def sG:PT :=
  %[.set 4 (.bin .Mod (.bin .Mult (.bin .Add (.bin .Add (.bin .Mod (.xz 3) (.int 2147483647)) (.bin .Mult (.int 7) (.xz 1))) (.int 3)) (.bin .Add (.int 48271) (.bin .Mult (.bin .Mult (.int 1103) (.xz 1)) (.xz 1)))) (.int 2147483629)),.ret (.bin .Mod (.bin .FloorDiv (.xz 4) (.int 64)) (.xz 2))|2]
def yN:PT :=
  (.seq (.set 3 (.int 0))
  (.seq (.ife (.cmp .Gt (.bi .len %[.xz 0|1]) (.int 0)) %[.set 3 (.idx (.xz 0) (.bin .Mod (.xz 1) (.bi .len %[.xz 0|1])))|2] .nil)
  sG))
theorem tZ:aB N4 yN UT fO (top 31)=true:=by kernel_rfl
def yP:LS:=["_law_script","_law_letters","_law_ahead","_law_behind","_law_first"]
def vM:LS:=["_law_script"]
def LY:Need:=⟨["_law_draw"],[],["range"]⟩
noncomputable def IJ:PT :=
  %[.set 1 (.str "bcdfgjkmnpqvwxyz"),.set 2 (.bin .Mult (.str "zq") (.call "_law_draw" %[.xz 0,.int 901,.int 2|1])),.set 3 (.slc (.str "vzb") .nop (.call "_law_draw" %[.xz 0,.int 902,.int 4|1])),.set 4 (.call "_law_draw" %[.xz 0,.int 903,.int 16|1]),.ret (.comp [] ["_law_k"] (.nm 0) .rng1 %[.int 16|1] .nop (.bin .Add (.bin .Add (.xz 3) (.idx (.xz 2) (.bin .Mod (.bin .Add (.xz 5) (.xz 0)) (.int 16)))) (.xz 4)))|2]
theorem XV:aB LY IJ yP vM (top 32)=true:=by kernel_rfl
def gN:LS:=["_law_script","_law_names_here","_law_people_here","_law_wide","_law_k","_law_name","_law_rank","_law_floor"]
def lK:LS:=["_law_script","_law_names_here"]
def LU:Need:=⟨["_law_draw"],[],["enumerate","int"]⟩
noncomputable def jJ:PT :=
  %[.set 6 (.call "_law_draw" %[.xz 0,.bin .Add (.int 910) (.xz 4),.xz 3|1]),.set 7 (.bin .Mult (.call "_law_draw" %[.xz 0,.bin .Add (.int 920) (.xz 4),.xz 3|1]) (.bi .int %[.cmp .Eq (.call "_law_draw" %[.xz 0,.bin .Add (.int 930) (.xz 4),.int 3|1]) (.int 0)|1])),.expr (.mt .append (.xz 2) %[.tup %[.xz 5,.xz 6,.xz 7,.idx (.lst %[.int 1,.int 1,.int 1,.int 2,.int 2,.int 3|1]) (.call "_law_draw" %[.xz 0,.bin .Add (.int 940) (.xz 4),.int 6|1])|1]|1])|2]
def NH:PT :=
  %[.own 2 (.lst .nz),.set 3 (.idx (.lst %[.int 4,.int 100|1]) (.call "_law_draw" %[.xz 0,.int 904,.int 2|1])),.for_ (.tp [4,5]) .enum %[.xz 1|1] jJ,.ret (.xz 2)|2]
theorem vT:aB LU NH gN lK (top 33)=true:=by kernel_rfl
def zP:LS:=["_law_script","_law_k","_law_people_here","_law_matters","_law_last","_law_at","_law_matter","_law_word","_law_times","_law_time","_law_teller","_law_others","_law_hearer","_law_by","_law_j"]
def xM:LS:=["_law_script","_law_k","_law_people_here","_law_matters","_law_last"]
def MY:Need:=⟨["_law_draw"],[],["len","range","tuple"]⟩
def BK:PT :=
  %[.expr (.mt .append (.xz 13) %[.idx (.idx (.xz 2) (.call "_law_draw" %[.xz 0,.bin .Add (.bin .Add (.bin .Mult (.int 11) (.xz 1)) (.int 8)) (.xz 14),.bi .len %[.xz 2|1]|1])) (.int 0)|1])|2]
noncomputable def lF:PT :=
  %[.set 11 (.comp [] ["_law_person"] (.nm 0) .val %[.xz 2|1] (.cmp .NotEq (.idx (.xz 0) (.int 0)) (.xz 11)) (.idx (.xz 0) (.int 0))),.set 12 (.idx (.xz 11) (.call "_law_draw" %[.xz 0,.bin .Add (.bin .Mult (.int 11) (.xz 1)) (.int 6),.bi .len %[.xz 11|1]|1])),.own 13 (.lst .nz),.for_ (.nm 14) .rng1 %[.call "_law_draw" %[.xz 0,.bin .Add (.bin .Mult (.int 11) (.xz 1)) (.int 7),.int 3|1]|1] BK,.ret (.tup %[.str "tell",.xz 9,.xz 10,.xz 12,.xz 6,.xz 7,.bi .tuple %[.xz 13|1]|1])|2]
noncomputable def jK:PT :=
  (.seq (.set 5 (.call "_law_draw" %[.xz 0,.bin .Mult (.int 11) (.xz 1),.bi .len %[.xz 2|1]|1]))
  (.seq (.set 6 (.idx (.xz 3) (.call "_law_draw" %[.xz 0,.bin .Add (.bin .Mult (.int 11) (.xz 1)) (.int 1),.bi .len %[.xz 3|1]|1])))
  (.seq (.set 7 (.slc (.str "abcdef") (.call "_law_draw" %[.xz 0,.bin .Add (.bin .Mult (.int 11) (.xz 1)) (.int 2),.int 6|1]) .nop))
  (.seq (.set 8 (.lst %[.xz 1,.bin .Mult (.int 2) (.bin .FloorDiv (.xz 1) (.int 2)),.call "_law_draw" %[.xz 0,.bin .Add (.bin .Mult (.int 11) (.xz 1)) (.int 3),.int 9|1],.bin .Sub (.int 100) (.xz 1)|1]))
  (.seq (.set 9 (.idx (.xz 8) (.call "_law_draw" %[.xz 0,.int 905,.int 4|1])))
  (.seq (.ife (.or (.cmp .Is (.xz 4) .non) (.cmp .Eq (.call "_law_draw" %[.xz 0,.bin .Add (.bin .Mult (.int 11) (.xz 1)) (.int 4),.int 4|1]) (.int 0))) %[.ret (.tup %[.str "see",.xz 9,.idx (.idx (.xz 2) (.xz 5)) (.int 0),.xz 6,.xz 7|1])|2] .nil)
  (.seq (.set 10 (.idx (.idx (.xz 2) (.xz 5)) (.int 0)))
  (.seq (.ife (.cmp .Gt (.call "_law_draw" %[.xz 0,.bin .Add (.bin .Mult (.int 11) (.xz 1)) (.int 5),.int 3|1]) (.int 0)) %[.set 10 (.idx (.xz 4) (.int 0)),.set 6 (.idx (.xz 4) (.int 1))|2] .nil)
  lF))))))))
theorem UV:aB MY jK zP xM (top 34)=true:=by kernel_rfl
def lN:LS:=["_law_script","_law_most","_law_cells","_law_k","_law_cell"]
def mK:LS:=["_law_script","_law_most"]
def MU:Need:=⟨[],[],["enumerate"]⟩
noncomputable def yJ:PT :=
  %[.ife (.cmp .Lt (.xz 3) (.xz 1)) %[.expr (.mt .append (.xz 2) %[.xz 4|1])|2] %[.six (.xz 2) (.bin .Mod (.xz 3) (.xz 1)) (.bin .Add (.bin .Mult (.idx (.xz 2) (.bin .Mod (.xz 3) (.xz 1))) (.int 31)) (.xz 4))|2]|2]
def OH:PT :=
  %[.own 2 (.lst .nz),.for_ (.tp [3,4]) .enum %[.xz 0|1] yJ,.ret (.xz 2)|2]
theorem xT:aB MU OH lN mK (top 35)=true:=by kernel_rfl
def jP:LS:=["_law_script","_law_most","_law_names_here","_law_people_here","_law_many","_law_matters","_law_against","_law_k","_law_j","_law_both","_law_events","_law_last","_law_event_here"]
def kM:LS:=["_law_script","_law_most"]
def HY:Need:=⟨["_law_folded","_law_names","_law_people","_law_draw","_law_event"],[],["int","len","range"]⟩
noncomputable def pG:PT :=
  %[.set 9 (.lst %[.tup %[.idx (.xz 5) (.xz 7),.idx (.xz 5) (.xz 8)|1],.tup %[.idx (.xz 5) (.xz 8),.idx (.xz 5) (.xz 7)|1]|1]),.ife (.cmp .Gt (.call "_law_draw" %[.xz 0,.bin .Add (.bin .Add (.int 950) (.bin .Mult (.int 3) (.xz 7))) (.xz 8),.int 3|1]) (.int 0)) %[.expr (.mt .append (.xz 6) %[.idx (.xz 9) (.call "_law_draw" %[.xz 0,.bin .Add (.bin .Add (.int 960) (.bin .Mult (.int 3) (.xz 7))) (.xz 8),.int 2|1])|1])|2] .nil|2]
def oG:PT :=
  %[.for_ (.nm 8) .rng1 %[.xz 7|1] pG|2]
noncomputable def nG:PT :=
  %[.set 12 (.call "_law_event" %[.xz 0,.xz 7,.xz 3,.xz 5,.xz 11|1]),.expr (.mt .append (.xz 10) %[.xz 12|1]),.set 11 (.tup %[.idx (.xz 12) (.int 2),.idx (.xz 12) (.int 3)|1]),.ife (.cmp .Eq (.idx (.xz 12) (.int 0)) (.str "tell")) %[.set 11 (.tup %[.idx (.xz 12) (.int 3),.idx (.xz 12) (.int 4)|1])|2] .nil|2]
noncomputable def gF:PT :=
  %[.own 6 (.lst .nz),.for_ (.nm 7) .rng1 %[.bi .len %[.xz 5|1]|1] oG,.own 10 (.lst .nz),.set 11 .non,.for_ (.nm 7) .rng1 %[.bi .len %[.xz 0|1]|1] nG,.frz [6,10] (.ret (.tup %[.xz 3,.xz 5,.xz 6,.xz 10|1]))|2]
noncomputable def EJ:PT :=
  (.seq (.set 0 (.call "_law_folded" %[.xz 0,.int 24|1]))
  (.seq (.set 2 (.call "_law_names" %[.xz 0|1]))
  (.seq (.set 3 (.call "_law_people" %[.xz 0,.slc (.xz 2) .nop (.bin .Add (.int 2) (.call "_law_draw" %[.xz 0,.int 906,.bin .Sub (.xz 1) (.int 1)|1]))|1]))
  (.seq (.set 4 (.bin .Add (.bin .Add (.int 1) (.call "_law_draw" %[.xz 0,.int 907,.int 3|1])) (.bin .Mult (.int 3) (.bi .int %[.cmp .Eq (.call "_law_draw" %[.xz 0,.int 911,.int 4|1]) (.int 0)|1]))))
  (.seq (.set 5 (.slc (.xz 2) (.int 6) (.bin .Add (.int 6) (.xz 4))))
  (.seq (.ife (.cmp .Eq (.call "_law_draw" %[.xz 0,.int 908,.int 3|1]) (.int 0)) %[.set 5 (.slc (.xz 2) .nop (.bi .len %[.xz 5|1]))|2] .nil)
  gF))))))
theorem VV:aB HY EJ jP kM (top 36)=true:=by kernel_rfl
def FK:LS:=["_law_world_here","_law_matter","_law_ones"]
def oI:LS:=["_law_world_here","_law_matter"]
def ER:Need:=⟨[],[],[]⟩
noncomputable def rG:PT :=
  %[.set 2 (.comp [] ["_law_pair"] (.nm 0) .val %[.idx (.xz 0) (.int 2)|1] (.cmp .Eq (.idx (.xz 0) (.int 0)) (.xz 2)) (.idx (.xz 0) (.int 1))),.ret (.bin .Add (.xz 2) (.comp [] ["_law_pair"] (.nm 0) .val %[.idx (.xz 0) (.int 2)|1] (.cmp .Eq (.idx (.xz 0) (.int 1)) (.xz 2)) (.idx (.xz 0) (.int 0))))|2]
theorem DQ:aB ER rG FK oI (top 37)=true:=by kernel_rfl
def EO:LS:=["_law_world_here","_law_numbers","_law_teller","_law_hearer","_law_seen","_law_number","_law_event_here"]
def zM:LS:=["_law_world_here","_law_numbers","_law_teller","_law_hearer"]
def GY:Need:=⟨["_law_opposed"],[],["any"]⟩
noncomputable def UK:PT :=
  %[.set 6 (.idx (.idx (.xz 0) (.int 3)) (.xz 5)),.ife (.and (.cmp .Eq (.idx (.xz 6) (.int 0)) (.str "see")) (.cmp .Eq (.idx (.xz 6) (.int 2)) (.xz 3))) %[.six (.xz 4) (.idx (.xz 6) (.int 3)) (.bl true)|2] .nil|2]
noncomputable def ZK:PT :=
  %[.set 6 (.idx (.idx (.xz 0) (.int 3)) (.xz 5)),.ife (.and (.cmp .Eq (.idx (.xz 6) (.int 0)) (.str "tell")) (.and (.cmp .Eq (.slc (.xz 6) (.int 2) (.int 4)) (.tup %[.xz 2,.xz 3|1])) (.cmp .NotIn (.idx (.xz 6) (.int 4)) (.xz 4)))) %[.ife (.bi .any %[.comp [] ["_law_other"] (.nm 0) .val %[.call "_law_opposed" %[.xz 0,.idx (.xz 6) (.int 4)|1]|1] .nop (.cmp .In (.xz 0) (.xz 5))|1]) %[.ret (.bl true)|2] .nil|2] .nil|2]
def AJ:PT :=
  %[.own 4 (.dnew false),.for_ (.nm 5) .val %[.xz 1|1] UK,.for_ (.nm 5) .val %[.xz 1|1] ZK,.ret (.bl false)|2]
theorem ZV:aB GY AJ EO zM (top 38)=true:=by kernel_rfl
def SX:LS:=["_law_world_here","_law_numbers","_law_held","_law_event_here","_law_ranks","_law_floors"]
def KR:LS:=["_law_world_here","_law_numbers","_law_held","_law_event_here"]
def D9:Need:=⟨["_law_opposed","_law_wrong"],[],["dict","any"]⟩
noncomputable def HQ:PT :=
  %[.own 4 (.dof (.comp [] ["_law_person"] (.nm 0) .val %[.idx (.xz 0) (.int 0)|1] .nop (.tup %[.idx (.xz 0) (.int 0),.idx (.xz 0) (.int 1)|1]))),.own 5 (.dof (.comp [] ["_law_person"] (.nm 0) .val %[.idx (.xz 0) (.int 0)|1] .nop (.tup %[.idx (.xz 0) (.int 0),.idx (.xz 0) (.int 2)|1]))),.ife (.cmp .Eq (.idx (.xz 3) (.int 0)) (.str "see")) %[.ret (.bl true)|2] .nil,.ife (.or (.cmp .NotIn (.tup %[.idx (.xz 3) (.int 2),.idx (.xz 3) (.int 4)|1]) (.xz 2)) (.cmp .Lt (.idx (.xz 4) (.idx (.xz 3) (.int 2))) (.idx (.xz 5) (.idx (.xz 3) (.int 3))))) %[.ret (.bl false)|2] .nil,.ife (.bi .any %[.comp [] ["_law_other"] (.nm 0) .val %[.call "_law_opposed" %[.xz 0,.idx (.xz 3) (.int 4)|1]|1] .nop (.cmp .In (.tup %[.idx (.xz 4) (.int 3),.xz 0|1]) (.xz 3))|1]) %[.ret (.bl false)|2] .nil,.ret (.not (.call "_law_wrong" %[.xz 0,.xz 1,.idx (.xz 3) (.int 2),.idx (.xz 3) (.int 3)|1]))|2]
theorem Z6:aB D9 HQ SX KR (top 39)=true:=by kernel_rfl
def Ee:LS:=["_law_script","_law_world_here","_law_numbers","_law_held","_law_number","_law_taken","_law_live","_law_after"]
def T2:LS:=["_law_script"]
def yn:Need:=⟨["_law_world","gone","_law_due"],[],["len"]⟩
def GQ:PT :=
  %[.ife (.cmp .NotEq (.xz 5) (.call "_law_due" %[.xz 1,.xz 2,.xz 3,.idx (.idx (.xz 1) (.int 3)) (.xz 4)|1])) %[.ret (.bl false)|2] .nil,.expr (.mt .append (.xz 2) %[.xz 4|1]),.set 3 (.xz 7)|2]
noncomputable def C6:PT :=
  %[.set 1 (.call "_law_world" %[.xz 0,.int 6|1]),.own 2 (.lst .nz),.set 3 (.lst .nz),.for_ (.tp [4,5,6,7]) .val %[.call "gone" %[.xz 1|1]|1] GQ,.ret (.cmp .Eq (.bi .len %[.xz 2|1]) (.bi .len %[.idx (.xz 1) (.int 3)|1]))|2]
theorem Ei:aB yn C6 Ee T2 (top 40)=true:=by kernel_rfl
theorem ZQ(a b:Str):Qu (.str a) (.str b)=decide (a=b):=by rw[Q9,decide_eq_true_iff];simp[Qu]
theorem dL(l:LS)(z:Str):((l.map PyData.str).any λy=>Qu y (.str z))=decide (z∈l):=by rw[QAO,Q9,wm,decide_eq_true_iff];constructor;rintro⟨x,u,e⟩;have e:Qu (.str x) (.str z)=true:=e;rw[ZQ,decide_eq_true_iff]at e;exact e▸u;intro h;exact⟨z,h,by show Qu (.str z) (.str z)=true;rw[ZQ];exact dT rfl⟩
theorem FI(l:LS):(l.map PyData.str).all PB=true:=by rw[List.all_map,Qv];exact λ_ _=>rfl
def Da(g:Str)(cut:LS)(s:Str):Bool:=!decide (s=g)&&!decide (s∈cut)
inductive Led(es:dC)(st:LS)(g:Str)(cut:LS):Str->Prop
 |st {s:Str}:s∈st->Da g cut s=true->Led es st g cut s
 |ed {a b:Str}:Led es st g cut a->(a,b)∈es->Da g cut b=true->Led es st g cut b
theorem jQ:∀{ks ns:LS},ks.Nodup->(∀s∈ks,s∈ns)->ks.length<=ns.length
 |[],_,_,_=>Qz _|s::r,ns,h,hs=>by obtain⟨k,u⟩:=Qh.mp h;have z:=hs s QE;have:=jQ (ks:=r) (ns:=ns.erase s) u λx y=>(QBJ (λ(e:x=s)=>k (e▸y))).mpr (hs x (QD _ y));rw[QAf z]at this;have f:=Wb z;rw[QM];omega
def one(y:Str):Prop:=∃c,c<128/\y=⟨#[c]⟩
def pr(p:Str×Str):D:=.tuple [.str p.1,.str p.2]
theorem XQ{α h:Type}(f:α->h)(l:List α)(a b:Option Int):xF (l.map f) a b=(xF l a b).map f:=by unfold xF;rw[QF,List.map_take,List.map_drop]
noncomputable abbrev Pt:=Str×Str
theorem eP(h:pr p=pr q):p=q:=by obtain⟨a,b⟩:=p;obtain⟨c,d⟩:=q;injection h with h;injection h with h1 h;injection h with h2 _;injection h1 with h1;injection h2 with h2;exact QCG h1 h2
theorem y6{x k:D}{r:List D}(h:x≠k):bA (x::r) k=(bA r k).map (·+1):=by unfold bA;rw[if_neg h];cases r<;>rfl
theorem Jd{x k:D}{r:List D}(h:x=k):bA (x::r) k=some 0:=by unfold bA;rw[if_pos h]
def look{α:Type}:List (Pt×α)->Pt->Option α
 |[],_=>none|e::l,p=>if e.1=p then some e.2 else look l p
def put{α:Type}:List (Pt×α)->Pt->α->List (Pt×α)
 |[],p,v=>[(p,v)]|e::l,p,v=>if e.1=p then(e.1,v)::l else e::put l p v
def OC{α:Type}(l:List (Pt×α)):List D:=l.map λe=>pr e.1
theorem PJ{α:Type}{p:Pt}:∀{l:List (Pt×α)},look l p=none->bA (OC l) (pr p)=none/\∀w,put l p w=l++[(p,w)]
 |[],_=>⟨rfl,λ_=>rfl⟩|e::l,h=>by unfold look at h;by_cases c:e.1=p;rw[if_pos c]at h;cases h;rw[if_neg c]at h;obtain⟨y,x⟩:=PJ h;refine⟨?_,λw=>?_⟩;show bA (pr e.1::OC l) (pr p)=none;rw[y6 (λz=>c (eP z)),y];rfl;show(if e.1=p then(e.1,w)::l else e::put l p w)=_;rw[if_neg c,x];rfl
theorem YC{α:Type}{p:Pt}{v:α}(f:α->T):∀{l:List (Pt×α)},look l p=some v->∃n,bA (OC l) (pr p)=some n/\(l.map λe=>f e.2)[n]?=some (f v)/\∀w,OC (put l p w)=OC l/\(l.map λe=>f e.2).set n (f w)=(put l p w).map λe=>f e.2
 |[],h=>by cases h|e::l,h=>by unfold look at h;by_cases c:e.1=p;rw[if_pos c]at h;injection h with h;refine⟨0,?_,?_,λw=>?_⟩;exact Jd (congrArg pr c);show some (f e.2)=_;rw[h];have:put (e::l) p w=(e.1,w)::l:=if_pos c;rw[this];exact⟨rfl,rfl⟩;rw[if_neg c]at h;obtain⟨n,i,k,u⟩:=YC f h;refine⟨n+1,?_,k,λw=>?_⟩;show bA (pr e.1::OC l) (pr p)=some (n+1);rw[y6 (λz=>c (eP z)),i];rfl;have:put (e::l) p w=e::put l p w:=if_neg c;rw[this];obtain⟨y,x⟩:=u w;refine⟨?_,?_⟩;show pr e.1::OC (put l p w)=pr e.1::OC l;rw[y];show f e.2::(l.map λe=>f e.2).set n (f w)=f e.2::(put l p w).map λe=>f e.2;rw[x]
theorem aD{α:Type}{p q:Pt}{w:α}:∀{l:List (Pt×α)},look (put l p w) q=if p=q then some w else look l q
 |[]=>rfl|e::l=>by
  by_cases c:e.1=p;have h:put (e::l) p w=(e.1,w)::l:=if_pos c;rw[h];show(if e.1=q then some w else look l q)=if p=q then some w else(if e.1=q then some e.2 else look l q)
  rw[c];split<;>rfl;have h:put (e::l) p w=e::put l p w:=if_neg c;rw[h];show(if e.1=q then some e.2 else look (put l p w) q)=if p=q then some w else(if e.1=q then some e.2 else look l q)
  rw[aD];by_cases d:e.1=q;rw[if_pos d,if_pos d,if_neg (λz=>c (d.trans z.symm))];rw[if_neg d,if_neg d]
theorem JW{α:Type}{p:Pt}{w:α}:∀{l:List (Pt×α)},(put l p w).length<=l.length+1
 |[]=>Qb _|e::l=>by by_cases c:e.1=p;rw[show put (e::l) p w=(e.1,w)::l from if_pos c,QM,QM];omega;have:=JW (p:=p) (w:=w) (l:=l);rw[show put (e::l) p w=e::put l p w from if_neg c,QM,QM];omega
theorem IB(p:Pt):HD true (pr p):=⟨[.s p.1,.s p.2],rfl,by simp[D4,nkds]⟩
noncomputable abbrev Inn:=List (Pt×Int)
noncomputable abbrev Rm:=List (Pt×Inn)
def iD(l:Inn):T:=.dct true (OC l) (l.map λe=>T.d (.int e.2))
def UA(r:Rm):T:=.dct true (OC r) (r.map λe=>iD e.2)
def sdf(r:Rm)(p:Pt):Rm:=match look r p with
 |some _=>r|none=>r++[(p,[])]
theorem mW(hl:r.length<sizeLine)(q:Q (UA (sdf r p))):Al (.d (pr p)) (UA r) Q:=by
 refine⟨OC r,_,rfl,IB p,by unfold OC;rw[QF];exact hl,?_⟩;unfold sdf at q;cases h:look r p with
 |some v=>rw[h]at q;obtain⟨n,x,_⟩:=YC iD h;exact .inl ⟨n,x,q⟩|none =>
  rw[h]at q;refine .inr ⟨(PJ h).1,?_⟩;have e:UA (r++[(p,[])])=.dct true (OC r++[pr p]) ((r.map λe=>iD e.2)++[.dct true [] []]):=by unfold UA OC;rw[QR,QR];rfl
  show Q (T.dct true (OC r++[pr p]) ((r.map λe=>iD e.2)++[.dct true [] []]));rw[<- e];exact q
theorem fP(hl:l.length<sizeLine)(q:Q (iD (put l p v))):T7 (iD l) (.d (pr p)) (.d (.int v)) Q:=by
 refine⟨IB p,by unfold OC;rw[QF];exact hl,?_⟩;have e:YH true (OC l) (l.map λe=>T.d (.int e.2)) (pr p) (.d (.int v))=iD (put l p v):=by
  unfold YH;cases h:look l p with|none=>obtain⟨x,y⟩:=PJ h;rw[x,y];unfold iD OC;rw[QR,QR];rfl|some u=>obtain⟨n,x,y,f⟩:=YC (λi:Int=>T.d (.int i)) h;rw[x];obtain⟨k,z⟩:=f v;show T.dct true (OC l) ((l.map λe=>T.d (.int e.2)).set n (T.d (.int v)))=_;unfold iD;rw[k,z]
 show Q (YH true (OC l) (l.map λe=>T.d (.int e.2)) (pr p) (.d (.int v)));rw[e];exact q
theorem zI{Q:T->(T->T)->Prop}(h:look r p=some l)(q:∀f:T->T,(∀x,f (iD x)=UA (put r p x))->Q (iD l) f):Dl (.d (pr p)) (UA r) Q:=by obtain⟨n,i,k,u⟩:=YC iD h;refine⟨true,OC r,_,n,iD l,rfl,IB p,i,k,q _ λx=>?_⟩;obtain⟨z,y⟩:=u x;show T.dct true (OC r) ((r.map λe=>iD e.2).set n (iD x))=_;unfold UA;rw[z,y]
def KA:Pt:=("","begin")
def tO(n:Str):Pt:=(n,"to")
def fR(n:Str):Pt:=(n,"from")
theorem Rq:("begin":Str)≠"to":=by decide +kernel
theorem Sq:("begin":Str)≠"from":=by decide +kernel
theorem Oq:("to":Str)≠"from":=by decide +kernel
theorem TB:KA≠tO a:=λh=>Rq (congrArg Prod.snd h)
theorem ZE:KA≠fR a:=λh=>Sq (congrArg Prod.snd h)
theorem HA:tO a≠fR b:=λh=>Oq (congrArg Prod.snd h)
theorem UB(h:tO a=tO b):a=b:=congrArg qP h
theorem FH(h:fR a=fR b):a=b:=congrArg qP h
def OZ(p q:Pt):Prop:=(p=KA/\∃n,q=tO n)∨(∃n,p=tO n/\q=fR n)∨(∃a b,a≠b/\p=fR a/\q=tO b)
theorem yF(h:OZ p q):¬ OZ q p:=by
 rintro k;rcases h with⟨rfl,n,rfl⟩| ⟨n,rfl,rfl⟩| ⟨a,b,u,rfl,rfl⟩<;>rcases k with⟨x,m,y⟩| ⟨m,x,y⟩| ⟨c,d,z,x,y⟩
 exact TB x.symm;exact ZE y;exact HA x;exact ZE x.symm;exact HA x.symm;exact z ((FH x).symm.trans (UB y));exact TB x.symm;exact u ((FH y).trans (UB x).symm);exact HA x
theorem yG(h:OZ p q):p≠q:=λe=>yF h (by rw[e]at h ⊢;exact h)
noncomputable abbrev Wy:=Pt×Pt×Int
def lk(r:Rm)(p:Pt):Inn:=(look r p).getD []
noncomputable def sB(r:Rm)(w:Wy):Rm:=put (put (sdf (sdf r w.1) w.2.1) w.1 (put (lk (sdf (sdf r w.1) w.2.1) w.1) w.2.1 w.2.2)) w.2.1 (put (lk (put (sdf (sdf r w.1) w.2.1) w.1 (put (lk (sdf (sdf r w.1) w.2.1) w.1) w.2.1 w.2.2)) w.2.1) w.1 0)
theorem vS{α:Type}{p q:Pt}{v:α}:∀{l:List (Pt×α)},look (l++[(p,v)]) q=(look l q).or (if p=q then some v else none)
 |[]=>rfl|e::l=>by show(if e.1=q then some e.2 else look (l++[(p,v)]) q)=(if e.1=q then some e.2 else look l q).or (if p=q then some v else none);by_cases c:e.1=q;rw[if_pos c,if_pos c];rfl;rw[if_neg c,if_neg c];exact vS
theorem zS:look (sdf r p) q=(look r q).or (if p=q then some [] else none):=by
 unfold sdf;cases h:look r p with
 |some v =>
  show look r q=_;cases y:look r q with
  |some x=>rfl|none =>
   show none=if p=q then some [] else none
   rw[if_neg];intro e;rw[e,y]at h;cases h
 |none=>show look (r++[(p,[])]) q=_;exact vS
theorem oP:(sdf r p).length<=r.length+1:=by unfold sdf;split;omega;rw[QJ,qF];omega
theorem lI{α:Type}{p:Pt}{w:α}{e:Pt×α}:∀{l:List (Pt×α)},e∈put l p w->e=(p,w)∨e∈l
 |[],h=>.inl (QI.mp h)|x::l,h=>by by_cases c:x.1=p;rw[show put (x::l) p w=(x.1,w)::l from if_pos c]at h;rcases QL.mp h with h|h;exact .inl (by rw[h,c]);exact .inr (QD _ h);rw[show put (x::l) p w=x::put l p w from if_neg c]at h;rcases QL.mp h with h|h;exact .inr (by rw[h];exact QE);exact(lI h).imp_right (QD _)
theorem sP{α:Type}{p:Pt}{w:α}{q:Pt}:∀{l:List (Pt×α)},(∃v,(q,v)∈put l p w)↔q=p∨∃v,(q,v)∈l
 |[]=>by
  constructor;rintro⟨v,h⟩;exact .inl (congrArg qP (QI.mp h));rintro(rfl|⟨v,h⟩)
  ·exact⟨w,QI.mpr rfl⟩
  exact(nomatch h)
 |x::l=>by
  by_cases c:x.1=p;rw[show put (x::l) p w=(x.1,w)::l from if_pos c];constructor;rintro⟨v,h⟩;rcases QL.mp h with h|h;exact .inl ((congrArg qP h).trans c);exact .inr ⟨v,QD _ h⟩;rintro(rfl|⟨v,h⟩)
  ·exact⟨w,by rw[c];exact QE⟩
  rcases QL.mp h with h|h
  ·exact⟨w,by rw[<- h];exact QE⟩
  exact⟨v,QD _ h⟩;rw[show put (x::l) p w=x::put l p w from if_neg c];have y:=sP (p:=p) (w:=w) (q:=q) (l:=l);constructor;rintro⟨v,h⟩;rcases QL.mp h with h|h;exact .inr ⟨v,by rw[h];exact QE⟩;exact(y.mp ⟨v,h⟩).imp_right λ⟨v,h⟩=>⟨v,QD _ h⟩
  rintro(h|⟨v,h⟩)
  ·obtain⟨v,h⟩:=y.mpr (.inl h)
   exact⟨v,QD _ h⟩
  rcases QL.mp h with h|h
  ·exact⟨v,by rw[h];exact QE⟩
  obtain⟨v,h⟩:=y.mpr (.inr ⟨v,h⟩);exact⟨v,QD _ h⟩
def PZ(r:Rm)(p q:Pt):Prop:=∃v,(q,v)∈lk r p
def Key(r:Rm)(p:Pt):Prop:=∃l,look r p=some l
def Pos(r:Rm):Prop:=∀p,∀e∈lk r p,(0<e.2↔OZ p e.1)
def l7(r:Rm):Prop:=∀p q,PZ r p q->Key r q
def Sz(r:Rm)(n:Nat):Prop:=r.length<=n/\∀p,(lk r p).length<=n
theorem kE:lk (put r p l) q=if p=q then l else lk r q:=by unfold lk;rw[aD];split<;>rfl
theorem zE:lk (sdf r p) q=lk r q:=by
 unfold lk;rw[zS];cases look r q with|some x=>rfl|none=>show(if p=q then some [] else none).getD []=[];split<;>rfl
theorem XI:Key (put r p l) q↔p=q∨Key r q:=by unfold Key;rw[aD];by_cases h:p=q;rw[if_pos h];exact⟨λ_=>.inl h,λ_=>⟨_,rfl⟩⟩;rw[if_neg h];exact⟨.inr,λz=>z.resolve_left h⟩
theorem PD:Key (sdf r p) q↔p=q∨Key r q:=by
 unfold Key;rw[zS];cases look r q with|some x=>exact⟨λ_=>.inr ⟨_,rfl⟩,λ_=>⟨_,rfl⟩⟩|none=>show(∃l,(if p=q then some [] else none)=some l)↔_;by_cases h:p=q;rw[if_pos h];exact⟨λ_=>.inl h,λ_=>⟨_,rfl⟩⟩;rw[if_neg h];exact⟨λ⟨_,e⟩=>(nomatch e),λz=>(z.resolve_left h)⟩
theorem VI(h:w.1≠w.2.1)(p:Pt):lk (sB r w) p=if w.2.1=p then put (lk r p) w.1 0 else if w.1=p then put (lk r p) w.2.1 w.2.2 else lk r p:=by unfold sB;rw[kE,kE,kE,zE,zE,zE,zE,if_neg h,zE,zE];by_cases y:w.2.1=p;rw[if_pos y,if_pos y,y];rw[if_neg y,if_neg y];by_cases x:w.1=p;rw[if_pos x,if_pos x,x];rw[if_neg x,if_neg x]
theorem kG:Key (sB r w) p↔p=w.1∨p=w.2.1∨Key r p:=by
 unfold sB;rw[XI,XI,PD,PD];constructor;rintro(h|h|h|h|h)
 ·exact .inr (.inl h.symm)
 exact .inl h.symm;exact .inr (.inl h.symm);exact .inl h.symm;exact .inr (.inr h);rintro(h|h|h)
 ·exact .inr (.inl h.symm)
 exact .inl h.symm;exact .inr (.inr (.inr (.inr h)))
theorem MI(h:w.1≠w.2.1):PZ (sB r w) p q↔PZ r p q∨(p=w.1/\q=w.2.1)∨(p=w.2.1/\q=w.1):=by
 unfold PZ;rw[VI h];by_cases x:w.2.1=p;rw[if_pos x,sP];constructor;rintro(e|e)
 ·exact .inr (.inr ⟨x.symm,e⟩)
 exact .inl e;rintro(e|⟨u,y⟩| ⟨u,y⟩)
 ·exact .inr e
 exact absurd (u.symm.trans x.symm) h;exact .inl y;rw[if_neg x];by_cases k:w.1=p;rw[if_pos k,sP];constructor;rintro(e|e)
 ·exact .inr (.inl ⟨k.symm,e⟩)
 exact .inl e;rintro(e|⟨u,y⟩| ⟨u,y⟩)
 ·exact .inr e
 exact .inl y;exact absurd u.symm x;rw[if_neg k];exact⟨.inl,λz=>z.elim id λz=>z.elim (λe=>absurd e.1.symm k) λe=>absurd e.1.symm x⟩
def VG(w:Wy):Prop:=OZ w.1 w.2.1/\0<w.2.2
theorem v3(g:VG w)(y:Pos r):Pos (sB r w):=by intro p e h;rw[VI (yG g.1)]at h;by_cases k:w.2.1=p;rw[if_pos k]at h;rcases lI h with z|z;rw[z,<- k];exact⟨λx=>absurd x (wk 0),λx=>absurd x (yF g.1)⟩;exact y p e z;rw[if_neg k]at h;by_cases u:w.1=p;rw[if_pos u]at h;rcases lI h with z|z;rw[z,<- u];exact⟨λ_=>g.1,λ_=>g.2⟩;exact y p e z;rw[if_neg u]at h;exact y p e h
theorem u6(g:VG w)(x:l7 r):l7 (sB r w):=by
 intro p q h;rw[kG];rcases(MI (yG g.1)).mp h with h|⟨_,h⟩| ⟨_,h⟩
 exact .inr (.inr (x p q h));exact .inr (.inl h);exact .inl h
theorem TL{α:Type}{w:α}{l:List (Pt×α)}{n:Nat}(h:l.length<=n):(put l p w).length<=n+1:=QY JW (by omega)
theorem tP{α:Type}{p:Pt}{w:α}:∀{l:List (Pt×α)},(look l p).isSome=true->(put l p w).length=l.length
 |[],h=>by cases h|e::l,h=>by by_cases c:e.1=p;rw[show put (e::l) p w=(e.1,w)::l from if_pos c];rfl;rw[show put (e::l) p w=e::put l p w from if_neg c,QM,QM];rw[show look (e::l) p=look l p from if_neg c]at h;rw[tP h]
theorem oS(h:Key r p):(look r p).isSome=true:=by obtain⟨l,e⟩:=h;rw[e];rfl
theorem k5:(sB r w).length<=r.length+2:=by have x:Key (sdf (sdf r w.1) w.2.1) w.1:=PD.mpr (.inr (PD.mpr (.inl rfl)));have h:Key (sdf (sdf r w.1) w.2.1) w.2.1:=PD.mpr (.inl rfl);unfold sB;rw[tP (oS (XI.mpr (.inr h))),tP (oS x)];have:=oP (r:=r) (p:=w.1);have:=oP (r:=sdf r w.1) (p:=w.2.1);omega
theorem yI{n:Nat}(g:w.1≠w.2.1)(h:Sz r n):Sz (sB r w) (n+2):=by
 refine⟨QY k5 (by have:=h.1;omega),λp=>?_⟩;rw[VI g];have x:=h.2 p;split;exact QY (TL x) (by omega);split
 ·exact QY (TL x) (by omega)
 omega
theorem eX:∀{ws:List Wy}{r:Rm},(∀w∈ws,VG w)->∀{p q:Pt},PZ (ws.foldl sB r) p q↔PZ r p q∨(∃v,(p,q,v)∈ws)∨∃v,(q,p,v)∈ws
 |[],r,_,p,q=>⟨.inl,λz=>z.elim id λz=>z.elim (λ⟨_,z⟩=>(nomatch z)) λ⟨_,z⟩=>(nomatch z)⟩
 |w::ws,r,h,p,q=>by
  rw[QAD,eX (λw x=>h w (QD _ x)),MI (yG (h w QE).1)];constructor;rintro((z|⟨rfl,rfl⟩| ⟨rfl,rfl⟩)|⟨v,z⟩| ⟨v,z⟩)
  ·exact .inl z
  exact .inr (.inl ⟨_,QE⟩);exact .inr (.inr ⟨_,QE⟩);exact .inr (.inl ⟨v,QD _ z⟩);exact .inr (.inr ⟨v,QD _ z⟩);rintro(z|⟨v,z⟩| ⟨v,z⟩)
  ·exact .inl (.inl z)
  rcases QL.mp z with z|z
  ·rw[<- z]
   exact .inl (.inr (.inl ⟨rfl,rfl⟩))
  exact .inr (.inl ⟨v,z⟩);rcases QL.mp z with z|z
  ·rw[<- z]
   exact .inl (.inr (.inr ⟨rfl,rfl⟩))
  exact .inr (.inr ⟨v,z⟩)
theorem KT:∀{ws:List Wy}{r:Rm}{n:Nat},(∀w∈ws,VG w)->Pos r->l7 r->Key r KA->Sz r n->Pos (ws.foldl sB r)/\l7 (ws.foldl sB r)/\Key (ws.foldl sB r) KA/\Sz (ws.foldl sB r) (n+2 * ws.length)
 |[],r,n,_,h1,h2,h3,h4=>⟨h1,h2,h3,h4⟩|w::ws,r,n,h,h1,h2,h3,h4=>by have g:=h w QE;have:=KT (ws:=ws) (r:=sB r w) (n:=n+2) (λw x=>h w (QD _ x)) (v3 g h1) (u6 g h2) (kG.mpr (.inr (.inr h3))) (yI (yG g.1) h4);rw[QAD,QM,show n+2 * (ws.length+1)=n+2+2 * ws.length by omega];exact this
def IQ(g:Str)(n:Str):List Wy:=if n=g then[] else[(tO n,fR n,1),(KA,tO n,2)]
def RT(g:Str)(e:Str×Str):List Wy:=if e.1=g∨e.1=e.2 then[] else[(tO e.1,fR e.1,1),(tO e.2,fR e.2,1),(fR e.1,tO e.2,2)]
def xH:Rm:=[(KA,[])]
def jA(es:dC)(st:LS)(g:Str):Rm:=(es.flatMap (RT g)).foldl sB ((st.flatMap (IQ g)).foldl sB xH)
theorem xq:(0:Int)<1:=by decide
theorem Tt:(0:Int)<2:=by decide
theorem EV:(IQ g n).length<=2:=by unfold IQ;split;exact Qz _;exact Qb _
theorem IV:(RT g e).length<=3:=by unfold RT;split;exact Qz _;exact Qb _
theorem mL:∀w∈IQ g n,VG w:=by
 intro w h;unfold IQ at h;split at h;exact(nomatch h);rcases QL.mp h with rfl|h
 ·exact⟨.inr (.inl ⟨n,rfl,rfl⟩),xq⟩
 rw[QI.mp h];exact⟨.inl ⟨rfl,n,rfl⟩,Tt⟩
theorem rL:∀w∈RT g e,VG w:=by
 intro w x;unfold RT at x;split at x;exact(nomatch x);rename_i h;rcases QL.mp x with rfl|x;exact⟨.inr (.inl ⟨e.1,rfl,rfl⟩),xq⟩;rcases QL.mp x with rfl|x
 ·exact⟨.inr (.inl ⟨e.2,rfl,rfl⟩),xq⟩
 rw[QI.mp x];exact⟨.inr (.inr ⟨e.1,e.2,λz=>h (.inr z),rfl,rfl⟩),Tt⟩
theorem FM{α:Type}{f:α->List Wy}{k:Nat}(h:∀x,(f x).length<=k):∀(l:List α),(l.flatMap f).length<=k * l.length
 |[]=>Qb _|x::l=>by have:=FM h l;have:=h x;rw[Wg,QJ,QM,Nat.mul_succ];omega
theorem RG{α:Type}{f:α->List Wy}(h:∀x,∀w∈f x,VG w)(l:List α):∀w∈l.flatMap f,VG w:=λw z=>by obtain⟨x,_,y⟩:=wq.mp z;exact h x w y
structure RmOk(r:Rm)(n:Nat):Prop where
 pos:Pos r
 dom:l7 r
 bg:Key r KA
 sz:Sz r n
theorem rE:RmOk xH 1:=by
 have e:∀p,lk xH p=[]:=λp=>by show(if KA=p then some [] else none).getD []=[];split<;>rfl
 refine⟨λp y x=>?_,λp q ⟨v,h⟩=>?_,⟨[],if_pos rfl⟩,Qb _,λp=>?_⟩;rw[e]at x;exact(nomatch x);rw[e]at h;exact(nomatch h);rw[e];exact Qz _
theorem RmOk.add{r:Rm}{n:Nat}(h:RmOk r n){ws:List Wy}(g:∀w∈ws,VG w):RmOk (ws.foldl sB r) (n+2 * ws.length):=by obtain⟨u,z,y,x⟩:=KT g h.pos h.dom h.bg h.sz;exact⟨u,z,y,x⟩
theorem GR{es:dC}{st:LS}(z:es.length<=126)(y:st.length<=11):RmOk (jA es st g) 1000:=by have a:=(rE.add (RG (f:=IQ g) (λ_=>mL) st)).add (RG (f:=RT g) (λ_=>rL) es);have x:=FM (f:=IQ g) (k:=2) (λ_=>EV) st;have h:=FM (f:=RT g) (k:=3) (λ_=>IV) es;exact⟨a.pos,a.dom,a.bg,QY a.sz.1 (by omega),λp=>QY (a.sz.2 p) (by omega)⟩
def be(r:Rm)(p q:Pt):Prop:=∃v,(q,v)∈lk r p/\0<v
inductive Rch(r:Rm):Pt->Prop
 |bg:Rch r KA
 |go {p q:Pt}:Rch r p->be r p q->Rch r q
theorem Fn:(p,q,v)∈IQ g n↔n≠g/\((p,q,v)=(tO n,fR n,1)∨(p,q,v)=(KA,tO n,2)):=by unfold IQ;split;rename_i h;exact⟨λz=>(nomatch z),λz=>absurd h z.1⟩;rename_i h;rw[QL,QI];exact⟨λz=>⟨h,z⟩,λz=>z.2⟩
theorem Gn:(p,q,v)∈RT g e↔(e.1≠g/\e.1≠e.2)/\((p,q,v)=(tO e.1,fR e.1,1)∨(p,q,v)=(tO e.2,fR e.2,1)∨(p,q,v)=(fR e.1,tO e.2,2)):=by unfold RT;split;rename_i h;exact⟨λz=>(nomatch z),λz=>h.elim (λh=>absurd h z.1.1) λh=>absurd h z.1.2⟩;rename_i h;rw[QL,QL,QI];exact⟨λz=>⟨⟨λe=>h (.inl e),λe=>h (.inr e)⟩,z⟩,λz=>z.2⟩
theorem iE{cut:LS}{s:Str}:Da g cut s=true↔s≠g/\s∉cut:=by unfold Da;rw[Qa,Q6,Q6,decide_eq_false_iff_not,decide_eq_false_iff_not]
end
section
variable{es:dC}{st:LS}{g:Str}{x:LS}
theorem YM{s:Str}(h:Led es st g x s):s≠g/\s∉x:=by
 cases h with|st _ h=>exact iE.mp h|ed _ _ h=>exact iE.mp h
end
section
variable{r:Rm}{ks:List Pt}{vs:List D}
theorem L0:∀{ws:List Wy}{r:Rm}{n:Nat},(∀w∈ws,VG w)->Sz r n->Sz (ws.foldl sB r) (n+2 * ws.length)
 |[],r,n,_,h4=>h4|w::ws,r,n,h,h4=>by have:=L0 (ws:=ws) (r:=sB r w) (n:=n+2) (λw x=>h w (QD _ x)) (yI (yG (h w QE).1) h4);rw[QAD,QM,show n+2 * (ws.length+1)=n+2+2 * ws.length by omega];exact this
inductive CF(r:Rm):List Pt->List D->Prop
 |bg:CF r [KA] [.none]
 |add {ks:List Pt}{vs:List D}{p q:Pt}:CF r ks vs->p∈ks->be r p q->q∉ks->CF r (ks++[q]) (vs++[pr p])
theorem CF.len(h:CF r ks vs):vs.length=ks.length:=by
 induction h with|bg=>rfl|add _ _ _ _ x=>rw[QJ,QJ,x];rfl
theorem CF.hb(h:CF r ks vs):KA∈ks:=by
 induction h with|bg=>exact QE|add _ _ _ _ x=>exact Ql _ x
theorem CF.rch(h:CF r ks vs):∀k∈ks,Rch r k:=by
 induction h with|bg=>intro k hk;rw[QI.mp hk];exact .bg|add _ y w _ x=>intro k hk;rcases Qe.mp hk with z|z;exact x k z;rw[QI.mp z];exact .go (x _ y) w
theorem CF.nd(h:CF r ks vs):ks.Nodup:=by
 induction h with
 |bg=>exact Qh.mpr ⟨λz=>(nomatch z),Q0⟩
 |add _ _ _ n x=>refine qX.mpr ⟨x,Qh.mpr ⟨λz=>(nomatch z),Q0⟩,λa y b hb z=>?_⟩;rw[QI.mp hb]at z;exact n (z▸y)
theorem cI(x:l7 r)(hb:Key r KA){p:Pt}(h:Rch r p):Key r p:=by
 cases h with|bg=>exact hb|go _ w=>obtain⟨v,m,_⟩:=w;exact x _ _ ⟨v,m⟩
theorem mQ{p:Pt}{l:Inn}:∀{r:Rm},look r p=some l->p∈r.map (·.1)
 |[],h=>by cases h|e::r,h=>by by_cases c:e.1=p;rw[<- c];exact QE;rw[show look (e::r) p=look r p from if_neg c]at h;exact QD _ (mQ (r:=r) h)
theorem MG:∀{ks ns:List Pt},ks.Nodup->(∀s∈ks,s∈ns)->ks.length<=ns.length
 |[],_,_,_=>Qz _|s::r,ns,h,hs=>by obtain⟨v,u⟩:=Qh.mp h;have z:=hs s QE;have:=MG (ks:=r) (ns:=ns.erase s) u λx y=>(QBJ (λ(e:x=s)=>v (e▸y))).mpr (hs x (QD _ y));rw[QAf z]at this;have w:=Wb z;rw[QM];omega
theorem CF.le(y:l7 r)(hb:Key r KA)(h:CF r ks vs):ks.length<=r.length:=by
 have:=MG (ns:=r.map (·.1)) h.nd λs x=>by obtain⟨l,e⟩:=cI y hb (h.rch s x);exact mQ e
 rw[QF]at this;exact this
structure Srch(r:Rm)(ks:List Pt)(vs:List D)(ws:List Pt):Prop where
 cf:CF r ks vs
 sub:∀w∈ws,w∈ks
 clo:∀k∈ks,k∉ws->∀q,be r k q->q∈ks
structure Srch1(r:Rm)(here:Pt)(ks:List Pt)(vs:List D)(ws:List Pt)(l:Inn):Prop where
 cf:CF r ks vs
 sub:∀w∈ws,w∈ks
 clo:∀k∈ks,k∉ws->k≠here->∀q,be r k q->q∈ks
 her:here∈ks
 don:∀e∈lk r here,0<e.2->e.1∈ks∨e∈l
 all:∀e∈l,e∈lk r here
end
section
variable{r:Rm}{ks ws:List Pt}{vs:List D}
theorem Ml:Srch r [KA] [.none] [KA]:=⟨.bg,λ_ h=>h,λk h n=>absurd h n⟩
theorem Srch.pop{w:Pt}(h:Srch r ks vs (w::ws)):Srch1 r w ks vs ws (lk r w):=by refine⟨h.cf,λx v=>h.sub x (QD _ v),λk hk n u=>h.clo k hk λz=>?_,h.sub w QE,λe y _=>.inr y,λe y=>y⟩;rcases QL.mp z with z|z;exact u z;exact n z
theorem Srch1.skip{y:Pt}{e:Pt×Int}{l:Inn}(h:Srch1 r y ks vs ws (e::l))(c:0<e.2->e.1∈ks):Srch1 r y ks vs ws l:=by
 refine⟨h.cf,h.sub,h.clo,h.her,λx u p=>?_,λx u=>h.all x (QD _ u)⟩;rcases h.don x u p with z|z;exact .inl z;rcases QL.mp z with z|z
 ·rw[z]at p ⊢;exact .inl (c p)
 exact .inr z
theorem Srch1.add{u:Pt}{e:Pt×Int}{l:Inn}(h:Srch1 r u ks vs ws (e::l))(c:0<e.2)(n:e.1∉ks):Srch1 r u (ks++[e.1]) (vs++[pr u]) (ws++[e.1]) l:=by
 have f:=h.all e QE;refine⟨h.cf.add h.her ⟨e.2,f,c⟩ n,λx v=>?_,λk hk a b q w=>?_,Ql _ h.her,λx v p=>?_,λx v=>h.all x (QD _ v)⟩;rcases Qe.mp v with z|z
 ·exact Ql _ (h.sub x z)
 exact QZ _ z;rcases Qe.mp hk with z|z
 ·exact Ql _ (h.clo k z (λy=>a (Ql _ y)) b q w)
 exact absurd (QZ _ z) a;rcases h.don x v p with z|z
 ·exact .inl (Ql _ z)
 rcases QL.mp z with z|z
 ·rw[z];exact .inl (QZ _ QE)
 exact .inr z
theorem Srch1.fin{x:Pt}(h:Srch1 r x ks vs ws []):Srch r ks vs ws:=by refine⟨h.cf,h.sub,λk hk n q w=>?_⟩;by_cases e:k=x;subst e;obtain⟨v,m,p⟩:=w;rcases h.don (q,v) m p with z|z;exact z;exact(nomatch z);exact h.clo k hk n e q w
theorem Srch.done(h:Srch r ks vs [])(p:Pt):p∈ks↔Rch r p:=by
 refine⟨h.cf.rch p,λz=>?_⟩;induction z with|bg=>exact h.cf.hb|go _ w x=>exact h.clo _ x (λz=>(nomatch z)) _ w
end
def eC(Q:T->LT->Prop):PEnds:={ nx:=λh=>aU (CA [0] h) (Q (.d .none)),rt:=λt h=>aU (CA [0] h) (Q t) }
theorem SJ{Ψ:PEv}{b:PT}{p:PSp}{N x:LS}{ds:LT}{Q:T->LT->Prop}(ρ:kA)(hl:ds.length=x.length)(hc:YB 0 p.md x.length=[0])(y:fB N p.md ds=ρ)(h:pF Ψ b (eC Q) ρ):ds.length=x.length/\pF Ψ b (YD p x.length Q) (fB N p.md ds):=by
 have e:YD p x.length Q=eC Q:=by unfold YD;rw[hc];rfl
 rw[e,y];exact⟨hl,h⟩
def VZ(r:Rm)(h t:Pt)(v:Int):kA:=[oW (UA r),bD (pr h),bD (pr t),bD (.int v)]
section
variable{Ψ:PEv}{Z:PEnds}{q:PT}{r:Rm}{h t:Pt}{v:Int}
theorem As(hl:r.length<sizeLine)(k:pF Ψ q Z (VZ (sdf r h) h t v)):pF Ψ (.seq (.sdf 0 (.xz 1)) q) Z (VZ r h t v):=by delta VZ at k ⊢;simp_arith[↓zA];refine⟨rfl,mW hl ?_⟩;exact k
theorem Ts(hl:r.length<sizeLine)(k:pF Ψ q Z (VZ (sdf r t) h t v)):pF Ψ (.seq (.sdf 0 (.xz 2)) q) Z (VZ r h t v):=by delta VZ at k ⊢;simp_arith[↓zA];refine⟨rfl,mW hl ?_⟩;exact k
theorem Ss{l:Inn}(e:look r h=some l)(hl:l.length<sizeLine)(k:pF Ψ q Z (VZ (put r h (put l t v)) h t v)):pF Ψ (.seq (.six (.idx (.xz 0) (.xz 1)) (.xz 2) (.xz 3)) q) Z (VZ r h t v):=by delta VZ at k ⊢;simp_arith[↓zA];refine zI e λf x=>fP hl ?_;rw[x];exact k
theorem Rs{l:Inn}(e:look r t=some l)(hl:l.length<sizeLine)(k:pF Ψ q Z (VZ (put r t (put l h 0)) h t v)):pF Ψ (.seq (.six (.idx (.xz 0) (.xz 2)) (.xz 1) (.int 0)) q) Z (VZ r h t v):=by delta VZ at k ⊢;simp_arith[↓zA];refine zI e λf x=>fP hl ?_;rw[x];exact k
end
section
variable{r:Rm}{K:T->LT->Prop}{Ψ:PEv}
theorem eE{p:Pt}(h:Key r p):look r p=some (lk r p):=by obtain⟨l,e⟩:=h;unfold lk;rw[e];rfl
noncomputable def MD:PSp where
 md:=[.chg]
 run:=λx Q _=>∃(r:Rm) (w:Wy),x=[UA r,.d (pr w.1),.d (pr w.2.1),.d (.int w.2.2)]/\(w.1≠w.2.1/\Sz r 5000)/\Q (.d .none) [UA (sB r w)]
 mono:=λh _ z=>by obtain⟨r,w,e,l,q⟩:=z;exact⟨r,w,e,l,h _ _ q⟩
theorem OL(w:Wy){E:XE}(h:w.1≠w.2.1)(s:Sz r 5000)(q:K (.d .none) [UA (sB r w)]):eB MD [UA r,.d (pr w.1),.d (pr w.2.1),.d (.int w.2.2)] K E:=⟨r,w,rfl,⟨h,s⟩,q⟩
theorem J9(ds Q E)(h:MD.run ds Q E):EG Ψ OO MD kP uM ds Q:=by obtain⟨r,w,rfl,⟨u,x⟩,q⟩:=h;refine SJ (VZ r w.1 w.2.1 w.2.2) rfl rfl rfl ?_;have b:=x.1;have a:=oP (r:=r) (p:=w.1);have z:Key (sdf (sdf r w.1) w.2.1) w.1:=PD.mpr (.inr (PD.mpr (.inl rfl)));have y:Key (sdf (sdf r w.1) w.2.1) w.2.1:=PD.mpr (.inl rfl);have k:=x.2 w.1;have v:=x.2 w.2.1;refine As (by omega) (Ts (by omega) (Ss (eE z) (by rw[zE,zE];omega) (Rs (eE (XI.mpr (.inr y))) (by rw[kE,if_neg u,zE,zE];omega) ?_)));exact q
def OE:PSp where
 md:=[.chg]
 run:=λx Q _=>∃(r:Rm) (n:Str),x=[UA r,.d (.str n)]/\Sz r 5000/\Q (.d .none) [UA (sB r (tO n,fR n,1))]
 mono:=λh _ z=>by obtain⟨r,w,e,l,q⟩:=z;exact⟨r,w,e,l,h _ _ q⟩
theorem PL{n:Str}{E:XE}(s:Sz r 5000)(q:K (.d .none) [UA (sB r (tO n,fR n,1))]):eB OE [UA r,.d (.str n)] K E:=⟨r,n,rfl,s,q⟩
theorem Y9(y:Ψ.sp "add_way"=MD)(ds Q E)(h:OE.run ds Q E):EG Ψ SH OE rN rK ds Q:=by obtain⟨r,n,rfl,x,q⟩:=h;refine SJ [oW (UA r),bD (.str n)] rfl rfl rfl ?_;delta SH;simp_arith[↓IG (md:=[]) y rfl rfl];refine⟨by omega,by omega,?_⟩;exact OL (tO n,fR n,1) HA x ⟨_,rfl,q⟩
def LZ(es:dC)(st:LS)(g:Str)(r:Rm)(o4 o5 o6:Option Sl):kA:=[bD (.list (es.map pr)),bD (.tuple (st.map PyData.str)),bD (.str g),oW (UA r),o4,o5,o6]
end
section
variable{Ψ:PEv}{Z:PEnds}{es:dC}{st:LS}{g:Str}{r:Rm}
theorem Iq(h:Ψ.va "BEGIN"=some (pr KA)){q:PT}{o3 o4 o5 o6:Option Sl}(k:pF Ψ q Z (LZ es st g xH o4 o5 o6)) :
  pF Ψ (.seq (.own 3 (.dsp (.glo "BEGIN") (.dnew true))) q) Z [bD (.list (es.map pr)),bD (.tuple (st.map PyData.str)),bD (.str g),o3,o4,o5,o6]:=by
 simp_arith[↓rH h];exact⟨IB KA,k⟩
theorem Aq(b:Ψ.sp "add_name"=OE)(a:Ψ.sp "add_way"=MD)(v:Ψ.va "BEGIN"=some (pr KA))(u:Ψ.va "WIDE"=some (.int 2)){n:Str}{o5 o6:Option Sl}(h:Sz r 4900)(k:Z.nx (LZ es st g ((IQ g n).foldl sB r) (bD (.str n)) o5 o6)) :
  pF Ψ cF Z (LZ es st g r (bD (.str n)) o5 o6):=by
 delta LZ at k ⊢;delta cF;simp_arith[↓rH v,↓rH u,↓IG (md:=[]) b rfl rfl,↓IG (md:=[]) a rfl rfl];by_cases e:n=g;rw[dT e];unfold IQ at k;rw[if_pos e]at k;exact k;rw[dF e];unfold IQ at k;rw[if_neg e]at k;have z:Sz r 5000:=⟨QY h.1 (by omega),λp=>QY (h.2 p) (by omega)⟩
 have x:=yI (w:=(tO n,fR n,1)) HA h;have y:Sz (sB r (tO n,fR n,1)) 5000:=⟨QY x.1 (by omega),λp=>QY (x.2 p) (by omega)⟩
 refine PL z ⟨_,rfl,?_⟩;refine⟨by omega,?_⟩;exact OL (KA,tO n,2) TB y ⟨_,rfl,k⟩
theorem Tq(j:Ψ.sp "add_name"=OE)(i:Ψ.sp "add_way"=MD)(f:Ψ.va "WIDE"=some (.int 2)){a b:Str}{o4:Option Sl}(y:Sz r 4900)(k:Z.nx (LZ es st g ((RT g (a,b)).foldl sB r) o4 (bD (.str a)) (bD (.str b)))) :
  pF Ψ bF Z (LZ es st g r o4 (bD (.str a)) (bD (.str b))):=by
 delta LZ at k ⊢;delta bF;simp_arith[↓rH f,↓IG (md:=[]) j rfl rfl,↓IG (md:=[]) i rfl rfl];unfold RT at k;by_cases e:a=g;rw[dT e];rw[if_pos (.inl e)]at k;exact k;rw[dF e];by_cases h:a=b;rw[dT h];rw[if_pos (.inr h)]at k;exact k;rw[dF h];rw[if_neg (λz=>z.elim e h)]at k;have v:Sz r 5000:=⟨QY y.1 (by omega),λp=>QY (y.2 p) (by omega)⟩
 have x:=yI (w:=(tO a,fR a,1)) HA y;have u:=yI (w:=(tO b,fR b,1)) HA x;refine PL v ⟨_,rfl,?_⟩;refine PL ⟨QY x.1 (by omega),λp=>QY (x.2 p) (by omega)⟩ ⟨_,rfl,?_⟩;refine⟨by omega,by omega,?_⟩;exact OL (fR a,tO b,2) HA.symm ⟨QY u.1 (by omega),λp=>QY (u.2 p) (by omega)⟩ ⟨_,rfl,k⟩
end
section
variable{E:XE}{Ψ:PEv}{r:Rm}{p q:Pt}{l:Inn}{n m:Bool}{R:T->Prop}{W:LT->Prop}{ρ:kA}{b:PX}{M:List (T×Bool)->kA->Prop}{md:List Md}{ks:List Pt}{vs:List D}
noncomputable def gE:PSp where
 md:=[]
 run:=λy Q _=>∃(x:dC) (st:LS) (g:Str),y=[.d (.list (x.map pr)),.d (.tuple (st.map PyData.str)),.d (.str g)]/\(x.length<=126/\st.length<=11)/\Q (UA (jA x st g)) []
 mono:=λh _ z=>by obtain⟨x,st,g,e,l,q⟩:=z;exact⟨x,st,g,e,l,h _ _ q⟩
theorem dY{es:dC}{st:LS}{g:Str}{K:T->LT->Prop}(x:es.length<=126)(h:st.length<=11)(q:K (UA (jA es st g)) []):eB gE [.d (.list (es.map pr)),.d (.tuple (st.map PyData.str)),.d (.str g)] K E:=⟨es,st,g,rfl,⟨x,h⟩,q⟩
theorem VY(X:Ψ.sp "add_name"=OE)(o:Ψ.sp "add_way"=MD)(j:Ψ.va "BEGIN"=some (pr KA))(i:Ψ.va "WIDE"=some (.int 2))(ds Q E)(h:gE.run ds Q E):EG Ψ jN gE dN fK ds Q:=by obtain⟨x,st,g,rfl,⟨Z,Y⟩,q⟩:=h;refine gA [bD (.list (x.map pr)),bD (.tuple (st.map PyData.str)),bD (.str g),none,none,none,none] rfl rfl rfl ?_;refine Iq j ?_;delta LZ;simp_arith[↓zA];rw[<- lA];refine MA (λ(s:Str)=>T.d (.str s)) (λl ρ=>∃r u,RmOk r (1+4 * (11 - l.length))/\l.length<=11/\(l.flatMap (IQ g)).foldl sB r=(st.flatMap (IQ g)).foldl sB xH/\ρ=LZ x st g r u none none) ?_ ?_ _ _ ⟨xH,_,?_,Y,rfl,rfl⟩;rintro ρ ⟨r,u,ok,_,e,rfl⟩;have e:r=(st.flatMap (IQ g)).foldl sB xH:=e;delta LZ;simp_arith[↓zA];rw[<- lA];refine MA (λ(p:Str×Str)=>T.d (pr p)) (λl ρ=>∃r w v,Sz r (45+6 * (126 - l.length))/\l.length<=126/\(l.flatMap (RT g)).foldl sB r=jA x st g/\ρ=LZ x st g r (KM u) w v) ?_ ?_ _ _ ⟨r,_,_,?_,Z,by rw[e];rfl,rfl⟩;rintro ρ ⟨r,w,v,_,_,e,rfl⟩;have e:r=jA x st g:=e;subst e;delta LZ;simp_arith[↓zA];exact q;rintro⟨a,b⟩ l ρ N f ⟨r,w,v,s,k,e,rfl⟩;rw[QM]at s k;rw[Wg,QAg]at e;refine XF.mk rfl ?_;refine Tq (a:=a) (b:=b) X o i ⟨QY s.1 (by omega),λp=>QY (s.2 p) (by omega)⟩ (f _ ⟨_,_,_,?_,by omega,e,rfl⟩);have z:Sz ((RT g (a,b)).foldl sB r) (45+6 * (126 - (l.length+1))+2 * (RT g (a,b)).length):=L0 rL s;have y:=IV (g:=g) (e:=(a,b));exact⟨QY z.1 (by omega),λp=>QY (z.2 p) (by omega)⟩;exact⟨QY ok.sz.1 (by rw[wR];omega),λp=>QY (ok.sz.2 p) (by rw[wR];omega)⟩;rintro s l ρ N f ⟨r,u,ok,k,e,rfl⟩;rw[QM]at ok k;rw[Wg,QAg]at e;refine Aq (n:=s) X o j i ⟨QY ok.sz.1 (by omega),λp=>QY (ok.sz.2 p) (by omega)⟩ (f _ ⟨_,_,?_,by omega,e,rfl⟩);have z:=ok.add (ws:=IQ g s) mL;have y:=EV (g:=g) (n:=s);exact⟨z.pos,z.dom,z.bg,QY z.sz.1 (by omega),λp=>QY (z.sz.2 p) (by omega)⟩;exact⟨rE.pos,rE.dom,rE.bg,QY rE.sz.1 (by omega),λp=>QY (rE.sz.2 p) (by omega)⟩
def xV(l:Inn):D:=.dict (l.map λe=>(pr e.1,.int e.2))
def yi(r:Rm):List (D×D):=r.map λe=>(pr e.1,xV e.2)
theorem yZ(h:look r p=some l):eD (yi r)=some true:=by
 cases r with|nil=>cases h|cons e r=>rfl
theorem Y5(l:Inn):(l.map λe=>(pr e.1,PyData.int e.2))=[]∨eD (l.map λe=>(pr e.1,PyData.int e.2))=some true:=by
 cases l with|nil=>exact .inl rfl|cons e r=>exact .inr rfl
theorem Df(h:Key r p)(k:R (.d (xV (lk r p)))):DA (.d (.dict (yi r))) n (.d (pr p)) m R:=by
 have e:=eE h;obtain⟨i,u,y,_⟩:=YC (λl=>T.d (xV l)) e;have w:(yi r).map (·.1)=OC r:=by unfold yi OC;rw[QS];rfl
 refine Mk (yZ e) (IB p) (by rw[w];exact u) ?_ k;have v:(yi r).map (·.2)=r.map λe=>xV e.2:=by unfold yi;rw[QS];rfl
 rw[v];rw[Qc]at y ⊢;cases z:r[i]? with|none=>rw[z]at y;cases y|some x=>rw[z]at y;injection y with y;injection y with y;show some (xV x.2)=_;rw[y]
theorem xl:xL .itm [(.d (xV l),n)] W=W (l.map λe=>.d (.tuple [pr e.1,.int e.2])):=by unfold xV;rw[zl (Y5 l),QS];rfl
theorem TH{K:TK}:A0 (UA r) false Ψ b E ρ K=lB Ψ b E (lockA ρ) λy m _=>K y m ρ:=rfl
theorem OX{K:TK}:A0 (iD l) false Ψ b E ρ K=lB Ψ b E (lockA ρ) λy m _=>K y m ρ:=rfl
theorem TQ:J7 (UA r) false Ψ b E md ρ M=dM Ψ b E md (lockA ρ) λxs _=>M xs ρ:=rfl
theorem u7:J7 (iD l) false Ψ b E md ρ M=dM Ψ b E md (lockA ρ) λxs _=>M xs ρ:=rfl
def Lb(t:T)(r:Rm):Prop:=t=UA r∨t=.d (.dict (yi r))
theorem Nk{b:Bool}{ks:List D}{ts:LT}{n m:Bool}{k:D}{l:Nat}{t:T}(z:HD b k)(y:bA ks k=some l)(x:ts[l]?=some t)(h:R t):DA (.dct b ks ts) false (.d k) m R:=.inr ⟨b,ks,ts,l,t,rfl,z,y,x,h⟩
theorem HE(h:Key r p)(k:R (iD (lk r p))):DA (UA r) false (.d (pr p)) m R:=by obtain⟨i,y,x,_⟩:=YC iD (eE h);exact Nk (n:=false) (IB p) y x k
theorem xP{v:Int}(h:look l p=some v)(k:R (.d (.int v))):DA (iD l) false (.d (pr p)) m R:=by obtain⟨i,y,x,_⟩:=YC (λv:Int=>T.d (.int v)) h;exact Nk (n:=false) (IB p) y x k
theorem kW(l:Inn):BF (l.map λe=>T.d (.int e.2))=some (l.map λe=>.int e.2):=by rw[show(l.map λe=>T.d (.int e.2))=(l.map λe=>PyData.int e.2).map T.d by rw[QS];rfl,iA]
theorem Pf:xL .itm [(iD l,false)] W=W (l.map λe=>.d (.tuple [pr e.1,.int e.2])):=by
 refine(tS _ _).trans ?_;have e:((OC l).zip (l.map λe=>PyData.int e.2)).map (λp=>T.d (.tuple [p.1,p.2]))=l.map λe=>T.d (.tuple [pr e.1,.int e.2]):=by unfold OC;rw[List.zip_map',QS];rfl
 refine propext ⟨λ⟨x,h,k⟩=>?_,λk=>⟨_,kW l,by rw[e];exact k⟩⟩;rw[kW]at h;cases h;rw[e]at k;exact k
theorem F7{a:PX}:jH (.idx a b)=jH a:=rfl
theorem Bj:RQ [(iD l,false)]=false:=rfl
def K7(ks:List Pt)(vs:List D):T:=.dct true (ks.map pr) (vs.map T.d)
theorem aP:pr q∈ks.map pr↔q∈ks:=by constructor;intro h;obtain⟨x,y,e⟩:=QT.mp h;rw[<- eP e];exact y;exact QAA
theorem HI(ks:List Pt)(q:Pt):(bA (ks.map pr) (pr q)).isSome=decide (q∈ks):=by rw[Q9,HM,aP,decide_eq_true_iff]
theorem kg{x:D}{Q:T->Prop}(n:q∉ks)(hl:ks.length<sizeLine)(k:Q (K7 (ks++[q]) (vs++[x]))):T7 (K7 ks vs) (.d (pr q)) (.d x) Q:=by refine⟨IB q,by rw[QF];exact hl,?_⟩;show Q (YH true (ks.map pr) (vs.map T.d) (pr q) (.d x));unfold YH;rw[XA.mpr (λz=>n (aP.mp z))];unfold K7 at k;rw[QR,QR]at k;exact k
theorem xj{L:Bool->Prop}:MB .NotIn (.d (pr q)) (K7 ks vs) L=L (!decide (q∈ks)):=by unfold K7;rw[RJ,HI];exact propext ⟨λh=>h.2,λh=>⟨IB q,h⟩⟩
def gO(h:T)(ks:List Pt)(vs:List D)(ws:List Pt)(o3 o4 o5:Option Sl):kA:=[some (.ky h),some (.own (K7 ks vs)),some (.own (.lst ((ws.map pr).map T.d))),o3,o4,o5]
end
section
variable{Ψ:PEv}{Z:PEnds}{x:T}{r:Rm}{ks ws:List Pt}{vs:List D}
section
variable{w:Pt}{o3 o4 o5:Option Sl}
theorem ur{p q:Pt}{v:Int}(hl:ks.length<sizeLine)(a:ws.length<sizeLine)(u:(0<v->q∈ks)->Z.nx (gO x ks vs ws (bD (pr p)) (bD (pr q)) (bD (.int v))))
  (k:0<v->q∉ks->Z.nx (gO x (ks++[q]) (vs++[pr p]) (ws++[q]) (bD (pr p)) (bD (pr q)) (bD (.int v)))) :
  pF Ψ jB Z (gO x ks vs ws (bD (pr p)) (bD (pr q)) (bD (.int v))):=by
 delta gO at u k ⊢;delta jB;simp_arith[↓xj];by_cases h:0<v;rw[dT h];by_cases y:q∈ks;rw[dT y];exact u λ_=>y;rw[dF y];simp only[wt,↓reduceIte];refine kg y hl ?_;refine⟨by rw[QF,QF];exact a,?_⟩;have:=k h y;rw[QR,QR]at this;exact this;rw[dF h];exact u λz=>absurd z h
theorem Og{q:PT}(k:pF Ψ q Z (gO x ks vs ws (bD (pr w)) o4 o5)) :
  pF Ψ (.seq (.set 3 (.mt .pop (.xz 2) %[.int 0|1])) q) Z (gO x ks vs (w::ws) o3 o4 o5):=by
 delta gO at k ⊢;simp_arith[↓zA];refine⟨0,.d (pr w),?_,rfl,rfl,k⟩;unfold ET;rw[if_pos (by decide),if_pos (by rw[QF,QF,QM];omega)];rfl
theorem Pg(y:Lb x r)(hk:Key r w)
  (k:GH (pF Ψ jB) (.tp [4,5]) { Z with nx:=λh=>Z.nx (kill [4,5] h) } ((lk r w).map λe=>T.d (.tuple [pr e.1,.int e.2])) (gO x ks vs ws (bD (pr w)) o4 o5)) :
  pF Ψ %[.for_ (.tp [4,5]) .itm %[.idx (.xz 0) (.xz 3)|1] jB|2] Z (gO x ks vs ws (bD (pr w)) o4 o5):=by
 rcases y with rfl|rfl;delta gO at k ⊢;simp_arith[↓TH];refine HE hk ?_;simp_arith[↓u7,↓Pf,Bj,F7];exact k;delta gO at k ⊢;simp_arith[↓zA];refine Df hk ?_;simp_arith[↓xl];exact k
theorem vr(m:Lb x r)(a:l7 r)(hb:Key r KA)(W:r.length<=1000)(h:Srch r ks vs (w::ws))(K:2 * (r.length - ks.length)+ws.length+1<=3000)
  (o:∀z u y o3 o4 o5,Srch r z u y->2 * (r.length - z.length)+y.length<=2 * (r.length - ks.length)+ws.length->Z.nx (gO x z u y o3 o4 o5)) :
  pF Ψ UD Z (gO x ks vs (w::ws) o3 o4 o5):=by
 have A:sizeLine=16777216:=Q5;refine Og ?_;have X:=h.pop;have hk:Key r w:=cI a hb (h.cf.rch w (h.sub w QE));refine Pg m hk ?_;refine MA (λ(e:Pt×Int)=>T.d (.tuple [pr e.1,.int e.2])) (λl k=>∃z u y o4 o5,Srch1 r w z u y l/\2 * (r.length - z.length)+y.length<=2 * (r.length - ks.length)+ws.length/\k=gO x z u y (bD (pr w)) o4 o5) ?_ ?_ _ _ ⟨ks,vs,ws,_,_,X,Qb _,rfl⟩;rintro k ⟨z,u,y,g,f,s,l,rfl⟩;exact o z u y _ (KM g) (KM f) s.fin l;rintro⟨q,v⟩ l k N i ⟨z,u,y,g,f,s,e,rfl⟩;refine XF.mk rfl ?_;have Y:=s.cf.le a hb;refine ur (p:=w) (q:=q) (v:=v) (by omega) (by omega) (λc=>i _ ⟨z,u,y,_,_,s.skip c,e,rfl⟩) λc n=>?_;have b:=s.add c n;have j:=b.cf.le a hb;rw[QJ,qF]at j;exact i _ ⟨_,_,_,_,_,b,by rw[QJ,QJ,qF];omega,rfl⟩
theorem br(h:Ψ.va "BEGIN"=some (pr KA)){q:PT}(k:pF Ψ q Z (gO x [KA] [.none] [KA] none none none)) :
  pF Ψ (.seq (.own 1 (.dsp (.glo "BEGIN") .non)) (.seq (.own 2 (.lst %[.glo "BEGIN"|1])) q)) Z [some (.ky x),none,none,none,none,none]:=by
 have y:sizeLine=16777216:=Q5;simp_arith[↓rH h];exact⟨IB KA,by omega,k⟩
end
end
theorem EH{Ψ:PEv}{E:XE}{c:PX}{q:PT}{Z:PEnds}{ρ:kA}(W:Nat->kA->Prop)(m:Nat)(u:W m ρ)(z:∀m ρ,W m ρ->iP Ψ c E ρ λb x=>if b=true then bB Ψ E q { Z with nx:=λh=>∃y,y < m/\W y h,ct:=λh=>∃y,y < m/\W y h,bk:=Z.nx } x else Z.nx x):Rk Ψ E c q Z ρ:=⟨W,⟨m,u⟩,z⟩
noncomputable def pD:PSp where
 md:=[.ky]
 run:=λv Q _=>∃(u:T) (r:Rm),v=[u]/\(Lb u r/\l7 r/\Key r KA/\r.length<=1000)/\∀x y,CF r x y->(∀p,p∈x↔Rch r p)->Q (K7 x y) []
 mono:=λh _ z=>by obtain⟨u,r,e,l,q⟩:=z;exact⟨u,r,e,l,λx y a b=>h _ _ (q x y a b)⟩
theorem uO{h:T}{r:Rm}{K:T->LT->Prop}{E:XE}(u:Lb h r)(z:l7 r)(y:Key r KA)(x:r.length<=1000)(q:∀ks vs,CF r ks vs->(∀p,p∈ks↔Rch r p)->K (K7 ks vs) []):eB pD [h] K E:=⟨h,r,rfl,⟨u,z,y,x⟩,q⟩
theorem x4{Ψ:PEv}(l:Ψ.va "BEGIN"=some (pr KA))(ds Q E)(h:pD.run ds Q E):EG Ψ VE pD DE ND ds Q:=by
 obtain⟨a,r,rfl,⟨n,j,hb,i⟩,q⟩:=h;refine gA [some (.ky a),none,none,none,none,none] rfl rfl rfl ?_;refine br l ?_;delta gO;simp_arith[↓zA];refine EH (λm k=>m<=3000/\∃x y ws o3 o4 o5,Srch r x y ws/\m=2 * (r.length - x.length)+ws.length/\k=gO a x y ws o3 o4 o5) (2 * (r.length - 1)+1) ⟨by omega,[KA],[.none],[KA],none,none,none,Ml,rfl,rfl⟩ ?_;rintro m k ⟨p,x,y,ws,o3,o4,o5,s,e,rfl⟩;cases ws with|nil=>delta gO;simp_arith[QF];rw[dF (by omega)];simp_arith[↓zA];exact q x y s.cf s.done|cons w ws=>rw[QM]at e;have b:=λ(Z:PEnds) g=>vr (Ψ:=Ψ) (Z:=Z) (o3:=o3) (o4:=o4) (o5:=o5) n j hb i s (by omega) g;unfold gO at b;delta gO;simp_arith[QF];rw[dT (by omega)];refine b _ λv u z o3 o4 o5 f o=>⟨_,by omega,by omega,v,u,z,o3,o4,o5,f,rfl,rfl⟩
theorem Kj{α:Type}{x:α}{r:List α}:fE (x::r) 0=some x:=tF (j:=0) rfl
theorem Es{α:Type}{x y:α}{r:List α}:fE (x::y::r) 1=some y:=tF (j:=1) rfl
def sm:List Pt->(Pt->Int)->Int
 |[],_=>0|x::l,f=>f x+sm l f
section
variable{f g:Pt->Int}
theorem EA:∀{l:List Pt},(∀x∈l,f x=g x)->sm l f=sm l g
 |[],_=>rfl|x::l,h=>by show f x+sm l f=g x+sm l g;rw[h x QE,EA λy z=>h y (QD _ z)]
theorem JH:∀(l:List Pt),sm l (λx=>f x+g x)=sm l f+sm l g
 |[]=>rfl|x::l=>by show f x+g x+sm l _=f x+sm l f+(g x+sm l g);rw[JH l];omega
theorem YJ:∀(l:List Pt),sm l (λx=>- f x)=- sm l f
 |[]=>rfl|x::l=>by show - f x+sm l _=- (f x+sm l f);rw[YJ l];omega
theorem CG:∀(l:List Pt),sm l (λ_=>0)=0
 |[]=>rfl|x::l=>by show 0+sm l _=0;rw[CG l];rfl
theorem vO:∀{l:List Pt},(∀x∈l,0<=f x)->0<=sm l f
 |[],_=>QCQ _|x::l,h=>by have v:=h x QE;have u:=vO (l:=l) λy z=>h y (QD _ z);show 0<=f x+sm l f;omega
theorem iH:∀{l:List Pt},(∀x∈l,0<=f x)->∀{y:Pt},y∈l->f y<=sm l f
 |x::l,h,y,z=>by have w:=h x QE;have u:∀y∈l,0<=f y:=λy z=>h y (QD _ z);show f y<=f x+sm l f;rcases QL.mp z with e|e;have v:=vO u;rw[e];omega;have v:=iH u e;omega
theorem J1:∀{l:List Pt},(∀x∈l,0<=f x)->∀{y z:Pt},y∈l->z∈l->y≠z->f y+f z<=sm l f
 |x::l,h,y,z,v,hz,ne=>by
  have a:=h x QE;have w:∀y∈l,0<=f y:=λy v=>h y (QD _ v);show f y+f z<=f x+sm l f;rcases QL.mp v with e|e;rcases QL.mp hz with u|u
  ·exact absurd (e.trans u.symm) ne
  have k:=iH w u;rw[e];omega;rcases QL.mp hz with u|u
  ·have k:=iH w e
   rw[u];omega
  have k:=J1 w e u ne;omega
theorem Y1:∀{l:List Pt},0<sm l f->∃x∈l,0<f x
 |[],h=>absurd h (wk 0)|x::l,h=>by by_cases c:0<f x;exact⟨x,QE,c⟩;have h:0<f x+sm l f:=h;obtain⟨y,z,p⟩:=Y1 (l:=l) (by omega);exact⟨y,QD _ z,p⟩
theorem dW{k:Pt->Pt->Int}{m:List Pt}:∀(l:List Pt),sm l (λx=>sm m λy=>k x y)=sm m λy=>sm l λx=>k x y
 |[]=>(CG m).symm|x::l=>by show sm m (λy=>k x y)+sm l _=sm m λy=>k x y+sm l λx=>k x y;rw[dW l,JH]
theorem gP{u:Pt}{k:Int}:∀{l:List Pt},u∉l->sm l (λx=>if x=u then k else 0)=0
 |[],_=>rfl|x::l,h=>by show(if x=u then k else 0)+sm l _=0;rw[if_neg (λ(e:x=u)=>h (e▸QE)),gP λz=>h (QD _ z)];rfl
theorem ZJ{u:Pt}{k:Int}:∀{l:List Pt},l.Nodup->u∈l->sm l (λx=>if x=u then k else 0)=k
 |x::l,nd,h=>by obtain⟨v,y⟩:=Qh.mp nd;show(if x=u then k else 0)+sm l _=k;by_cases e:x=u;rw[if_pos e,gP (by rw[<- e];exact v)];omega;rw[if_neg e,ZJ y ((QL.mp h).resolve_left λz=>e z.symm)];omega
theorem oR(p:Pt->Bool):∀(l:List Pt),sm l f=sm (l.filter p) f+sm (l.filter λx=>!p x) f
 |[]=>rfl|x::l=>by
  show f x+sm l f=_;rw[WI,WI,oR p l];cases p x with|true=>show _=(f x+sm (l.filter p) f)+sm (l.filter λx=>!p x) f;omega|false=>show _=sm (l.filter p) f+(f x+sm (l.filter λx=>!p x) f);omega
theorem k8{a:Pt->Pt->Int}(l:List Pt)(h:∀x∈l,∀y∈l,a x y=- a y x):sm l (λx=>sm l λy=>a x y)=0:=by
 have w:sm l (λx=>sm l λy=>a x y)=sm l λy=>sm l λx=>a x y:=dW l;have v:(sm l λy=>sm l λx=>a x y)=- sm l (λy=>sm l λx=>a y x):=by rw[<- YJ];refine EA λy z=>?_;rw[<- YJ];exact EA λx u=>h x u y z
 omega
end
section
variable{p q u v:Pt}{r:Rm}{w:Wy}{es:dC}{st:LS}{g:Str}
def rm(r:Rm)(p q:Pt):Int:=(look (lk r p) q).getD 0
def AH(r:Rm)(p q:Pt):Prop:=∃v,look (lk r p) q=some v
def Hb(r:Rm):Prop:=∀p,((lk r p).map (·.1)).Nodup
theorem NG{α:Type}{q:Pt}{v:α}:∀{l:List (Pt×α)},look l q=some v->(q,v)∈l
 |[],h=>by cases h|e::l,h=>by by_cases c:e.1=q;rw[show look (e::l) q=some e.2 from if_pos c]at h;injection h with h;rw[<- c,<- h];exact QE;rw[show look (e::l) q=look l q from if_neg c]at h;exact QD _ (NG h)
theorem rQ{α:Type}{q:Pt}{v:α}:∀{l:List (Pt×α)},(l.map (·.1)).Nodup->(q,v)∈l->look l q=some v
 |e::l,nd,h=>by obtain⟨k,y⟩:=Qh.mp nd;rcases QL.mp h with c|c;rw[<- c];exact if_pos rfl;have x:e.1≠q:=λz=>k (QT.mpr ⟨(q,v),c,z.symm⟩);rw[show look (e::l) q=look l q from if_neg x];exact rQ y c
theorem put_keys{α:Type}{p:Pt}{w:α}:∀{l:List (Pt×α)},(put l p w).map (·.1)=if p∈l.map (·.1) then l.map (·.1) else l.map (·.1)++[p]
 |[]=>rfl|e::l=>by by_cases c:e.1=p;rw[show put (e::l) p w=(e.1,w)::l from if_pos c,if_pos (by rw[<- c];exact QE)];rfl;rw[show put (e::l) p w=e::put l p w from if_neg c];rw[QU,QU,put_keys];by_cases h:p∈l.map (·.1);rw[if_pos h,if_pos (QD _ h)];rw[if_neg h,if_neg (λz=>(QL.mp z).elim (λz=>c z.symm) h)];rfl
theorem DG{α:Type}{w:α}{l:List (Pt×α)}(h:(l.map (·.1)).Nodup):((put l p w).map (·.1)).Nodup:=by rw[put_keys];split;exact h;rename_i n;refine qX.mpr ⟨h,Qh.mpr ⟨λz=>(nomatch z),Q0⟩,λa x b hb z=>?_⟩;rw[QI.mp hb]at z;exact n (z▸x)
theorem zU(nd:Hb r):be r p q↔0<rm r p q:=by
 unfold be rm;constructor;rintro⟨v,m,h⟩;rw[rQ (nd p) m];exact h;intro h;cases e:look (lk r p) q with|none=>rw[e]at h;exact absurd h (wk 0)|some v=>rw[e]at h;exact⟨v,NG e,h⟩
def tY(r:Rm)(u v:Pt):Rm:=put (put r u (put (lk r u) v (rm r u v - 1))) v (put (lk (put r u (put (lk r u) v (rm r u v - 1))) v) u (rm (put r u (put (lk r u) v (rm r u v - 1))) v u+1))
theorem AU(h:u≠v)(p:Pt):lk (tY r u v) p=if v=p then put (lk r v) u (rm r v u+1) else if u=p then put (lk r u) v (rm r u v - 1) else lk r p:=by
 have e:rm (put r u (put (lk r u) v (rm r u v - 1))) v u=rm r v u:=by unfold rm;rw[kE,if_neg h]
 unfold tY;rw[e,kE,kE,kE,if_neg h]
theorem oU(h:u≠v)(p q:Pt):rm (tY r u v) p q=rm r p q+(if p=v/\q=u then 1 else 0) - (if p=u/\q=v then 1 else 0):=by show(look (lk (tY r u v) p) q).getD 0=_;rw[AU h];by_cases y:v=p;rw[if_pos y,aD,if_neg (c:=p=u/\q=v) (λz=>h (z.1.symm.trans y.symm))];by_cases x:u=q;rw[if_pos x,if_pos ⟨y.symm,x.symm⟩,<- y,<- x];show rm r v u+1=rm r v u+1 - 0;omega;rw[if_neg x,if_neg (λz=>x z.2.symm),y];show rm r p q=rm r p q+0 - 0;omega;rw[if_neg y,if_neg (c:=p=v/\q=u) (λz=>y z.1.symm)];by_cases x:u=p;rw[if_pos x,aD];by_cases k:v=q;rw[if_pos k,if_pos ⟨x.symm,k.symm⟩,<- x,<- k];show rm r u v - 1=rm r u v+0 - 1;omega;rw[if_neg k,if_neg (λz=>k z.2.symm),x];show rm r p q=rm r p q+0 - 0;omega;rw[if_neg x,if_neg (λz=>x z.1.symm)];show rm r p q=rm r p q+0 - 0;omega
theorem dB:AH r p q↔PZ r p q:=by
 unfold AH PZ;constructor;rintro⟨v,h⟩;exact⟨v,NG h⟩;rintro⟨v,h⟩;generalize lk r p=l at h;induction l with
 |nil=>exact(nomatch h)
 |cons e l x =>
  by_cases c:e.1=q;exact⟨e.2,if_pos c⟩;rcases QL.mp h with z|z
  ·exact absurd (by rw[<- z]) c
  obtain⟨w,y⟩:=x z;exact⟨w,(show look (e::l) q=look l q from if_neg c).trans y⟩
theorem Db(h:u≠v)(a:AH r u v)(k:AH r v u):AH (tY r u v) p q↔AH r p q:=by unfold AH;rw[AU h];by_cases y:v=p;rw[if_pos y,aD];by_cases x:u=q;rw[if_pos x,<- y,<- x];exact⟨λ_=>k,λ_=>⟨_,rfl⟩⟩;rw[if_neg x,y];rw[if_neg y];by_cases x:u=p;rw[if_pos x,aD];by_cases z:v=q;rw[if_pos z,<- x,<- z];exact⟨λ_=>a,λ_=>⟨_,rfl⟩⟩;rw[if_neg z,x];rw[if_neg x]
theorem B9(h:u≠v)(nd:Hb r):Hb (tY r u v):=by
 intro p;rw[AU h];split;exact DG (nd v);split
 ·exact DG (nd u)
 exact nd p
theorem pP(h:¬ AH r p q):rm r p q=0:=by
 unfold rm;cases e:look (lk r p) q with|none=>rfl|some v=>exact absurd ⟨v,e⟩ h
def Bp(p q:Pt)(v:Int):Prop:=(∃n,p=tO n/\q=fR n/\v=1)∨(∃n,p=KA/\q=tO n/\v=2)∨(∃a b,a≠b/\p=fR a/\q=tO b/\v=2)∨(¬ OZ p q/\v=0)
def Oj(P:Pt->Pt->Int->Prop)(r:Rm):Prop:=∀p,∀e∈lk r p,P p e.1 e.2
theorem nZ{P:Pt->Pt->Int->Prop}(a:w.1≠w.2.1)(f:P w.1 w.2.1 w.2.2)(b:P w.2.1 w.1 0)(h:Oj P r):Oj P (sB r w):=by intro p e x;rw[VI a]at x;by_cases k:w.2.1=p;rw[if_pos k]at x;rcases lI x with z|z;rw[z,<- k];exact b;exact h p e z;rw[if_neg k]at x;by_cases y:w.1=p;rw[if_pos y]at x;rcases lI x with z|z;rw[z,<- y];exact f;exact h p e z;rw[if_neg y]at x;exact h p e x
theorem eR(h:(r.map (·.1)).Nodup):((sdf r p).map (·.1)).Nodup:=by
 unfold sdf;cases e:look r p with|some v=>exact h|none=>show(List.map (λe:Pt×Inn=>e.1) (r++[(p,[])])).Nodup;rw[QR];refine qX.mpr ⟨h,Qh.mpr ⟨λz=>(nomatch z),Q0⟩,λa y b hb z=>?_⟩;have hb:b=p:=QI.mp hb;rw[z,hb]at y;obtain⟨x,k,f⟩:=QT.mp y;have:=rQ h (show(p,x.2)∈r by rw[<- f];exact k);rw[e]at this;cases this
theorem L4(x:w.1≠w.2.1)(h:Hb r):Hb (sB r w):=by
 intro p;rw[VI x];split;exact DG (h p);split
 ·exact DG (h p)
 exact h p
theorem yB:Key r p↔p∈r.map (·.1):=by
 constructor;rintro⟨l,e⟩;exact mQ e;intro h;induction r with
 |nil=>exact(nomatch h)
 |cons e r x =>
  by_cases c:e.1=p;exact⟨e.2,if_pos c⟩;rcases QL.mp h with z|z
  ·exact absurd z.symm c
  obtain⟨l,hl⟩:=x z;exact⟨l,(show look (e::r) p=look r p from if_neg c).trans hl⟩
structure Tbl0(r:Rm):Prop where
 ndk:(r.map (·.1)).Nodup
 ndi:Hb r
 cap:Oj Bp r
 kind:∀p,Key r p->p=KA∨∃n,p=tO n∨p=fR n
 sym:∀p q,PZ r p q->PZ r q p/\Key r p
theorem mS(h:OZ p q):(p=KA∨∃n,p=tO n∨p=fR n)/\(q=KA∨∃n,q=tO n∨q=fR n):=by
 rcases h with⟨h,n,e⟩| ⟨n,h,e⟩| ⟨a,b,_,h,e⟩
 exact⟨.inl h,.inr ⟨n,.inl e⟩⟩;exact⟨.inr ⟨n,.inl h⟩,.inr ⟨n,.inr e⟩⟩;exact⟨.inr ⟨a,.inr h⟩,.inr ⟨b,.inl e⟩⟩
theorem P7(k:OZ w.1 w.2.1)(f:Bp w.1 w.2.1 w.2.2)(t:Tbl0 r):Tbl0 (sB r w):=by
 have y:=yG k;refine⟨?_,L4 y t.ndi,nZ y f (.inr (.inr (.inr ⟨yF k,rfl⟩))) t.cap,λp h=>?_,λp q h=>?_⟩;unfold sB;exact DG (DG (eR (eR t.ndk)));rcases kG.mp h with z|z|z
 ·rw[z];exact(mS k).1
 rw[z];exact(mS k).2;exact t.kind p z;rw[MI y,kG];rcases(MI y).mp h with z|⟨x,a⟩| ⟨x,a⟩
 obtain⟨e,b⟩:=t.sym p q z;exact⟨.inl e,.inr (.inr b)⟩;exact⟨.inr (.inr ⟨a,x⟩),.inl x⟩;exact⟨.inr (.inl ⟨a,x⟩),.inr (.inl x)⟩
theorem bW:∀{ws:List Wy}{r:Rm},(∀w∈ws,OZ w.1 w.2.1/\Bp w.1 w.2.1 w.2.2)->Tbl0 r->Tbl0 (ws.foldl sB r)
 |[],_,_,t=>t|w::ws,r,h,t=>bW (ws:=ws) (λw x=>h w (QD _ x)) (P7 (h w QE).1 (h w QE).2 t)
theorem vL{p:Pt}:∀{ws:List Wy}{r:Rm},Key (ws.foldl sB r) p↔Key r p∨∃w∈ws,p=w.1∨p=w.2.1
 |[],r=>⟨.inl,λz=>z.elim id λ⟨_,m,_⟩=>(nomatch m)⟩
 |w::ws,r=>by
  rw[QAD,vL (ws:=ws),kG];constructor;rintro((z|z|z)|⟨x,m,z⟩)
  ·exact .inr ⟨w,QE,.inl z⟩
  exact .inr ⟨w,QE,.inr z⟩;exact .inl z;exact .inr ⟨x,QD _ m,z⟩;rintro(z|⟨x,m,z⟩)
  ·exact .inl (.inr (.inr z))
  rcases QL.mp m with rfl|m
  ·rcases z with z|z
   ·exact .inl (.inl z)
   exact .inl (.inr (.inl z))
  exact .inr ⟨x,m,z⟩
def GZ(es:dC)(st:LS)(g:Str):List Wy:=st.flatMap (IQ g)++es.flatMap (RT g)
theorem oE:jA es st g=(GZ es st g).foldl sB xH:=by unfold jA GZ;rw[QAg]
theorem vE{v:Int}:(p,q,v)∈GZ es st g↔(∃n∈st,n≠g/\((p,q,v)=(tO n,fR n,1)∨(p,q,v)=(KA,tO n,2)))∨(∃e∈es,(e.1≠g/\e.1≠e.2)/\((p,q,v)=(tO e.1,fR e.1,1)∨(p,q,v)=(tO e.2,fR e.2,1)∨(p,q,v)=(fR e.1,tO e.2,2))):=by
 unfold GZ;rw[Qe,wq,wq];constructor;rintro(⟨n,m,h⟩| ⟨e,m,h⟩)
 ·exact .inl ⟨n,m,Fn.mp h⟩
 exact .inr ⟨e,m,Gn.mp h⟩;rintro(⟨n,m,h⟩| ⟨e,m,h⟩)
 ·exact .inl ⟨n,m,Fn.mpr h⟩
 exact .inr ⟨e,m,Gn.mpr h⟩
theorem kC:∀w∈GZ es st g,OZ w.1 w.2.1/\Bp w.1 w.2.1 w.2.2:=by
 rintro⟨p,q,v⟩ h;rcases vE.mp h with⟨n,_,_,e|e⟩| ⟨e,_,⟨_,x⟩,z|z|z⟩
 cases e;exact⟨.inr (.inl ⟨n,rfl,rfl⟩),.inl ⟨n,rfl,rfl,rfl⟩⟩;cases e;exact⟨.inl ⟨rfl,n,rfl⟩,.inr (.inl ⟨n,rfl,rfl,rfl⟩)⟩;cases z;exact⟨.inr (.inl ⟨_,rfl,rfl⟩),.inl ⟨_,rfl,rfl,rfl⟩⟩;cases z;exact⟨.inr (.inl ⟨_,rfl,rfl⟩),.inl ⟨_,rfl,rfl,rfl⟩⟩;cases z;exact⟨.inr (.inr ⟨_,_,x,rfl,rfl⟩),.inr (.inr (.inl ⟨_,_,x,rfl,rfl,rfl⟩))⟩
theorem KI(p:Pt):lk xH p=[]:=by show(if KA=p then some [] else none).getD []=[];split<;>rfl
theorem il:Tbl0 xH:=by refine⟨Qh.mpr ⟨λz=>(nomatch z),Q0⟩,λp=>?_,λp e x=>?_,λp h=>?_,λp q h=>?_⟩;rw[KI];exact Q0;rw[KI]at x;exact(nomatch x);exact .inl (QI.mp (yB.mp h));obtain⟨v,h⟩:=h;rw[KI]at h;exact(nomatch h)
end
section
variable{es:dC}{st:LS}{g:Str}
section
variable{p q:Pt}{n:Str}
theorem dD:Tbl0 (jA es st g):=by rw[oE];exact bW kC il
theorem S5:∀w∈GZ es st g,VG w:=λw h=>by unfold GZ at h;rcases Qe.mp h with z|z;exact RG (f:=IQ g) (λ_=>mL) st w z;exact RG (f:=RT g) (λ_=>rL) es w z
theorem cC:PZ (jA es st g) p q↔(∃v,(p,q,v)∈GZ es st g)∨∃v,(q,p,v)∈GZ es st g:=by
 rw[oE,eX S5];constructor;rintro(⟨v,h⟩| h)
 ·rw[KI]at h;exact(nomatch h)
 exact h;exact .inr
theorem oO(h:Key (jA es st g) (tO n)):PZ (jA es st g) (tO n) (fR n):=by
 rw[oE]at h;rcases vL.mp h with z|⟨⟨p,q,v⟩,m,z⟩
 exact absurd (QI.mp (yB.mp z)).symm TB;refine cC.mpr (.inl ⟨1,vE.mpr ?_⟩);have z:tO n=p∨tO n=q:=z;rcases vE.mp m with⟨k,mk,x,e|e⟩| ⟨e,u,x,y|y|y⟩
 cases e;rcases z with z|z;rw[UB z];exact .inl ⟨k,mk,x,.inl rfl⟩;exact absurd z HA;cases e;rcases z with z|z;exact absurd z.symm TB;rw[UB z];exact .inl ⟨k,mk,x,.inl rfl⟩;cases y;rcases z with z|z;rw[UB z];exact .inr ⟨e,u,x,.inl rfl⟩;exact absurd z HA;cases y;rcases z with z|z;rw[UB z];exact .inr ⟨e,u,x,.inr (.inl rfl)⟩;exact absurd z HA;cases y;rcases z with z|z;exact absurd z HA;rw[UB z];exact .inr ⟨e,u,x,.inr (.inl rfl)⟩
theorem YZ:Bp p q (rm (jA es st g) p q)∨(¬ AH (jA es st g) p q/\rm (jA es st g) p q=0):=by by_cases h:AH (jA es st g) p q;obtain⟨v,e⟩:=h;have:=dD (es:=es) (st:=st) (g:=g) |>.cap p (q,v) (NG e);unfold rm;rw[e];exact .inl this;exact .inr ⟨h,pP h⟩
theorem Hs:0<=rm (jA es st g) p q:=by rcases YZ (es:=es) (st:=st) (g:=g) (p:=p) (q:=q) with(⟨_,_,_,e⟩| ⟨_,_,_,e⟩| ⟨_,_,_,_,_,e⟩| ⟨_,e⟩)|⟨_,e⟩<;>rw[e]<;>decide
theorem II(h:¬ OZ p q):rm (jA es st g) p q=0:=by
 rcases YZ (es:=es) (st:=st) (g:=g) (p:=p) (q:=q) with(⟨n,y,x,_⟩| ⟨n,y,x,_⟩| ⟨a,b,z,y,x,_⟩| ⟨_,e⟩)|⟨_,e⟩
 exact absurd (.inr (.inl ⟨n,y,x⟩)) h;exact absurd (.inl ⟨y,n,x⟩) h;exact absurd (.inr (.inr ⟨a,b,z,y,x⟩)) h;exact e;exact e
theorem yj(h:q≠fR n):rm (jA es st g) (tO n) q=0:=II λl=>by
 rcases l with⟨e,_⟩| ⟨m,y,x⟩| ⟨a,b,_,e,_⟩
 exact TB e.symm;exact h (by rw[x,UB y]);exact HA e
theorem Jo:rm (jA es st g) (tO n) (fR n)<=1:=by
 rcases YZ (es:=es) (st:=st) (g:=g) (p:=tO n) (q:=fR n) with(⟨_,_,_,e⟩| ⟨m,h,_,_⟩| ⟨a,b,x,h,y,_⟩| ⟨_,e⟩)|⟨_,e⟩
 rw[e];decide;exact absurd h.symm TB;exact absurd h HA;rw[e];decide;rw[e];decide
theorem zj(h:Key (jA es st g) (tO n)):rm (jA es st g) (tO n) (fR n)=1:=by
 have a:=dB.mpr (oO h);rcases YZ (es:=es) (st:=st) (g:=g) (p:=tO n) (q:=fR n) with(⟨_,_,_,e⟩| ⟨m,x,_,_⟩| ⟨a,b,y,x,u,_⟩| ⟨l,e⟩)|⟨z,e⟩
 exact e;exact absurd x.symm TB;exact absurd x HA;exact absurd (.inr (.inl ⟨n,rfl,rfl⟩)) l;exact absurd a z
theorem Ls(h:p≠tO n):rm (jA es st g) p (fR n)=0:=II λl=>by
 rcases l with⟨_,m,e⟩| ⟨m,y,x⟩| ⟨a,b,_,_,e⟩
 exact HA e.symm;exact h (by rw[y,FH x]);exact HA e.symm
theorem Ms:rm (jA es st g) p KA=0:=II λl=>by
 rcases l with⟨_,m,e⟩| ⟨m,x,h⟩| ⟨a,b,_,_,e⟩
 exact TB e;exact ZE h;exact TB e
theorem ao(h:p≠fR n):rm (jA es st g) p (tO n)=0∨rm (jA es st g) p (tO n)=2:=by
 rcases YZ (es:=es) (st:=st) (g:=g) (p:=p) (q:=tO n) with(⟨_,_,e,_⟩| ⟨m,_,_,e⟩| ⟨a,b,_,_,_,e⟩| ⟨l,e⟩)|⟨_,e⟩
 exact absurd e HA;exact .inr e;exact .inr e;exact .inl e;exact .inl e
theorem jj{v:Int}(h:(p,tO n,v)∈GZ es st g):rm (jA es st g) p (tO n)=2:=by
 have a:AH (jA es st g) p (tO n):=dB.mpr (cC.mpr (.inl ⟨v,h⟩));have l:OZ p (tO n):=(kC _ h).1;rcases YZ (es:=es) (st:=st) (g:=g) (p:=p) (q:=tO n) with(⟨_,_,e,_⟩| ⟨m,_,_,e⟩| ⟨a,b,_,_,_,e⟩| ⟨x,e⟩)|⟨z,e⟩
 exact absurd e HA;exact e;exact e;exact absurd l x;exact absurd a z
end
end
section
variable{es:dC}{st:LS}{g:Str}
def vs0(es:dC)(st:LS)(g:Str):List Pt:=(jA es st g).map (·.1)
def fl(es:dC)(st:LS)(g:Str)(r:Rm)(p q:Pt):Int:=rm (jA es st g) p q - rm r p q
def out(es:dC)(st:LS)(g:Str)(r:Rm)(p:Pt):Int:=sm (vs0 es st g) (fl es st g r p)
structure Base(es:dC)(st:LS)(g:Str)(r:Rm):Prop where
 ndi:Hb r
 adj:∀p q,AH r p q↔AH (jA es st g) p q
 keys:r.map (·.1)=vs0 es st g
 nn:∀p q,0<=rm r p q
 anti:∀p q,fl es st g r p q=- fl es st g r q p
structure Flow(es:dC)(st:LS)(g:Str)(r:Rm):Prop extends Base es st g r where
 cons:∀x,x≠KA->x≠tO g->out es st g r x=0
theorem UF:(vs0 es st g).Nodup:=dD.ndk
theorem td:Flow es st g (jA es st g):=by
 have e:∀p q,fl es st g (jA es st g) p q=0:=λp q=>by unfold fl;omega
 refine⟨⟨dD.ndi,λp q=>wP,rfl,λp q=>Hs,λp q=>by rw[e,e];rfl⟩,λx _ _=>?_⟩;unfold out;rw[EA (g:=λ_=>0) λq _=>e x q];exact CG _
theorem ZB{p q:Pt}(h:AH (jA es st g) p q):AH (jA es st g) q p:=dB.mpr (dD.sym p q (dB.mp h)).1
theorem cB{p q:Pt}(h:AH (jA es st g) p q):p∈vs0 es st g:=yB.mp (dD.sym p q (dB.mp h)).2
theorem SQ{p q:Pt}(h:AH (jA es st g) p q):p≠q:=by
 rcases cC.mp (dB.mp h) with⟨v,m⟩| ⟨v,m⟩
 exact yG (kC _ m).1;exact(yG (kC _ m).1).symm
section
variable{r:Rm}
theorem Base.dom(b:Base es st g r):l7 r:=λp q h=>by have a:=(b.adj p q).mp (dB.mpr h);rw[yB,b.keys];exact cB (ZB a)
theorem Base.bg(b:Base es st g r):Key r KA:=by rw[yB,b.keys];refine yB.mp ?_;show Key (jA es st g) KA;rw[oE];exact vL.mpr (.inl ⟨[],if_pos rfl⟩)
theorem Base.len(b:Base es st g r):r.length=(jA es st g).length:=by have:=congrArg wA b.keys;unfold vs0 at this;rw[QF,QF]at this;exact this
theorem Base.adjw(b:Base es st g r){p q:Pt}(h:0<rm r p q):AH (jA es st g) p q:=(b.adj p q).mp (by
 unfold rm at h;cases e:look (lk r p) q with|none=>rw[e]at h;exact absurd h (wk 0)|some v=>exact⟨v,e⟩)
theorem cQ{u:Pt}{l:Inn}(h:u∈r.map (·.1)):(put r u l).map (·.1)=r.map (·.1):=by rw[put_keys,if_pos h]
theorem Base.pushed(b:Base es st g r){u v:Pt}(h:0<rm r u v):Base es st g (tY r u v):=by
 have a:=b.adjw h;have y:=SQ a;have e:=oU (r:=r) y;refine⟨B9 y b.ndi,λp q=>?_,?_,λp q=>?_,λp q=>?_⟩;rw[Db y ((b.adj u v).mpr a) ((b.adj v u).mpr (ZB a))];exact b.adj p q;have k:u∈r.map (·.1):=by rw[b.keys];exact cB a
 have f:v∈r.map (·.1):=by rw[b.keys];exact cB (ZB a)
 unfold tY;rw[cQ (by rw[cQ k];exact f),cQ k];exact b.keys;rw[e];have:=b.nn p q;by_cases c:p=u/\q=v;rw[if_pos c,c.1,c.2];split<;>omega;rw[if_neg c];split<;>omega;unfold fl;rw[e,e];have:=b.anti p q;unfold fl at this;by_cases x:p=v/\q=u;rw[if_pos x,if_pos (c:=q=u/\p=v) ⟨x.2,x.1⟩,if_neg (c:=p=u/\q=v) (λz=>y (z.1.symm.trans x.1)),if_neg (c:=q=v/\p=u) (λz=>y (z.2.symm.trans x.1))];omega;rw[if_neg x,if_neg (c:=q=u/\p=v) (λz=>x ⟨z.2,z.1⟩)];by_cases w:p=u/\q=v;rw[if_pos w,if_pos (c:=q=v/\p=u) ⟨w.2,w.1⟩];omega;rw[if_neg w,if_neg (c:=q=v/\p=u) (λz=>w ⟨z.2,z.1⟩)];omega
theorem DW(b:Base es st g r){u v:Pt}(h:0<rm r u v)(x:Pt):out es st g (tY r u v) x=out es st g r x+(if x=u then 1 else 0) - (if x=v then 1 else 0):=by
 have a:=b.adjw h;have f:=SQ a;unfold out;have e:∀q,fl es st g (tY r u v) x q=fl es st g r x q+((if q=v then(if x=u then 1 else 0) else 0)+-(if q=u then(if x=v then 1 else 0) else 0)):=λq=>by unfold fl;rw[oU f];by_cases k:x=u;have w:x≠v:=λz=>f (k.symm.trans z);rw[if_neg (c:=x=v/\q=u) (λz=>w z.1),if_pos k,if_neg w];by_cases y:q=v;rw[if_pos (c:=x=u/\q=v) ⟨k,y⟩,if_pos y];split<;>omega;rw[if_neg (c:=x=u/\q=v) (λz=>y z.2),if_neg y];split<;>omega;rw[if_neg (c:=x=u/\q=v) (λz=>k z.1),if_neg k];by_cases w:x=v;rw[if_pos w];by_cases y:q=u;rw[if_pos (c:=x=v/\q=u) ⟨w,y⟩,if_pos y];split<;>omega;rw[if_neg (c:=x=v/\q=u) (λz=>y z.2),if_neg y];split<;>omega;rw[if_neg (c:=x=v/\q=u) (λz=>w z.1),if_neg w];split<;>split<;>omega
 rw[EA λq _=>e q,JH,JH,YJ,ZJ UF (cB (ZB a)),ZJ UF (cB a)];omega
end
section
variable{r y:Rm}{ks:List Pt}
theorem CF.find{vs:List D}(h:CF r ks vs){q:Pt}(m:q∈ks)(b:q≠KA):∃z u p k v,CF r z u/\p∈z/\be r p q/\q∉z/\ks=z++q::k/\vs=u++pr p::v:=by
 induction h with|bg=>exact absurd (QI.mp m) b|@add ks vs p x c i w n f=>by_cases e:q∈ks;obtain⟨z,u,a,k,v,Z,Y,X,s,o,l⟩:=f e;exact⟨z,u,a,k++[x],v++[pr p],Z,Y,X,s,by rw[o,Qx];rfl,by rw[l,Qx];rfl⟩;have j:q=x:=QI.mp ((Qe.mp m).resolve_left e);subst j;exact⟨ks,vs,p,[],[],c,i,w,n,rfl,rfl⟩
structure LC(es:dC)(st:LS)(g:Str)(y r:Rm)(here:Pt)(ks:List Pt):Prop extends Base es st g r where
 cons:∀x,x≠KA->x≠tO g->out es st g r x=if x=here then 1 else 0
 val:out es st g r KA=out es st g y KA+if here=KA then 1 else 0
 fresh:∀p,∀q∈ks,rm y p q<=rm r p q
theorem v5(f:Flow es st g y)(ks:List Pt):LC es st g y y (tO g) ks:=by refine⟨f.toBase,λx u h=>?_,?_,λp q _=>QCQ _⟩;rw[if_neg h];exact f.cons x u h;rw[if_neg (λz=>TB z.symm)];omega
theorem E9{h p:Pt}{u:List Pt}(nd:Hb y)(l:LC es st g y r h ks)(i:h∈ks)(hb:h≠KA)(w:be y p h)(f:h∉u)(e:∀q∈u,q∈ks):0<rm r p h/\LC es st g y (tY r p h) p u:=by have v:0<rm r p h:=Int.lt_of_lt_of_le ((zU nd).mp w) (l.fresh p h i);have b:=SQ (l.adjw v);refine⟨v,l.toBase.pushed v,λx a j=>?_,?_,λx q k=>?_⟩;rw[DW l.toBase v,l.cons x a j];split<;>split<;>omega;rw[DW l.toBase v,l.val,if_neg hb,if_neg (c:=KA=h) (λz=>hb z.symm)];by_cases c:p=KA;rw[if_pos c,if_pos c.symm];omega;rw[if_neg c,if_neg (λz=>c z.symm)];omega;have a:=l.fresh x q (e q k);rw[oU b,if_neg (c:=x=p/\q=h) (λz=>f (z.2▸k))];split<;>omega
theorem Eh(l:LC es st g y r KA ks):Flow es st g r/\out es st g r KA=out es st g y KA+1:=by refine⟨⟨l.toBase,λx h z=>?_⟩,?_⟩;rw[l.cons x h z,if_neg h];rw[l.val,if_pos rfl]
end
end
section
variable{es:dC}{st:LS}{g:Str}{r:Rm}
section
variable{p q y:Pt}{n a:Str}{ks:List Pt}
theorem uL(b:Base es st g r)(h:rm (jA es st g) q p=0):fl es st g r p q=rm r q p:=by have:=b.anti p q;unfold fl at this ⊢;omega
def AT(r:Rm)(n:Str):Int:=rm r (fR n) (tO n)
theorem fU(b:Base es st g r)(n:Str):fl es st g r (tO n) (fR n)=AT r n:=uL b (II λl=>yF (.inr (.inl ⟨n,rfl,rfl⟩)) l)
theorem BL(b:Base es st g r)(n:Str):AT r n<=1:=by rw[<- fU b];have x:=Jo (es:=es) (st:=st) (g:=g) (n:=n);have h:=b.nn (tO n) (fR n);unfold fl;omega
theorem Y2(b:Base es st g r)(h:p∉vs0 es st g∨q∉vs0 es st g):rm r p q=0:=by refine pP λa=>?_;have a:=(b.adj p q).mp a;rcases h with h|h;exact h (cB a);exact h (cB (ZB a))
theorem uc(l:List Pt)(nd:l.Nodup)(u:Pt)(k:Int)(h:u∉l->k=0):sm l (λx=>if x=u then k else 0)=k:=by by_cases m:u∈l;exact ZJ nd m;rw[gP m,h m]
def inn(r:Rm)(n:Str)(y:Pt):Int:=if y=fR n then 0 else rm r (tO n) y
theorem pQ(f:Flow es st g r)(h:n≠g):sm (vs0 es st g) (inn r n)=AT r n:=by
 have c:=f.cons (tO n) (λz=>TB z.symm) (λz=>h (UB z));unfold out at c;have e:∀y,fl es st g r (tO n) y=(if y=fR n then AT r n else 0)+- inn r n y:=λy=>by unfold inn;by_cases e:y=fR n;rw[if_pos e,if_pos e,e,fU f.toBase];omega;rw[if_neg e,if_neg e];unfold fl;rw[yj e];omega
 rw[EA λy _=>e y,JH,YJ,uc _ UF (fR n) (AT r n) (λz=>Y2 f.toBase (.inl z))]at c;omega
theorem oQ(b:Base es st g r)(n:Str)(y:Pt):0<=inn r n y:=by unfold inn;split;decide;exact b.nn _ _
def j9(r:Rm)(n:Str)(y:Pt):Int:=if y=tO n then 0 else rm r y (fR n)
theorem CW(f:Flow es st g r)(n:Str):sm (vs0 es st g) (j9 r n)=AT r n:=by
 have c:=f.cons (fR n) (λz=>ZE z.symm) (λz=>HA z.symm);unfold out at c;have e:∀y,fl es st g r (fR n) y=- (if y=tO n then AT r n else 0)+j9 r n y:=λy=>by unfold j9;by_cases e:y=tO n;rw[if_pos e,if_pos e,e];have:=f.anti (fR n) (tO n);rw[fU f.toBase]at this;omega;rw[if_neg e,if_neg e,uL f.toBase (Ls e)];omega
 rw[EA λy _=>e y,JH,YJ,uc _ UF (tO n) (AT r n) (λz=>Y2 f.toBase (.inr z))]at c;omega
theorem uh(b:Base es st g r)(n:Str)(y:Pt):0<=j9 r n y:=by unfold j9;split;decide;exact b.nn _ _
def DT(r:Rm)(n:Str):Prop:=0<rm r (tO n) KA
def j7(r:Rm)(a b:Str):Prop:=a≠b/\0<rm r (tO b) (fR a)
theorem NJ(b:Base es st g r)(h:DT r n):n∈st/\n≠g:=by
 rcases cC.mp (dB.mp (b.adjw h)) with⟨v,m⟩| ⟨v,m⟩
 exact absurd (kC _ m).1 λl=>by
  rcases l with⟨e,_⟩| ⟨_,_,e⟩| ⟨_,_,_,e,_⟩
  exact TB e.symm;exact ZE e;exact HA e
 rcases vE.mp m with⟨k,mk,x,e|e⟩| ⟨e,_,_,y|y|y⟩
 ·exact absurd (congrArg qP e) TB
 have:=congrArg (λw:Wy=>w.2.1) e;rw[UB this];exact⟨mk,x⟩;exact absurd (congrArg qP y) TB;exact absurd (congrArg qP y) TB;exact absurd (congrArg qP y) ZE
theorem Gh(b:Base es st g r){c:Str}(h:j7 r a c):(a,c)∈es/\a≠g:=by
 rcases cC.mp (dB.mp (b.adjw h.2)) with⟨v,m⟩| ⟨v,m⟩
 exact absurd (kC _ m).1 λl=>by
  rcases l with⟨e,_⟩| ⟨k,z,x⟩| ⟨_,_,_,e,_⟩
  exact TB e.symm;exact h.1 ((FH x).trans (UB z).symm);exact HA e
 rcases vE.mp m with⟨k,mk,u,e|e⟩| ⟨e,f,u,y|y|y⟩
 ·exact absurd (congrArg qP e).symm HA
 exact absurd (congrArg qP e).symm ZE;exact absurd (congrArg qP y).symm HA;exact absurd (congrArg qP y).symm HA;have z:a=e.1:=FH (congrArg qP y);have x:c=e.2:=UB (congrArg (λw:Wy=>w.2.1) y);rw[z,x];exact⟨f,u.1⟩
theorem fV:inn r n KA=rm r (tO n) KA:=by unfold inn;exact if_neg ZE
theorem GP(h:a≠n):inn r n (fR a)=rm r (tO n) (fR a):=by unfold inn;exact if_neg λz=>h (FH z)
theorem V9(h:a≠n):j9 r a (tO n)=rm r (tO n) (fR a):=by unfold j9;exact if_neg λz=>h (UB z).symm
theorem tI(b:Base es st g r)(h:0<rm r p q):p∈vs0 es st g/\q∈vs0 es st g:=⟨cB (b.adjw h),cB (ZB (b.adjw h))⟩
theorem nX(f:Flow es st g r)(n:Str)(h:n≠g):rm r (tO n) KA<=1:=by by_cases c:0<rm r (tO n) KA;have z:=iH (λx _=>oQ f.toBase n x) (tI f.toBase c).2;rw[pQ f h,fV]at z;exact QAP z (BL f.toBase n);omega
theorem Ha(f:Flow es st g r)(h:DT r n):AT r n=1:=by have ng:=(NJ f.toBase h).2;have z:=iH (λx _=>oQ f.toBase n x) (tI f.toBase h).2;rw[pQ f ng,fV]at z;have:=BL f.toBase n;unfold DT at h;omega
theorem K9(f:Flow es st g r)(h:j7 r a n)(ng:n≠g):AT r n=1:=by have z:=iH (λx _=>oQ f.toBase n x) (tI f.toBase h.2).2;rw[pQ f ng,GP h.1]at z;have:=BL f.toBase n;have:=h.2;omega
theorem K0(f:Flow es st g r)(ng:n≠g){x:Pt}(u:0<inn r n x)(h:0<inn r n y):x=y:=by
 have w:x∈vs0 es st g:=by unfold inn at u;split at u;exact absurd u (wk 0);exact(tI f.toBase u).2
 have v:y∈vs0 es st g:=by unfold inn at h;split at h;exact absurd h (wk 0);exact(tI f.toBase h).2
 by_cases e:x=y;exact e;have k:=J1 (λz _=>oQ f.toBase n z) w v e;rw[pQ f ng]at k;have:=BL f.toBase n;omega
theorem MW(f:Flow es st g r){b:Str}(ng:n≠g)(x:j7 r a n)(h:j7 r b n):a=b :=
 FH (K0 f ng (by rw[GP x.1];exact x.2) (by rw[GP h.1];exact h.2))
theorem JQ(f:Flow es st g r)(x:DT r n)(h:j7 r a n):False :=
 ZE (K0 f (NJ f.toBase x).2 (by rw[fV];exact x) (by rw[GP h.1];exact h.2))
theorem Y4(f:Flow es st g r)(h:AT r n=1):∃y,y≠tO n/\0<rm r y (fR n):=by obtain⟨y,_,x⟩:=Y1 (f:=j9 r n) (l:=vs0 es st g) (by rw[CW f,h];decide);unfold j9 at x;split at x;exact absurd x (wk 0);rename_i ne;exact⟨y,ne,x⟩
theorem Oc(b:Base es st g r)(h:AH r y (fR n)):∃m,y=tO m:=by
 rcases cC.mp (dB.mp ((b.adj _ _).mp h)) with⟨v,m⟩| ⟨v,m⟩
 rcases(kC _ m).1 with⟨_,k,e⟩| ⟨k,e,_⟩| ⟨_,k,_,_,e⟩
 ·exact absurd e.symm HA
 exact⟨k,e⟩;exact absurd e.symm HA;rcases(kC _ m).1 with⟨e,_⟩| ⟨k,e,_⟩| ⟨_,k,_,_,e⟩
 ·exact absurd e.symm ZE
 exact absurd e.symm HA;exact⟨k,e⟩
theorem M4(b:Base es st g r)(h:AH r y KA):∃m,y=tO m:=by
 rcases cC.mp (dB.mp ((b.adj _ _).mp h)) with⟨v,m⟩| ⟨v,m⟩
 rcases(kC _ m).1 with⟨_,k,e⟩| ⟨k,_,e⟩| ⟨_,k,_,_,e⟩
 ·exact absurd e TB
 exact absurd e ZE;exact absurd e TB;rcases(kC _ m).1 with⟨_,k,e⟩| ⟨k,e,_⟩| ⟨_,k,_,e,_⟩
 ·exact⟨k,e⟩
 exact absurd e TB;exact absurd e ZE
theorem Fh(f:Flow es st g r)(h:AT r n=1):∃m,j7 r n m:=by obtain⟨y,z,x⟩:=Y4 f h;obtain⟨m,rfl⟩:=Oc f.toBase ((f.adj _ _).mpr (f.toBase.adjw x));exact⟨m,λe=>z (by rw[e]),x⟩
theorem AN(f:Flow es st g r){v:Int}(m:(p,tO n,v)∈GZ es st g):0<rm r p (tO n):=by
 have c:=jj m;have l:=(kC _ m).1;have h:fl es st g r p (tO n)=rm r (tO n) p:=uL f.toBase (II (yF l));unfold fl at h;rw[c]at h;have key:rm r (tO n) p<=1:=by
  rcases vE.mp m with⟨k,mk,z,e|e⟩| ⟨e,o,z,y|y|y⟩
  exact absurd (congrArg (λw:Wy=>w.2.1) e) HA;have b:p=KA:=congrArg qP e;have u:n=k:=UB (congrArg (λw:Wy=>w.2.1) e);rw[b];exact nX f n (by rw[u];exact z);exact absurd (congrArg (λw:Wy=>w.2.1) y) HA;exact absurd (congrArg (λw:Wy=>w.2.1) y) HA;have b:p=fR e.1:=congrArg qP y;have u:n=e.2:=UB (congrArg (λw:Wy=>w.2.1) y);rw[b];by_cases c:0<rm r (tO n) (fR e.1);have j:e.1≠n:=by rw[u];exact z.2
  have i:=iH (λx _=>uh f.toBase e.1 x) (tI f.toBase c).1;rw[CW f,V9 j]at i;exact QAP i (BL f.toBase _);omega
 omega
theorem iR{l m:List Pt}(v:l.Nodup)(u:m.Nodup)(h:∀x,x∈l↔x∈m):l.length=m.length:=by have a:=MG v λx z=>(h x).mp z;have b:=MG u λx z=>(h x).mpr z;omega
def dG(ks:List Pt)(x:Pt):Bool:=decide (x.2="to")&&!decide (fR x.1∈ks)
theorem SD{x:Pt}:dG ks x=true↔∃n,x=tO n/\fR n∉ks:=by unfold dG;rw[Qa,Q6,decide_eq_true_iff,decide_eq_false_iff_not];constructor;rintro⟨u,z⟩;exact⟨x.1,QCG rfl u,z⟩;rintro⟨n,rfl,h⟩;exact⟨rfl,h⟩
theorem lP(p:Pt->Bool):∀(l:List Pt),sm l (λx=>if p x=true then 1 else 0)=(l.filter p).length
 |[]=>rfl|x::l=>by show(if p x=true then 1 else 0)+sm l _=_;rw[lP p l,WI];by_cases c:p x=true;rw[if_pos c,if_pos c,QM];omega;rw[if_neg c,if_neg c];omega
theorem OS(f:Flow es st g r)(nd:ks.Nodup)(hk:∀p,p∈ks↔Rch r p)(M:tO g∉ks):out es st g r KA=(ks.filter (dG ks)).length:=by
 have sub:∀p∈ks,p∈vs0 es st g:=λp L=>by have:=yB.mp (cI f.toBase.dom f.toBase.bg ((hk p).mp L));rw[f.keys]at this;exact this
 have o:∀x∈ks,∀y,y∉ks->rm r x y=0:=λx w y u=>by have:=f.nn x y;by_cases c:0<rm r x y;exact absurd ((hk y).mpr (.go ((hk x).mp w) ((zU f.ndi).mpr c))) u;omega
 have I:sm ((vs0 es st g).filter λx=>decide (x∈ks)) (λx=>out es st g r x)=out es st g r KA:=by
  have hb:KA∈ks:=(hk KA).mpr .bg;have e:∀x∈(vs0 es st g).filter (λx=>decide (x∈ks)),out es st g r x=if x=KA then out es st g r KA else 0:=λx w=>by by_cases c:x=KA;rw[if_pos c,c];rw[if_neg c];exact f.cons x c λz=>M (z▸of_decide_eq_true (QX.mp w).2)
  rw[EA e];exact ZJ (UF.sublist qC) (QX.mpr ⟨sub _ hb,dT hb⟩)
 have G:∀x∈(vs0 es st g).filter (λx=>decide (x∈ks)),sm ((vs0 es st g).filter λy=>!decide (y∈ks)) (fl es st g r x)=if dG ks x=true then 1 else 0:=λx w=>by
  have W:x∈ks:=of_decide_eq_true (QX.mp w).2;have Z:=(QX.mp w).1;have k:∀y∈(vs0 es st g).filter (λy=>!decide (y∈ks)),y∉ks/\fl es st g r x y=rm (jA es st g) x y:=λy u=>by have:=(QX.mp u).2;rw[Q6,decide_eq_false_iff_not]at this;refine⟨this,?_⟩;unfold fl;rw[o x W y this];omega
  have B:∀y∈(vs0 es st g).filter (λy=>!decide (y∈ks)),∀n,y=tO n->fl es st g r x y=0:=λy u n e=>by
   obtain⟨C,O⟩:=k y u;rw[O,e];by_cases A:x=fR n;rw[A];exact II λl=>yF (.inr (.inl ⟨n,rfl,rfl⟩)) l;rcases ao (es:=es) (st:=st) (g:=g) A with z|z
   ·exact z
   have a:AH (jA es st g) x (tO n):=by refine wQ λJ=>?_;rw[pP J]at z;exact absurd z (by decide)
   rcases cC.mp (dB.mp a) with⟨v,m⟩| ⟨v,m⟩
   have:=AN f m;rw[o x W (tO n) (e▸C)]at this;exact absurd this (wk 0);rw[II (yF (kC _ m).1)]
  rcases dD.kind x (yB.mpr Z) with e|⟨n,e|e⟩
  have i:¬ dG ks x=true:=λz=>by obtain⟨n,j,_⟩:=SD.mp z;exact TB (e.symm.trans j)
  rw[if_neg i];rw[EA (g:=λ_=>0),CG];intro y u;by_cases t:∃n,y=tO n;obtain⟨n,t⟩:=t;exact B y u n t;rw[(k y u).2,e];exact II λl=>by
   rcases l with⟨_,z⟩| ⟨n,z,_⟩| ⟨_,b,_,_,z⟩
   exact t z;exact TB z;exact t ⟨b,z⟩
  by_cases X:fR n∈ks
  ·have i:¬ dG ks x=true:=λz=>by
    obtain⟨m,j,h⟩:=SD.mp z;rw[<- UB (e.symm.trans j)]at h;exact h X
   rw[if_neg i,EA (g:=λ_=>0),CG];intro y u;rw[(k y u).2,e];exact yj λz=>(k y u).1 (z▸X)
  rw[if_pos (SD.mpr ⟨n,e,X⟩)];have K:Key (jA es st g) (tO n):=by rw[<- e];exact yB.mpr Z
  have N:fR n∈vs0 es st g:=cB (ZB (dB.mpr (oO K)));rw[EA (g:=λy=>if y=fR n then 1 else 0)];exact ZJ (UF.sublist qC) (QX.mpr ⟨N,by rw[dF X];rfl⟩);intro y u;rw[(k y u).2,e];by_cases c:y=fR n;rw[if_pos c,c,zj K];rw[if_neg c,yj c];have i:¬ dG ks x=true:=λz=>by obtain⟨m,j,_⟩:=SD.mp z;exact HA (j.symm.trans e)
  rw[if_neg i,EA (g:=λ_=>0),CG];intro y u;by_cases t:∃n,y=tO n;obtain⟨n,t⟩:=t;exact B y u n t;rw[(k y u).2,e];exact II λl=>by
   rcases l with⟨z,_⟩| ⟨n,z,_⟩| ⟨_,b,_,_,z⟩
   exact ZE z.symm;exact HA z.symm;exact t ⟨b,z⟩
 have F:∀x,out es st g r x=sm ((vs0 es st g).filter λy=>decide (y∈ks)) (fl es st g r x)+sm ((vs0 es st g).filter λy=>!decide (y∈ks)) (fl es st g r x):=λx=>oR _ _;have E:sm ((vs0 es st g).filter λx=>decide (x∈ks)) (λx=>out es st g r x)=sm ((vs0 es st g).filter λx=>decide (x∈ks)) (λx=>if dG ks x=true then 1 else 0):=by rw[EA λx _=>F x,JH,k8 _ λx _ y _=>f.anti x y,EA G];omega
 rw[<- I,E,lP];have:(((vs0 es st g).filter λx=>decide (x∈ks)).filter (dG ks)).length=(ks.filter (dG ks)).length:=by refine iR ((UF.sublist qC).sublist qC) (nd.sublist qC) λx=>?_;rw[QX,QX,QX,decide_eq_true_iff];exact⟨λ⟨⟨_,s⟩,Y⟩=>⟨s,Y⟩,λ⟨s,Y⟩=>⟨⟨sub x s,s⟩,Y⟩⟩
 rw[this]
theorem La(f:Flow es st g r):out es st g r KA=(((lk r KA).map (·.1)).filter λy=>decide (0<rm r y KA)).length:=by
 have e:∀y∈vs0 es st g,fl es st g r KA y=if decide (0<rm r y KA)=true then 1 else 0:=λy x=>by rw[uL f.toBase Ms];have z:=f.nn y KA;by_cases c:0<rm r y KA;rw[dT c,if_pos rfl];obtain⟨n,e⟩:=M4 f.toBase ((f.adj _ _).mpr (f.toBase.adjw c));rw[e]at c ⊢;have:=nX f n (NJ f.toBase c).2;omega;rw[dF c,if_neg (by decide)];omega
 unfold out;rw[EA e,lP];have:((vs0 es st g).filter λy=>decide (0<rm r y KA)).length=(((lk r KA).map (·.1)).filter λy=>decide (0<rm r y KA)).length:=by refine iR (UF.sublist qC) ((f.ndi KA).sublist qC) λy=>?_;rw[QX,QX,decide_eq_true_iff];refine⟨λ⟨_,h⟩=>⟨?_,h⟩,λ⟨_,h⟩=>⟨(tI f.toBase h).1,h⟩⟩;obtain⟨v,hv⟩:=(f.adj KA y).mpr (ZB (f.toBase.adjw h));exact QT.mpr ⟨(y,v),NG hv,rfl⟩
 rw[this]
theorem Ia(f:Flow es st g r)(hk:∀p,p∈ks↔Rch r p)(o:tO g∉ks){cut:LS}(hc:∀n,tO n∈ks->fR n∉ks->n∈cut):¬ ∃a,(a,g)∈es/\Led es st g cut a:=by
 have u:∀p∈ks,∀n v,(p,tO n,v)∈GZ es st g->tO n∈ks:=λp j n v m=>(hk _).mpr (.go ((hk _).mp j) ((zU f.ndi).mpr (AN f m)));have key:∀n,Led es st g cut n->fR n∈ks:=λn h=>by
  induction h with|@st s h k=>obtain⟨w,x⟩:=iE.mp k;have t:=u KA ((hk _).mpr .bg) s 2 (vE.mpr (.inl ⟨s,h,w,.inr rfl⟩));exact wQ λz=>x (hc s t z)|@ed a b l m k i=>obtain⟨w,x⟩:=iE.mp k;by_cases e:a=b;rw[<- e];exact i;have t:=u (fR a) i b 2 (vE.mpr (.inr ⟨(a,b),m,⟨(YM l).1,e⟩,.inr (.inr rfl)⟩));exact wQ λz=>x (hc b t z)
 rintro⟨a,m,l⟩;exact o (u (fR a) (key a l) g 2 (vE.mpr (.inr ⟨(a,g),m,⟨(YM l).1,(YM l).1⟩,.inr (.inr rfl)⟩)))
end
end
inductive Run(r:Rm)(g f:Str):LS->Str->Prop
 |nil:Run r g f [] f
 |go {c:LS}{n m:Str}:Run r g f c n->n≠g->j7 r n m->Run r g f (c++[n]) m
inductive Chn(es:dC)(st:LS)(g:Str):LS->Str->Prop
 |st {f:Str}:f∈st->f≠g->Chn es st g [] f
 |go {c:LS}{n m:Str}:Chn es st g c n->n≠g->(n,m)∈es->Chn es st g (c++[n]) m
section
variable{es:dC}{st:LS}{g:Str}{r:Rm}
section
variable{s n:Str}{c:LS}
theorem Run.chn(f:Flow es st g r)(x:DT r s)(h:Run r g s c n):Chn es st g c n:=by
 induction h with|nil=>exact .st (NJ f.toBase x).1 (NJ f.toBase x).2|go _ ng y z=>exact .go z ng (Gh f.toBase y).1
theorem Run.thr1(f:Flow es st g r)(y:DT r s)(h:Run r g s c n)(ng:n≠g):AT r n=1:=by
 cases h with|nil=>exact Ha f y|go _ _ x=>exact K9 f x ng
theorem Run.pred(h:Run r g s c n):∀x,x∈c∨x=n->x=s∨∃y∈c,j7 r y x:=by
 induction h with
 |nil=>intro x u;exact u.elim (λz=>(nomatch z)) .inl
 |@go c n m _ _ v w =>
  intro x u;rcases u with u|rfl;have:x∈c∨x=n:=(Qe.mp u).imp_right QI.mp;rcases w x this with z|⟨y,k,z⟩
  exact .inl z;exact .inr ⟨y,Ql _ k,z⟩;exact .inr ⟨n,QZ _ QE,v⟩
theorem Run.ng(h:Run r g s c n):∀x∈c,x≠g:=by
 induction h with
 |nil=>exact λx y=>(nomatch y)
 |go _ k _ u=>intro x y;rcases Qe.mp y with z|z;exact u x z;rw[QI.mp z];exact k
theorem Run.nd(f:Flow es st g r)(w:DT r s)(h:Run r g s c n):c.Nodup/\n∉c:=by
 induction h with
 |nil=>exact⟨Q0,λz=>(nomatch z)⟩
 |@go c n m h k x u =>
  have nd:(c++[n]).Nodup:=qX.mpr ⟨u.1,Qh.mpr ⟨λz=>(nomatch z),Q0⟩,λa i b hb z=>by rw[QI.mp hb]at z;exact u.2 (z▸i)⟩;refine⟨nd,λz=>?_⟩;rcases Qe.mp z with z|z;rcases h.pred m (.inl z) with e|⟨y,v,e⟩
  ·rw[e]at x;exact JQ f w x
  rw[MW f (h.ng m z) e x]at v;exact u.2 v;exact x.1 (QI.mp z).symm
theorem Run.apart(f:Flow es st g r){s':Str}(q:DT r s)(b:DT r s'){l:LS}{p:Str}(h:Run r g s c n)(h':Run r g s' l p):∀x∈c,x∈l->s=s':=by
 induction h with
 |nil=>exact λx a=>(nomatch a)
 |@go c n m h k X i =>
  intro x a v;rcases Qe.mp a with z|z;exact i x z v;have z:=QI.mp z;subst z;rcases h.pred x (.inr rfl) with e|⟨y,j,e⟩<;>rcases h'.pred x (.inl v) with u|⟨o,w,u⟩
  exact e.symm.trans u;rw[e]at u;exact(JQ f q u).elim;rw[u]at e;exact(JQ f b e).elim;rw[MW f k e u]at j;exact i o j w
end
end
section
variable{es:dC}{st:LS}{g:Str}
theorem zb{cut:LS}{c:LS}{n:Str}(h:Chn es st g c n)(hc:∀x∈c,x∉cut)(ng:n≠g)(y:n∉cut):Led es st g cut n:=by
 induction h with|st h _=>exact .st h (iE.mpr ⟨ng,y⟩)|@go c n m _ k e z=>exact .ed (z (λx u=>hc x (Ql _ u)) k (hc n (QZ _ QE))) e (iE.mpr ⟨ng,y⟩)
theorem Y6{cut:LS}{c:LS}(h:Chn es st g c g)(hl:¬ ∃a,(a,g)∈es/\Led es st g cut a):∃x∈c,x∈cut:=by
 refine wQ λz=>?_;have hc:∀x∈c,x∉cut:=λx y m=>z ⟨x,y,m⟩;cases h with|st _ e=>exact e rfl|@go c n _ h k e=>exact hl ⟨n,e,zb h (λx y=>hc x (Ql _ y)) k (hc n (QZ _ QE))⟩
def nJ:List (LS)->Prop
 |[]=>True|c::cs=>(∀d∈cs,∀x∈c,x∉d)/\nJ cs
theorem Yc{cut:LS}:∀{cs:List (LS)},nJ cs->(∀c∈cs,∃x∈c,x∈cut)->∃u:LS,u.length=cs.length/\u.Nodup/\(∀p∈u,p∈cut)/\∀p∈u,∃c∈cs,p∈c
 |[],_,_=>⟨[],rfl,Q0,λ_ z=>(nomatch z),λ_ z=>(nomatch z)⟩
 |c::cs,a,h=>by
  obtain⟨u,f,e,b,k⟩:=Yc (cs:=cs) a.2 λd v=>h d (QD _ v);obtain⟨x,w,hc⟩:=h c QE;refine⟨x::u,by rw[QM,QM,f],Qh.mpr ⟨λz=>?_,e⟩,λp y=>?_,λp y=>?_⟩;obtain⟨d,v,y⟩:=k x z;exact a.1 d v x w y;rcases QL.mp y with z|z
  ·rw[z];exact hc
  exact b p z;rcases QL.mp y with z|z
  ·exact⟨c,QE,by rw[z];exact w⟩
  obtain⟨d,v,y⟩:=k p z;exact⟨d,QD _ v,y⟩
theorem sZ{cut:LS}{cs:List (LS)}(a:nJ cs)(h:∀c∈cs,Chn es st g c g)(hl:¬ ∃a,(a,g)∈es/\Led es st g cut a):cs.length<=cut.length:=by obtain⟨u,z,y,x,_⟩:=Yc a λc hc=>Y6 (h c hc) hl;rw[<- z];exact jQ y x
end
section
variable{ks:List Pt}{vs:List D}{p:Pt}
def rC(ks:List Pt)(vs:List D):List (D×D):=(ks.map pr).zip vs
theorem Ii(ks:List Pt)(vs:List D):(K7 ks vs).er=.dict (rC ks vs):=by show PyData.dict ((ks.map pr).zip (ersT (vs.map T.d)))=_;rw[pB];rfl
theorem cL(h:vs.length=ks.length):(rC ks vs).map (·.1)=ks.map pr:=Wr (by rw[QF];omega)
theorem cb(h:vs.length=ks.length):(rC ks vs).map (·.2)=vs:=WG (by rw[QF];omega)
theorem AI(h:vs.length=ks.length)(m:p∈ks):eD (rC ks vs)=some true:=by
 cases ks with
 |nil=>exact(nomatch m)
 |cons x ks=>cases vs with|nil=>cases h|cons y vs=>rfl
theorem GS{q:Pt}{u:List Pt}:∀{y:List Pt},q∉y->bA ((y++q::u).map pr) (pr q)=some y.length
 |[],_=>Jd rfl|x::y,h=>by show bA (pr x::(y++q::u).map pr) (pr q)=_;rw[y6 (λz=>h (by rw[eP z];exact QE)),GS λz=>h (QD _ z)];rfl
theorem Pk{h z:List Pt}{y x:List D}{q:Pt}{n m:Bool}{R:T->Prop}(u:y.length=h.length)(w:x.length=z.length)(v:q∉h)(k:R (.d (pr p))):DA (.d (.dict (rC (h++q::z) (y++pr p::x)))) n (.d (pr q)) m R:=by
 have hl:(y++pr p::x).length=(h++q::z).length:=by rw[QJ,QJ,QM,QM,u,w]
 refine Mk (AI hl (p:=q) (QZ _ QE)) (IB q) (by rw[cL hl];exact GS v) ?_ k;rw[cb hl,<- u,qH (Qb _),Nat.sub_self];rfl
theorem KQ(a b:Pt):Qu (pr a) (pr b)=decide (a=b):=by
 rw[Q9,decide_eq_true_iff];have e:Qu (pr a) (pr b)=(Qu (.str a.1) (.str b.1)&&(Qu (.str a.2) (.str b.2)&&true)):=by simp[pr,Qu,PyData.eqvAll]
 rw[e,ZQ,ZQ,Ww,Qa,decide_eq_true_iff,decide_eq_true_iff];exact⟨λh=>QCG h.1 h.2,λh=>by rw[h];exact⟨rfl,rfl⟩⟩
def eG(es:dC)(st:LS):Prop:=(∀s∈st,qq s=true)/\∀e∈es,qq e.1=true/\qq e.2=true
theorem jD{a b:Str}(x:qq a=true)(h:qq b=true):TF (pr (a,b)):=by refine⟨?_,?_⟩;simp only[pr,QAW,wX,x,h,Bool.and_self];simp only[pr,QA7,wy];decide
theorem nR:qq "to"=true:=by decide +kernel
theorem cW:qq "from"=true:=by decide +kernel
theorem kO:qq ""=true/\qq "begin"=true:=by decide +kernel
theorem Z5{es:dC}{st:LS}{g:Str}(h:eG es st)(k:p∈vs0 es st g):TF (pr p):=by
 have k:Key (jA es st g) p:=yB.mpr k;rw[oE]at k;rcases vL.mp k with z|⟨⟨u,v,c⟩,m,z⟩
 rw[QI.mp (yB.mp z)];exact jD kO.1 kO.2;have z:p=u∨p=v:=z;rcases vE.mp m with⟨n,w,_,e|e⟩| ⟨e,x,_,y|y|y⟩
 cases e;rcases z with z|z<;>subst z;exact jD (h.1 n w) nR;exact jD (h.1 n w) cW;cases e;rcases z with z|z<;>subst z;exact jD kO.1 kO.2;exact jD (h.1 n w) nR;cases y;rcases z with z|z<;>subst z;exact jD (h.2 e x).1 nR;exact jD (h.2 e x).1 cW;cases y;rcases z with z|z<;>subst z;exact jD (h.2 e x).2 nR;exact jD (h.2 e x).2 cW;cases y;rcases z with z|z<;>subst z;exact jD (h.2 e x).1 cW;exact jD (h.2 e x).2 nR
def jR(r:Rm)(x:List (D×D))(last:D)(h:Pt)(o4:Option Sl):kA:=[oW (UA r),bD (.dict x),bD last,bD (pr h),o4]
end
section
variable{Ψ:PEv}{Z:PEnds}{q:PT}{r:Rm}{h:List (D×D)}{last:D}{u v:Pt}
theorem Kr(hk:Key r u)(w:AH r u v)(hl:(lk r u).length<sizeLine)(k:pF Ψ q Z (jR (put r u (put (lk r u) v (rm r u v - 1))) h last v (bD (pr u)))) :
  pF Ψ (.seq (.six (.idx (.xz 0) (.xz 4)) (.xz 3) (.bin .Sub (.idx (.idx (.xz 0) (.xz 4)) (.xz 3)) (.int 1))) q) Z (jR r h last v (bD (pr u))):=by
 obtain⟨x,y⟩:=w;have e:rm r u v=x:=by unfold rm;rw[y];rfl
 rw[e]at k;delta jR at k ⊢;simp_arith[↓TH];refine HE hk ?_;simp_arith[↓OX];refine xP y ?_;simp_arith[↓zA];refine zI (eE hk) λf z=>fP hl ?_;rw[z];exact k
theorem Yr(hk:Key r v)(w:AH r v u)(hl:(lk r v).length<sizeLine)(k:pF Ψ q Z (jR (put r v (put (lk r v) u (rm r v u+1))) h last v (bD (pr u)))) :
  pF Ψ (.seq (.six (.idx (.xz 0) (.xz 3)) (.xz 4) (.bin .Add (.idx (.idx (.xz 0) (.xz 3)) (.xz 4)) (.int 1))) q) Z (jR r h last v (bD (pr u))):=by
 obtain⟨x,y⟩:=w;have e:rm r v u=x:=by unfold rm;rw[y];rfl
 rw[e]at k;delta jR at k ⊢;simp_arith[↓TH];refine HE hk ?_;simp_arith[↓OX];refine xP y ?_;simp_arith[↓zA];refine zI (eE hk) λf z=>fP hl ?_;rw[z];exact k
end
theorem Base.inn{es:dC}{st:LS}{g:Str}{r:Rm}(b:Base es st g r)(p:Pt):(lk r p).length<=(jA es st g).length:=by
 have:=MG (ns:=vs0 es st g) (b.ndi p) λq h=>by obtain⟨e,x,z⟩:=QT.mp h;have a:AH r p q:=dB.mpr ⟨e.2,by rw[<- z];exact x⟩;exact cB (ZB ((b.adj p q).mp a))
 unfold vs0 at this;rw[QF,QF]at this;exact this
section
variable{Ψ:PEv}{Z:PEnds}{es:dC}{st:LS}{g:Str}
theorem S9{m r:Rm}{ks:List Pt}{vs:List D}{x:Pt}{last:D}{o4:Option Sl}{z v:List Pt}{b u:List D}(hsz:(jA es st g).length<=1000)(R:Hb m)(I:CF m z b)(S:ks=z++v)(ev:vs=b++u)(h9:u.length=v.length)(F:x∈z)(hb:x≠KA)(i:LC es st g m r x z)
  (k:∀h y n l p A,CF m h y->ks=h++n->vs=y++l->l.length=n.length->h.length<z.length->p∈h->LC es st g m A p h->Z.nx (jR A (rC ks vs) last p (bD (pr p)))) :
  pF Ψ cE Z (jR r (rC ks vs) last x o4):=by
 obtain⟨h,y,p,j,e,J,Q,w,B,X,G⟩:=I.find F hb;have M:=I.len;have L:=J.len;have H:e.length=j.length:=by rw[X,G,QJ,QJ,QM,QM]at M;omega
 have s:ks=h++x::(j++v):=by rw[S,X,Qx];rfl
 have o:vs=y++pr p::(e++u):=by rw[ev,G,Qx];rfl
 obtain⟨W,K⟩:=E9 R i F hb w B λq P=>by rw[X];exact Ql _ P
 have a:=i.adjw W;have C:=SQ a;have O:Key r p:=by rw[yB,i.keys];exact cB a
 have N:Key r x:=by rw[yB,i.keys];exact cB (ZB a)
 have E:=i.toBase.inn;have Y:pF Ψ %[.set 3 (.xz 4)|2] Z (jR (tY r p x) (rC ks vs) last x (bD (pr p))):=by have:=k h y (x::(j++v)) (pr p::(e++u)) p (tY r p x) J s o (by rw[QM,QM,QJ,QJ];omega) (by rw[X,QJ,QM];omega) Q K;unfold jR at this;delta jR;simp_arith[↓zA];exact this
 have f:pF Ψ %[.six (.idx (.xz 0) (.xz 4)) (.xz 3) (.bin .Sub (.idx (.idx (.xz 0) (.xz 4)) (.xz 3)) (.int 1)),.six (.idx (.xz 0) (.xz 3)) (.xz 4) (.bin .Add (.idx (.idx (.xz 0) (.xz 3)) (.xz 4)) (.int 1)),.set 3 (.xz 4)|2] Z (jR r (rC ks vs) last x (bD (pr p))):=by have i1:=E p;have i2:=E x;refine Kr O ((i.adj _ _).mpr a) (by omega) (Yr ?_ ?_ ?_ Y);exact XI.mpr (.inr N);show AH _ x p;have:=(i.adj x p).mpr (ZB a);unfold AH at this ⊢;rw[kE,if_neg C];exact this;rw[kE,if_neg C];omega
 unfold jR at f;delta jR;delta cE;simp_arith[↓zA];rw[s,o]at f ⊢;refine Pk L (by rw[QJ,QJ];omega) B ?_;simp_arith[↓zA];exact f
end
section
variable{es:dC}{st c:LS}{g a f:Str}{ks:List Pt}{vs:List D}{K:T->LT->Prop}{E:XE}{Ψ:PEv}{W:LT->Prop}{n m:Bool}{ρ:kA}{R:T->Prop}{r:Rm}{Z:PEnds}{L:Bool->Prop}{Q:T->Bool->Prop}{i:Nat}{cs:List (LS)}
noncomputable def aJ:PSp where
 md:=[.chg]
 run:=λu Q _=>∃(es:dC) (st:LS) (g:Str) (x:Rm) (ks:List Pt) (vs:List D),u=[UA x,.d (.dict (rC ks vs)),.d (pr (tO g))]/\((jA es st g).length<=1000/\eG es st/\Flow es st g x/\CF x ks vs/\tO g∈ks)/\∀y,Flow es st g y->out es st g y KA=out es st g x KA+1->Q (.d .none) [UA y]
 mono:=λh _ z=>by obtain⟨es,st,g,x,ks,vs,e,l,q⟩:=z;exact⟨es,st,g,x,ks,vs,e,l,λy a b=>h _ _ (q y a b)⟩
theorem l8{h:Rm}(w:(jA es st g).length<=1000)(v:eG es st)(u:Flow es st g h)(z:CF h ks vs)(y:tO g∈ks)(q:∀x,Flow es st g x->out es st g x KA=out es st g h KA+1->K (.d .none) [UA x]):eB aJ [UA h,.d (.dict (rC ks vs)),.d (pr (tO g))] K E:=⟨es,st,g,h,ks,vs,rfl,⟨w,v,u,z,y⟩,q⟩
theorem Vh(F:Ψ.va "BEGIN"=some (pr KA))(ds Q E)(h:aJ.run ds Q E):EG Ψ mG aJ DK nI ds Q:=by
 obtain⟨es,st,g,b,ks,vs,rfl,⟨P,O,fl,cf,M⟩,q⟩:=h;refine SJ [oW (UA b),bD (.dict (rC ks vs)),bD (pr (tO g)),none,none] rfl rfl rfl ?_;delta mG;simp_arith[↓zA];refine EH (λm ρ=>∃r x y w v z o4,m=x.length/\CF b x y/\ks=x++w/\vs=y++v/\v.length=w.length/\z∈x/\LC es st g b r z x/\ρ=jR r (rC ks vs) (pr (tO g)) z o4) ks.length ⟨b,ks,vs,[],[],tO g,_,rfl,cf,by rw[Q8],by rw[Q8],rfl,M,v5 fl ks,rfl⟩ ?_;rintro m ρ ⟨r,x,y,w,v,z,o4,em,G,ek,ev,N,B,A,rfl⟩;have s:TF (pr z):=Z5 O (by have:=cI fl.toBase.dom fl.toBase.bg (G.rch z B);rw[yB,fl.keys]at this;exact this);have X:TF (pr KA):=jD kO.1 kO.2;have u:∀L:Bool->Prop,L (!decide (z=KA))->MB .NotEq (.d (pr z)) (.d (pr KA)) L:=λL l=>by show TF (pr z)/\TF (pr KA)/\L (!PyData.eqv (pr z) (pr KA));rw[KQ];exact⟨s,X,l⟩
 by_cases e:z=KA;subst e;delta jR;simp_arith[↓rH F];refine u _ ?_;rw[dT rfl];obtain⟨H,S⟩:=Eh A;exact q r H S;have C:=λ(Z:PEnds) J=>S9 (Ψ:=Ψ) (Z:=Z) (last:=pr (tO g)) (o4:=o4) P fl.ndi G ek ev N B e A J;unfold jR at C;delta jR;simp_arith[↓rH F];refine u _ ?_;rw[dF e];refine C _ λk o Y j p I a1 a2 a3 a4 a5 a6 a7=>⟨k.length,by omega,I,k,o,Y,j,p,_,rfl,a1,a2,a3,a4,a6,a7,rfl⟩
theorem o0{l:Inn}:xL .val [(iD l,false)] W=W ((l.map λe=>pr e.1).map T.d):=sS _ _
theorem Of{kvs:List (D×D)}(h:eD kvs=some true):xL .val [(.d (.dict kvs),n)] W=W ((kvs.map (·.1)).map T.d):=by unfold xL fC;rw[pA];show FB .val [uC kvs] W=_;unfold uC;rw[h];exact sS _ _
theorem ue{a b h:PX}{t:Str}{x:T}{R:Option T->Prop}:RI Ψ E [] [t] (.nm 0) (.and a b) h ρ x R=iP Ψ (.and a b) E (some (.ky x)::lockA ρ) λk z=>if k=true then lB Ψ h E z λy n _=>ZC y n (R (some y)) else R none:=rfl
theorem lL{p:Pt}:DA (.d (pr p)) n (.d (.int 0)) m R=R (.d (.str p.1)):=by delta pr;rw[TZ,Kj,EB]
theorem EZ{p:Pt}:DA (.d (pr p)) n (.d (.int 1)) m R=R (.d (.str p.2)):=by delta pr;rw[TZ,Es,EB]
theorem Jc:(T.d (.tuple [.str a,.str "from"]))=.d (pr (fR a)):=rfl
theorem j3:(T.d (.tuple [.str a,.str "to"]))=.d (pr (tO a)):=rfl
noncomputable def gD:PSp where
 md:=[.ky]
 run:=λx Q _=>∃(es:dC) (st:LS) (g:Str) (r:Rm) (n:Str),x=[UA r,.d (.str n)]/\((jA es st g).length<=1000/\Flow es st g r/\AT r n=1)/\∀m,j7 r n m->Q (.d (.str m)) []
 mono:=λh _ z=>by obtain⟨es,st,g,r,n,e,l,q⟩:=z;exact⟨es,st,g,r,n,e,l,λm a=>h _ _ (q m a)⟩
theorem nU{n:Str}(y:(jA es st g).length<=1000)(x:Flow es st g r)(h:AT r n=1)(q:∀m,j7 r n m->K (.d (.str m)) []):eB gD [UA r,.d (.str n)] K E:=⟨es,st,g,r,n,rfl,⟨y,x,h⟩,q⟩
theorem UY(ds Q E)(h:gD.run ds Q E):EG Ψ bE gD nH OF ds Q:=by
 obtain⟨es,st,g,r,n,rfl,⟨O,fl,C⟩,q⟩:=h;have N:=fl.toBase.inn (fR n);obtain⟨j,b⟩:=Fh fl C;have s:AH r (fR n) (tO j):=(fl.adj _ _).mpr (ZB (fl.toBase.adjw b.2));have Y:Key r (fR n):=by rw[yB,fl.keys];exact cB ((fl.adj _ _).mp s)
 refine gA [some (.ky (UA r)),bD (.str n),none] rfl rfl rfl ?_;delta bE;simp_arith[Jc,↓TH];refine⟨by omega,HE Y ?_⟩;simp_arith[↓u7,↓o0];have I:((lk r (fR n)).map λe=>pr e.1).map T.d=((lk r (fR n)).map (·.1)).map λp=>T.d (pr p):=by rw[QS,QS];rfl
 rw[I];refine fA (λp=>T.d (pr p)) (λ(p:Pt)=>T.d (.str p.1)) (λp=>!decide (p.1=n)&&decide (0<rm r p (fR n))) ((lk r (fR n)).map (·.1)) [] _ (λx B R w=>?_) (by show 0+((lk r (fR n)).map (·.1)).length<=_;rw[QF];omega) ?_;obtain⟨e,F,G⟩:=QT.mp B;have J:AH r (fR n) x:=dB.mpr ⟨e.2,by rw[<- G];exact F⟩;have k:AH r x (fR n):=(fl.adj _ _).mpr (ZB ((fl.adj _ _).mp J));have X:Key r x:=by rw[yB,fl.keys];exact cB ((fl.adj _ _).mp k)
 obtain⟨v,hv⟩:=k;have ev:rm r x (fR n)=v:=by unfold rm;rw[hv];rfl
 rw[ev]at w;simp_arith[↓ue,↓lL,↓TH];by_cases c:x.1=n;rw[dT c]at w ⊢;exact w;rw[dF c]at w ⊢;simp only[wt,↓reduceIte];refine HE X ?_;simp_arith[↓OX];refine xP hv ?_;simp_arith[↓lL];by_cases d:0<v;rw[dT d]at w ⊢;exact w;rw[dF d]at w ⊢;exact w;have l:tO j∈((lk r (fR n)).map (·.1)).filter λp=>!decide (p.1=n)&&decide (0<rm r p (fR n)):=by obtain⟨v,hv⟩:=s;refine QX.mpr ⟨QT.mpr ⟨_,NG hv,rfl⟩,?_⟩;rw[dF (show ¬ (tO j).1=n from λz=>b.1 z.symm),dT b.2];rfl
 cases o:((lk r (fR n)).map (·.1)).filter λp=>!decide (p.1=n)&&decide (0<rm r p (fR n)) with
 |nil=>rw[o]at l;exact(nomatch l)
 |cons y M =>
  have A:y∈((lk r (fR n)).map (·.1)).filter λp=>!decide (p.1=n)&&decide (0<rm r p (fR n)):=by rw[o];exact QE
  have u:=(QX.mp A).2;rw[Qa,Q6,decide_eq_false_iff_not,decide_eq_true_iff]at u;obtain⟨m,rfl⟩:=Oc fl.toBase ((fl.adj _ _).mpr (fl.toBase.adjw u.2));rw[Qg,lA (λp:Pt=>PyData.str p.1)];simp_arith[↓zA];rw[QU,Kj];simp_arith[↓zA];exact q m ⟨λz=>u.1 z.symm,u.2⟩
noncomputable def mE:PSp where
 md:=[.ky]
 run:=λx Q _=>∃(es:dC) (st:LS) (g:Str) (r:Rm) (f:Str),x=[UA r,.d (.str f),.d (.str g)]/\((jA es st g).length<=1000/\Flow es st g r/\DT r f)/\∀c,Run r g f c g->Q (.lst ((c.map PyData.str).map T.d)) []
 mono:=λh _ z=>by obtain⟨es,st,g,r,n,e,l,q⟩:=z;exact⟨es,st,g,r,n,e,l,λm a=>h _ _ (q m a)⟩
theorem lY(y:(jA es st g).length<=1000)(x:Flow es st g r)(h:DT r f)(q:∀c,Run r g f c g->K (.lst ((c.map PyData.str).map T.d)) []):eB mE [UA r,.d (.str f),.d (.str g)] K E:=⟨es,st,g,r,f,rfl,⟨y,x,h⟩,q⟩
theorem Vg(fl:Flow es st g r)(w:DT r f){n:Str}(h:Run r g f c n):(∀x∈c,tO x∈vs0 es st g)/\tO n∈vs0 es st g:=by
 induction h with
 |nil=>exact⟨λx y=>(nomatch y),(tI fl.toBase w).1⟩
 |go _ _ v u=>refine⟨λx y=>?_,(tI fl.toBase v.2).1⟩;rcases Qe.mp y with z|z;exact u.1 x z;rw[QI.mp z];exact u.2
theorem pW(fl:Flow es st g r)(y:DT r f){n:Str}(h:Run r g f c n):c.length<=(jA es st g).length:=by
 have nd:=(h.nd fl y).1;have:=MG (ks:=c.map tO) (ns:=vs0 es st g) (WC tO (λa b u z=>u (UB z)) nd) λp w=>by obtain⟨x,v,e⟩:=QT.mp w;rw[<- e];exact(Vg fl y h).1 x v
 unfold vs0 at this;rw[QF,QF]at this;exact this
def Ai(r:Rm)(f g:Str)(c:LS)(n:Str):kA:=[some (.ky (UA r)),bD (.str f),bD (.str g),oW (.lst ((c.map PyData.str).map T.d)),bD (.str n)]
theorem vb(y:Ψ.sp "name_behind"=gD){n:Str}(x:(jA es st g).length<=1000)(fl:Flow es st g r)(h:AT r n=1)(hl:c.length<=1000)(k:∀m,j7 r n m->Z.nx (Ai r f g (c++[n]) m)) :
  pF Ψ DD Z (Ai r f g c n):=by
 delta Ai at k ⊢;delta DD;simp_arith[↓TQ,↓xA (md:=[.ky]) y rfl rfl];refine⟨by rw[QF,QF];omega,nU x fl h λm nx=>?_⟩;have:=k m nx;rw[QR,QR]at this;simp_arith[↓zA];exact this
theorem t4(l:Ψ.sp "name_behind"=gD)(ds Q E)(h:mE.run ds Q E):EG Ψ sF mE gJ gH ds Q:=by
 obtain⟨es,st,g,r,f,rfl,⟨j,fl,u⟩,q⟩:=h;have v:sizeLine=16777216:=Q5;refine gA [some (.ky (UA r)),bD (.str f),bD (.str g),none,none] rfl rfl rfl ?_;delta sF
 simp_arith[↓zA];refine⟨Qz _,EH (λm ρ=>∃c n,m+c.length=1001/\Run r g f c n/\ρ=Ai r f g c n) 1001 ⟨[],f,rfl,.nil,rfl⟩ ?_⟩;rintro m ρ ⟨c,n,o,y,rfl⟩;have hl:=pW fl u y;by_cases e:n=g;subst e;delta Ai;simp_arith[↓zA];exact q c y;have w:=λ(Z:PEnds) v=>vb (Ψ:=Ψ) (Z:=Z) (f:=f) (g:=g) (c:=c) l j fl (y.thr1 fl u e) (by omega) v;unfold Ai at w;delta Ai;simp_arith[↓zA];rw[dF e];refine w _ λb k=>?_;have x:=y.go e k;have z:=pW fl u x;rw[QJ,qF]at z;exact⟨m - 1,by omega,c++[n],b,by rw[QJ,qF];omega,x,rfl⟩
theorem vj{q:Pt}(hv:vs.length=ks.length)(hb:KA∈ks):MB .NotIn (.d (pr q)) (.d (.dict (rC ks vs))) L=L (!decide (q∈ks)):=by show(∃b,eD (rC ks vs)=some b/\HD b (pr q)/\L (!(bA ((rC ks vs).map (·.1)) (pr q)).isSome))=_;rw[AI hv hb,cL hv,HI];exact propext ⟨λ⟨_,_,_,h⟩=>h,λh=>⟨true,rfl,IB q,h⟩⟩
theorem Sd{q:Pt}(hv:vs.length=ks.length)(hb:KA∈ks):MB .In (.d (pr q)) (.d (.dict (rC ks vs))) L=L (decide (q∈ks)):=by show(∃b,eD (rC ks vs)=some b/\HD b (pr q)/\L (bA ((rC ks vs).map (·.1)) (pr q)).isSome)=_;rw[AI hv hb,cL hv,HI];exact propext ⟨λ⟨_,_,_,h⟩=>h,λh=>⟨true,rfl,IB q,h⟩⟩
theorem Sm{x:LS}(y:x.length<64)(q:∀h:LS,h.Perm x->sortedS h=true->Q (.lst ((h.map PyData.str).map T.d)) true):NO .sorted [(.lst ((x.map PyData.str).map T.d),n)] Q:=by unfold NO fC;rw[yE];exact .inl ⟨_,x,rfl,iA _,y,q⟩
theorem Am{ls:List (LS)}(x:ls.length<64)(q:∀h:List (LS),h.Perm ls->Q (.lst ((h.map IC).map T.d)) true):NO .sorted [(.d (.list (ls.map IC)),n)] Q:=by unfold NO fC;rw[pA];exact .inr (.inl ⟨_,ls,rfl,iA _,x,q⟩)
def PK(ks:List Pt):LS:=(ks.filter (dG ks)).map λp=>p.1
noncomputable def xI:PSp where
 md:=[]
 run:=λx Q _=>∃(ks:List Pt) (vs:List D),x=[.d (.dict (rC ks vs))]/\(vs.length=ks.length/\KA∈ks/\ks.length<=1000/\(ks.filter (dG ks)).length<64)/\∀cut:LS,cut.Perm (PK ks)->sortedS cut=true->Q (.lst ((cut.map PyData.str).map T.d)) []
 mono:=λh _ z=>by obtain⟨ks,vs,e,l,q⟩:=z;exact⟨ks,vs,e,l,λm a b=>h _ _ (q m a b)⟩
theorem E1(z:vs.length=ks.length)(y:KA∈ks)(x:ks.length<=1000)(h:(ks.filter (dG ks)).length<64)(q:∀cut:LS,cut.Perm (PK ks)->sortedS cut=true->K (.lst ((cut.map PyData.str).map T.d)) []):eB xI [.d (.dict (rC ks vs))] K E:=⟨ks,vs,rfl,⟨z,y,x,h⟩,q⟩
theorem e9(ds Q E)(h:xI.run ds Q E):EG Ψ rF xI fJ fH ds Q:=by obtain⟨ks,vs,rfl,⟨hv,hb,b,w⟩,q⟩:=h;refine gA [bD (.dict (rC ks vs))] rfl rfl rfl ?_;delta rF;simp_arith[↓Of (AI hv hb),cL hv];rw[<- lA];refine fA (λp=>T.d (pr p)) (λ(p:Pt)=>T.d (.str p.1)) (dG ks) ks [] _ (λx k R y=>?_) (by show 0+ks.length<=_;omega) ?_;have y:R (if(decide (x.2="to")&&!decide (fR x.1∈ks))=true then some (T.d (.str x.1)) else none):=y;simp_arith[↓ue,↓lL,↓EZ,Jc,↓vj hv hb];by_cases c:x.2="to";rw[dT c]at y ⊢;refine⟨by omega,?_⟩;by_cases d:fR x.1∈ks;rw[dT d]at y ⊢;exact y;rw[dF d]at y ⊢;exact y;rw[dF c]at y ⊢;exact y;rw[Qg,lA (λp:Pt=>PyData.str p.1),show((ks.filter (dG ks)).map λp=>PyData.str p.1)=(PK ks).map PyData.str by unfold PK;rw[QS];rfl];refine Sm (by unfold PK;rw[QF];exact w) λz v u=>?_;simp_arith[↓zA];exact q z v u
theorem gZ(f:Flow es st g r):(((lk r KA).map (·.1)).filter λy=>decide (0<rm r y KA)).length<=st.length:=by
 have u:∀y∈((lk r KA).map (·.1)).filter (λy=>decide (0<rm r y KA)),y=tO y.1/\DT r y.1:=λy x=>by have h:=of_decide_eq_true (QX.mp x).2;obtain⟨n,rfl⟩:=M4 f.toBase ((f.adj _ _).mpr (f.toBase.adjw h));exact⟨rfl,h⟩
 have nd:(((lk r KA).map (·.1)).filter λy=>decide (0<rm r y KA)).Nodup:=(f.ndi KA).sublist qC;have:=jQ (ks:=(((lk r KA).map (·.1)).filter λy=>decide (0<rm r y KA)).map (·.1)) (ns:=st) (by
  refine WC _ (λa b h=>h) (wb (λ{a b} k hb v z=>?_) nd);exact v (by rw[(u a k).1,(u b hb).1,z])) λs w=>by
  obtain⟨y,x,e⟩:=QT.mp w;rw[<- e];exact(NJ f.toBase (u y x).2).1
 rw[QF]at this;exact this
theorem VO{α v:Type}{body:T->(Option T->Prop)->Prop}(P:α->v->Prop)(g:α->T)(f:v->T):∀(l:List α) (h:LT) (Q:LT->Prop),(∀x∈l,∀R:Option T->Prop,(∀y,P x y->R (some (f y)))->body (g x) R)->h.length+l.length<=sizeLine->(∀u,Paired P l u->Q (h++u.map f))->ZD body (l.map g) h Q
 |[],h,Q,_,hl,q=>by have:=q [] .nil;rw[WK,Q8]at this;exact⟨by rw[wR]at hl;omega,this⟩|x::r,h,Q,hb,hl,q=>by
  rw[QM]at hl;refine hb x QE _ λy k=>⟨by omega,?_⟩
  refine VO P g f r _ Q (λz w=>hb z (QD _ w)) (by rw[QJ,qF];omega) λu b=>?_;have:=q (y::u) (.cons k b);rw[QU]at this;rw[Qx];exact this
theorem jf{r:PT}:LL Ψ E r Z i (K7 ks vs) true ρ=bB Ψ E r Z (ρ.set i (bD (.dict (rC ks vs)))):=by unfold LL;rw[Ii];exact propext ⟨λh=>h.2,λh=>⟨rfl,h⟩⟩
def so(c:LS):T:=.lst ((c.map PyData.str).map T.d)
theorem Ti(cs:List (LS)):ersT (cs.map so)=cs.map IC:=by rw[YQ,QS];congr 1;funext c;show PyData.list (ersT ((c.map PyData.str).map T.d))=_;rw[pB];rfl
theorem Ct{r:PT}:LL Ψ E r Z i (.lst (cs.map so)) true ρ=bB Ψ E r Z (ρ.set i (bD (.list (cs.map IC)))):=by
 have e:(T.lst (cs.map so)).er=.list (cs.map IC):=by show PyData.list (ersT (cs.map so))=_;rw[Ti]
 unfold LL;rw[e];exact propext ⟨λh=>h.2,λh=>⟨rfl,h⟩⟩
theorem bn{a b:LT}:YF [.lst a,.lst b]=.tup [.lst a,.lst b]:=rfl
theorem zK:∀{cs:List (LS)},nJ cs↔cs.Pairwise λc d=>∀x∈c,x∉d
 |[]=>⟨λ_=>.nil,λ_=>trivial⟩|c::cs=>by rw[List.pairwise_cons,<- zK];exact wP
theorem NV{ds:List (LS)}(h:ds.Perm cs)(a:nJ cs):nJ ds:=zK.mpr ((h.pairwise_iff (λ{a b} z x u y=>z x y u)).mpr (zK.mp a))
structure Good(es:dC)(st:LS)(g:Str)(cs:List (LS))(cut:LS):Prop where
 chn:∀c∈cs,Chn es st g c g/\c.Nodup/\∀x∈c,x≠g
 apart:nJ cs
 len:cs.length=cut.length
 few:cut.length<=11
 nd:cut.Nodup
 srt:sortedS cut=true
 ng:g∉cut
 led:¬ ∃a,(a,g)∈es/\Led es st g cut a
 okn:∀s∈cut,qq s=true
end
section
variable{es:dC}{st:LS}{g:Str}{r:Rm}
theorem NL(f:Flow es st g r):∀{fs:LS}{cs:List (LS)},fs.Nodup->(∀s∈fs,DT r s)->Paired (λs c=>Run r g s c g) fs cs->nJ cs/\(∀c∈cs,∃s∈fs,Run r g s c g)
 |_,_,_,_,.nil=>⟨trivial,λ_ h=>(nomatch h)⟩
 |s::fs,c::cs,nd,hf,.cons h t=>by
  obtain⟨b,a⟩:=Qh.mp nd;obtain⟨l,k⟩:=NL f a (λs j=>hf s (QD _ j)) t;refine⟨⟨λd w x i e=>?_,l⟩,λd w=>?_⟩;obtain⟨u,y,v⟩:=k d w;have:=Run.apart f (hf s QE) (hf u (QD _ y)) h v x i e;exact b (this▸y);rcases QL.mp w with z|z
  ·rw[z];exact⟨s,QE,h⟩
  obtain⟨u,y,v⟩:=k d z;exact⟨u,QD _ y,v⟩
def Ep(r:Rm):List Pt:=((lk r KA).map λe=>e.1).filter λy=>decide (0<rm r y KA)
def lV(r:Rm):LS:=(Ep r).map λp=>p.1
theorem T5(f:Flow es st g r):∀y∈Ep r,y=tO y.1/\DT r y.1:=λy x=>by have h:=of_decide_eq_true (QX.mp x).2;obtain⟨n,rfl⟩:=M4 f.toBase ((f.adj _ _).mpr (f.toBase.adjw h));exact⟨rfl,h⟩
theorem Rn(f:Flow es st g r):(lV r).Nodup:=by have nd:(Ep r).Nodup:=(f.ndi KA).sublist qC;refine WC _ (λa b h=>h) (wb (λ{a b} y hb x z=>?_) nd);exact x (by rw[(T5 f a y).1,(T5 f b hb).1,z])
theorem hV(f:Flow es st g r):∀s∈lV r,DT r s:=λs x=>by obtain⟨y,h,e⟩:=QT.mp x;rw[<- e];exact(T5 f y h).2
theorem OJ(f:Flow es st g r):out es st g r KA=(lV r).length/\(lV r).length<=st.length:=by have x:=La f;have h:=gZ f;unfold lV;rw[QF];exact⟨x,h⟩
theorem lM{α x:Type}{P:α->x->Prop}{l:List α}{m:List x}(h:Paired P l m):l.length=m.length:=qI h
theorem Ba(f:Flow es st g r)(C:eG es st)(F:st.length<=11){ks:List Pt}{vs:List D}(W:CF r ks vs)(hk:∀p,p∈ks↔Rch r p)(q:tO g∉ks){cs ds:List (LS)}(Y:Paired (λs c=>Run r g s c g) (lV r) cs)(j:ds.Perm cs){cut:LS}(w:cut.Perm (PK ks))(sc:sortedS cut=true):Good es st g ds cut:=by
 obtain⟨J,I⟩:=NL f (Rn f) (hV f) Y;obtain⟨P,O⟩:=OJ f;have N:=OS f W.nd hk q;have M:(PK ks).length=(ks.filter (dG ks)).length:=by unfold PK;rw[QF]
 have L:=lM Y;have u:∀s,s∈PK ks↔tO s∈ks/\fR s∉ks:=λs=>by unfold PK;rw[QT];constructor;rintro⟨y,B,e⟩;obtain⟨v,x⟩:=QX.mp B;obtain⟨n,X,k⟩:=SD.mp x;subst X;have e:n=s:=e;subst e;exact⟨v,k⟩;rintro⟨v,x⟩;exact⟨tO s,QX.mpr ⟨v,SD.mpr ⟨s,rfl,x⟩⟩,rfl⟩
 have l:(PK ks).Nodup:=by unfold PK;refine WC _ (λa b h=>h) (wb (λ{a b} E hb A z=>?_) (W.nd.sublist (qC (p:=dG ks))));obtain⟨n,G,_⟩:=SD.mp (QX.mp E).2;obtain⟨m,X,_⟩:=SD.mp (QX.mp hb).2;subst G X;have z:n=m:=z;exact A (by rw[z])
 have K:=w.length_eq;refine⟨λc hc=>?_,NV j J,by rw[j.length_eq,K];omega,by omega,w.nodup_iff.mpr l,sc,λz=>q ((u g).mp (w.mem_iff.mp z)).1,?_,λs o=>?_⟩;obtain⟨s,o,i⟩:=I c (j.mem_iff.mp hc);have Z:=hV f s o;exact⟨i.chn f Z,(i.nd f Z).1,i.ng⟩;exact Ia f hk q λn v x=>w.mem_iff.mpr ((u n).mpr ⟨v,x⟩);have v:=((u s).mp (w.mem_iff.mp o)).1;have x:=yB.mp (cI f.toBase.dom f.toBase.bg ((hk _).mp v));rw[f.keys]at x;have k:=(Z5 C x).1;simp only[pr,tO,QAW,wX,Qa]at k;exact k.1
end
def OQ(es:dC)(st:LS)(g:Str)(r:Rm)(h:List (D×D))(o5 o6:Option Sl):kA:=[bD (.list (es.map pr)),bD (.tuple (st.map PyData.str)),bD (.str g),oW (UA r),bD (.dict h),o5,o6]
section
variable{Ψ:PEv}{Z:PEnds}{es:dC}{st:LS}{g:Str}{r:Rm}
section
variable{q:PT}{h:List (D×D)}{o6:Option Sl}
theorem vt(u:Ψ.sp "rooms_of"=gE)(z:Ψ.sp "points_reached"=pD)(y:es.length<=126)(x:st.length<=11)(k:∀ks vs,CF (jA es st g) ks vs->(∀p,p∈ks↔Rch (jA es st g) p)->pF Ψ q Z (OQ es st g (jA es st g) (rC ks vs) none none)) :
  pF Ψ (.seq (.own 3 (.call "rooms_of" %[.xz 0,.xz 1,.xz 2|1])) (.seq (.set 4 (.call "points_reached" %[.xz 3|1])) q)) Z [bD (.list (es.map pr)),bD (.tuple (st.map PyData.str)),bD (.str g),none,none,none,none]:=by
 have ok:=GR (g:=g) y x;delta OQ at k;simp_arith[↓xA (md:=[]) u rfl rfl,↓xA (md:=[.ky]) z rfl rfl];refine dY y x ?_;simp_arith[↓TQ,↓xA (md:=[.ky]) z rfl rfl];refine uO (.inl rfl) ok.dom ok.bg ok.sz.1 λks vs hc hk=>?_;simp_arith[↓jf];exact k ks vs hc hk
theorem zt(w:Ψ.sp "points_reached"=pD)(i:Ψ.sp "lay_chain"=aJ){ks:List Pt}{vs:List D}(v:(jA es st g).length<=1000)(a:eG es st)(f:Flow es st g r)(j:CF r ks vs)(b:tO g∈ks)
  (k:∀z x y,Flow es st g z->out es st g z KA=out es st g r KA+1->CF z x y->(∀p,p∈x↔Rch z p)->Z.nx (OQ es st g z (rC x y) none none)) :
  pF Ψ XC Z (OQ es st g r (rC ks vs) none none):=by
 delta OQ at k ⊢;delta XC;simp_arith[j3,↓IG (md:=[]) i rfl rfl,↓xA (md:=[.ky]) w rfl rfl];refine⟨by omega,l8 v a f j b λz u e=>⟨_,rfl,?_⟩⟩;simp_arith[↓TQ,↓xA (md:=[.ky]) w rfl rfl];refine uO (.inl rfl) u.toBase.dom u.toBase.bg (by rw[u.toBase.len];exact v) λx y hc hk=>?_;simp_arith[↓jf];exact k z x y u e hc hk
theorem yt(w:Ψ.va "BEGIN"=some (pr KA)){o5:Option Sl}(o:(jA es st g).length<=1000)(f:Flow es st g r)(k:pF Ψ q Z (OQ es st g r h (bD (.list ((lV r).map PyData.str))) o6)) :
  pF Ψ (.seq (.set 5 (.comp [] ["point"] (.nm 0) .val %[.idx (.xz 3) (.glo "BEGIN")|1] (.cmp .Gt (.idx (.idx (.xz 4) (.xz 0)) (.glo "BEGIN")) (.int 0)) (.idx (.xz 0) (.int 0)))) q) Z (OQ es st g r h o5 o6):=by
 have s:=f.toBase.inn KA;delta OQ at k ⊢;simp_arith[↓TH,↓rH w];refine HE f.toBase.bg ?_;simp_arith[↓u7,↓o0];have m:((lk r KA).map λe=>pr e.1).map T.d=((lk r KA).map λe=>e.1).map λp=>T.d (pr p):=by rw[QS,QS];rfl
 rw[m];refine fA (λp=>T.d (pr p)) (λ(p:Pt)=>T.d (.str p.1)) (λy=>decide (0<rm r y KA)) ((lk r KA).map λe=>e.1) [] _ (λx b R z=>?_) (by show 0+((lk r KA).map λe=>e.1).length<=_;rw[QF];omega) ?_;obtain⟨e,i,j⟩:=QT.mp b;have n:AH r KA x:=dB.mpr ⟨e.2,by rw[<- j];exact i⟩;have u:AH r x KA:=(f.adj _ _).mpr (ZB ((f.adj _ _).mp n));have a:Key r x:=by rw[yB,f.keys];exact cB ((f.adj _ _).mp u)
 obtain⟨v,hv⟩:=u;have ev:rm r x KA=v:=by unfold rm;rw[hv];rfl
 rw[ev]at z;simp_arith[↓TH,↓rH w];refine HE a ?_;simp_arith[↓OX,↓rH w];refine xP hv ?_;simp_arith[↓lL];by_cases d:0<v;rw[dT d]at z ⊢;exact z;rw[dF d]at z ⊢;exact z;rw[Qg,lA (λp:Pt=>PyData.str p.1)];have l:((((lk r KA).map λe=>e.1).filter λy=>decide (0<rm r y KA)).map λp=>PyData.str p.1)=(lV r).map PyData.str:=by unfold lV Ep;rw[QS];rfl
 rw[l];simp_arith[↓zA];exact k
theorem jt(a:Ψ.sp "chain_from"=mE)(u:(jA es st g).length<=1000)(b:st.length<=11)(f:Flow es st g r)(k:∀cs,Paired (λs c=>Run r g s c g) (lV r) cs->pF Ψ q Z (OQ es st g r h (bD (.list ((lV r).map PyData.str))) (bD (.list (cs.map IC))))) :
  pF Ψ (.seq (.set 6 (.comp [] ["first"] (.nm 0) .val %[.xz 5|1] .nop (.call "chain_from" %[.xz 4,.xz 0,.xz 3|1]))) q) Z (OQ es st g r h (bD (.list ((lV r).map PyData.str))) o6):=by
 have hl:=(OJ f).2;delta OQ at k ⊢;simp_arith[↓zA];rw[<- lA PyData.str (lV r)];refine VO (λs c=>Run r g s c g) (λs=>T.d (.str s)) so (lV r) [] _ (λx z R w=>?_) (by show 0+(lV r).length<=_;omega) λcs v=>?_;simp_arith[↓TQ,↓xA (md:=[.ky]) a rfl rfl];refine lY u f (hV f x z) λc y=>?_;simp_arith[↓zA];exact w c y;rw[Qg];simp_arith[↓Ct];exact k cs v
end
end
section
variable{es v:dC}{g x:Str}{F sr u:LS}{n:Int}
noncomputable def HF:PSp where
 md:=[]
 run:=λw Q _=>∃(es:dC) (st:LS) (g:Str),w=[.d (.list (es.map pr)),.d (.tuple (st.map PyData.str)),.d (.str g)]/\(es.length<=126/\st.length<=11/\eG es st)/\∀y cut,Good es st g y cut->Q (.tup [.lst ((y.map IC).map T.d),.lst ((cut.map PyData.str).map T.d)]) []
 mono:=λh _ z=>by obtain⟨es,st,g,e,l,q⟩:=z;exact⟨es,st,g,e,l,λy cut a=>h _ _ (q y cut a)⟩
theorem mY{st:LS}{K:T->LT->Prop}{E:XE}(z:es.length<=126)(y:st.length<=11)(h:eG es st)(q:∀cs cut,Good es st g cs cut->K (.tup [.lst ((cs.map IC).map T.d),.lst ((cut.map PyData.str).map T.d)]) []):eB HF [.d (.list (es.map pr)),.d (.tuple (st.map PyData.str)),.d (.str g)] K E:=⟨es,st,g,rfl,⟨z,y,h⟩,q⟩
theorem i4{Ψ:PEv}(S:Ψ.sp "rooms_of"=gE)(G:Ψ.sp "points_reached"=pD)(R:Ψ.sp "lay_chain"=aJ)(P:Ψ.sp "chain_from"=mE)(C:Ψ.sp "full_names"=xI)(O:Ψ.va "BEGIN"=some (pr KA))(ds Q E)(h:HF.run ds Q E):EG Ψ aG HF YG iF ds Q:=by
 obtain⟨es,st,g,rfl,⟨W,i,B⟩,q⟩:=h;have K:sizeLine=16777216:=Q5;have j:(jA es st g).length<=1000:=(GR (g:=g) W i).sz.1;refine gA [bD (.list (es.map pr)),bD (.tuple (st.map PyData.str)),bD (.str g),none,none,none,none] rfl rfl rfl ?_;refine vt S G W i λo w H M=>?_;have b0:=OJ (td (es:=es) (st:=st) (g:=g));delta OQ;simp_arith[↓zA];refine EH (λm Y=>∃r z b,(m:Int)+out es st g r KA=12/\Flow es st g r/\CF r z b/\(∀p,p∈z↔Rch r p)/\Y=OQ es st g r (rC z b) none none) (12 - out es st g (jA es st g) KA).toNat ⟨jA es st g,o,w,by omega,td,H,M,rfl⟩ ?_;rintro m Y ⟨r,z,b,em,f,y,hk,rfl⟩;have bd:=OJ f;by_cases a:tO g∈z;have k:=λ(Z:PEnds) K=>zt (Ψ:=Ψ) (Z:=Z) G R j B f y a K;unfold OQ at k;delta OQ;simp_arith[j3,↓Sd y.len y.hb];refine⟨by omega,?_⟩;rw[dT a];refine k _ λI s l X e c' N=>⟨m - 1,?_,I,s,l,?_,X,c',N,rfl⟩
 have:=OJ X;omega;have:=OJ X;omega;have A:pF Ψ %[.set 5 (.comp [] ["point"] (.nm 0) .val %[.idx (.xz 3) (.glo "BEGIN")|1] (.cmp .Gt (.idx (.idx (.xz 4) (.xz 0)) (.glo "BEGIN")) (.int 0)) (.idx (.xz 0) (.int 0))),.set 6 (.comp [] ["first"] (.nm 0) .val %[.xz 5|1] .nop (.call "chain_from" %[.xz 4,.xz 0,.xz 3|1])),.ret (.tup %[.bi .sorted %[.xz 6|1],.call "full_names" %[.xz 4|1]|1])|2] (eZ Q) (OQ es st g r (rC z b) none none):=by refine yt O j f (jt P j i f λcs k=>?_);have lc:=lM k;have l3:=OS f y.nd hk a;delta OQ;simp_arith[↓xA (md:=[]) C rfl rfl];refine Am (by omega) λds J=>?_;simp_arith[↓xA (md:=[]) C rfl rfl];refine E1 y.len y.hb (QY (y.le f.toBase.dom f.toBase.bg) (by rw[f.toBase.len];exact j)) (by omega) λcut L sc=>?_;simp_arith[bn];exact⟨by omega,q ds cut (Ba f B i y hk a k J L sc)⟩
 unfold OQ at A;delta OQ;simp_arith[j3,↓Sd y.len y.hb];refine⟨by omega,?_⟩;rw[dF a];exact A
def HS(es:dC)(F:LS):dC:=es.filter λe=>decide (e.1∈F)
theorem sQ{e:Str×Str}:e∈HS es F↔e∈es/\e.1∈F:=by unfold HS;rw[QX,decide_eq_true_iff]
def yL(es:dC)(sr:LS)(x:Str)(F:LS)(n:Int):Prop:=∃h:List (LS),nJ h/\(∀c∈h,Chn (HS es F) sr x c x)/\n<=(h.length:Int)
theorem Chn.sub(w:∀e∈es,e∈v)(z:∀s∈sr,s∈u){c:LS}{n:Str}(h:Chn es sr g c n):Chn v u g c n:=by
 induction h with|st a b=>exact .st (z _ a) b|go _ b c y=>exact .go y b (w _ c)
theorem yL.sub{w:LS}{z:Int}(m:∀e∈es,e∈v)(j:∀s∈sr,s∈u)(i:∀y∈F,y∈w)(k:z<=n)(h:yL es sr x F n):yL v u x w z:=by obtain⟨q,a,c,l⟩:=h;refine⟨q,a,λd f=>Chn.sub (λe b=>?_) j (c d f),QAP k l⟩;obtain⟨p,o⟩:=sQ.mp b;exact sQ.mpr ⟨m e p,i _ o⟩
theorem z5{cs:List (LS)}{cut:LS}(h:Good (HS es F) sr x cs cut):yL es sr x F n↔n<=(cs.length:Int):=by constructor;rintro⟨y,a,c,l⟩;have:=sZ a c h.led;rw[<- h.len]at this;exact QAP l (QBB.mpr this);exact λl=>⟨cs,h.apart,λc hc=>(h.chn c hc).1,l⟩
inductive Held(es:dC)(sr:LS)(nd:List (Str×Int)):Str->Prop
 |see {x:Str}{n:Int}:(x,n)∈nd->x∈sr->Held es sr nd x
 |tell {x:Str}{n:Int}(F:LS):(x,n)∈nd->(∀y∈F,Held es sr nd y)->yL es sr x F n->Held es sr nd x
end
section
variable{es v:dC}{sr y:LS}{nd u:List (Str×Int)}
theorem O5{S:LS}(f:∀x∈S,Held es sr nd x)(e:∀x n,(x,n)∈nd->x∈sr->x∈S)(k:∀x n,(x,n)∈nd->x∉S->¬ yL es sr x S n)(x:Str):x∈S↔Held es sr nd x:=by
 refine⟨f x,λh=>?_⟩;induction h with|see a b=>exact e _ _ a b|@tell x n F a _ m w=>by_cases z:x∈S;exact z;exact absurd (m.sub (λ_ h=>h) (λ_ h=>h) w (QCQ _)) (k x n a z)
theorem Va{x:Str}(h:Held es sr nd x):∃n,(x,n)∈nd:=by
 cases h with|see a _=>exact⟨_,a⟩|tell _ a=>exact⟨_,a⟩
end
noncomputable def ME:PSp where
 md:=[.xx,.xx,.xy]
 run:=λv Q _=>∃(y:dC) (x F:LS) (g:Str),v=[.d (.tuple (y.map pr)),.d (.tuple (x.map PyData.str)),.lst ((F.map PyData.str).map T.d),.d (.str g)]/\(y.length<=126/\x.length<=11/\eG y x)/\∀u cut,Good (HS y F) x g u cut->Q (.tup [.lst ((u.map IC).map T.d),.lst ((cut.map PyData.str).map T.d)]) []
 mono:=λh _ z=>by obtain⟨y,x,F,g,e,l,q⟩:=z;exact⟨y,x,F,g,e,l,λu cut a=>h _ _ (q u cut a)⟩
theorem L1{es:dC}{sr F:LS}{g:Str}{K:T->LT->Prop}{E:XE}(y:es.length<=126)(x:sr.length<=11)(h:eG es sr)(q:∀cs cut,Good (HS es F) sr g cs cut->K (.tup [.lst ((cs.map IC).map T.d),.lst ((cut.map PyData.str).map T.d)]) []):eB ME [.d (.tuple (es.map pr)),.d (.tuple (sr.map PyData.str)),.lst ((F.map PyData.str).map T.d),.d (.str g)] K E:=⟨es,sr,F,g,rfl,⟨y,x,h⟩,q⟩
theorem g9{Ψ:PEv}(k:Ψ.sp "apart_chains"=HF)(ds Q E)(h:ME.run ds Q E):EG Ψ VD ME iG aF ds Q:=by
 obtain⟨y,v,F,g,rfl,⟨f,b,w⟩,q⟩:=h;have a:(HS y F).length<=126:=QY (Qj _ _) f;have u:eG (HS y F) v:=⟨w.1,λe i=>w.2 e (sQ.mp i).1⟩
 refine gA [bD (.tuple (y.map pr)),bD (.tuple (v.map PyData.str)),some (.ky (.lst ((F.map PyData.str).map T.d))),bD (.str g)] rfl rfl rfl ?_;delta VD;simp_arith[↓xA (md:=[]) k rfl rfl];rw[<- lA pr y];refine fA (λp=>T.d (pr p)) (λ(p:Str×Str)=>T.d (pr p)) (λp=>decide (p.1∈F)) y [] _ (λx m R z=>?_) (by show 0+y.length<=_;omega) ?_;simp_arith[↓lL,dL,FI,PB,true_or];by_cases d:x.1∈F;rw[dT d]at z ⊢;exact z;rw[dF d]at z ⊢;exact z;rw[Qg,lA pr];simp_arith[↓xA (md:=[]) k rfl rfl];refine mY a b u λl cut j=>?_;simp_arith[↓zA];exact q l cut j
section
variable{Ψ:PEv}{E:XE}{ρ:kA}{K:TK}{a b c h:PX}{ds:List D}{n m:Bool}{L:Bool->Prop}
def Tl(x:T)(n:Bool)(Ψ:PEv)(b:PX)(E:XE)(ρ:kA)(K:TK):Prop:=sq (α:=Option Int) (oA x n) ρ (λρ R=>(pe Ψ b E).e ρ λu _ y=>RF u.er λo=>R o y) λu y=>HL (oA x n).vw none u λz k=>K z k y
def fM(x:T)(Q:Option Int->Prop):Prop:=RF x.er Q
theorem D2{i:Int}{Q:Option Int->Prop}:fM (.d (.int i)) Q=Q (some i):=rfl
theorem dg{x:T}{R:Option Int->kA->Prop}:sq (α:=Option Int) x ρ (λρ (R:Option Int->kA->Prop)=>R none ρ) R=R none ρ:=by unfold sq;split<;>rfl
theorem Pj{j:Nat}:lB Ψ (.slc a .nop (.xz j)) E ρ K=lB Ψ a E ρ λx n v=>Tl x n Ψ (.xz j) E v K:=by show(pe Ψ a E).e ρ (λx n v=>sq (α:=Option Int) (oA x n) v (λρ (R:Option Int->kA->Prop)=>R none ρ) λl w=>sq (α:=Option Int) (oA x n) w (λρ R=>(pe Ψ (.xz j) E).e ρ λu _ y=>RF u.er λo=>R o y) λu y=>HL (oA x n).vw l u λz k=>K z k y)=_;simp only[dg];rfl
theorem Ot{x:D}:Tl (.d x) n Ψ b E ρ K=lB Ψ b E ρ λu _ y=>fM u λo=>VJ (.d x) n none o λz k=>K z k y:=by cases n<;>rfl
theorem Pa(a b:List D):(T.tup [.lst (a.map T.d),.lst (b.map T.d)]).er=.tuple [.list a,.list b]:=by show PyData.tuple [.list (ersT (a.map T.d)),.list (ersT (b.map T.d))]=_;rw[pB,pB]
theorem uq{a b:List D}{m:Bool}{t:T}{R:T->Prop}:DA (.tup [.lst (a.map T.d),.lst (b.map T.d)]) true t m R=DA (.d (.tuple [.list a,.list b])) false t m R:=by
 have e:oA (.tup [.lst (a.map T.d),.lst (b.map T.d)]) true=.d (.tuple [.list a,.list b]):=by show T.d (T.tup [.lst (a.map T.d),.lst (b.map T.d)]).er=_;rw[Pa]
 unfold DA;rw[e];rfl
end
section
variable{Ψ:PEv}{E:XE}{ρ:kA}{a c h:PX}{W:LT->Prop}{R:Option T->Prop}{C:LT->Prop}{xs:List (T×Bool)}{ds:List D}{n m:Bool}
section
variable{md:List Md}{ts:LT}{b:Bool}{t u:Str}
theorem HB{v:PX}{M:List (T×Bool)->kA->Prop}:dM Ψ (.ny a v) E (.xx::md) ρ M=lB Ψ a E ρ λx n z=>J7 x n Ψ v E md z λxs y=>M ((x,n)::xs) y:=rfl
theorem E6{d:D}:iB (.xx::md) ((.d d,n)::xs) C=iB md xs λts=>C (.d d::ts):=by
 have e:VA (.xx::md) ((.d d,n)::xs) []=(VA md xs []).map (.d d::·):=by cases n<;>rfl
 unfold iB;rw[e,SF]
theorem Ek:xL .val [(.lst ts,false)] W=W ts:=by unfold xL fC;exact UI ts
theorem Lo{m:List Bool}{x y:D}{v:CmpOp}:RI Ψ E (b::m) [t,u] (.tp [0,1]) (.cmp v a c) h ρ (.d (.tuple [x,y])) R=iP Ψ (.cmp v a c) E (bD x::bD y::NC (b::m) (lockA ρ)) λk z=>if k=true then lB Ψ h E z λy n _=>ZC y n (R (some y)) else R none:=EB
theorem bt{m:List Bool}{x y:T}:RI Ψ E (b::m) [t,u] (.tp [0,1]) .nop h ρ (.tup [x,y]) R=lB Ψ h E (some (.ky x)::some (.ky y)::NC (b::m) (lockA ρ)) λy n _=>ZC y n (R (some y)):=EB
theorem jw:JM ((.lst [],true)::xs) C=JM xs λts=>C (.lst []::ts):=Bt (ds:=[])
theorem xn{d:D}:YF [.d d,.lst ts]=.tup [.d d,.lst ts]:=rfl
theorem Vo{i j:Int}{L:Bool->Prop}:MB .GtE (.d (.int i)) (.d (.int j)) L=L (decide (j<=i)):=rfl
end
end
noncomputable abbrev Rw:=Str×List (LS)
def UJ(r:Rw):T:=.tup [.d (.str r.1),.lst ((r.2.map IC).map T.d)]
def yQ(p:Str×Int):D:=.tuple [.str p.1,.int p.2]
noncomputable def fZ(es:dC)(sr:LS)(nd:List (Str×Int))(h:List Rw)(F:LS)(b:Bool)(o6 o7 o8:Option Sl):kA:=[bD (.tuple (es.map pr)),bD (.tuple (sr.map PyData.str)),bD (.list (nd.map yQ)),oW (.lst (h.map UJ)),oW (.lst ((F.map PyData.str).map T.d)),bD (.bool b),o6,o7,o8]
section
variable{Ψ:PEv}{Z:PEnds}{es:dC}{sr:LS}{nd:List (Str×Int)}{q:PT}
section
variable{o5 o6 o7 o8:Option Sl}{h:List Rw}
def aR(sr:LS)(nd:List (Str×Int)):List Rw:=(nd.filter λp=>decide (p.1∈sr)).map λp=>(p.1,[])
theorem Ir(hl:nd.length<=100){o4:Option Sl}(k:pF Ψ q Z [bD (.tuple (es.map pr)),bD (.tuple (sr.map PyData.str)),bD (.list (nd.map yQ)),oW (.lst ((aR sr nd).map UJ)),o4,o5,o6,o7,o8]) :
  pF Ψ (.seq (.own 3 (.comp [false,false,false,false,false,false,true,true] ["name","number"] (.tp [0,1]) .val %[.xz 2|1] (.cmp .In (.xz 0) (.xz 3)) (.tup %[.xz 0,.lst .nz|1]))) q) Z [bD (.tuple (es.map pr)),bD (.tuple (sr.map PyData.str)),bD (.list (nd.map yQ)),none,o4,o5,o6,o7,o8]:=by
 simp_arith[↓zA];rw[<- lA yQ nd];refine fA (λp=>T.d (yQ p)) (λ(p:Str×Int)=>UJ (p.1,[])) (λp=>decide (p.1∈sr)) nd [] _ (λx z R y=>?_) (by show 0+nd.length<=_;omega) ?_;obtain⟨x,n⟩:=x;delta yQ;simp_arith[↓Lo,dL,FI,PB,true_or];by_cases d:x∈sr;rw[dT d]at y ⊢;simp_arith[↓jw,↓xn];exact⟨by omega,by omega,y⟩;rw[dF d]at y ⊢;exact y;rw[Qg];have e:(nd.filter λp=>decide (p.1∈sr)).map (λp=>UJ (p.1,[]))=(aR sr nd).map UJ:=by unfold aR;rw[QS];rfl
 rw[e];exact k
theorem Sr(hl:h.length<=100)(k:pF Ψ q Z [bD (.tuple (es.map pr)),bD (.tuple (sr.map PyData.str)),bD (.list (nd.map yQ)),oW (.lst (h.map UJ)),oW (.lst (((h.map λr=>r.1).map PyData.str).map T.d)),o5,o6,o7,o8]) :
  pF Ψ (.seq (.own 4 (.comp [false,false,false,false,false,false,true,false,true] ["name","chains"] (.tp [0,1]) .val %[.xz 3|1] .nop (.xz 0))) q) Z [bD (.tuple (es.map pr)),bD (.tuple (sr.map PyData.str)),bD (.list (nd.map yQ)),oW (.lst (h.map UJ)),none,o5,o6,o7,o8]:=by
 simp_arith[↓Ek];refine rB UJ (λr=>T.d (.str r.1)) h [] _ (λx z R y=>?_) (by show 0+h.length<=_;omega) ?_;delta UJ;simp_arith[↓bt];exact y;rw[Qg,lA (λr:Rw=>PyData.str r.1)];have e:(h.map λr=>PyData.str r.1)=(h.map λr=>r.1).map PyData.str:=by rw[QS];rfl
 rw[e];exact k
theorem Rr(f:Ψ.sp "told_through"=ME){F:LS}{b:Bool}{x:Str}{n:Int}(a:es.length<=126)(k:sr.length<=11)(e:eG es sr)(j:h.length<=100)(i:F.length<=100)
  (w:x∈F->∀o8,Z.nx (fZ es sr nd h F b (bD (.str x)) (bD (.int n)) o8))
  (v:x∉F->¬ yL es sr x F n->∀o8,Z.nx (fZ es sr nd h F b (bD (.str x)) (bD (.int n)) o8))
  (u:x∉F->yL es sr x F n->∀cs o8,Z.nx (fZ es sr nd (h++[(x,cs)]) (F++[x]) true (bD (.str x)) (bD (.int n)) o8)) :
  pF Ψ VC Z (fZ es sr nd h F b (bD (.str x)) (bD (.int n)) o8):=by
 delta fZ at w v u ⊢;delta VC;simp_arith[dL,FI,PB,true_or];by_cases d:x∈F;rw[dT d];exact w d _;rw[dF d];simp_arith[↓HB,↓E6,↓xA (md:=[.xx,.xx,.xy]) f rfl rfl];refine L1 a k e λcs cut g=>?_;have y:=z5 (n:=n) g;simp_arith[↓uq,↓Kj,↓Vo,QF];by_cases c:n<=(cs.length:Int);rw[dT c];simp_arith[↓Pj,↓Ot,↓D2,↓xn];rw[XQ];refine⟨by omega,by omega,by rw[QF,QF];omega,?_⟩;have:=u d (y.mpr c) (xF cs none (some n)) (bD (.list (cs.map IC)));rw[QR,QR,QR]at this;exact this;rw[dF c];exact v d (λz=>c (y.mp z)) _
end
end
structure GI(es:dC)(sr:LS)(nd:List (Str×Int))(rs:List Rw)(F:LS):Prop where
 e:F=rs.map λr=>r.1
 ndp:F.Nodup
 held:∀x∈F,Held es sr nd x
 see:∀x n,(x,n)∈nd->x∈sr->x∈F
 non:∀r∈rs,r.1∈sr->r.2=[]
section
variable{es:dC}{sr:LS}{nd:List (Str×Int)}{u:List Rw}{F:LS}
theorem GI.len(g:GI es sr nd u F):F.length<=nd.length:=by
 have:=jQ (ns:=nd.map λp=>p.1) g.ndp λs x=>by obtain⟨n,h⟩:=Va (g.held s x);exact QT.mpr ⟨_,h,rfl⟩
 rw[QF]at this;exact this
theorem GI.rlen(g:GI es sr nd u F):u.length=F.length:=by rw[g.e,QF]
theorem Nr(h:(nd.map λp=>p.1).Nodup):GI es sr nd (aR sr nd) ((aR sr nd).map λr=>r.1):=by
 have e:((aR sr nd).map λr=>r.1)=(nd.filter λp=>decide (p.1∈sr)).map λp=>p.1:=by unfold aR;rw[QS];rfl
 refine⟨rfl,?_,λx y=>?_,λx n y v=>?_,λr z _=>?_⟩;rw[e];exact h.sublist (qC.map _);rw[e]at y;obtain⟨p,w,rfl⟩:=QT.mp y;obtain⟨a,k⟩:=QX.mp w;exact .see (n:=p.2) a (of_decide_eq_true k);rw[e];exact QT.mpr ⟨(x,n),QX.mpr ⟨y,dT v⟩,rfl⟩;unfold aR at z;obtain⟨p,_,rfl⟩:=QT.mp z;rfl
theorem GI.add(g:GI es sr nd u F){x:Str}{n:Int}(w:(x,n)∈nd)(f:x∉F)(m:yL es sr x F n)(cs:List (LS)):GI es sr nd (u++[(x,cs)]) (F++[x]):=by
 refine⟨by rw[QR,<- g.e];rfl,qX.mpr ⟨g.ndp,Qh.mpr ⟨λz=>(nomatch z),Q0⟩,λa j b hb e=>?_⟩,λy v=>?_,λy k v h=>Ql _ (g.see y k v h),λr i h=>?_⟩;rw[QI.mp hb]at e;exact f (e▸j);rcases Qe.mp v with z|z
 ·exact g.held y z
 rw[QI.mp z];exact .tell F w g.held m;rcases Qe.mp i with z|z
 ·exact g.non r z h
 rw[QI.mp z]at h;exact absurd (g.see x n w h) f
end
noncomputable def LF:PSp where
 md:=[]
 run:=λw Q _=>∃(u:dC) (y:LS) (nd:List (Str×Int)),w=[.d (.tuple (u.map pr)),.d (.tuple (y.map PyData.str)),.d (.list (nd.map yQ))]/\(u.length<=126/\y.length<=11/\eG u y/\nd.length<=90/\(nd.map λp=>p.1).Nodup)/\∀v F,GI u y nd v F->(∀x,x∈F↔Held u y nd x)->Q (.lst (v.map UJ)) []
 mono:=λh _ z=>by obtain⟨u,y,nd,e,l,q⟩:=z;exact⟨u,y,nd,e,l,λv F a b=>h _ _ (q v F a b)⟩
theorem nY{es:dC}{sr:LS}{nd:List (Str×Int)}{K:T->LT->Prop}{E:XE}(l:es.length<=126/\sr.length<=11/\eG es sr/\nd.length<=90/\(nd.map λp=>p.1).Nodup)(q:∀h F,GI es sr nd h F->(∀x,x∈F↔Held es sr nd x)->K (.lst (h.map UJ)) []):eB LF [.d (.tuple (es.map pr)),.d (.tuple (sr.map PyData.str)),.d (.list (nd.map yQ))] K E:=⟨es,sr,nd,rfl,l,q⟩
section
variable{Ψ:PEv}{Z:PEnds}{es:dC}{sr:LS}{nd:List (Str×Int)}{u:List Rw}{F:LS}
theorem Pr(L:Ψ.sp "told_through"=ME)(G:es.length<=126)(E:sr.length<=11)(J:eG es sr)(O:nd.length<=90){b:Bool}{o6 o7 o8:Option Sl}(g:GI es sr nd u F)
  (k:∀v w a o6 o7 o8,GI es sr nd v w->F.length<=w.length->(a=true->F.length<w.length)->(a=false->∀x n,(x,n)∈nd->x∉w->¬ yL es sr x w n)->Z.nx (fZ es sr nd v w a o6 o7 o8)) :
  pF Ψ KC Z (fZ es sr nd u F b o6 o7 o8):=by
 delta fZ;delta KC;simp_arith[↓zA];rw[<- lA yQ nd];refine MA (λ(p:Str×Int)=>T.d (yQ p)) (λl r=>∃v w a o6 o7 o8,GI es sr nd v w/\(∀p∈l,p∈nd)/\F.length<=w.length/\(a=true->F.length<w.length)/\(a=false->∀x n,(x,n)∈nd->(x,n)∈l∨x∈w∨¬ yL es sr x w n)/\r=fZ es sr nd v w a o6 o7 o8) ?_ ?_ _ _ ⟨u,F,false,_,_,_,g,λ_ z=>z,Qb _,λz=>(nomatch z),λ_ x n h=>.inl h,rfl⟩;rintro r ⟨v,w,a,B,A,K,f,_,q,o,j,rfl⟩;exact k v w a _ _ _ f q o λhb x n Y i=>((j hb x n Y).resolve_left λz=>(nomatch z)).resolve_left i;rintro⟨x,n⟩ l r N W ⟨v,w,a,B,A,K,f,m,q,o,j,rfl⟩;have Y:=m _ QE;have s:∀p∈l,p∈nd:=λp I=>m p (QD _ I);have Q:=f.len;have P:=f.rlen;refine XF.mk rfl ?_;refine Rr (x:=x) (n:=n) L G E J (by omega) (by omega) (λi o8=>W _ ⟨v,w,a,_,_,_,f,s,q,o,λhb y k X=>?_,rfl⟩) (λi nm o8=>W _ ⟨v,w,a,_,_,_,f,s,q,o,λhb y k X=>?_,rfl⟩) λi C M o8=>W _ ⟨_,_,true,_,_,_,f.add Y i C M,s,?_,λ_=>?_,λz=>(nomatch z),rfl⟩;rcases j hb y k X with z|z
 ·rcases QL.mp z with e|z
  ·cases e
   exact .inr (.inl i)
  exact .inl z
 exact .inr z;rcases j hb y k X with z|z
 ·rcases QL.mp z with e|z
  ·cases e
   exact .inr (.inr nm)
  exact .inl z
 exact .inr z;rw[QJ,qF];omega;rw[QJ,qF];omega
end
theorem J4{Ψ:PEv}(r:Ψ.sp "told_through"=ME)(ds Q E)(h:LF.run ds Q E):EG Ψ tG LF JG eF ds Q:=by
 obtain⟨es,sr,nd,rfl,⟨j,i,o,f,p⟩,q⟩:=h;refine gA [bD (.tuple (es.map pr)),bD (.tuple (sr.map PyData.str)),bD (.list (nd.map yQ)),none,none,none,none,none,none] rfl rfl rfl ?_;have g0:=Nr (es:=es) (sr:=sr) p;have A:=g0.len;have K:=g0.rlen;refine Ir (by omega) (Sr (by omega) ?_);simp_arith[↓zA];refine EH (λm v=>∃y F b o6 o7 o8,m=2 * (nd.length - F.length)+(if b=true then 1 else 0)/\GI es sr nd y F/\(b=false->∀x n,(x,n)∈nd->x∉F->¬ yL es sr x F n)/\v=fZ es sr nd y F b o6 o7 o8) _ ⟨_,_,true,none,none,none,rfl,g0,λz=>(nomatch z),rfl⟩ ?_;rintro m v ⟨y,F,b,o6,o7,o8,a,g,s,rfl⟩;cases b with
 |true =>
  have w:=λ(Z:PEnds) l=>Pr (Ψ:=Ψ) (Z:=Z) (b:=true) (o6:=o6) (o7:=o7) (o8:=o8) r j i o f g l;unfold fZ at w;delta fZ;simp_arith[↓zA];refine w _ λu W e o6 o7 o8 k B Y X=>⟨_,?_,u,W,e,o6,o7,o8,rfl,k,X,rfl⟩
  have:=k.len;cases e with|true=>have:=Y rfl;rw[a,if_pos rfl];omega|false=>rw[a,if_pos rfl,if_neg QG];omega
 |false=>delta fZ;simp_arith[↓zA];exact q y F g λx=>O5 g.held g.see (s rfl) x
def lH(p:Str×Int×Int×Int):D:=.tuple [.str p.1,.int p.2.1,.int p.2.2.1,.int p.2.2.2]
inductive Evt where
 |see (t:Int) (p m w:Str)|tell (t:Int) (a b m w:Str) (by_:LS)
def LD:Evt->D
 | .see t p m w=>.tuple [.str "see",.int t,.str p,.str m,.str w]|.tell t a b m w q=>.tuple [.str "tell",.int t,.str a,.str b,.str m,.str w,.tuple (q.map PyData.str)]
structure Wd where
 ps:List (Str×Int×Int×Int)
 ms:LS
 ag:dC
 es:List Evt
def wD(w:Wd):D:=.tuple [.list (w.ps.map lH),.list (w.ms.map PyData.str),.list (w.ag.map pr),.list (w.es.map LD)]
section
variable{w:Wd}{p:Str×Int×Int×Int}{n m:Bool}{R:T->Prop}
theorem vB{ds:List D}{i:Nat}{d:D}(h:ds[i]?=some d):DA (.d (.tuple ds)) n (.d (.int (i:Int))) m R=R (.d d):=by rw[TZ,show fE ds (i:Int)=some d from tF h,EB]
theorem IT:DA (.d (wD w)) n (.d (.int 0)) m R=R (.d (.list (w.ps.map lH))):=vB (i:=0) rfl
theorem Cf:DA (.d (wD w)) n (.d (.int 1)) m R=R (.d (.list (w.ms.map PyData.str))):=vB (i:=1) rfl
theorem Bf:DA (.d (wD w)) n (.d (.int 2)) m R=R (.d (.list (w.ag.map pr))):=vB (i:=2) rfl
theorem vP:DA (.d (wD w)) n (.d (.int 3)) m R=R (.d (.list (w.es.map LD))):=vB (i:=3) rfl
theorem GK:DA (.d (lH p)) n (.d (.int 0)) m R=R (.d (.str p.1)):=vB (i:=0) rfl
theorem Fk:DA (.d (lH p)) n (.d (.int 1)) m R=R (.d (.int p.2.1)):=vB (i:=1) rfl
theorem Dk:DA (.d (lH p)) n (.d (.int 2)) m R=R (.d (.int p.2.2.1)):=vB (i:=2) rfl
theorem bq:DA (.d (lH p)) n (.d (.int 3)) m R=R (.d (.int p.2.2.2)):=vB (i:=3) rfl
end
def LK(w:Wd):List (Str×Int):=w.ps.map λp=>(p.1,p.2.2.2)
def DL:PSp where
 md:=[]
 run:=λx Q _=>∃w:Wd,x=[.d (wD w)]/\w.ps.length<=90/\Q (.lst (((LK w).map yQ).map T.d)) []
 mono:=λh _ z=>by obtain⟨w,e,l,q⟩:=z;exact⟨w,e,l,h _ _ q⟩
theorem f8{w:Wd}{K:T->LT->Prop}{E:XE}(l:w.ps.length<=90)(q:K (.lst (((LK w).map yQ).map T.d)) []):eB DL [.d (wD w)] K E:=⟨w,rfl,l,q⟩
theorem Yh{Ψ:PEv}(ds Q E)(h:DL.run ds Q E):EG Ψ MH DL fN gK ds Q:=by
 obtain⟨w,rfl,l,q⟩:=h;refine gA [bD (wD w)] rfl rfl rfl ?_;delta MH;simp_arith[↓IT];rw[<- lA lH];refine rB (λp=>T.d (lH p)) (λp=>T.d (yQ (p.1,p.2.2.2))) w.ps [] _ (λx z R y=>?_) (by show 0+w.ps.length<=_;omega) ?_;simp_arith[↓GK,↓bq];exact⟨by omega,y⟩;rw[Qg,lA λp:Str×Int×Int×Int=>yQ (p.1,p.2.2.2)];have e:(w.ps.map λp=>yQ (p.1,p.2.2.2))=(LK w).map yQ:=by unfold LK;rw[QS];rfl
 rw[e];exact q
def ED(es:dC)(sr:LS):D:=.tuple [.tuple (sr.map PyData.str),.tuple (es.map pr)]
section
variable{es:dC}{sr:LS}{n m:Bool}{R:T->Prop}
theorem gq:DA (.d (ED es sr)) n (.d (.int 0)) m R=R (.d (.tuple (sr.map PyData.str))):=vB (i:=0) rfl
theorem fq:DA (.d (ED es sr)) n (.d (.int 1)) m R=R (.d (.tuple (es.map pr))):=vB (i:=1) rfl
end
noncomputable def BG:PSp where
 md:=[]
 run:=λv Q _=>∃(w:Wd) (u:dC) (y:LS),v=[.d (wD w),.d (ED u y)]/\(u.length<=126/\y.length<=11/\eG u y/\w.ps.length<=90/\(w.ps.map λp=>p.1).Nodup)/\∀l:LS,(∀x,x∈l↔Held u y (LK w) x)->l.length<=90->Q (.lst ((l.map PyData.str).map T.d)) []
 mono:=λh _ z=>by obtain⟨w,u,y,e,l,q⟩:=z;exact⟨w,u,y,e,l,λl a b=>h _ _ (q l a b)⟩
theorem Ak{ts:LT}{W:LT->Prop}:xL .val [(.lst ts,true)] W=W ((ersT ts).map T.d):=UI _
theorem Hi(r:Rw):(UJ r).er=.tuple [.str r.1,.list (ersT ((r.2.map IC).map T.d))]:=rfl
theorem O1{w:Wd}{es:dC}{sr:LS}{K:T->LT->Prop}{E:XE}(l:es.length<=126/\sr.length<=11/\eG es sr/\w.ps.length<=90/\(w.ps.map λp=>p.1).Nodup)(q:∀l:LS,(∀x,x∈l↔Held es sr (LK w) x)->l.length<=90->K (.lst ((l.map PyData.str).map T.d)) []):eB BG [.d (wD w),.d (ED es sr)] K E:=⟨w,es,sr,rfl,l,q⟩
theorem p9{Ψ:PEv}(m:Ψ.sp "ground_alone"=LF)(l:Ψ.sp "needs_of"=DL)(ds Q E)(h:BG.run ds Q E):EG Ψ nF BG cJ cH ds Q:=by
 obtain⟨w,n,u,rfl,⟨b,a,f,z,nd⟩,q⟩:=h;have k:(LK w).length<=90:=by unfold LK;rw[QF];exact z
 have v:((LK w).map λp=>p.1).Nodup:=by unfold LK;rw[QS];exact nd
 refine gA [bD (wD w),bD (ED n u)] rfl rfl rfl ?_;delta nF;simp_arith[↓gq,↓fq,↓xA (md:=[]) m rfl rfl,↓xA (md:=[]) l rfl rfl];refine f8 z ?_;simp_arith[↓zA];refine nY ⟨b,a,f,k,v⟩ λy F g j=>?_;rw[Ak];have fl:=g.len;have rl:y.length=F.length:=by rw[g.e,QF]
 rw[YQ,QS,QS];refine⟨rfl,?_⟩;refine rB (λr=>T.d (UJ r).er) (λr=>T.d (.str r.1)) y [] _ (λx o R i=>?_) (by show 0+y.length<=_;omega) ?_;rw[Hi];simp_arith[↓zA];exact i;rw[Qg,lA (λr:Rw=>PyData.str r.1)];have e:(y.map λr=>PyData.str r.1)=F.map PyData.str:=by rw[g.e,QS];rfl
 rw[e];exact q F j (by omega)
def GA(h:List Evt)(n:Nat):Evt:=(h[n]?).getD (.see 0 "" "" "")
def EC(e:Evt):Prop:=∃t a b m w q,e=.tell t a b m w q
def on:Evt->Str
 | .see _ _ m _=>m|.tell _ _ _ m _ _=>m
def xJ:Evt->Str×Str
 | .see _ p m _=>(p,m)|.tell _ a b _ _ _=>(a,b)
def nD(n:Nat):D:=.int (n:Int)
theorem tN{x:List Evt}{i:Nat}{n m:Bool}{R:T->Prop}(h:i<x.length):DA (.d (.list (x.map LD))) n (.d (nD i)) m R=R (.d (LD (GA x i))):=by delta nD;rw[Ff,show fE (x.map LD) (i:Int)=some (LD (GA x i)) from tF (by rw[Qc,Qq h];unfold GA;rw[Qq h];rfl),EB]
section
variable{e:Evt}{n m:Bool}{R:T->Prop}
theorem Pb(h:EC e):DA (.d (LD e)) n (.d (.int 2)) m R=R (.d (.str (xJ e).1)):=by obtain⟨t,a,b,x,w,q,rfl⟩:=h;exact vB (i:=2) rfl
theorem Ob(h:EC e):DA (.d (LD e)) n (.d (.int 3)) m R=R (.d (.str (xJ e).2)):=by obtain⟨t,a,b,x,w,q,rfl⟩:=h;exact vB (i:=3) rfl
theorem Ck(h:EC e):DA (.d (LD e)) n (.d (.int 4)) m R=R (.d (.str (on e))):=by obtain⟨t,a,b,x,w,q,rfl⟩:=h;exact vB (i:=4) rfl
end
section
variable{Ψ:PEv}{x:Str}{r:Int}{K:T->LT->Prop}{ks:List Pt}{L:Bool->Prop}
theorem Pc{ds:List D}{Q:T->Bool->Prop}:NO .tuple [(.lst (ds.map T.d),true)] Q=Q (.d (.tuple ds)) false:=by unfold NO fC;show FX .tuple [.ls ((ersT (ds.map T.d)).map T.d)] Q=_;rw[pB,ye];exact propext ⟨λ⟨_,e,q⟩=>by rw[iA]at e;cases e;exact q,λq=>⟨_,iA _,q⟩⟩
def kH(h:List Evt)(y:LN)(m:Str):dC:=(y.filter λn=>decide (on (GA h n)=m)).map λn=>xJ (GA h n)
noncomputable def eJ:PSp where
 md:=[]
 run:=λv Q _=>∃(y:List Evt) (u:LN) (m:Str),v=[.d (.list (y.map LD)),.d (.list (u.map nD)),.d (.str m)]/\u.length<=100/\(∀n∈u,n<y.length/\EC (GA y n))/\Q (.d (.tuple ((kH y u m).map pr))) []
 mono:=λh _ z=>by obtain⟨y,u,m,e,l,a,q⟩:=z;exact⟨y,u,m,e,l,a,h _ _ q⟩
theorem Bh(ds Q E)(h:eJ.run ds Q E):EG Ψ RH eJ pN pK ds Q:=by
 obtain⟨y,z,m,rfl,l,a,q⟩:=h;refine gA [bD (.list (y.map LD)),bD (.list (z.map nD)),bD (.str m),none] rfl rfl rfl ?_;delta RH;simp_arith[↓zA];rw[<- lA nD];refine fA (λn=>T.d (nD n)) (λn=>T.d (LD (GA y n))) (λn=>decide (on (GA y n)=m)) z [] _ (λx w R v=>?_) (by show 0+z.length<=_;omega) ?_;simp_arith[↓tN (a x w).1,↓Ck (a x w).2];split at v;rename_i c;rw[if_pos c];exact v;rename_i c;rw[if_neg c];exact v;rw[Qg,lA λn=>LD (GA y n)];simp_arith[↓zA];rw[<- lA λn=>LD (GA y n)];refine rB (λn=>T.d (LD (GA y n))) (λn=>T.d (pr (xJ (GA y n)))) _ [] _ (λx w R v=>?_) (by show 0+(List.filter _ z).length<=_;have:=Qj (λn=>decide (on (GA y n)=m)) z;omega) ?_;have u:=(QX.mp w).1;simp_arith[↓Pb (a x u).2,↓Ob (a x u).2];exact⟨by omega,v⟩;rw[Qg,lA λn=>pr (xJ (GA y n)),Pc];have e:((z.filter λn=>decide (on (GA y n)=m)).map λn=>pr (xJ (GA y n)))=(kH y z m).map pr:=by unfold kH;rw[QS];rfl
 rw[e];simp_arith[↓zA];exact q
def dI(w:Wd)(x:Str):LI:=(w.ps.filter λp=>decide (p.1=x)).map λp=>p.2.1
def kI:PSp where
 md:=[]
 run:=λy Q _=>∃(w:Wd) (x:Str) (r:Int),y=[.d (wD w),.d (.str x)]/\w.ps.length<=90/\(dI w x)[0]?=some r/\Q (.d (.int r)) []
 mono:=λh _ z=>by obtain⟨w,x,r,e,l,a,q⟩:=z;exact⟨w,x,r,e,l,a,h _ _ q⟩
theorem M1{w:Wd}{E:XE}(l:w.ps.length<=90)(a:(dI w x)[0]?=some r)(q:K (.d (.int r)) []):eB kI [.d (wD w),.d (.str x)] K E:=⟨w,x,r,rfl,l,a,q⟩
theorem m9(ds Q E)(h:kI.run ds Q E):EG Ψ TJ kI AO yM ds Q:=by
 obtain⟨w,x,r,rfl,l,a,q⟩:=h;refine gA [bD (wD w),bD (.str x)] rfl rfl rfl ?_;delta TJ;simp_arith[↓IT];rw[<- lA lH];refine fA (λp=>T.d (lH p)) (λp=>T.d (.int p.2.1)) (λp=>decide (p.1=x)) w.ps [] _ (λp u R y=>?_) (by show 0+w.ps.length<=_;omega) ?_;simp_arith[↓GK,↓Fk];split at y;rename_i c;rw[if_pos c];exact y;rename_i c;rw[if_neg c];exact y;rw[Qg,lA λp:Str×Int×Int×Int=>PyData.int p.2.1];have e:((w.ps.filter λp=>decide (p.1=x)).map λp=>PyData.int p.2.1)=(dI w x).map PyData.int:=by unfold dI;rw[QS];rfl
 rw[e];have z:fE ((dI w x).map PyData.int) 0=some (.int r):=tF (j:=0) (by rw[Qc,a];rfl);simp_arith[z];exact q
def vF(w:Wd)(x:Str):LI:=(w.ps.filter λp=>decide (p.1=x)).map λp=>p.2.2.1
def GF:PSp where
 md:=[]
 run:=λy Q _=>∃(w:Wd) (x:Str) (r:Int),y=[.d (wD w),.d (.str x)]/\w.ps.length<=90/\(vF w x)[0]?=some r/\Q (.d (.int r)) []
 mono:=λh _ z=>by obtain⟨w,x,r,e,l,a,q⟩:=z;exact⟨w,x,r,e,l,a,h _ _ q⟩
theorem gY{w:Wd}{E:XE}(l:w.ps.length<=90)(a:(vF w x)[0]?=some r)(q:K (.d (.int r)) []):eB GF [.d (wD w),.d (.str x)] K E:=⟨w,x,r,rfl,l,a,q⟩
theorem m4(ds Q E)(h:GF.run ds Q E):EG Ψ PH GF nN oK ds Q:=by
 obtain⟨w,x,r,rfl,l,a,q⟩:=h;refine gA [bD (wD w),bD (.str x)] rfl rfl rfl ?_;delta PH;simp_arith[↓IT];rw[<- lA lH];refine fA (λp=>T.d (lH p)) (λp=>T.d (.int p.2.2.1)) (λp=>decide (p.1=x)) w.ps [] _ (λp u R y=>?_) (by show 0+w.ps.length<=_;omega) ?_;simp_arith[↓GK,↓Dk];split at y;rename_i c;rw[if_pos c];exact y;rename_i c;rw[if_neg c];exact y;rw[Qg,lA λp:Str×Int×Int×Int=>PyData.int p.2.2.1];have e:((w.ps.filter λp=>decide (p.1=x)).map λp=>PyData.int p.2.2.1)=(vF w x).map PyData.int:=by unfold vF;rw[QS];rfl
 rw[e];have z:fE ((vF w x).map PyData.int) 0=some (.int r):=tF (j:=0) (by rw[Qc,a];rfl);simp_arith[z];exact q
def YI(ks:List Pt):T:=.dct true (ks.map pr) (ks.map λ_=>T.d (.bool true))
def jL(ks:List Pt)(p:Pt):List Pt:=if p∈ks then ks else ks++[p]
theorem VT(ks:List Pt)(p:Pt):(jL ks p).length<=ks.length+1:=by unfold jL;split;omega;simp
theorem XJ{α h:Type}(c:h):∀(l:List α) (n:Nat),(l.map λ_=>c).set n c=l.map λ_=>c
 |[],_=>rfl|_::_,0=>rfl|x::l,n+1=>by show c::(l.map λ_=>c).set n c=_;rw[XJ c l n];rfl
theorem xc{p:Pt}{Q:T->Prop}(hl:ks.length<sizeLine)(q:Q (YI (jL ks p))):T7 (YI ks) (.d (pr p)) (.d (.bool true)) Q:=by
 refine⟨IB p,by rw[QF];exact hl,?_⟩;show Q (YH true (ks.map pr) (ks.map λ_=>T.d (.bool true)) (pr p) (.d (.bool true)));unfold jL at q;unfold YH;by_cases c:p∈ks;rw[if_pos c]at q;cases e:bA (ks.map pr) (pr p) with|none=>exact absurd (aP.mpr c) (XA.mp e)|some n=>show Q (.dct true (ks.map pr) ((ks.map λ_=>T.d (.bool true)).set n (.d (.bool true))));rw[XJ];exact q
 rw[if_neg c]at q;rw[XA.mpr λz=>c (aP.mp z)];unfold YI at q;rw[QR,QR]at q;exact q
theorem Zo{q:Pt}:MB .In (.d (pr q)) (YI ks) L=L (decide (q∈ks)):=by unfold YI;rw[UX,HI];exact propext ⟨λh=>h.2,λh=>⟨IB q,h⟩⟩
theorem kj{q:Pt}:MB .NotIn (.d (pr q)) (YI ks) L=L (!decide (q∈ks)):=by unfold YI;rw[RJ,HI];exact propext ⟨λh=>h.2,λh=>⟨IB q,h⟩⟩
def jC(h:List Evt)(ks:List Pt)(n:Nat):List Pt:=match GA h n with
 | .see _ p m _=>jL ks (p,m)|_=>ks
def gB(h:List Evt)(l:LN):List Pt:=l.foldl (jC h) []
def xX:Evt->Str
 | .see _ _ _ _=>"see"|.tell _ _ _ _ _ _=>"tell"
end
section
variable{e:Evt}{n m:Bool}{R:T->Prop}{t:Int}{p h w:Str}
theorem HK:DA (.d (LD e)) n (.d (.int 0)) m R=R (.d (.str (xX e))):=by cases e;exact vB (i:=0) rfl;exact vB (i:=0) rfl
theorem AZ:DA (.d (LD (.see t p h w))) n (.d (.int 2)) m R=R (.d (.str p)):=vB (i:=2) rfl
theorem TV:DA (.d (LD (.see t p h w))) n (.d (.int 3)) m R=R (.d (.str h)):=vB (i:=3) rfl
end
section
variable{Ψ:PEv}{ks v:List Pt}{a b x:Str}{L:Bool->Prop}{E:XE}{ns:LI}{K:T->LT->Prop}{w:Wd}
theorem vG{c a b:Prop}[Decidable c](h:¬ c)(q:b):if c then a else b:=by rw[if_neg h];exact q
def Nq(h:List Evt)(l:LN)(ks:List Pt)(o3:Option Sl):kA:=[bD (.list (h.map LD)),some (.ky (.lst (l.map λn=>T.d (nD n)))),oW (YI ks),o3]
noncomputable def UG:PSp where
 md:=[.xx,.xy]
 run:=λu Q _=>∃(y:List Evt) (l:LN),u=[.d (.list (y.map LD)),.lst ((l.map nD).map T.d)]/\l.length<=100/\(∀n∈l,n<y.length)/\Q (YI (gB y l)) []
 mono:=λh _ z=>by obtain⟨y,l,e,a,b,q⟩:=z;exact⟨y,l,e,a,b,h _ _ q⟩
theorem l9(ds Q E)(h:UG.run ds Q E):EG Ψ uF UG uJ uH ds Q:=by
 obtain⟨y,l,rfl,hl,o,q⟩:=h;refine gA [bD (.list (y.map LD)),some (.ky (.lst ((l.map nD).map T.d))),none,none] rfl rfl rfl ?_;delta uF;simp_arith[↓zA];rw[<- lA nD];refine MA (λn=>T.d (nD n)) (λr z=>∃ks u,r.foldl (jC y) ks=gB y l/\ks.length+r.length<=100/\(∀n∈r,n<y.length)/\z=Nq y l ks u) ?_ ?_ l _ ⟨[],none,rfl,by simpa using hl,o,rfl⟩;rintro z ⟨ks,u,e,_,_,rfl⟩;have e:ks=gB y l:=e;subst e;delta Nq;simp_arith[↓zA];exact q;rintro n r z N j ⟨ks,u,e,hk,f,rfl⟩;have i:ks.length+(r.length+1)<=100:=hk;have g:=f n QE;delta Nq;delta lG;simp_arith[↓tN g,↓HK];have e:r.foldl (jC y) (jC y ks n)=gB y l:=e;unfold jC at e;cases ev:GA y n with|see t p m w=>rw[ev]at e;simp_arith[xX,↓AZ,↓TV];rw[tN g,ev];simp_arith[↓TV];exact⟨by omega,xc (p:=(p,m)) (by omega) (j _ ⟨jL ks (p,m),_,e,by have:=VT ks (p,m);omega,λx k=>f x (QD _ k),rfl⟩)⟩|tell t a b m w s=>rw[ev]at e;refine vG (show decide ((QO "tell")=(QO "see"))≠true by decide) ?_;exact j _ ⟨ks,_,e,by omega,λx k=>f x (QD _ k),rfl⟩
theorem FV:MB .In (.d (.tuple [.str a,.str b])) (YI ks) L=L (decide ((a,b)∈ks)):=Zo (q:=(a,b))
theorem XX:MB .NotIn (.d (.tuple [.str a,.str b])) (YI ks) L=L (!decide ((a,b)∈ks)):=kj (q:=(a,b))
def zH(w:Wd)(ks:List Pt)(m:Str):LS:=(w.ps.filter λp=>decide ((p.1,m)∈ks)).map λp=>p.1
noncomputable def sJ:PSp where
 md:=[.xx,.ky]
 run:=λy Q _=>∃(w:Wd) (ks:List Pt) (m:Str),y=[.d (wD w),YI ks,.d (.str m)]/\w.ps.length<=90/\Q (.d (.tuple ((zH w ks m).map PyData.str))) []
 mono:=λh _ z=>by obtain⟨w,ks,m,e,l,q⟩:=z;exact⟨w,ks,m,e,l,h _ _ q⟩
theorem ph(ds Q E)(h:sJ.run ds Q E):EG Ψ LH sJ cN cK ds Q:=by
 obtain⟨w,ks,m,rfl,l,q⟩:=h;refine gA [bD (wD w),some (.ky (YI ks)),bD (.str m)] rfl rfl rfl ?_;delta LH;simp_arith[↓IT];rw[<- lA lH];refine fA (λp=>T.d (lH p)) (λp=>T.d (.str p.1)) (λp=>decide ((p.1,m)∈ks)) w.ps [] _ (λp z R y=>?_) (by show 0+w.ps.length<=_;omega) ?_;simp_arith[↓GK,↓FV];refine⟨by omega,?_⟩;split at y;rename_i c;rw[if_pos c];exact y;rename_i c;rw[if_neg c];exact y;rw[Qg,lA λp:Str×Int×Int×Int=>PyData.str p.1,Pc];have e:((w.ps.filter λp=>decide ((p.1,m)∈ks)).map λp=>PyData.str p.1)=(zH w ks m).map PyData.str:=by unfold zH;rw[QS];rfl
 rw[e];simp_arith[↓zA];exact q
theorem Mo{ρ:kA}{a c h:PX}{t u:Str}{x y:D}{e:CmpOp}{R:Option T->Prop}:RI Ψ E [] [t,u] (.tp [0,1]) (.cmp e a c) h ρ (.d (.tuple [x,y])) R=iP Ψ (.cmp e a c) E (bD x::bD y::lockA ρ) λk z=>if k=true then lB Ψ h E z λy n _=>ZC y n (R (some y)) else R none:=EB
theorem jX:∀{l:List D},(∀x∈l,x.canLay0=true/\x.depth<=1)->wX l=true/\wy l<=1
 |[],_=>by simp[wX,wy]|x::l,h=>by obtain⟨k,f⟩:=h x QE;obtain⟨z,e⟩:=jX (l:=l) λy u=>h y (QD _ u);simp only[wX,wy,k,z,Bool.and_self,true_and];omega
theorem Kh{l:List D}(h:∀x∈l,x.canLay0=true/\x.depth<=1):TF (.list l):=by obtain⟨y,z⟩:=jX h;refine⟨?_,?_⟩;simp only[QAW];exact y;simp only[QA7];omega
def VB(w:Wd)(m:Str):LS:=(w.ag.filter λp=>decide (p.1=m)).map λp=>p.2
def KB(w:Wd)(m:Str):LS:=(w.ag.filter λp=>decide (p.2=m)).map λp=>p.1
def OkS(a:Str):Prop:=qq a=true
def Nb(h:T)(f:Pt->Bool):Prop:=∀a b (L:Bool->Prop),OkS a->OkS b->L (f (a,b))->MB .In (.d (.tuple [.str a,.str b])) h L
theorem Cn(ks:List Pt):Nb (YI ks) λq=>decide (q∈ks):=λa b L _ _ h=>by rw[FV];exact h
theorem rh(h:∀p∈v,OkS p.1/\OkS p.2):TF (.list (v.map pr)):=Kh λx z=>by obtain⟨p,y,rfl⟩:=QT.mp z;have q:=jD (h p y).1 (h p y).2;exact⟨q.1,by simp[pr,QA7,wy]⟩
theorem bV(h:∀p∈v,OkS p.1/\OkS p.2):Nb (.d (.list (v.map pr))) λq=>decide (q∈v):=λa b L u hb q=>by
 refine⟨.inr ⟨jD u hb,rh h⟩,?_⟩;have e:((v.map pr).any λy=>Qu y (.tuple [.str a,.str b]))=decide ((a,b)∈v):=by rw[QAO,Q9,wm,decide_eq_true_iff];constructor;rintro⟨p,z,e⟩;have e:Qu (pr p) (pr (a,b))=true:=e;rw[KQ,decide_eq_true_iff]at e;exact e▸z;intro z;refine⟨(a,b),z,?_⟩;show Qu (pr (a,b)) (pr (a,b))=true;rw[KQ];exact dT rfl
 show L ((v.map pr).any λy=>Qu y (.tuple [.str a,.str b]));rw[e];exact q
noncomputable def JJ:PSp where
 md:=[.xx,.ky]
 run:=λu Q _=>∃(w:Wd) (y:T) (f:Pt->Bool) (x m:Str),u=[.d (wD w),y,.d (.str x),.d (.str m)]/\(Nb y f/\OkS x/\∀p∈w.ag,OkS p.1/\OkS p.2)/\w.ag.length<=100/\Q (.d (.bool ((VB w m++KB w m).any λr=>f (x,r)))) []
 mono:=λh _ z=>by obtain⟨w,y,f,x,m,e,a,l,q⟩:=z;exact⟨w,y,f,x,m,e,a,l,h _ _ q⟩
theorem Dh(ds Q E)(h:JJ.run ds Q E):EG Ψ dE JJ oH PF ds Q:=by
 obtain⟨w,u,f,x,m,rfl,⟨i,k,z⟩,l,q⟩:=h;have Y:=Qj (λp:Str×Str=>decide (p.1=m)) w.ag;have X:=Qj (λp:Str×Str=>decide (p.2=m)) w.ag;have s:(VB w m).length<=100:=by unfold VB;rw[QF];omega
 have o:(KB w m).length<=100:=by unfold KB;rw[QF];omega
 refine gA [bD (wD w),some (.ky u),bD (.str x),bD (.str m),none] rfl rfl rfl ?_;delta dE;simp_arith[↓Bf];rw[<- lA pr w.ag];refine fA (λp=>T.d (pr p)) (λ(p:Str×Str)=>T.d (.str p.2)) (λp=>decide (p.1=m)) w.ag [] _ (λp e R y=>?_) (by show 0+w.ag.length<=_;omega) ?_;delta pr;simp_arith[↓Mo];split at y;rename_i c;rw[if_pos c];exact y;rename_i c;rw[if_neg c];exact y;rw[Qg,lA λp:Str×Str=>PyData.str p.2];have n:((w.ag.filter λp=>decide (p.1=m)).map λp=>PyData.str p.2)=(VB w m).map PyData.str:=by unfold VB;rw[QS];rfl
 rw[n];refine fA (λp=>T.d (pr p)) (λ(p:Str×Str)=>T.d (.str p.1)) (λp=>decide (p.2=m)) w.ag [] _ (λp e R y=>?_) (by show 0+w.ag.length<=_;omega) ?_;delta pr;simp_arith[↓Mo];split at y;rename_i c;rw[if_pos c];exact y;rename_i c;rw[if_neg c];exact y;rw[Qg,lA λp:Str×Str=>PyData.str p.1];have j:((w.ag.filter λp=>decide (p.2=m)).map λp=>PyData.str p.1)=(KB w m).map PyData.str:=by unfold KB;rw[QS];rfl
 rw[j,<- QR,<- QR];refine⟨by rw[QF,QF,QF,QF];omega,?_⟩;simp_arith[↓zA];rw[<- lA PyData.str];refine rB (λr=>T.d (.str r)) (λr=>T.d (.bool (f (x,r)))) (VB w m++KB w m) [] _ (λr e R y=>?_) (by show 0+(VB w m++KB w m).length<=_;rw[QJ];omega) ?_;simp_arith[↓zA];refine⟨by omega,i _ _ _ k ?_ y⟩;rcases Qe.mp e with h|h;obtain⟨p,g,rfl⟩:=QT.mp h;exact(z p (QX.mp g).1).2;obtain⟨p,g,rfl⟩:=QT.mp h;exact(z p (QX.mp g).1).1;rw[Qg,lA λr=>PyData.bool (f (x,r)),O4];refine⟨(VB w m++KB w m).map λr=>f (x,r),by rw[QS];rfl,?_⟩;rw[QAO];simp_arith[↓zA];exact q
theorem Em{n:Bool}{Q:T->Bool->Prop}(y:ns.length<64)(q:∀h:LI,h.Perm ns->h.Pairwise (·<=·)->Q (.lst ((h.map PyData.int).map T.d)) true):NO .sorted [(.lst ((ns.map PyData.int).map T.d),n)] Q:=by unfold NO fC;rw[yE];exact .inr (.inr ⟨_,ns,rfl,iA _,y,q⟩)
theorem C9{l:LN}(h:ns.Perm (l.map λ(n:Nat)=>(n:Int)))(z:ns.Pairwise (·<=·)):∃y:LN,ns=y.map (λ(n:Nat)=>(n:Int))/\y.Perm l/\y.Pairwise (·<=·):=by
 have e:ns=(ns.map QCV).map λ(n:Nat)=>(n:Int):=by rw[QS];refine(QCP ns).symm.trans (wF λx u=>?_);obtain⟨n,_,rfl⟩:=QT.mp (h.mem_iff.mp u);rfl
 refine⟨ns.map QCV,e,?_,?_⟩;have:=h.map QCV;rw[QS]at this;refine this.trans (QCO.of_eq ?_);exact(wF λn _=>rfl).trans (QCP l);rw[e]at z;exact(QBy.mp z).imp λh=>by omega
def ZI(h:List Evt)(y:LN)(ks:List Pt):LN:=y.filter λn=>!decide (((xJ (GA h n)).1,(xJ (GA h n)).2)∈ks)
noncomputable def NE:PSp where
 md:=[.xx,.xy,.ky]
 run:=λf Q _=>∃(y:List Evt) (u:LN) (ks:List Pt),f=[.d (.list (y.map LD)),.lst ((u.map nD).map T.d),YI ks]/\u.length<64/\(∀n∈u,n<y.length/\EC (GA y n))/\∀k:LN,k.Perm (ZI y u ks)->k.Pairwise (·<=·)->Q (.lst ((k.map nD).map T.d)) []
 mono:=λh _ z=>by obtain⟨y,u,ks,e,l,a,q⟩:=z;exact⟨y,u,ks,e,l,a,λk b c=>h _ _ (q k b c)⟩
theorem n9(ds Q E)(h:NE.run ds Q E):EG Ψ fF NE bJ bH ds Q:=by
 obtain⟨y,z,ks,rfl,l,a,q⟩:=h;refine gA [bD (.list (y.map LD)),some (.ky (.lst ((z.map nD).map T.d))),some (.ky (YI ks))] rfl rfl rfl ?_;delta fF;simp_arith[↓zA];rw[<- lA nD];refine fA (λn=>T.d (nD n)) (λn=>T.d (nD n)) (λn=>!decide (((xJ (GA y n)).1,(xJ (GA y n)).2)∈ks)) z [] _ (λn k R f=>?_) (by show 0+z.length<=_;omega) ?_;simp_arith[↓tN (a n k).1,↓Pb (a n k).2,↓Ob (a n k).2,↓XX];refine⟨by omega,?_⟩;split at f;rename_i c;rw[if_pos c];exact f;rename_i c;rw[if_neg c];exact f;rw[Qg,lA nD];have e:(ZI y z ks).map nD=((ZI y z ks).map λ(n:Nat)=>(n:Int)).map PyData.int:=by rw[QS];rfl
 have fl:=Qj (λn=>!decide (((xJ (GA y n)).1,(xJ (GA y n)).2)∈ks)) z;show NO .sorted [(.lst (((ZI y z ks).map nD).map T.d),true)] _;rw[e];refine Em (by rw[QF];unfold ZI;omega) λj i g=>?_;obtain⟨u,rfl,o,m⟩:=C9 i g;have p:(u.map λ(n:Nat)=>(n:Int)).map PyData.int=u.map nD:=by rw[QS];rfl
 rw[p];simp_arith[↓zA];exact q u o m
theorem JR{h:List Evt}{l:LN}(a:l.length<=100)(b:∀n∈l,n<h.length)(q:K (YI (gB h l)) []):eB UG [.d (.list (h.map LD)),.lst ((l.map nD).map T.d)] K E:=⟨h,l,rfl,a,b,q⟩
theorem rW{h:T}{f:Pt->Bool}{m:Str}(a:Nb h f/\OkS x/\∀p∈w.ag,OkS p.1/\OkS p.2)(l:w.ag.length<=100)(q:K (.d (.bool ((VB w m++KB w m).any λr=>f (x,r)))) []):eB JJ [.d (wD w),h,.d (.str x),.d (.str m)] K E:=⟨w,h,f,x,m,rfl,a,l,q⟩
def pJ(w:Wd)(sn:List Pt)(b m:Str):Bool:=!decide ((b,m)∈sn)&&(VB w m++KB w m).any λr=>decide ((b,r)∈sn)
def AD(w:Wd)(sn ks:List Pt)(n:Nat):List Pt:=match GA w.es n with
 | .tell _ a b m _ _=>if pJ w sn b m=true then jL ks (a,b) else ks|_=>ks
def uK(w:Wd)(l:LN):List Pt:=l.foldl (AD w (gB w.es l)) []
def Mb(w:Wd)(x:Str):Prop:=∃p∈w.ps,p.1=x
def FZ(w:Wd):Evt->Prop
 | .see _ p m h=>Mb w p/\m∈w.ms/\OkS h|.tell _ a b m h q=>Mb w a/\Mb w b/\m∈w.ms/\a≠b/\OkS h/\∀x∈q,Mb w x
structure WOk(w:Wd):Prop where
 ag:∀p∈w.ag,OkS p.1/\OkS p.2
 al:w.ag.length<=100
 pl:w.ps.length<=11
 pn:(w.ps.map λp=>p.1).Nodup
 po:∀p∈w.ps,OkS p.1
 ml:w.ms.length<=10
 mo:∀m∈w.ms,OkS m
 mn:w.ms.Nodup
 el:w.es.length<=60
 eo:∀e∈w.es,FZ w e
theorem WOk.ev(h:WOk w){n:Nat}(y:n<w.es.length):FZ w (GA w.es n):=by unfold GA;rw[Qq y];exact h.eo _ (wn y)
theorem WOk.nm(h:WOk w)(y:Mb w x):OkS x:=by obtain⟨p,z,rfl⟩:=y;exact h.po p z
end
section
variable{Ψ:PEv}{E:XE}{ρ:kA}{M:List (T×Bool)->kA->Prop}{a y:PX}{md:List Md}{d:D}{n m:Bool}{xs:List (T×Bool)}{C:LT->Prop}{R:T->Prop}{t:Int}{x b h wd:Str}{q:LS}
theorem Jp{ks:List Pt}:J7 (YI ks) false Ψ y E md ρ M=dM Ψ y E md (lockA ρ) λxs _=>M xs ρ:=rfl
theorem TN:DA (.d (LD (.tell t x b h wd q))) n (.d (.int 2)) m R=R (.d (.str x)):=vB (i:=2) rfl
theorem xK:DA (.d (LD (.tell t x b h wd q))) n (.d (.int 3)) m R=R (.d (.str b)):=vB (i:=3) rfl
theorem gL:DA (.d (LD (.tell t x b h wd q))) n (.d (.int 4)) m R=R (.d (.str h)):=vB (i:=4) rfl
end
section
variable{w:Wd}{K:T->LT->Prop}{Ψ:PEv}{u es:List Pt}{x:Str}{sr:LS}{f:Kn}
def oq(w:Wd)(l:LN)(ks:List Pt)(o4 o5:Option Sl):kA:=[bD (wD w),some (.ky (.lst (l.map λn=>T.d (nD n)))),oW (YI (gB w.es l)),oW (YI ks),o4,o5]
noncomputable def oD:PSp where
 md:=[.xx,.xy]
 run:=λy Q _=>∃(w:Wd) (l:LN),y=[.d (wD w),.lst ((l.map nD).map T.d)]/\WOk w/\l.length<=100/\(∀n∈l,n<w.es.length)/\Q (YI (uK w l)) []
 mono:=λh _ z=>by obtain⟨w,l,e,a,b,c,q⟩:=z;exact⟨w,l,e,a,b,c,h _ _ q⟩
theorem bY{l:LN}{E:XE}(h:WOk w)(a:l.length<=100)(b:∀n∈l,n<w.es.length)(q:K (YI (uK w l)) []):eB oD [.d (wD w),.lst ((l.map nD).map T.d)] K E:=⟨w,l,rfl,h,a,b,q⟩
theorem y4(C:Ψ.sp "seen_among"=UG)(B:Ψ.sp "has_against"=JJ)(ds Q E)(h:oD.run ds Q E):EG Ψ uE oD mH NF ds Q:=by
 obtain⟨w,l,rfl,g,hl,Z,q⟩:=h;refine gA [bD (wD w),some (.ky (.lst ((l.map nD).map T.d))),none,none,none,none] rfl rfl rfl ?_;delta uE;simp_arith[↓vP,↓xA (md:=[.xx,.xy]) C rfl rfl,↓HB,↓E6];refine JR hl Z ?_;simp_arith[↓zA];rw[<- lA nD];refine MA (λn=>T.d (nD n)) (λr o=>∃y X s,r.foldl (AD w (gB w.es l)) y=uK w l/\y.length+r.length<=100/\(∀n∈r,n<w.es.length)/\o=oq w l y X s) ?_ ?_ l _ ⟨[],none,none,rfl,by simpa using hl,Z,rfl⟩;rintro o ⟨y,X,s,e,_,_,rfl⟩;have e:y=uK w l:=e;subst e;delta oq;simp_arith[↓zA];exact q;rintro n r o N i ⟨y,X,s,e,hk,v,rfl⟩;have W:y.length+(r.length+1)<=100:=hk;have Y:=v n QE;have k:=g.ev Y;have e:r.foldl (AD w (gB w.es l)) (AD w (gB w.es l) y n)=uK w l:=e;unfold AD at e;delta oq;delta ZF;simp_arith[↓vP,↓tN Y,↓HK];cases ev:GA w.es n with|see t p m A=>rw[ev]at e;refine vG (show decide ((QO "see")=(QO "tell"))≠true by decide) ?_;exact i _ ⟨y,_,_,e,by omega,λx z=>v x (QD _ z),rfl⟩|tell t a b m A F=>rw[ev]at e k;obtain⟨I,hb,G,_⟩:=k;simp_arith[xX,↓TN,↓xK,↓gL,↓XX,↓xA (md:=[.xx,.ky]) B rfl rfl,↓HB,↓E6,↓Jp];refine⟨by omega,?_⟩;unfold pJ at e;by_cases c:(b,m)∈gB w.es l;simp_arith[dT c];simp only[dT c,WO,QAQ,Qo,if_false]at e;exact i _ ⟨y,_,_,e,by omega,λx z=>v x (QD _ z),rfl⟩;simp_arith[dF c];refine rW ⟨Cn _,g.nm hb,g.ag⟩ g.al ?_;simp_arith[↓zA];by_cases j:((VB w m++KB w m).any λr=>decide ((b,r)∈gB w.es l))=true;simp_arith[j];simp only[dF c,j,wt,w9,if_true]at e;exact⟨by omega,xc (p:=(a,b)) (by omega) (i _ ⟨jL y (a,b),_,_,e,by have:=VT y (a,b);omega,λx z=>v x (QD _ z),rfl⟩)⟩;rw[if_neg j];simp only[dF c,wt,w9]at e;rw[if_neg j]at e;exact i _ ⟨y,_,_,e,by omega,λx z=>v x (QD _ z),rfl⟩
theorem OW(h:∀p∈u,OkS p.1/\OkS p.2){a b:Str}{L:Bool->Prop}(y:OkS a)(hb:OkS b)(q:L (!decide ((a,b)∈u))):MB .NotIn (.d (.tuple [.str a,.str b])) (.d (.list (u.map pr))) L:=bV h a b (λc=>L (!c)) y hb q
def MF(w:Wd)(x:Str):Int:=((dI w x)[0]?).getD 0
def JD(w:Wd)(x:Str):Int:=((vF w x)[0]?).getD 0
theorem aW(h:Mb w x):(dI w x)[0]?=some (MF w x):=by
 obtain⟨p,z,rfl⟩:=h;have y:p.2.1∈dI w p.1:=QT.mpr ⟨p,QX.mpr ⟨z,dT rfl⟩,rfl⟩;unfold MF;cases e:dI w p.1 with|nil=>rw[e]at y;cases y|cons x r=>rfl
theorem BS(h:Mb w x):(vF w x)[0]?=some (JD w x):=by
 obtain⟨p,z,rfl⟩:=h;have y:p.2.2.1∈vF w p.1:=QT.mpr ⟨p,QX.mpr ⟨z,dT rfl⟩,rfl⟩;unfold JD;cases e:vF w p.1 with|nil=>rw[e]at y;cases y|cons x r=>rfl
def Ef(w:Wd)(wr u:List Pt):Evt->Bool
 | .see _ _ _ _=>true|.tell _ a b m _ _=>decide ((a,m)∈u)&&!decide ((a,b)∈wr)&&decide (JD w b<=MF w a)&&!((VB w m++KB w m).any λr=>decide ((b,r)∈u))
def DZ(u:List Pt):Prop:=∀p∈u,OkS p.1/\OkS p.2
noncomputable def zO:PSp where
 md:=[.xx,.xx,.ky,.xx]
 run:=λv Q _=>∃(w:Wd) (e:Evt) (y u:List Pt),v=[.d (wD w),.d (LD e),YI y,.d (.list (u.map pr))]/\WOk w/\FZ w e/\DZ u/\Q (.d (.bool (Ef w y u e))) []
 mono:=λh _ z=>by obtain⟨w,e,y,u,a,b,c,d,q⟩:=z;exact⟨w,e,y,u,a,b,c,d,h _ _ q⟩
theorem Kg{e:Evt}{wr:List Pt}{E:XE}(h:WOk w)(z:FZ w e)(y:DZ u)(q:K (.d (.bool (Ef w wr u e))) []):eB zO [.d (wD w),.d (LD e),YI wr,.d (.list (u.map pr))] K E:=⟨w,e,wr,u,rfl,h,z,y,q⟩
theorem Hm(Z:Ψ.sp "rank_of"=kI)(Y:Ψ.sp "floor_of"=GF)(X:Ψ.sp "has_against"=JJ)(ds Q E)(h:zO.run ds Q E):EG Ψ mF zO mN nK ds Q:=by
 obtain⟨w,e,g,u,rfl,y,s,j,q⟩:=h;refine gA [bD (wD w),bD (LD e),some (.ky (YI g)),bD (.list (u.map pr)),none,none,none] rfl rfl rfl ?_;cases e with|see t p m n=>delta mF;simp_arith[↓HK,xX];exact q|tell t a b m n W=>obtain⟨l,hb,o,_⟩:=s;delta mF;simp_arith[↓HK,xX];refine vG (show decide ((QO "tell")=(QO "see"))≠true by decide) ?_;simp_arith[↓TN,↓xK,↓gL,↓Fb];refine⟨by omega,OW j (y.nm l) (y.mo _ o) ?_⟩;have q:Q (.d (.bool (decide ((a,m)∈u)&&!decide ((a,b)∈g)&&decide (JD w b<=MF w a)&&!((VB w m++KB w m).any λr=>decide ((b,r)∈u))))) []:=q;by_cases k:(a,m)∈u;simp_arith[dT k,↓FV];rw[dT k]at q;refine⟨by omega,?_⟩;by_cases v:(a,b)∈g;simp_arith[dT v];rw[dT v]at q;exact q;simp_arith[dF v,↓xA (md:=[]) Z rfl rfl,↓xA (md:=[]) Y rfl rfl];rw[dF v]at q;have i:w.ps.length<=90:=QY y.pl (by decide);refine M1 i (aW l) ?_;simp_arith[↓zA];refine gY i (BS hb) ?_;simp_arith[↓Vo];by_cases z:JD w b<=MF w a;simp_arith[dT z,↓xA (md:=[.xx,.ky]) X rfl rfl,↓HB,↓E6];rw[dT z]at q;refine rW ⟨bV j,y.nm hb,y.ag⟩ y.al ?_;simp_arith[↓zA];exact q;simp_arith[dF z];rw[dF z]at q;exact q;simp_arith[dF k];rw[dF k]at q;exact q
noncomputable abbrev Kn:=List ((List Pt×LS)×LS)
def jZ(f:Kn):List D:=f.map λx=>ED x.1.1 x.1.2
def ki(f:Kn):LT:=f.map λx=>T.d (.list (x.2.map PyData.str))
def kX(f:Kn):T:=.dct true (jZ f) (ki f)
def vK(w:Wd)(f:Kn):Prop:=∀x∈f,∀y,y∈x.2↔Held x.1.1 x.1.2 (LK w) y
theorem yc:∀l:LS,tDs (l.map NK.s)=l.map PyData.str
 |[]=>rfl|x::l=>by show PyData.str x::tDs (l.map NK.s)=_;rw[yc l];rfl
theorem zc:∀l:List Pt,tDs (l.map λp=>NK.t [.s p.1,.s p.2])=l.map pr
 |[]=>rfl|x::l=>by show pr x::tDs (l.map λp=>NK.t [.s p.1,.s p.2])=_;rw[zc l];rfl
theorem Mm:∀l:LS,nkds (l.map NK.s)=0
 |[]=>rfl|x::l=>by show max 0 (nkds (l.map NK.s))=0;rw[Mm l];rfl
theorem Nm:∀l:List Pt,nkds (l.map λp=>NK.t [.s p.1,.s p.2])<=1
 |[]=>Qz _|x::l=>by show max 1 (nkds (l.map λp=>NK.t [.s p.1,.s p.2]))<=1;have:=Nm l;omega
theorem gQ(es:List Pt)(sr:LS):HD true (ED es sr):=by refine⟨[.t (sr.map NK.s),.t (es.map λp=>NK.t [.s p.1,.s p.2])],?_,?_⟩;show _=PyData.tuple [.tuple (tDs (sr.map NK.s)),.tuple (tDs (es.map λp=>NK.t [.s p.1,.s p.2]))];rw[yc,zc];rfl;show max (nkds (sr.map NK.s)+1) (max (nkds (es.map λp=>NK.t [.s p.1,.s p.2])+1) 0)+1<=6;rw[Mm];have:=Nm es;omega
theorem C7{v:List Pt}{z:LS}(h:ED es sr=ED v z):es=v/\sr=z:=by injection h with h;injection h with h1 h2;injection h2 with h2 _;injection h1 with h1;injection h2 with h2;refine⟨(WW λx y e=>?_).mp h2,(WW λx y e=>?_).mp h1⟩;injection e with e;injection e with e1 e2;injection e2 with e2 _;injection e1 with e1;injection e2 with e2;exact QCG e1 e2;injection e
theorem zi{v:LS}{Q:T->Prop}(hl:f.length<sizeLine)(h:bA (jZ f) (ED es sr)=none)(q:Q (kX (f++[((es,sr),v)]))):T7 (kX f) (.d (ED es sr)) (.lst ((v.map PyData.str).map T.d)) Q:=by refine⟨gQ es sr,by unfold jZ;rw[QF];exact hl,?_⟩;show Q (YH true (jZ f) (ki f) (ED es sr) (.d (.list (ersT ((v.map PyData.str).map T.d)))));unfold YH;rw[h,pB];unfold kX jZ ki at q;rw[QR,QR]at q;exact q
theorem jd{k:Nat}(h:bA (jZ f) (ED es sr)=some k):∃v,((es,sr),v)∈f/\(ki f)[k]?=some (T.d (.list (v.map PyData.str))):=by
 have e:=nC h;unfold jZ at e;unfold ki;rw[Qc]at e ⊢;cases z:f[k]? with|none=>rw[z]at e;cases e|some x=>rw[z]at e;obtain⟨g,y⟩:=C7 (Qn e);obtain⟨⟨a,b⟩,v⟩:=x;cases g;cases y;exact⟨v,Q4 z,rfl⟩
end
section
variable{Ψ:PEv}{E:XE}{ρ:kA}{K:TK}{M:List (T×Bool)->kA->Prop}{a b c i g:PX}{md:List Md}{m:Bool}{f:Kn}{es:List Pt}{sr:LS}{L:Bool->Prop}{R:T->Prop}
section
variable{u:List (Str×LS)}{w:Str}
theorem gb:MB .NotIn (.d (.tuple [.tuple (sr.map PyData.str),.tuple (es.map pr)])) (kX f) L=L (!(bA (jZ f) (ED es sr)).isSome):=by unfold kX;rw[RJ];exact propext ⟨λh=>h.2,λh=>⟨gQ es sr,h⟩⟩
theorem dq{v:LS}{k:Nat}(h:bA (jZ f) (ED es sr)=some k)(hv:(ki f)[k]?=some (T.d (.list (v.map PyData.str))))(q:R (.d (.list (v.map PyData.str)))):DA (kX f) false (.d (.tuple [.tuple (sr.map PyData.str),.tuple (es.map pr)])) m R:=.inr ⟨true,_,_,k,_,rfl,gQ es sr,h,hv,q⟩
theorem Av:A0 (kX f) false Ψ b E ρ K=lB Ψ b E (lockA ρ) λy m _=>K y m ρ:=rfl
def bZ(u:List (Str×LS)):T:=.dct false (u.map λx=>.str x.1) (u.map λx=>T.d (.list (x.2.map PyData.str)))
theorem Nn{v:LS}{Q:T->Prop}(hl:u.length<sizeLine)(h:w∉u.map λx=>x.1)(q:Q (bZ (u++[(w,v)]))):T7 (bZ u) (.d (.str w)) (.d (.list (v.map PyData.str))) Q:=by refine⟨⟨w,rfl⟩,by rw[QF];exact hl,?_⟩;show Q (YH false (u.map λx=>.str x.1) (u.map λx=>T.d (.list (x.2.map PyData.str))) (.str w) (.d (.list (v.map PyData.str))));unfold YH;rw[XA.mpr λz=>h (by obtain⟨x,y,e⟩:=QT.mp z;injection e with e;exact QT.mpr ⟨x,y,e⟩)];unfold bZ at q;rw[QR,QR]at q;exact q
theorem On(h:w∈u.map λx=>x.1)(q:∀v,(w,v)∈u->R (.d (.list (v.map PyData.str)))):DA (bZ u) false (.d (.str w)) m R:=by
 cases e:bA (u.map λx=>PyData.str x.1) (.str w) with
 |none=>obtain⟨x,l,j⟩:=QT.mp h;exact absurd (QT.mpr ⟨x,l,congrArg PyData.str j⟩) (XA.mp e)|some k =>
  have j:=nC e;rw[Qc]at j;cases z:u[k]? with|none=>rw[z]at j;cases j|some x=>rw[z]at j;have j:PyData.str x.1=.str w:=Qn j;injection j with j;obtain⟨y,v⟩:=x;cases j;exact .inr ⟨false,_,_,k,T.d (.list (v.map PyData.str)),rfl,⟨_,rfl⟩,e,by rw[Qc,z];rfl,q v (Q4 z)⟩
theorem Iv:A0 (bZ u) false Ψ b E ρ K=lB Ψ b E (lockA ρ) λy m _=>K y m ρ:=rfl
theorem ut{v:Bool}{mk:List Bool}{t:Str}{x:T}{z:CmpOp}{R:Option T->Prop}:RI Ψ E (v::mk) [t] (.nm 0) (.cmp z a c) g ρ x R=iP Ψ (.cmp z a c) E (some (.ky x)::NC (v::mk) (lockA ρ)) λk h=>if k=true then lB Ψ g E h λy n _=>ZC y n (R (some y)) else R none:=rfl
end
end
section
variable{m:Str}{K:T->LT->Prop}
theorem da{c a b:Prop}[Decidable c](h:c)(q:a):if c then a else b:=by rw[if_pos h];exact q
theorem b8{w:Wd}{ks:List Pt}{E:XE}(l:w.ps.length<=90)(q:K (.d (.tuple ((zH w ks m).map PyData.str))) []):eB sJ [.d (wD w),YI ks,.d (.str m)] K E:=⟨w,ks,m,rfl,l,q⟩
theorem n8{h:List Evt}{x:LN}{E:XE}(l:x.length<=100)(a:∀n∈x,n<h.length/\EC (GA h n))(q:K (.d (.tuple ((kH h x m).map pr))) []):eB eJ [.d (.list (h.map LD)),.d (.list (x.map nD)),.d (.str m)] K E:=⟨h,x,m,rfl,l,a,q⟩
def CT(w:Wd)(l h:LN)(m x:Str):Prop:=Held (kH w.es h m) (zH w (gB w.es l) m) (LK w) x
end
open Classical in
def gk(w:Wd)(l h:LN)(x m:Str):Bool:=decide (CT w l h m x)
open Classical in
section
variable{Ψ:PEv}{Z:PEnds}{w:Wd}{l f:LN}{g:Kn}{i:List (Str×LS)}{m:Str}{o8 j o7:Option Sl}
theorem Xa(w:Wd)(l f:LN)(x m:Str):gk w l f x m=true↔CT w l f m x:=by unfold gk;exact decide_eq_true_iff
def ud(w:Wd)(l f:LN)(x:Str):List Pt:=(w.ms.filter (gk w l f x)).map λm=>(x,m)
def iK(w:Wd)(l f:LN):List Pt:=w.ps.flatMap λp=>ud w l f p.1
def v7(w:Wd)(f:LN):Prop:=f.length<=100/\∀n∈f,n<w.es.length/\EC (GA w.es n)
def tu(Q:T->LT->Prop):PEnds:={ nx:=λh=>aU (CA [3] h) (Q (.d .none)),rt:=λt h=>aU (CA [3] h) (Q t) }
def dZ(w:Wd)(l f:LN)(g:Kn)(i:List (Str×LS))(o6 o7 o8 j:Option Sl):kA:=[bD (wD w),some (.ky (.lst ((l.map nD).map T.d))),bD (.list (f.map nD)),oW (kX g),oW (YI (gB w.es l)),oW (bZ i),o6,o7,o8,j]
def D7(w:Wd)(l f:LN)(m:Str):T:=.d (ED (kH w.es f m) (zH w (gB w.es l) m))
theorem vd{k:Nat}{v:LS}(hl:i.length<sizeLine)(y:m∉i.map λx=>x.1)(h:bA (jZ g) (ED (kH w.es f m) (zH w (gB w.es l) m))=some k)(hv:(ki g)[k]?=some (T.d (.list (v.map PyData.str))))(q:Z.nx (dZ w l f g (i++[(m,v)]) (bD (.str m)) (some (.ky (D7 w l f m))) o8 j)):pF Ψ AC Z (dZ w l f g i (bD (.str m)) (some (.ky (D7 w l f m))) o8 j):=by delta dZ D7 ED;delta AC;simp_arith[↓Av];refine dq h hv ?_;simp_arith[↓zA];exact Nn hl y q
theorem cg(w:Wd)(ks:List Pt)(m:Str):(zH w ks m).length<=w.ps.length:=by unfold zH;rw[QF];exact Qj _ _
theorem Mi(h:List Evt)(f:LN)(m:Str):(kH h f m).length<=f.length:=by unfold kH;rw[QF];exact Qj _ _
theorem Lf(h:WOk w)(hv:v7 w f)(m:Str):eG (kH w.es f m) (zH w (gB w.es l) m):=by constructor;intro s z;obtain⟨p,u,rfl⟩:=QT.mp z;exact h.po p (QX.mp u).1;intro e v;obtain⟨n,y,rfl⟩:=QT.mp v;have y:=(QX.mp y).1;obtain⟨a,t,x,b,o,k,q,e⟩:=hv.2 n y;have:=h.ev a;rw[e]at this ⊢;exact⟨h.nm this.1,h.nm this.2.1⟩
theorem Hr(F:Ψ.sp "seers_of"=sJ)(E:Ψ.sp "edges_of"=eJ)(r:Ψ.sp "holders_in"=BG)(a:WOk w)(hv:v7 w f)(hk:vK w g)(C:g.length<=20000)(hl:i.length<1000)(p:m∉i.map λx=>x.1)(q:∀h v,vK w h->h.length<=g.length+1->(∀y,y∈v↔CT w l f m y)->Z.nx (dZ w l f h (i++[(m,v)]) (bD (.str m)) (some (.ky (D7 w l f m))) o8 j)):pF Ψ CD Z (dZ w l f g i (bD (.str m)) o7 o8 j):=by
 have L:=a.pl;have J:=cg w (gB w.es l) m;have I:=Mi w.es f m;have G:=hv.1;delta dZ;delta CD;simp_arith[↓vP,↓xA (md:=[.xx,.ky]) F rfl rfl,↓xA (md:=[]) E rfl rfl,↓xA (md:=[]) r rfl rfl,↓HB,↓E6,↓Jp];refine b8 (by omega) ?_;simp_arith[↓zA];refine n8 hv.1 hv.2 ?_;simp_arith[↓gb];refine⟨by omega,?_⟩;cases e:bA (jZ g) (ED (kH w.es f m) (zH w (gB w.es l) m)) with
 |some k=>obtain⟨v,X,s⟩:=jd e;refine vG (λz=>by cases z) ?_;exact vd (by omega) p e s (q g v hk (by omega) (hk _ X))|none =>
  refine da rfl ?_;simp_arith[↓xA (md:=[]) r rfl rfl];refine O1 ⟨by omega,by omega,Lf a hv m,by omega,a.pn⟩ λv b B=>?_;simp_arith[↓zA];refine zi (by omega) e ?_;have A:bA (jZ (g++[((kH w.es f m,zH w (gB w.es l) m),v)])) (ED (kH w.es f m) (zH w (gB w.es l) m))≠none:=λz=>XA.mp z (QT.mpr ⟨_,QZ _ (QI.mpr rfl),rfl⟩);have o:vK w (g++[((kH w.es f m,zH w (gB w.es l) m),v)]):=λx u=>by rcases Qe.mp u with u|u;exact hk x u;rw[QI.mp u];exact b
  cases n:bA (jZ (g++[((kH w.es f m,zH w (gB w.es l) m),v)])) (ED (kH w.es f m) (zH w (gB w.es l) m)) with|none=>exact absurd n A|some k=>obtain⟨Y,K,W⟩:=jd n;exact vd (by omega) p n W (q _ Y o (by rw[QJ];exact Qb _) (o _ K))
theorem KZ{b:PT}{p:PSp}{N x:LS}{ds:LT}{Q:T->LT->Prop}(ρ:kA)(hl:ds.length=x.length)(hc:YB 0 p.md x.length=[3])(y:fB N p.md ds=ρ)(h:pF Ψ b (tu Q) ρ):ds.length=x.length/\pF Ψ b (YD p x.length Q) (fB N p.md ds):=by
 have e:YD p x.length Q=tu Q:=by unfold YD;rw[hc];rfl
 rw[e,y];exact⟨hl,h⟩
noncomputable def BC:PSp where
 md:=[.xx,.xy,.xx,.chg]
 run:=λy Q _=>∃(w:Wd) (l f:LN) (g:Kn),y=[.d (wD w),.lst ((l.map nD).map T.d),.d (.list (f.map nD)),kX g]/\(WOk w/\l.length<=100/\∀n∈l,n<w.es.length)/\v7 w f/\(vK w g/\g.length<=10000)/\∀x,vK w x->x.length<=g.length+10->Q (.lst (((iK w l f).map pr).map T.d)) [kX x]
 mono:=λh _ z=>by obtain⟨w,l,f,g,e,a,b,c,q⟩:=z;exact⟨w,l,f,g,e,a,b,c,λx u v=>h _ _ (q x u v)⟩
theorem hX(h:WOk w)(l f:LN)(x:Str):(ud w l f x).length<=10:=by unfold ud;rw[QF];exact QY (Qj _ _) h.ml
theorem Gr{h:List Pt}{o6:Option Sl}{p:Str×Int×Int×Int}(u:WOk w)(n:i.map (λx=>x.1)=w.ms)(b:∀x∈i,∀y,y∈x.2↔CT w l f x.1 y)(hl:h.length<=1000)(q:Z.nx (dZ w l f g i o6 o7 (oW (.lst (((h++ud w l f p.1).map pr).map T.d))) (bD (lH p)))):pF Ψ BD Z (dZ w l f g i o6 o7 (oW (.lst ((h.map pr).map T.d))) (bD (lH p))):=by
 have o:=u.ml;have k:=hX u l f p.1;delta dZ;delta BD;simp_arith[↓Cf];rw[<- lA PyData.str];refine fA (λm=>T.d (.str m)) (λm=>T.d (pr (p.1,m))) (gk w l f p.1) w.ms [] _ (λm a R z=>?_) (by show 0+w.ms.length<=_;omega) ?_;simp_arith[↓ut,↓GK,↓Iv];refine On (n▸a) λv hv=>?_;have e:decide (p.1∈v)=gk w l f p.1 m:=by rw[Q9,decide_eq_true_iff];exact(b _ hv p.1).trans (Xa w l f p.1 m).symm
 simp_arith[dL,FI,PB,true_or,e];split at z;rename_i c;rw[if_pos c];exact⟨by omega,z⟩;rename_i c;rw[if_neg c];exact z;rw[Qg,lA λm=>pr (p.1,m)];have e:((w.ms.filter (gk w l f p.1)).map λm=>pr (p.1,m))=(ud w l f p.1).map pr:=by unfold ud;rw[QS];rfl
 rw[e,<- QR,<- QR];exact⟨by rw[QF,QF,QF,QF];omega,q⟩
theorem r9(O:Ψ.sp "seen_among"=UG)(M:Ψ.sp "seers_of"=sJ)(L:Ψ.sp "edges_of"=eJ)(J:Ψ.sp "holders_in"=BG)(ds Q E)(h:BC.run ds Q E):EG Ψ oF BC dJ dH ds Q:=by
 obtain⟨w,l,f,g,rfl,⟨o,hl,G⟩,hv,⟨hk,I⟩,q⟩:=h;have H:=o.ml;have S:=o.pl;refine KZ [bD (wD w),some (.ky (.lst ((l.map nD).map T.d))),bD (.list (f.map nD)),oW (kX g),none,none,none,none,none,none] rfl rfl rfl ?_;delta oF;simp_arith[↓vP,↓Cf,↓xA (md:=[.xx,.xy]) O rfl rfl,↓HB,↓E6];refine JR hl G ?_;simp_arith[↓Cf];rw[<- lA PyData.str];refine MA (λm=>T.d (.str m)) (λr b=>∃u i a o7,i.map (λx=>x.1)++r=w.ms/\(vK w u/\u.length+r.length<=g.length+w.ms.length)/\(∀x∈i,∀y,y∈x.2↔CT w l f x.1 y)/\b=dZ w l f u i a o7 none none) ?_ ?_ w.ms _ ⟨g,[],none,none,rfl,⟨hk,Qb _⟩,(λx n=>by cases n),rfl⟩;rintro b ⟨u,i,a,o7,e,⟨W,s⟩,A,rfl⟩;have e:i.map (λx=>x.1)=w.ms:=by rw[<- e,Q8]
 have s:u.length<=g.length+w.ms.length:=s;delta dZ;simp_arith[↓IT];rw[<- lA lH];refine⟨by omega,?_⟩;refine MA (λp=>T.d (lH p)) (λr b=>∃k a o7 j,k++r.flatMap (λp=>ud w l f p.1)=iK w l f/\k.length+10 * r.length<=200/\b=dZ w l f u i a o7 (oW (.lst ((k.map pr).map T.d))) j) ?_ ?_ w.ps _ ⟨[],_,_,none,rfl,by show 0+10 * w.ps.length<=200;omega,rfl⟩;rintro b ⟨k,a,o7,j,X,_,rfl⟩;have X:k=iK w l f:=by rw[<- X];exact(Q8 k).symm
 subst X;delta dZ;simp_arith[↓zA];exact q u W (by omega);rintro p r b N K ⟨k,a,o7,j,X,B,rfl⟩;have B:k.length+10 * (r.length+1)<=200:=B;have C:=hX o l f p.1;refine Gr o e A (by omega) (K _ ⟨k++ud w l f p.1,a,o7,_,?_,by rw[QJ];omega,rfl⟩);rw[Qx];exact X;rintro m r b N K ⟨u,i,a,o7,e,⟨W,s⟩,A,rfl⟩;have s:u.length+(r.length+1)<=g.length+w.ms.length:=s;have F:i.length+(r.length+1)=w.ms.length:=by rw[<- e,QJ,QF];rfl
 have nd:=o.mn;rw[<- e]at nd;refine Hr M L J o hv W (by omega) (by omega) (λz=>(qX.mp nd).2.2 m z m QE rfl) λY v R g2 P=>K _ ⟨Y,i++[(m,v)],_,_,?_,⟨R,by omega⟩,?_,rfl⟩;rw[QR,Qx];exact e;intro x n;rcases Qe.mp n with n|n;exact A x n;rw[QI.mp n];exact P
end
end L2.L3.K31
namespace L2.L3
open PySem PySem.Spec PyProof.Rows PySem.W PySem.SeqAt
def FD(h:Heap)(v:Value)(p:Int×Int):Prop:=∃a o n t u,v=.ref a/\h.get? a=some o/\o.cls=.type "tuple"/\o.data=.seq (qG [Value.int p.1 t,Value.int p.2 u]) n
theorem FD.keep{h h':Heap}{v:Value}{x:Int×Int}{c:Addr}{u:Obj}(e:h.get? c=some u)(hc:u.cls≠.type "tuple")(k:∀b o,b≠c->h.get? b=some o->h'.get? b=some o)(t:FD h v x):FD h' v x:=by obtain⟨a,o,n,t,r,f,y,w,d⟩:=t;exact⟨a,o,n,t,r,f,k _ _ (λz=>by rw[z,e]at y;cases y;exact hc w) y,w,d⟩
section
variable{prog:Program}{w:World}{A:Around}{E:pC}{s:Shared}
section
variable{vs:LW}{r f:Addr}{a b c:Int}{t u v:Tok}{n:Nat}{kz:List (Int×Int)}
theorem Rh{v u:Value}{x y:Int×Int}{Q:Bool->Shared->Prop}(hv:FD s.heap v x)(z:FD s.heap u y)(q:Q (decide (x.1<y.1∨x.1=y.1/\x.2<y.2)) s):wpAny (model prog w) A (keyLt' (tuples' true) v u) Q E s:=by obtain⟨a,o,n,t,r,rfl,g,_,j⟩:=hv;obtain⟨b,p,X,l,m,rfl,k,_,i⟩:=z;refine kat_lt g j k i (kat_cons (QAs ?_));by_cases e:x.1=y.1;rw[e,beq_self_eq_true];refine kat_yes (kat_cons (QAs ?_));by_cases h:x.2=y.2;rw[h,beq_self_eq_true];refine kat_yes (kat_nil ?_);rw[show decide (x.1<y.1∨x.1=y.1/\x.2<y.2)=false from dF (by omega)]at q;exact q;rw[beq_false_of_ne h];refine kat_no (kat_one _ _ (PyProof.Rows.lt_int ?_));rw[show decide (x.1<y.1∨x.1=y.1/\x.2<y.2)=decide (x.2<y.2) from decide_eq_decide.mpr (by omega)]at q;exact q;rw[beq_false_of_ne e];refine kat_no (oneLt_int ?_);rw[show decide (x.1<y.1∨x.1=y.1/\x.2<y.2)=decide (x.1<y.1) from decide_eq_decide.mpr (by omega)]at q;exact q
theorem J5{ns:List (Int×Int)}{Q:SortKind->Shared->Prop}(l:Paired (FD s.heap) vs ns)(K:2<=vs.length)(q:Q (tuples' true) s):wpAny (model prog w) A (keyKind' vs.toArray) Q E s:=by
 have key:∀{vs:LW}{ns:List (Int×Int)},Paired (FD s.heap) vs ns->∃fs,KatTups s.heap vs fs/\fs.length=vs.length/\∀f∈fs,∃x t,f=.int x t:=by
  intro vs ns h;induction h with
  |nil=>exact⟨[],.nil,rfl,λ_ z=>(nomatch z)⟩
  |@cons v x Z Y h _ e=>obtain⟨fs,j,i,g⟩:=e;obtain⟨a,o,n,t,r,rfl,p,hc,X⟩:=h;refine⟨.int x.1 t::fs,.cons (f:=.int x.1 t) p hc X (by simp) j,by rw[QM,QM,i],λf m=>?_⟩;rcases QL.mp m with rfl|z;exact⟨_,_,rfl⟩;exact g f z
 obtain⟨fs,k,W,y⟩:=key l;exact kat_kind (T:=.type "int") k (by omega) (λv hv=>by obtain⟨x,t,rfl⟩:=y v hv;exact .of_pure rfl) (by decide) q
theorem KH{α x:Type}{R:α->x->Prop}{d:α}{e:x}:∀{l:List α}{m:List x},Paired R l m->∀i,i<l.length->R (l.getD i d) (m.getD i e)
 |_,_,.nil,i,h=>absurd h (Nat.not_lt_zero _)|_,_,.cons r _,0,_=>r|_,_,.cons _ t,i+1,h=>KH t i (wu h)
theorem sK{α x:Type}{R:α->x->Prop}:∀{l z:List α}{m y:List x},Paired R l m->Paired R z y->Paired R (l++z) (m++y)
 |_,_,_,_,.nil,h=>h|_,_,_,_,.cons r t,h=>.cons r (sK t h)
theorem BN{Q:LW->Shared->Prop}(Y:A.handled=none)(q:IsRange s.heap r a b c t u v)(x:QBV a b c=true)
  (X:WQ a b c=n) (z:n<=2 ^ 24)
  (h:∀h' g y,(∀b o,s.heap.get? b=some o->h'.get? b=some o)->s.heap.objs.size<h'.objs.size->ItemsOf (λi v=>∃t,v=.int (a+i * c) t) y n->Q y.toList { s with heap:=h',toks:=g }) :
  wpAny (model prog w) A (collect (.ref r)) Q E s:=by
 unfold collect;refine QA (wpAny_runValue (w6 F.entry_proto_collect ?_));rw[qt F.plain_proto_collect _];show wpAny _ A.in1 (newList [] >>= λl=>again (.builtin "list.__iadd__" ⟨[l,.ref r],[]⟩)) _ _ s;refine QA (Qy ?_);refine QK ⟨W0 QBz _,w6 F.entry_list_iadd ?_⟩;rw[qt QBz _];have Z:(s.heap.push { cls:=.type "list",data:=.seq ([]:LW).toArray }).get? s.heap.objs.size=some { cls:=.type "list",data:=.seq #[] }:=QV _ rfl;show wpAny _ A.in1 (Builtin.List.listExtendWith (.ref s.heap.objs.size) (.ref r) (.ref s.heap.objs.size)) _ _ _;refine wpAny_extend_range (R:=λr j=>match r with | .ok (.ret v)=>wpAny (model prog w) A (match v with | .ref a=>(do let o <- load a;match o.data with | .seq m _=>pure m.toList|_=>unsupported "internal:collect")|_=>unsupported "internal:collect") Q E j | .ok _=>False | .error e=>E e j) (s:={ s with heap:=s.heap.push { cls:=.type "list",data:=.seq ([]:LW).toArray } }) Y (QH _ q) x X z _ _ _ Z λh' g y W p k it=>?_;show wpAny _ A (load s.heap.objs.size >>= _) _ _ _;refine QA (wpAny_load k ?_);exact QK (h h' g y (λb o e=>p b o (Qi (QW e)) (QH _ e)) (QW k) it)
theorem Th{a:Addr}{P:PySem.Fin->Shared->Prop}(ho:s.heap.get? a=some (seqObj "list" vs.toArray n))(h64:vs.length<64)(hl:kz.length=vs.length)
  (hf:∀(h:Heap) (g:Nat),(∀b o,b≠a->s.heap.get? b=some o->h.get? b=some o)->∀(i:Nat) (x:Value) (p:Int×Int),vs[i]?=some x->kz[i]?=some p->∀C:Value->Shared->Prop,
   (∀W m k,(∀b o,h.get? b=some o->W.get? b=some o)->FD W k p->C k { s with heap:=W,toks:=m })->wpAny (model prog w) A (call (.ref f) [x]) C (λ_ _=>False) { s with heap:=h,toks:=g })
  (k:∀(p:Array Nat) (h':Heap) (g c:Nat),Pm vs.length p->True->(∀b o,b≠a->s.heap.get? b=some o->h'.get? b=some o)->h'.get? a=some (seqObj "list" (p.toList.map λi=>vs.getD i Value.none).toArray c)->P (.done (.ret .none)) { s with heap:=h',toks:=g }) :
  wpAny (model prog w) A (ksk_tree a (.ref f) false) P E s:=by
 have ha:a<s.heap.objs.size:=QW ho;have s1:=Q2 s.heap a (Q3 λ_=>(#[]:Array Value));obtain⟨G,ho1⟩:∃G,(s.heap.update a (Q3 λ_=>(#[]:Array Value))).get? a=some (seqObj "list" #[] G):=⟨_,W9 ho λ_=>#[]⟩
 generalize hH:((s.heap.update a (Q3 λ_=>(#[]:Array Value))).push (seqObj "tuple" vs.toArray 0))=hT;have S:hT.objs.size=s.heap.objs.size+1:=by rw[<- hH,size_push',QCE]
 have kS0:(hT.push (seqObj "list" #[] 0)).get? hT.objs.size=some (seqObj "list" #[] 0):=QV _ rfl;have a0:(hT.push (seqObj "list" #[] 0)).get? a=some (seqObj "list" #[] G):=QH _ (by rw[<- hH];exact QH _ ho1);have kp0:∀b o,b≠a->s.heap.get? b=some o->(hT.push (seqObj "list" #[] 0)).get? b=some o:=λb o hb e=>QH _ (by rw[<- hH];exact QH _ ((s1.2 b hb).trans e));have naK:a≠hT.objs.size:=by rw[S];exact Qi (WB ha)
 unfold ksk_tree;refine QA (QB4 ho rfl (QA (WT ho rfl ?_ (by rw[QN];omega) (Qz _))));refine QA (QBU ho1 rfl (QA (QBN ?_ (by show vs.length<=_;omega))));refine QA (QAl (qU ?_) (Qz _));rw[hH];generalize hK:hT.objs.size=kS at *;have fin:∀(y:LW) (e:Nat) (h:Heap) (g:Nat) (st:SortSt) (p:Array Nat),y.length=vs.length->h.get? kS=some (seqObj "list" (qG y) e)->h.get? a=some (seqObj "list" #[] G)->(∀b o,b≠a->s.heap.get? b=some o->h.get? b=some o)->Pm vs.length p->True ->
   (arrOf st).map (·.2)=qG (p.toList.map λi=>vs.getD i Value.none)->failedOf st=none->wpAny (model prog w) A (ksk_tail a false G (.ref kS) st) P E { s with heap:=h,toks:=g }:=by
  intro y e h g st p Z hk l I pm H hout N;have t1:=Q2 h kS (Q3 λ_=>(#[]:Array Value));have R:=(t1.2 a naK).trans l;have t2:=Q2 (h.update kS (Q3 λ_=>(#[]:Array Value))) a (Q3 λ_=>qG (p.toList.map λi=>vs.getD i Value.none));have hps:(p.toList.map λi=>vs.getD i Value.none).length=vs.length:=by rw[QF,(qQ.mp pm).length_eq];simp
  unfold ksk_tail;dsimp only;rw[hout];refine QA (WT hk rfl ?_ (by rw[QN,Q5];omega) (Qz _));refine QA (wpAny_letGo (QA (QBU R rfl (QA (WT R rfl ?_ (Qz _) (by simp only[Qo,if_false];rw[QN,Q5];omega))))));rw[N];simp only[bne_self_eq_false,Qo,if_false];refine QK (k p _ g _ pm H (λb o hb e=>?_) (W9 R λ_=>qG (p.toList.map λi=>vs.getD i Value.none)));have O:b≠kS:=λz=>by have:=QW e;rw[z,S]at this;exact absurd this (Nat.not_lt.mpr (wC _))
  exact(t2.2 b hb).trans ((t1.2 b O).trans (I b o hb e))
 have L:∀(y:LW) (e:Nat) (h:Heap) (g:Nat),Paired (FD h) y kz->h.get? kS=some (seqObj "list" (qG y) e)->h.get? a=some (seqObj "list" #[] G)->(∀b o,b≠a->s.heap.get? b=some o->h.get? b=some o) ->
   wpAny (model prog w) A (ksk_end a false vs.toArray G (.ref kS) (qG y)) P E { s with heap:=h,toks:=g }:=by
  intro y e h g Y hk l I;have Z:y.length=vs.length:=(qI Y).trans hl;unfold ksk_end;dsimp only;simp only[Qo,if_false];by_cases h2:vs.length<2;have F:vs.toArray.size<2:=by rw[QN];exact h2
  rw[if_pos F,if_pos F];refine QA (QK ?_);rw[QCN];refine QA (QK ?_);refine fin y e h g _ (qG (Qs vs.length)) Z hk l I (QCM _) trivial ?_ rfl;show((qG y).zip vs.toArray).map (·.2)=_;rw[dO];apply WF.mp;simp[WG,Z];have F:¬ vs.toArray.size<2:=by rw[QN];exact h2
  rw[if_neg F,if_neg F];refine QA (J5 (s:={ s with heap:=h,toks:=g }) Y (by omega) ?_);have tree:(kas_sort vs.length).kasWp (kas_ask prog w A (tuples' true) y) (λp K=>K={ s with heap:=h,toks:=g }/\Pm vs.length p/\True) { s with heap:=h,toks:=g } :=
   PC.wp (λi j hi hj C hC=>Rh (s:={ s with heap:=h,toks:=g }) (KH (e:=(0,0)) Y i (by omega)) (KH (e:=(0,0)) Y j (by omega)) (hC _)) (λp Y=>⟨rfl,Y,trivial⟩) (ZT (by omega))
  refine QA (qi (kat_run (Q:=λB K=>∃p:Array Nat,arrOf B=p.map (kas_item ((qG y).zip vs.toArray))/\failedOf B=none/\K={ s with heap:=h,toks:=g }/\Pm vs.length p/\True) Z (by omega) h64 (λp B K _ a2 a3 a4=>⟨p,a2,a3,a4⟩) tree) ?_ λ_ _ x=>x);rintro⟨⟨⟩,B⟩ K ⟨p,har,N,rfl,pm,H⟩;exact fin y e h g B p Z hk l I pm H (kat_snds Z har) N
 unfold ksk_rest;refine QA (QBE ?_);rw[List.forIn_toArray];refine QA (ksk_fold (λj K=>∃(y:LW) (e:Nat) (h:Heap) (g:Nat),K={ s with heap:=h,toks:=g }/\Paired (FD h) y (kz.take j)/\h.get? kS=some (seqObj "list" (qG y) e)/\h.get? a=some (seqObj "list" #[] G)/\(∀b o,b≠a->s.heap.get? b=some o->h.get? b=some o)/\j<=vs.length) vs 0 _ ⟨[],0,_,s.toks,rfl,.nil,kS0,a0,kp0,Qz _⟩ (λj x K hx hI=>?_) λK hI=>?_);obtain⟨y,e,h,g,rfl,Y,hk,l,I,jl⟩:=hI;rw[Wk]at Y jl ⊢;have jv:j<vs.length:=(Qf.mp hx).1;have hkl:y.length=j:=by rw[qI Y,wG];omega
 have hzj:kz[j]?=some (kz[j]'(by omega)):=Qq _;refine QA (Wz (qi (hf h g I j x _ hx hzj (λJ K=>∃W m,K={ s with heap:=W,toks:=m }/\(∀b o,h.get? b=some o->W.get? b=some o)/\FD W J (kz[j]'(by omega))) λW m J X ka=>⟨W,m,rfl,X,ka⟩) (λJ K hc=>?_) λ_ _ z=>z.elim));obtain⟨W,m,rfl,X,ka⟩:=hc;have ea:(qG y).push J=qG (y++[J]):=by simp
 have s5:=Q2 W kS (Q3 (·.push J));have M:=X _ _ hk;dsimp only;refine QA (WT M rfl ?_ (by rw[QN,Q5];omega) (QY (wx (Array.size_push ..)) (by rw[QN,Q5];omega)));refine QK ⟨rfl,y++[J],_,_,m,rfl,?_,by rw[<- ea];exact W9 M (·.push J),(s5.2 a naK).trans (X _ _ l),λb o hb q=>?_,jv⟩;have H:∀{v:Value}{x:Int×Int},FD W v x->FD (W.update kS (Q3 (·.push J))) v x:=λt=>t.keep M (by show Value.type "list"≠Value.type "tuple";decide) λb o hb q=>(s5.2 b hb).trans q;rw[List.take_succ,hzj];exact sK (L2.Paired.mapP Y λ_ _ ⟨a1,o1,n1,t1,r1,G,g1,c1,d1⟩=>H ⟨a1,o1,n1,t1,r1,G,X _ _ g1,c1,d1⟩) (.cons (H ka) .nil);have O:b≠kS:=λz=>by have:=QW q;rw[z,S]at this;exact absurd this (Nat.not_lt.mpr (wC _))
 exact(s5.2 b O).trans (X _ _ (I b o hb q));obtain⟨y,e,h,g,rfl,Y,hk,l,I,_⟩:=hI;rw[Wk,<- hl,QCF]at Y;exact QA (QB4 hk rfl (L y e h g Y hk l I))
theorem z8{Q:pC}(S:A.handled=none)(N:IsRange s.heap r a b c t u v)(y:QBV a b c=true)
  (R:WQ a b c=n) (h64:n<64) (hl:kz.length=n)
  (H:∀(Y:Heap) (z:Nat),(∀b o,s.heap.get? b=some o->Y.get? b=some o)->∀(i:Nat) (Z:Tok) (p:Int×Int),kz[i]?=some p->∀C:Value->Shared->Prop,
   (∀I W k,(∀b o,Y.get? b=some o->I.get? b=some o)->FD I k p->C k { s with heap:=I,toks:=W })->wpAny (model prog w) A.in1.in1 (call (.ref f) [Value.int (a+i * c) Z]) C (λ_ _=>False) { s with heap:=Y,toks:=z })
  (k:∀(p:Array Nat) (vs:LW) (D:Addr) (h':Heap) (z e:Nat),Pm n p->True->(∀b o,s.heap.get? b=some o->h'.get? b=some o)->s.heap.objs.size<=D->vs.length=n->(∀(i:Nat) x,vs[i]?=some x->∃t,x=Value.int (a+i * c) t) ->
   h'.get? D=some (seqObj "list" (p.toList.map λi=>vs.getD i Value.none).toArray e)->Q (.ref D) { s with heap:=h',toks:=z }) :
  wpAny (model prog w) A (call (.builtin "sorted") [.ref r] [(QO "key",.ref f)]) Q E s:=by
 refine call_function_entry_kw kind_sorted plain_sorted entry_sorted (ksk_s1 _ _) ?_;unfold Builtin.«sorted»;refine QA (m:=checkCount "sorted" 1 1 _) (QK ?_);refine QA (BN S N y R (by omega) λg K h l G it=>?_);have L:h.toList.length=n:=by rw[Qt];exact it.1
 refine QA (QAl ?_ (by rw[Q5];omega));have X:(g.push (seqObj "list" h.toList.toArray 0)).get? g.objs.size=some (seqObj "list" h.toList.toArray 0):=QV _ rfl;have j:∀b o,s.heap.get? b=some o->(g.push (seqObj "list" h.toList.toArray 0)).get? b=some o:=λb o q=>QH _ (l b o q);refine QA (qU (wpAny_call_entry_kw slot_list_sort ⟨_,X,rfl⟩ entry_list_sort ?body (ksk_l1 _ _)))
 case body =>
  show wpAny (model prog w) A.in1.in1 (Builtin.«list.sort» ⟨[.ref g.objs.size],[(QO "key",.ref f)]⟩) _ _ _;rw[ksk_t1];have nD:∀b o,s.heap.get? b=some o->b≠g.objs.size:=λb o q=>Qi (QW (l b o q));refine Th (s:={ s with heap:=g.push (seqObj "list" h.toList.toArray 0),toks:=K }) (kz:=kz) X (by omega) (by omega) (λY z B i x p F O C hC=>?_) λp h' z c J M B P=>⟨_,rfl,QK ⟨_,rfl,?_⟩⟩
  obtain⟨Z,rfl⟩:=it.2 i x (by rw[<- F,Wl]);exact H Y z (λb o q=>B b o (nD b o q) (j b o q)) i Z p O C hC;rw[L]at J;exact k p h.toList _ h' z c J M (λb o q=>B b o (nD b o q) (j b o q)) (QA3 G) L (λi x F=>it.2 i x (by rw[<- F,Wl])) P
end
end
section
variable{U Z p2 W V Y X K:Pos}
noncomputable abbrev i5(U Z p2 W V Y X:Pos):Expr:=.Tuple [.Subscript (.Subscript (.Name "events" U) (.Name "number" Z) p2) (.Constant (.int 1) 0 W) V,.Name "number" Y] 0 X
noncomputable abbrev ya(K:Pos):Arguments:={ posonlyargs:=[],args:=[{ arg:="number",annotation:=none,pos:=K }],vararg:=none,kwonlyargs:=[],kw_defaults:=[],kwarg:=none,defaults:=[] }
noncomputable abbrev EU:Scope:={ kind:=.function,names:=[(QO "number",.local),(QO "events",.free)],isGenerator:=false,isCoroutine:=false,more:=[] }
variable{prog:Program}{w:World}{A:Around}{E:pC}{s:Shared}
section
variable{h h':Heap}{y n:Addr}{i:Nat}{g:Int}{l:Tok}
def SN(h:Heap)(y:Addr)(i:Nat)(g:Int):Prop:=∃(x z:Array Value) (t:Addr) (u:Tok),(h.IsList y x∨IsTup h y x)/\x[i]?=some (.ref t)/\i<2 ^ 62/\x.size<2 ^ 62/\IsTup h t z/\z[1]?=some (.int g u)/\z.size<2 ^ 62
theorem SN.keepB{P:Addr}{m:Array Value}(p:h.get? P=some (tabObj m))(k:∀b o,b≠P->h.get? b=some o->h'.get? b=some o)(x:SN h y i g):SN h' y i g:=by
 obtain⟨f,j,t,u,a,b,c,q,⟨o,d⟩,e⟩:=x;have v:∀{b:Addr}{o:Obj}{T:String},h.get? b=some o->o.cls=.type T->b≠P:=λe c z=>by rw[z,p]at e;cases e;cases c
 refine⟨f,j,t,u,?_,b,c,q,⟨o,k _ _ (v d.1 d.2.1) d.1,d.2⟩,e⟩;rcases a with⟨o,a⟩| ⟨o,a⟩
 exact .inl ⟨o,k _ _ (v a.1 a.2.1) a.1,a.2⟩;exact .inr ⟨o,k _ _ (v a.1 a.2.1) a.1,a.2⟩
theorem SN.keep(z:∀b o,h.get? b=some o->h'.get? b=some o)(x:SN h y i g):SN h' y i g:=by
 obtain⟨v,k,t,u,a,b,c,f,⟨o,d⟩,e⟩:=x;refine⟨v,k,t,u,?_,b,c,f,⟨o,z _ _ d.1,d.2⟩,e⟩;rcases a with⟨o,a⟩| ⟨o,a⟩
 exact .inl ⟨o,z _ _ a.1,a.2⟩;exact .inr ⟨o,z _ _ a.1,a.2⟩
theorem n5{env:Env}{L:Addr}{m:Str->Option Value}{Q:pC}(hk:env.scope=EU)(G:env.cells.lookup (QO "events")=some n)(hc:s.heap.IsCell n (some (.ref y)))
  (S:env.locals=L) (P:s.heap.Ns L m) (R:m "number"=some (.int i l)) (F:SN s.heap y i g)
  (q:∀J u,Q (.ref s.heap.objs.size) { s with heap:=s.heap.push { cls:=.type "tuple",data:=.seq (qG [Value.int g u,Value.int i l]) },toks:=J }) :
  wpAny (model prog w) A (eval (i5 U Z p2 W V Y X) env) Q E s:=by
 have N:env.kindOf "number"=some .local:=by show env.scope.names.lookup _=_;rw[hk];rfl
 have O:env.kindOf "events"=some .free:=by show env.scope.names.lookup _=_;rw[hk];rfl
 have k:env.scope.kind=.function:=by rw[hk]
 obtain⟨C,B,t,u,a,b,c,c2,d,e,c3⟩:=F;subst S;have v:∀{p:Pos}{Q:pC}(z:Shared),z.heap=s.heap->Q (.int i l) z->wpAny (model prog w) A (eval (.Name "number" p) env) Q E z:=λz I q=>QBC (QBF k N (by rw[I];exact P) R q) (by decide);refine QBR ?_;show wpAny _ _ (spliced ((false,eval (.Subscript (.Subscript (.Name "events" U) (.Name "number" Z) p2) (.Constant (.int 1) 0 W) V) env)::backTo X (starEach [.Name "number" Y] env))) _ _ s;refine wv (QBr (QBr (QBC (QBQ k O G hc (v _ rfl ?_) (by decide)) (by decide))));have o:(0:Int)<=(i:Int):=QBn i;have f:(i:Int)<2 ^ 63:=by omega (config:={})
 have M:∀{Q:pC},Q (.ref t) s->wpAny (model prog w) A (subscriptTail (.Name "events" U) (.Name "number" Z) (.ref y) (.int i l)) Q E s:=λ{Q} q=>by rcases a with a|a;exact item_listR a o f (by simpa using b) q;have I:i<C.size:=(QAJ.mp b).1;exact qg (x:=.ref t) a.typeIs QAL.lookup (QBi (j:=i) (Q:=λr z=>r=.ref t/\Q r z) a (by omega (config:={})) f (by rw[QAj o (by omega (config:={}))];simp) b ⟨rfl,q⟩)
 refine M (QBe ?_);have H:1<B.size:=(QAJ.mp e).1;refine qg (x:=.int g u) (s:={ s with toks:=s.toks+1 }) (show IsTup s.heap t B from d).typeIs QAL.lookup (QBi (j:=1) (show IsTup s.heap t B from d) (by decide) (by decide) (by rw[QAj (by decide) (by omega (config:={}))];rfl) e ⟨rfl,?_⟩);show wpAny _ _ (spliced ((false,eval (.Name "number" Y) env)::backTo X (starEach [] env))) _ _ _;exact wv (v _ rfl (Wc ⟨by rw[Q5];show 2<=_;decide,q _ _⟩))
theorem t5{f L:Addr}{z:Str}{N I:Value}{C:pC}(j:A.depth<recursionLimit)(P:s.heap.get? f=some (kla_obj "<lambda>" z (ya K) (i5 U Z p2 W V Y X) EU [(QO "events",n)] N L I))
  (F:s.heap.CodeRec (.ref L) z) (r:s.heap.NoLimit) (hc:s.heap.IsCell n (some (.ref y))) (B:SN s.heap y i g)
  (k:∀G p v,(∀b o,s.heap.get? b=some o->G.get? b=some o)->FD G v (g,(i:Int))->C v { s with heap:=G,toks:=p }) :
  wpAny (model prog w) A (call (.ref f) [.int i l]) C E s:=by
 refine wpAny_call (kla_callFunE j P rfl rfl rfl rfl F ?_);show wpAny _ _ (pure [(QO "number",Value.int i l)]) _ _ _;refine QK (QBG (show ∀x∈EU.names,x.2≠NameKind.cell by decide) (by intro x O;rcases QI.mp O with rfl;rfl) (λJ q m=>⟨r.fresh _ m,kla_codeExpr ?_⟩) rfl);have a:∀b o,s.heap.get? b=some o->J.get? b=some o:=λb o e=>m.extBut b o (Qi (QW e)) (QH _ e);refine n5 (s:={ s with heap:=J,toks:=s.toks+1 }) rfl rfl (hc.keeps a) rfl q rfl (B.keep a) λM u=>?_;exact k _ M _ (λb o e=>QH _ (a b o e)) ⟨_,_,_,_,_,rfl,QV _ rfl,rfl,rfl⟩
end
end
theorem OV{pos:Pos}{a b:Int}{c y:Value}(l:LW)(h:TriplesOk l)(g:codeAmong pos (l++[rawInt a,rawInt b,c])=some y):codeAmong pos l=some y∨y=c:=by
 fun_induction TriplesOk l with
 |case1=>right;have g:codeAmong pos [rawInt a,rawInt b,c]=some y:=g;unfold rawInt codeAmong at g;split at g;exact(Qn g).symm;cases g|case2 i t f u x v w=>simp only[QAo,codeAmong]at g ⊢;split at g;rename_i z;rw[if_pos z];exact .inl g;rename_i z;rw[if_neg z];exact w h g|case3 l e k=>exact h.elim
section
variable{X:Cx}{h:AB}{σ:St}{H:Hp}{s:Shared}
theorem _root_.L2.Inv.tabbed{P x:Addr}{q:Str}{y:Array Value}{K W:Int}{h':Heap}{t':Nat}(I:Inv X h σ H s)(m:H P=some (.tbl q))(N:s.heap.get? P=some (tabObj y))(A:TriplesOk y.toList)(p:∀pos l,codeAmong pos y.toList=some l->∃c,l=.ref c/\H c=some (.own P)/\s.heap.CodeRec l q)
  (a:W7 P s.heap h') (i:s.heap.objs.size<=x) (B:h'.CodeRec (.ref x) q) (f:h'.get? P=some (tabObj (y++#[rawInt K,rawInt W,.ref x]))):H x=none/\Inv X h σ (BA H x (.own P)) { s with heap:=h',toks:=t' }:=by
 have C:H x=none:=I.hok.fresh i;have w:∀b o,H b=some o->b≠x:=λb o e z=>by rw[z,C]at e;cases e
 have Z:∀b,H b=none->b≠P:=λb e z=>by rw[z,m]at e;cases e
 refine⟨C,I.un ⟨λb o e n _ _=>a b o (Z b n) e,λb o e n _ _=>⟨o.slots,a b o (Z b n) e⟩,λb o e n _=>?_,λb o e _=>?_,λb F e=>?_,λb o u e=>?_,λb q e=>?_⟩ λb u e=>?_⟩;rw[vA (Qi (Qk (QW e) i))];exact n;by_cases hb:b=P
 ·exact⟨_,hb▸f⟩
 exact⟨o,a b o hb e⟩;rw[vA (w b _ e)];exact e;rw[vA (w b _ e)];exact e;rw[vA (w b _ e)];exact e;by_cases hb:b=x
 ·subst hb
  rw[JA]at e;cases e;obtain⟨c,o,Y,t,M,L,_⟩:=B;cases M;exact⟨o,L⟩
 rw[vA hb]at e;by_cases j:b=P;subst j;rw[m]at e;cases e;refine⟨_,f,?_,λpos l g=>?_⟩;simpa using TriplesOk_snoc K W _ y.toList A;rcases OV y.toList A (by simpa using g) with g|rfl
 ·obtain⟨c,rfl,o,O,ob,Y,G,E,J,r⟩:=p pos l g
  cases E;refine⟨c,rfl,by rw[vA (w c _ o)];exact o,c,ob,Y,G,rfl,a _ _ (λz=>?_) J,r⟩;rw[z,m]at o;cases o
 exact⟨x,rfl,JA,B⟩;refine(I.hok b u e).stay (λd v k g=>a d v (λz=>?_) g) (λd g=>by rw[vA (w d _ g)];exact g) λd F g=>by rw[vA (w d _ g)];exact g
 rcases k with k|k;exact j (k.symm.trans z);rw[z,m]at k;cases k
end
def lu(K:QC)(H:Hp)(xs:LV)(kz:List (Int×Int)):Prop:=kz.length=xs.length/\∀(j:Nat) p,kz[j]?=some p->p.2=j/\∃t h,xs[j]?=some (.ref t)/\GD K H t h/\h[1]?=some (.int p.1)
noncomputable def bu(K:QC)(P:Addr)(i:Nat):TE:=λy H Q=>∃ev h z,y[i]?=some (some (.ref ev))/\(RC K H ev h∨GD K H ev h)/\lu K H h z/\h.length<64 /\
 ∀(p:Array Nat) x l,Pm h.length p->True->(x=H∨∃c,H c=none/\x=BA H c (.own P))->x l=none->Q (.ref l) (BA x l (.lst (p.toList.map λ(i:Nat)=>V.int i)))
section
variable{X:Cx}{J G p2 F E B W U Z S M Y g d a O L:Pos}
section
variable{x:AB}{σ:St}{H:Hp}{s:Shared}{y:Addr}{kz:List (Int×Int)}{i:Nat}{q:Str}
theorem jo{xs:LV}(I:Inv X x σ H s)(k:RC X.K H y xs∨GD X.K H y xs)(C:lu X.K H xs kz):∀(j:Nat) p,kz[j]?=some p->SN s.heap y j p.1:=λj p N=>by obtain⟨_,t,ys,f,Q,P⟩:=C.2 j p N;have hz:=Q5;obtain⟨h,n,w,R⟩:=I.tuple Q;obtain⟨u2,o,A⟩:=n.get P;obtain⟨m,rfl⟩:=A;have l2:=n.length;have jl:j<xs.length:=(Qf.mp f).1;rcases k with k|k;obtain⟨v,r,b,z⟩:=I.list k;obtain⟨u,e,q⟩:=r.get f;cases q;have l:=r.length;exact⟨v.toArray,h.toArray,t,m,.inl b.isList,by simpa using e,by omega,by rw[QN];omega,w,by simpa using o,by rw[QN];omega⟩;obtain⟨v,r,b,z⟩:=I.tuple k;obtain⟨u,e,q⟩:=r.get f;cases q;have l:=r.length;exact⟨v.toArray,h.toArray,t,m,.inr b,by simpa using e,by omega,by rw[QN];omega,w,by simpa using o,by rw[QN];omega⟩
theorem xb(I:Inv X x σ H s)(w:X.N[i]?=some (QO "events"))(h:X.env.scope.names.lookup (QO "events")=some .cell)(hv:σ[i]?=some (some (.ref y))):∃v,X.env.cells.lookup (QO "events")=some v/\s.heap.IsCell v (some (.ref y)):=by
 obtain⟨m,_,hl⟩:=I.loc;obtain⟨u,r,l⟩:=hl i "events" _ w hv (.inr (.inl h));cases r;rcases l with⟨k,_⟩| ⟨_,c,e,z⟩
 have k:X.env.scope.names.lookup (QO "events")=some .local:=k;rw[h]at k;cases k;exact⟨c,e,z⟩
theorem bK{n:Nat}{vs:LW}(hv:∀i,i<n->∃t,vs.getD i Value.none=.int (i:Int) t):∀l:LN,(∀i∈l,i<n)->nA (l.map λ(i:Nat)=>V.int i) (l.map λi=>vs.getD i Value.none)
 |[],_=>.nil|i::l,h=>.cons (hv i (h i QE)) (bK hv l λj z=>h j (QD _ z))
theorem YS{R f ce c':Addr}{b ctv:Value}{t u v:Tok}{Q:VK}{n:Nat}(I:Inv X x σ H s)(hh:X.A.handled=none)(z:X.A.in1.in1.depth<recursionLimit)
  (ho:s.heap.get? f=some (kla_obj "<lambda>" q (ya U) (i5 J G p2 F E B W) EU [(QO "events",ce)] b c' ctv)) (m:s.heap.CodeRec (.ref c') q) (hc:s.heap.IsCell ce (some (.ref y))) (hev:∀(j:Nat) p,kz[j]?=some p->p.2=j/\SN s.heap y j p.1)
  (hl:kz.length=n) (h64:n<64) (hr:IsRange s.heap R 0 n 1 t u v) (k:∀(p:Array Nat) l,Pm n p->True->H l=none->Q (.ref l) (BA H l (.lst (p.toList.map λ(i:Nat)=>V.int i)))) :
  wpAny (model X.prog X.w) X.A (call (.builtin "sorted") [.ref R] [(QO "key",.ref f)]) (EP X x σ Q) X.xe s:=by
 refine z8 (n:=n) hh hr (small_one (by decide) (by decide) (by omega) (by omega)) (by rw[rangeSize_one];split<;>omega) h64 hl (λh3 P h j tx p hj C hC=>?_) λp K D h' P e b up h r vl hvs ho'=>?_;obtain⟨e2,ev'⟩:=hev j p hj;have e3:(0:Int)+(j:Int) * 1=(j:Int):=by omega
 rw[e3];refine t5 (s:={ s with heap:=h3,toks:=P }) z (h _ _ ho) (m.keeps h) (I.nolimit.keeps h) (hc.keeps h) (ev'.keep h) λh4 N v kp4 ka=>hC h4 N v kp4 ?_;rw[<- e2]at ka;exact ka;have pl:∀i∈p.toList,i<n:=λi hi=>by simpa using(qQ.mp b).mem_iff.mp hi
 have ps:p.toList.length=n:=by rw[(qQ.mp b).length_eq];simp
 refine⟨.ref D,BA H D (.lst (p.toList.map λ(i:Nat)=>V.int i)),I.laid (t':=P) h r ⟨by rw[QF,ps,Q5];omega,_,e,bK (λi hi=>?_) p.toList pl,ho'⟩,rfl,k p D b up (I.hok.fresh r)⟩;have o:i<K.length:=by omega
 obtain⟨t,e⟩:=hvs i (K[i]) (Qq o);refine⟨t,?_⟩;have:K.getD i Value.none=K[i]:=by simp[o]
 rw[this,e,show(0:Int)+(i:Int) * 1=(i:Int) by omega]
theorem M8{c P:Addr}(hN:X.N[i]?=some (QO "events"))(hs:X.env.scope.names.lookup (QO "events")=some .cell)(n:X.env.code=.ref c)(hC:CodeHd X.base c P)(hT:SO X.mg X.base P q)(hq:q=X.env.qual++"<lambda>")(hb:X.base.BuiltinsAt X.mg P)(hgP:mainGlobals≠P)
  (g1:Gl X "sorted") (m1:X.mg "sorted"=none) (g2:Gl X "range") (m2:X.mg "range"=none) (g3:Gl X "len") (m3:X.mg "len"=none) (hh:X.A.handled=none) (f:X.A.in1.in1.depth<recursionLimit) :
  PE X (.Call (.Name "sorted" S) [.Call (.Name "range" M) [.Call (.Name "len" Y) [.Name "events" g] [] d] [] a] [⟨some "key",.Lambda (ya U) (i5 J G p2 F E B W) EU Z,O⟩] L) (bu X.K P i):=by
 rintro x s σ H Q I ⟨y,xs,kz,hv,hsq,m,h64,k⟩;refine wI (jG I g1 m1 boot_sorted ?_);refine callWith_kw ?_;show wpAny _ _ (spliced ((false,eval (.Call (.Name "range" M) [.Call (.Name "len" Y) [.Name "events" g] [] d] [] a) X.env)::backTo L (starEach [] X.env))) _ _ s;have paL:PA X [.Call (.Name "len" Y) [.Name "events" g] [] d] _:=sI (cM EI g3 m3 boot_len (sI (d3 hN (.inr (.inl hs))) JP)) JP;refine wv (Call_ (jG I g2 m2 boot_range (callWith_type1 (NB (paL a x s σ H (λvs H1=>vs=[.int xs.length]/\H1=H) I ?_) λus h ⟨vs,H1,I1,r1,q1⟩=>?_) rfl rfl)));exact⟨_,hv,y,xs,rfl,hsq,rfl,rfl⟩;obtain⟨rfl,rfl⟩:=q1;cases r1 with
 |cons r rr =>
 cases rr;obtain⟨t,rfl⟩:=r;refine call_range_1 (Wc (kws_cons (kla_eval rfl ?_)));have w:Inv X x σ H1 { h with heap:=h.heap.push { cls:=.type "range",data:=.fields #[.int 0 h.toks,.int xs.length t,.int 1 (h.toks+1)] },toks:=h.toks+1+1 }:=I1.kept λb o e=>QH _ e;have hr2:IsRange (h.heap.push { cls:=.type "range",data:=.fields #[.int 0 h.toks,.int xs.length t,.int 1 (h.toks+1)] }) h.heap.objs.size 0 xs.length 1 h.toks t (h.toks+1):=QV _ rfl;have hP:=w.tb P q hT;obtain⟨ps,hp,ht,hps⟩:=w.hok P _ hP;obtain⟨ce,hce,hcl⟩:=xb w hN hs hv;have R:closureFor EU X.env=pure [(QO "events",ce)]:=by unfold closureFor cellOf;simp[hce]
 obtain⟨bm,ob,b1,b2,b3,b4,b5,b6⟩:=hb;have hb2:=And.intro b1 (And.intro b2 (And.intro b3 (And.intro b4 (And.intro (w.bk _ _ b5) b6))));have evs:=jo w hsq m;subst hq;cases e:codeAmong Z ps.toList with|none=>refine kla_makeFunction (mg:=X.mg) R I.ok.glob (w.mod.glob.keeps w.bk) n (hC.keeps w.bk) hp ht e hgP ⟨bm,ob,hb2⟩ λc' ctv h' tk hx hge hlt v htb=>evalAll_nil ?_;obtain⟨hn,I3⟩:=w.tabbed (t':=tk) hP hp ht hps hx hge v htb;have C:∀{oN:Obj}(b:Addr) (o:Obj),h'.get? b=some o->(h'.push oN).get? b=some o:=λb o e=>QH _ e;obtain⟨oc,c1,c2⟩:=hcl;show wpAny _ _ (call (.builtin "sorted") [.ref h.heap.objs.size] [(QO "key",.ref h'.objs.size)]) _ _ _;refine YS (I3.kept C) hh f (QV _ rfl) (v.push _) ⟨oc,C _ _ (hx _ _ (λz=>?_) c1),c2⟩ (λj p hj=>⟨(m.2 j p hj).1,((evs j p hj).keepB hp hx).keep C⟩) m.1 h64 (C _ _ (hx _ _ (λz=>?_) hr2)) λp l pm u hl=>k p _ l pm u (.inr ⟨c',hn,rfl⟩) hl;rw[z,hp]at c1;cases c1;cases c2;have z2:=hp.symm.trans (z▸hr2);cases z2|some cv=>obtain⟨c',rfl,_,v⟩:=hps _ _ e;refine kla_makeFunctionHit (mg:=X.mg) R I.ok.glob (w.mod.glob.keeps w.bk) n (hC.keeps w.bk) hp ht e ⟨bm,ob,hb2⟩ λctv h' tk kp hge=>evalAll_nil ?_;have C:∀{oN:Obj}(b:Addr) (o:Obj),(h.heap.push { cls:=.type "range",data:=.fields #[.int 0 h.toks,.int xs.length t,.int 1 (h.toks+1)] }).get? b=some o->(h'.push oN).get? b=some o:=λb o e=>QH _ (kp b o e);show wpAny _ _ (call (.builtin "sorted") [.ref h.heap.objs.size] [(QO "key",.ref h'.objs.size)]) _ _ _;exact YS (w.kept C) hh f (QV _ rfl) (v.keeps C) (hcl.keeps C) (λj p hj=>⟨(m.2 j p hj).1,(evs j p hj).keep C⟩) m.1 h64 (C _ _ hr2) λp l pm u hl=>k p _ l pm u (.inl rfl) hl
end
end
def LM:D->Option Int
 | .tuple h=>(match h[1]? with|some (PyData.int t)=>some t|_=>none)
 |_=>none
def NM(h:List D):List (Int×Int):=(Qs h.length).map λ(i:Nat)=>(((h[i]?).bind LM).getD 0,(i:Int))
theorem lZ{x:List D}{j:Nat}{p:Int×Int}(h:(NM x)[j]?=some p):j<x.length/\p=(((x[j]?).bind LM).getD 0,(j:Int)):=by unfold NM at h;rw[Qc]at h;by_cases c:j<x.length;rw[W8 c]at h;exact⟨c,(Qn h).symm⟩;rw[qA (by simpa using c)]at h;cases h
def Yp(h:List D)(ns:LN):Prop:=ns.Perm (Qs h.length)/\True
def Vm:PSp where
 md:=[]
 run:=λz Q _=>∃x:List D,z=[.d (.list x)]/\x.length<64/\(∀e∈x,∃t,LM e=some t)/\∀y,Yp x y->Q (.lst (y.map λ(i:Nat)=>.d (.int i))) []
 mono:=λh _ ⟨x,a,b,c,d⟩=>⟨x,a,b,c,λy q=>h _ _ (d y q)⟩
theorem G1{K:QC}{H x:Hp}{a:Addr}{xs:LV}(e:Same H x)(h:GD K H a xs):GD K x a xs:=by rcases h with(h|⟨o,h⟩)|h;exact .inl (.inl (e _ _ h));exact .inl (.inr ⟨o,e _ _ h⟩);exact .inr h
section
variable{P:Program}{w:World}{K:QC}{mg:Str->Option Value}{base:Heap}{Ψ:PEv}{D C p2 B W U n m g a0 a1 R O N L J I y:Pos}
noncomputable abbrev Lr:Scope:={ kind:=.function,names:=[(QO "events",.cell),(QO "sorted",.globalImplicit),(QO "range",.globalImplicit),(QO "len",.globalImplicit)],isGenerator:=false,isCoroutine:=false,more:=[] }
noncomputable abbrev su(D C p2 B W U n m g a0 a1 R O N L J I y:Pos):List Stmt:=[.Return (some (.Call (.Name "sorted" a0) [.Call (.Name "range" a1) [.Call (.Name "len" R) [.Name "events" O] [] N] [] L] [⟨some "key",.Lambda (ya m) (i5 D C p2 B W U n) EU g,J⟩] I)) y]
theorem lX{H F:Hp}{vs:LV}{Q:VK}{E:XK}{T:Addr}(h:lift K Vm vs H Q E):vs.length=1/\bu K T 0 (mD [QO "events"] vs) H λv H'=>Q v H':=by
 obtain⟨F,ts,M,Y,h1,h2,h3,h4,x,rfl,h64,he,q⟩:=h;cases h2 with
 |chg hm=>cases hm|@rd _ v vs' _ _ Z _ hr _ r =>
 cases r;refine⟨rfl,?_⟩;cases hr with
 |d rp hz =>
 cases rp with
 |@lst a xs _ hq rs =>
 have S:xs.length=x.length:=rs.length;have kl:(NM x).length=xs.length:=by unfold NM;rw[QF,qL,S]
 refine⟨a,xs,NM x,rfl,.inl (h1.seq hq),⟨kl,λj p hj=>?_⟩,by rw[S];exact h64,λp H1 l pm up hH hl=>?_⟩;obtain⟨jl,rfl⟩:=lZ hj;have A:x[j]?=some (x[j]'jl):=Qq jl;obtain⟨t,k⟩:=he _ (wn jl);obtain⟨v,v1,v2⟩:=rs.get A;refine⟨rfl,?_⟩;rw[A];show ∃t ys,_/\_/\ys[1]?=some (V.int ((LM x[j]).getD 0));rw[k];generalize x[j]=e at *;cases v2 with
 |@tup b ys ds sq rs2 =>
  have k:(match ds[1]? with|some (PyData.int t)=>some t|_=>none)=some t:=k;cases hd:ds[1]? with
  |none=>rw[hd]at k;cases k|some d =>
   rw[hd]at k;obtain⟨u,u1,u2⟩:=rs2.get hd;cases u2 with|int i=>cases k;exact⟨b,ys,v1,G1 h1 sq,u1⟩|_=>cases k
 |_=>cases k
 have pn:p.size=x.length:=by have:=pm.size_eq;simpa[S]using this
 have f:H l=none:=by
  rcases hH with rfl|⟨c,hc,rfl⟩
  exact hl;by_cases z:l=c
  ·rw[z];exact hc
  rw[vA z]at hl;exact hl
 have hs:Same H H1:=by
  rcases hH with rfl|⟨c,hc,rfl⟩
  exact λ_ _ e=>e;exact λb o e=>by rw[vA (aA e hc)];exact e
 have s:Same H (BA H1 l (.lst (p.toList.map λ(i:Nat)=>V.int i))):=λb o e=>by rw[vA (aA e f)];exact hs b o e
 have fl:F l=none:=by
  cases z:F l with|none=>rfl|some o=>rw[h1 l o z]at f;cases f
 have X:∀G:LN,Trs K F (BA H1 l (.lst (p.toList.map λ(i:Nat)=>V.int i))) true (G.map λ(i:Nat)=>V.int i) (G.map λ(i:Nat)=>.d (.int i)) λ_=>False:=λG=>by
  induction G with|nil=>exact .nil λ_ z=>z|cons i r ih=>exact .cons (.d (.int _) λ_ (z:False)=>z) ih (λ_ z=>z.elim) λb=>⟨Qd,λz=>z.elim id id⟩
 refine q p.toList ⟨?_,?_⟩ (.ref l) F (BA H1 l (.lst (p.toList.map λ(i:Nat)=>V.int i))) (λb=>b=l) (λ_=>False) ⟨λ_ _ e=>e,λb o e=>s b o (h1 b o e),λb u e _=>s b u e,λb e=>?_,λb e z=>absurd e z⟩ (.lst JA fl (X _) (λz=>z) λb=>⟨.inl,λz=>z.elim id Qd⟩) (.nil λ_ z=>z) (λ_ _ z=>z) λb z=>.inr (z.elim (λz=>z▸f) Qd);rw[S]at pm;exact qQ.mp pm;trivial;cases z:H b with|none=>rfl|some o=>rw[s b o z]at e;cases e
theorem Ua{f c T:Addr}{oc kV v l ct:Value}{M Y:Option Addr}{b:Array (Option Value)}{z:Arguments}{k:Nat}(X:K.In base)(G:base.Ns mainGlobals mg)(p:mg "going_order"=some (.ref f))
  (lk:K.lookup f=some ⟨oc,M,.func (fnOf "going_order" "going_order" z (su D C p2 B W U n m g a0 a1 R O N L J I y) Lr .none kV v l Y (.ref c) ct),b⟩)
  (j:codeIn K (.ref c) "going_order"=true) (e:keepIn K (.ref f)=true) (r:CodeHd base c T) (hb:base.BuiltinsAt mg T) (i:mainGlobals≠T) (m1:mg "sorted"=none) (m2:mg "range"=none) (m3:mg "len"=none)
  (u:∀us:LW,us.length=1->bindArgs (fnOf "going_order" "going_order" z (su D C p2 B W U n m g a0 a1 R O N L J I y) Lr .none kV v l Y (.ref c) ct) ⟨us,[]⟩=pure ([QO "events"].zip us)) (hR:Ψ.sp "going_order"=Vm):KG P w K mg base Ψ (k+1) "going_order":=by
 have S:FnScope [QO "events"] [QO "events"] Lr:=⟨rfl,rfl,rfl,by decide,rfl,by intro x hx;rcases QI.mp hx with rfl;exact .inr rfl,by decide⟩
 refine⟨f,_,[QO "events"],?_,p,e,.all u⟩;rw[hR];refine sd lk j S (λZ H Q E h=>(lX (T:=T) (F:=H) h).1) λA a s H Z Q E o h=>⟨_,YW (O2 (M8 (q:=(QO "going_order")++(QO ".<locals>.<lambda>")) rfl rfl rfl r ?_ ?_ hb i rfl m1 rfl m2 rfl m3 o.hd ?_)),(lX (F:=H) h).2⟩
 exact⟨f,_,_,c,p,X _ _ lk,rfl,rfl,r,rfl⟩;show QO "going_order"++QO ".<locals>.<lambda>"=(QO "going_order"++QO ".<locals>.")++QO "<lambda>";decide;exact WP (QY (QAt _ (3 * k)) (QAt _ 5)) o.dp
end
end L2.L3
namespace L2.L3.K31
open PySem PySem.Spec PyProof.Rows L2 L2.L3
def KN(a b:Nat):Bool:=decide (a<=b)
def srt(l:LN):LN:=l.mergeSort KN
theorem Jn(a b c:Nat)(x:KN a b=true)(y:KN b c=true):KN a c=true:=dT (QY (of_decide_eq_true x) (of_decide_eq_true y))
theorem Yn(a b:Nat):(KN a b||KN b a)=true:=by rcases Nat.le_total a b with z|z;rw[show KN a b=true from dT z];rfl;rw[show KN b a=true from dT z,QB0]
theorem xg(l:LN):(srt l).Pairwise λa b=>a<=b:=(List.pairwise_mergeSort Jn Yn l).imp λz=>of_decide_eq_true z
theorem ug{z l:LN}(h:z.Perm l)(u:z.Pairwise (·<=·)):z=srt l:=QCO.eq_of_pairwise (λa b _ _ x y=>Nat.le_antisymm x y) u (xg l) (h.trans (QBW l KN).symm)
theorem T0(l:LN):(srt l).Perm l:=QBW l KN
noncomputable abbrev Stp:=Nat×Bool×LN×List Pt
structure Gs where
 past:LN
 taken:LN
 held:List Pt
 steps:List Stp
def jc(w:Wd)(g:Gs)(n:Nat):Bool:=Ef w (uK w g.past) g.held (GA w.es n)
def B0(w:Wd)(g:Gs)(n:Nat):LN:=if(jc w g n&&decide (xX (GA w.es n)="tell"))=true then g.taken++[n] else g.taken
def Xr(w:Wd)(g:Gs)(n:Nat):LN:=srt (ZI w.es (B0 w g n) (uK w (g.past++[n])))
def nk(w:Wd)(g:Gs)(n:Nat):List Pt:=iK w (g.past++[n]) (Xr w g n)
def xE(w:Wd)(g:Gs)(n:Nat):Gs:=⟨g.past++[n],B0 w g n,nk w g n,g.steps++[(n,jc w g n,Xr w g n,nk w g n)]⟩
def ZS(w:Wd)(ns:LN):Gs:=ns.foldl (xE w) ⟨[],[],[],[]⟩
def A7(s:Stp):D:=.tuple [nD s.1,.bool s.2.1,.list (s.2.2.1.map nD),.list (s.2.2.2.map pr)]
def DY(l:LN):T:=.lst ((l.map nD).map T.d)
noncomputable def Ga(w:Wd)(past taken:LN)(wr held:List Pt)(x:Kn)(st:List Stp)(o8 h o10:Option Sl):kA:=[bD (wD w),bD (.list (w.es.map LD)),oW (DY past),oW (DY taken),oW (YI wr),bD (.list (held.map pr)),oW (kX x),oW (.lst ((st.map A7).map T.d)),o8,h,o10]
theorem DU(l:LN)(n:Nat):DY (l++[n])=.lst ((l.map nD).map T.d++[T.d (nD n)]):=by unfold DY;rw[QR,QR];rfl
theorem vg(l:List Stp)(n:Stp):((l++[n]).map A7).map T.d=(l.map A7).map T.d++[T.d (A7 n)]:=by rw[QR,QR];rfl
theorem N1{h:List Evt}{x:LN}{ks:List Pt}{K:T->LT->Prop}{E:XE}(l:x.length<64)(a:∀n∈x,n<h.length/\EC (GA h n))(q:K (.lst (((srt (ZI h x ks)).map nD).map T.d)) []):eB NE [.d (.list (h.map LD)),.lst ((x.map nD).map T.d),YI ks] K E:=⟨h,x,ks,rfl,l,a,λu z y=>by rw[ug z y];exact q⟩
theorem T1{w:Wd}{l y:LN}{x:Kn}{K:T->LT->Prop}{E:XE}(z:WOk w)(a:l.length<=100)(b:∀n∈l,n<w.es.length)(c:v7 w y)(d:vK w x)(e:x.length<=10000)(q:∀h,vK w h->h.length<=x.length+10->K (.lst (((iK w l y).map pr).map T.d)) [kX h]):eB BC [.d (wD w),.lst ((l.map nD).map T.d),.d (.list (y.map nD)),kX x] K E:=⟨w,l,y,x,rfl,⟨z,a,b⟩,c,⟨d,e⟩,q⟩
section
variable{Ψ:PEv}{E:XE}{K:TK}{y x:D}{u:List D}{k:T}{g f e c b w v:Option Sl}
theorem Fa(h:Ψ.sp "held_among"=BC)(q:eB BC [.d y,.lst (u.map T.d),.d x,k] (λr j=>∃n,j=[n]/\K r true [bD y,g,oW (.lst (u.map T.d)),f,e,c,oW n,b,w,v,bD x]) E):lB Ψ (.call "held_among" %[.xz 0,.xz 2,.xz 10,.xz 6|1]) E [bD y,g,oW (.lst (u.map T.d)),f,e,c,oW k,b,w,v,bD x] K:=by show ∃j,CA (uA (Ψ.sp "held_among").md %[.xz 0,.xz 2,.xz 10,.xz 6|1]) [bD y,g,oW (.lst (u.map T.d)),f,e,c,oW k,b,w,v,bD x]=some j/\(uA (Ψ.sp "held_among").md %[.xz 0,.xz 2,.xz 10,.xz 6|1]).Nodup/\(pe Ψ %[.xz 0,.xz 2,.xz 10,.xz 6|1] E).a (Ψ.sp "held_among").md (clear (uA (Ψ.sp "held_among").md %[.xz 0,.xz 2,.xz 10,.xz 6|1]) [bD y,g,oW (.lst (u.map T.d)),f,e,c,oW k,b,w,v,bD x]) λp l=>∃o,VA (Ψ.sp "held_among").md p j=some o/\(Ψ.sp "held_among").run o (λr m=>∃i,xC (uA (Ψ.sp "held_among").md %[.xz 0,.xz 2,.xz 10,.xz 6|1]) m l=some i/\K r true i) E;rw[h];refine⟨[k],rfl,Qh.mpr ⟨WH,Q0⟩,?_⟩;refine⟨rfl,?_⟩;refine⟨[.d y,.lst (u.map T.d),.d x,k],?_,?_⟩;show(match nE (T.lst (u.map T.d)) with|some t=>(some [T.d x,k]).map (t::·)|none=>none).map (T.d y::·)=_;rw[K1];rfl;refine BC.mono (λr j z=>?_) (λ_ z=>z) q;obtain⟨n,rfl,z⟩:=z;exact⟨_,rfl,z⟩
end
section
variable{Ψ:PEv}{Z:PEnds}{w:Wd}{u:Kn}{n:Nat}{o10:Option Sl}{g:Gs}{ns:LN}{K:T->LT->Prop}{E:XE}{i k m:Int}{cs:LI}
theorem Pn(r:Ψ.sp "wrong_among"=oD)(a:Ψ.sp "live_among"=NE)(p:Ψ.sp "held_among"=BC){past taken:LN}{wr held:List Pt}{st:List Stp}{b:Bool}(y:WOk w)(Y:past.length<=60)(v:∀n∈past,n<w.es.length)(s:taken.length<=60)(z:∀n∈taken,n<w.es.length/\EC (GA w.es n))(hk:vK w u)(f:u.length<=10000)(X:st.length<=60)
  (q:∀h,vK w h->h.length<=u.length+10->Z.nx (Ga w past taken (uK w past) (iK w past (srt (ZI w.es taken (uK w past)))) h (st++[(n,b,srt (ZI w.es taken (uK w past)),iK w past (srt (ZI w.es taken (uK w past))))]) (bD (nD n)) (bD (.bool b)) (bD (.list ((srt (ZI w.es taken (uK w past))).map nD))))) :
  pF Ψ yK Z (Ga w past taken wr held u st (bD (nD n)) (bD (.bool b)) o10):=by
 have x:=T0 (ZI w.es taken (uK w past));have fl:=Qj (λn=>!decide (((xJ (GA w.es n)).1,(xJ (GA w.es n)).2)∈uK w past)) taken;have e:v7 w (srt (ZI w.es taken (uK w past))):=⟨by rw[x.length_eq];unfold ZI;omega,λn o=>z n (QX.mp (x.mem_iff.mp o)).1⟩
 delta Ga DY;delta yK;simp_arith[↓xA (md:=[.xx,.xy]) r rfl rfl,↓xA (md:=[.xx,.xy,.ky]) a rfl rfl,↓HB,↓E6,↓Jp];refine bY y (by omega) v ?_;simp_arith[↓xA (md:=[.xx,.xy,.ky]) a rfl rfl,↓HB,↓E6,↓Jp];refine N1 (by omega) z ?_;simp_arith[↓zA];refine Fa p (T1 y (by omega) v e hk f λh l j=>⟨_,rfl,?_⟩);simp_arith[↓zA];rw[QF,QF];refine⟨by omega,by omega,?_⟩;have q:=q h l j;unfold Ga DY at q;rw[vg]at q;exact q
structure GsOk(w:Wd)(g:Gs):Prop where
 p:∀n∈g.past,n<w.es.length
 tl:g.taken.length<=g.past.length
 t:∀n∈g.taken,n<w.es.length/\EC (GA w.es n)
 h:DZ g.held
 s:g.steps.length=g.past.length
theorem Ka(y:WOk w)(l z:LN):DZ (iK w l z):=by intro p h;obtain⟨x,v,h⟩:=wq.mp h;obtain⟨m,a,rfl⟩:=QT.mp h;exact⟨y.po x v,y.mo m (QX.mp a).1⟩
theorem O7{e:Evt}(h:xX e="tell"):EC e:=by
 cases e with|see t p m x=>exact absurd (show QO "see"=QO "tell" from h) (by decide)|tell t a b m x q=>exact⟨t,a,b,m,x,q,rfl⟩
theorem Ib(h:GsOk w g)(x:n<w.es.length):(B0 w g n).length<=g.past.length+1/\∀k∈B0 w g n,k<w.es.length/\EC (GA w.es k):=by have:=h.tl;unfold B0;split;rename_i c;rw[Qa,decide_eq_true_iff]at c;refine⟨by rw[QJ];exact QCB this,λk hk=>?_⟩;rcases Qe.mp hk with hk|hk;exact h.t k hk;rw[QI.mp hk];exact⟨x,O7 c.2⟩;exact⟨by omega,h.t⟩
theorem aQ(v:WOk w)(h:GsOk w g)(x:n<w.es.length):GsOk w (xE w g n):=by
 obtain⟨z,y⟩:=Ib h x;refine⟨λk hk=>?_,?_,y,Ka v _ _,?_⟩;rcases Qe.mp hk with hk|hk
 ·exact h.p k hk
 rw[QI.mp hk];exact x;show(B0 w g n).length<=(g.past++[n]).length;rw[QJ];exact z;show(g.steps++_).length=(g.past++[n]).length;rw[QJ,QJ,h.s];rfl
theorem Mr(I:Ψ.sp "is_taken"=zO)(G:Ψ.sp "wrong_among"=oD)(F:Ψ.sp "live_among"=NE)(C:Ψ.sp "held_among"=BC){l:Option Sl}(j:WOk w)(a:GsOk w g)(J:g.past.length<60)(v:n<w.es.length)(hk:vK w u)(W:u.length<=10000)
  (q:∀x l o10,vK w x->x.length<=u.length+10->Z.nx (Ga w (g.past++[n]) (B0 w g n) (uK w (g.past++[n])) (nk w g n) x (xE w g n).steps (bD (nD n)) l o10)) :
  pF Ψ zN Z (Ga w g.past g.taken (uK w g.past) g.held u g.steps (bD (nD n)) l o10):=by
 have L:=a.tl;have N:=a.s;obtain⟨M,X⟩:=Ib a v;have Y:∀k∈g.past++[n],k<w.es.length:=(aQ j a v).p;have r:=λ{o10}=>Pn (Z:=Z) (wr:=uK w g.past) (held:=g.held) (st:=g.steps) (n:=n) (b:=jc w g n) (o10:=o10) G F C j (past:=g.past++[n]) (by rw[QJ];exact J) Y (taken:=B0 w g n) (by omega) X hk W (by omega) λx B A=>q x _ _ B A;delta Ga DY;delta zN;simp_arith[↓tN v,↓xA (md:=[.xx,.xx,.ky,.xx]) I rfl rfl,↓HB,↓E6,↓Jp];refine Kg j (j.ev v) a.h ?_;simp_arith[↓tN v,↓HK];rw[QF,QF,<- DU];refine⟨by omega,?_⟩;have e:Ef w (uK w g.past) g.held (GA w.es n)=jc w g n:=rfl;rw[e];cases y:jc w g n with
 |false=>have f:B0 w g n=g.taken:=if_neg (by rw[y];exact λz=>by cases z);rw[f,y]at r;exact r|true =>
  cases o:decide (xX (GA w.es n)="tell") with|false=>have f:B0 w g n=g.taken:=if_neg (by rw[y,o];exact λz=>by cases z);rw[f,y]at r;exact r|true=>have f:B0 w g n=g.taken++[n]:=if_pos (by rw[y,o];rfl);rw[f,y]at r;simp_arith[↓zA];rw[QF,QF,<- DU];exact⟨by omega,r⟩
theorem Oa(e:Evt):∃t,LM (LD e)=some t:=by
 cases e with|see t p m h=>exact⟨t,rfl⟩|tell t a b m h q=>exact⟨t,rfl⟩
def z7(w:Wd)(ns:LN):Prop:=Yp (w.es.map LD) ns
theorem Fc(h:z7 w ns):∀n∈ns,n<w.es.length:=λn x=>by
 have:=qE.mp (h.1.mem_iff.mp x)
 rwa [QF]at this
theorem V4(h:z7 w ns):ns.length=w.es.length:=by rw[h.1.length_eq,qL,QF]
theorem Xg(x:WOk w)(q:∀ns,z7 w ns->K (DY ns) []):eB Vm [.d (.list (w.es.map LD))] K E:=⟨_,rfl,by rw[QF];exact WP x.el (by decide),λe y=>by
 obtain⟨v,_,rfl⟩:=QT.mp y;exact Oa v,λns h=>by
 have:=q ns h;unfold DY at this;rw[QS]at this;exact this⟩
def vI:PSp where
 md:=[]
 run:=λx Q _=>∃w:Wd,x=[.d (wD w)]/\WOk w/\∀ns,z7 w ns->Q (.lst (((ZS w ns).steps.map A7).map T.d)) []
 mono:=λh _ z=>by obtain⟨w,e,a,q⟩:=z;exact⟨w,e,a,λns b=>h _ _ (q ns b)⟩
theorem A1(h:WOk w)(q:∀ns,z7 w ns->K (.lst (((ZS w ns).steps.map A7).map T.d)) []):eB vI [.d (wD w)] K E:=⟨w,rfl,h,q⟩
theorem bp{r:PT}{i:Nat}{ρ:kA}:LL Ψ E r Z i (.lst []) true ρ=bB Ψ E r Z (ρ.set i (bD (.list []))):=gp (ds:=[])
theorem t9(s:Ψ.sp "going_order"=Vm)(L:Ψ.sp "is_taken"=zO)(J:Ψ.sp "wrong_among"=oD)(I:Ψ.sp "live_among"=NE)(G:Ψ.sp "held_among"=BC)(ds Q E)(h:vI.run ds Q E):EG Ψ HV vI k7 ZW ds Q:=by obtain⟨w,rfl,b,q⟩:=h;have R:=b.el;refine gA [bD (wD w),none,none,none,none,none,none,none,none,none,none] rfl rfl rfl ?_;delta HV;simp_arith[↓vP,↓xA (md:=[]) s rfl rfl];refine⟨by omega,by omega,by omega,?_⟩;simp_arith[↓bp,↓xA (md:=[]) s rfl rfl];refine⟨by omega,Xg b λns v=>?_⟩;delta DY;simp_arith[↓zA];rw[<- lA nD];have M:=V4 v;refine MA (λn=>T.d (nD n)) (λr f=>∃g u o l o10,r.foldl (xE w) g=ZS w ns/\(GsOk w g/\g.past.length+r.length<=60/\∀n∈r,n<w.es.length)/\(vK w u/\u.length<=10 * g.past.length)/\f=Ga w g.past g.taken (uK w g.past) g.held u g.steps o l o10) ?_ ?_ ns _ ⟨⟨[],[],[],[]⟩,[],none,none,none,rfl,⟨⟨λ_ z=>(by cases z),Qb _,λ_ z=>(by cases z),λ_ z=>(by cases z),rfl⟩,by show 0+ns.length<=60;omega,Fc v⟩,⟨λ_ z=>(by cases z),Qb _⟩,rfl⟩;rintro f ⟨g,u,o,l,o10,e,_,_,rfl⟩;have e:g=ZS w ns:=e;subst e;delta Ga;simp_arith[↓zA];exact q ns v;rintro n r f N F ⟨g,u,o,l,o10,e,⟨W,Y,X⟩,⟨A,O⟩,rfl⟩;have Y:g.past.length+(r.length+1)<=60:=Y;have p:=X n QE;refine Mr L J I G b W (by omega) p A (by omega) λy j a B P=>F _ ⟨xE w g n,y,_,j,a,e,⟨aQ b W p,?_,λx C=>X x (QD _ C)⟩,⟨B,?_⟩,rfl⟩;show(g.past++[n]).length+r.length<=60;rw[QJ];show g.past.length+1+r.length<=60;omega;show y.length<=10 * (g.past++[n]).length;rw[QJ];show y.length<=10 * (g.past.length+1);omega
def gI{α:Type}(l:List α)(i:Int)(d:α):α:=(fE l i).getD d
theorem xD{α:Type}{l:List α}{d:α}(z:0<=i)(y:i<l.length):fE l i=some (gI l i d)/\gI l i d∈l:=by obtain⟨v,x,h⟩:=LQ z y;unfold gI;rw[x];exact⟨rfl,Q4 h⟩
theorem TC{α:Type}{f:α->D}{l:List α}(d:α){K:D->Prop}(x:0<=i)(h:i<l.length)(q:K (f (gI l i d))):XF (fE (l.map f) i) K:=by rw[AG,(xD (d:=d) x h).1];exact⟨_,rfl,q⟩
def CO(cs:LI)(k:Int):Int:=if 0<cs.length then gI cs (k % cs.length) 0 else 0
def Jr(c k:Int):Int:=(c % 2147483647+7 * k+3) * (48271+1103 * k * k) % 2147483629
def cA(cs:LI)(k m:Int):Int:=Jr (CO cs k) k / 64 % m
theorem ZA(h:0<m):0<=cA cs k m/\cA cs k m<m:=⟨w8 _ (by omega),wK _ h⟩
theorem dj{j:Nat}(h:j<100)(c:Int)(hc:decide (0<=c/\c<=4000)=true):0<=c+(j:Int)/\c+(j:Int)<=5000:=by have:=of_decide_eq_true hc;omega
theorem dk(h:0<=k/\k<=100)(c:Int)(hc:decide (0<=c/\c<=40)=true):0<=11 * k+c/\11 * k+c<=5000:=by have:=of_decide_eq_true hc;omega
noncomputable def vC:PSp where
 md:=[.xy]
 run:=λx Q _=>∃(cs:LI) (k m:Int),x=[.lst ((cs.map PyData.int).map T.d),.d (.int k),.d (.int m)]/\((0<=k/\k<=5000)/\0<m)/\Q (.d (.int (cA cs k m))) []
 mono:=λh _ z=>by obtain⟨cs,k,m,e,a,q⟩:=z;exact⟨cs,k,m,e,a,h _ _ q⟩
theorem G5{a b:LI}(h:(a.map PyData.int).map T.d=(b.map PyData.int).map T.d):a=b:=(WW λx y e=>by injection e).mp ((WW λx y e=>by injection e).mp h)
theorem CB:eB vC [.lst ((cs.map PyData.int).map T.d),.d (.int k),.d (.int m)] K E=(((0<=k/\k<=5000)/\0<m)/\K (.d (.int (cA cs k m))) []):=propext ⟨λ⟨h,_,_,e,a,q⟩=>by injection e with e1 e2;injection e1 with e1;cases G5 e1;cases e2;exact⟨a,q⟩,λq=>⟨cs,k,m,rfl,q⟩⟩
theorem bN{ds:List D}{n:Bool}{md:List Md}{xs:List (T×Bool)}{C:LT->Prop}:iB (.xy::md) ((.d (.list ds),n)::xs) C=iB md xs λts=>C (.lst (ds.map T.d)::ts):=Bu (by rw[pA];simp only[nE,T.vw,iA,Q1])
theorem i9(ds Q E)(h:vC.run ds Q E):EG Ψ yN vC UT fO ds Q:=by
 obtain⟨cs,k,m,rfl,⟨⟨e,v⟩,y⟩,q⟩:=h;refine gA [some (.ky (.lst ((cs.map PyData.int).map T.d))),bD (.int k),bD (.int m),none,none] rfl rfl rfl ?_;have r:∀c,c=CO cs k->pF Ψ sG (eZ Q) [some (.ky (.lst ((cs.map PyData.int).map T.d))),bD (.int k),bD (.int m),bD (.int c),none]:=by rintro c rfl;delta sG;simp_arith[↓zA];have a:=w8 (CO cs k) (show(2147483647:Int)≠0 by decide);have b:=wK (CO cs k) (show(0:Int)<2147483647 by decide);exact⟨zL.ok (.inl ⟨by decide,by decide⟩),zL.ok (.inl ⟨by decide,by decide⟩),zL.ok (.inr ⟨by omega,by omega⟩),zL.ok (.inl ⟨by omega,by omega⟩),y,q⟩
 delta yN;simp_arith[QF];by_cases c:0<cs.length;have x:(0:Int)<cs.length:=by omega
 rw[if_pos (dT x)];refine⟨x,TC 0 (w8 _ (by omega)) (wK _ x) ?_⟩;exact r _ (by unfold CO;rw[if_pos c]);rw[if_neg (λz=>by have:=of_decide_eq_true z;omega)];exact r _ (by unfold CO;rw[if_neg c])
def yC(m:Int)(cs:LI)(p:Int×Nat):LI:=if(p.2:Int)<m then cs++[p.1] else cs.set ((p.2:Int) % m).toNat (gI cs ((p.2:Int) % m) 0 * 31+p.1)
def oB(m:Int)(l:LI):LI:=l.zipIdx.foldl (yC m) []
theorem CM{m:Int}(y:0<m):∀(l:LI) (i:Nat) (cs:LI),(cs.length:Int)<=m->cs.length<=i->((i:Int)<m->cs.length=i)->((l.zipIdx i).foldl (yC m) cs).length<=m.toNat
 |[],i,cs,h,_,_=>by show cs.length<=_;omega|x::l,i,cs,h,h2,h3=>by show((l.zipIdx (i+1)).foldl (yC m) (yC m cs (x,i))).length<=_;unfold yC;split;rename_i c;have c:(i:Int)<m:=c;have:=h3 c;refine CM y l (i+1) _ ?_ ?_ λ_=>?_;rw[QJ];show((cs.length+1:Nat):Int)<=m;omega;rw[QJ];show cs.length+1<=i+1;omega;rw[QJ];show cs.length+1=i+1;omega;rename_i c;have c:¬ (i:Int)<m:=c;refine CM y l (i+1) _ ?_ ?_ λz=>?_;rw[qa];exact h;rw[qa];omega;omega
noncomputable def lE:PSp where
 md:=[.xy]
 run:=λx Q _=>∃(ns:LI) (m:Int),x=[.lst ((ns.map PyData.int).map T.d),.d (.int m)]/\(0<m/\m<=100)/\Q (.lst (((oB m ns).map PyData.int).map T.d)) []
 mono:=λh _ z=>by obtain⟨ns,m,e,a,q⟩:=z;exact⟨ns,m,e,a,h _ _ q⟩
theorem mU{ns:LI}(h:0<m/\m<=100)(q:K (.lst (((oB m ns).map PyData.int).map T.d)) []):eB lE [.lst ((ns.map PyData.int).map T.d),.d (.int m)] K E:=⟨ns,m,rfl,h,q⟩
def Sn(ns:LI)(m:Int)(cs:LI)(o3 o4:Option Sl):kA:=[some (.ky (.lst ((ns.map PyData.int).map T.d))),bD (.int m),oW (.lst ((cs.map PyData.int).map T.d)),o3,o4]
def zo{α:Type}(f:α->D)(p:α×Nat):T:=.d (.tuple [.int (p.2:Int),f p.1])
theorem x6{α:Type}(f:α->D)(l:List α):((l.map f).zipIdx.map λp=>T.d (.tuple [.int (p.2:Int),p.1]))=l.zipIdx.map (zo f):=by rw[List.zipIdx_map,QS];rfl
theorem Hj{c:PX}{s y r:PT}{o:Option Sl}{σ:kA}:bB Ψ E (.seq (.ife c s y) r) Z (o::σ)=iP Ψ c E (o::σ) λk x=>if k=true then bB Ψ E s { Z with nx:=λh=>bB Ψ E r Z h } x else bB Ψ E y { Z with nx:=λh=>bB Ψ E r Z h } x:=rfl
theorem XY(ds Q E)(h:lE.run ds Q E):EG Ψ OH lE lN mK ds Q:=by
 obtain⟨ns,m,rfl,⟨s,A⟩,q⟩:=h;refine gA [some (.ky (.lst ((ns.map PyData.int).map T.d))),bD (.int m),none,none,none] rfl rfl rfl ?_;delta OH;simp_arith[↓zA];refine⟨by omega,?_⟩;rw[x6];refine MA (zo PyData.int) (λr f=>∃l i cs p o,r=List.zipIdx l i/\r.foldl (yC m) cs=oB m ns/\((cs.length:Int)<=m/\((i:Int)<m->cs.length=i)/\(m<=(i:Int)->(cs.length:Int)=m))/\f=Sn ns m cs p o) ?_ ?_ _ _ ⟨ns,0,[],none,none,rfl,rfl,⟨by show(0:Int)<=m;omega,λ_=>rfl,λz=>by omega⟩,rfl⟩;rintro f ⟨l,i,cs,p,o,_,e,_,rfl⟩;have e:cs=oB m ns:=e;subst e;delta Sn;simp_arith[↓zA];exact q;rintro⟨x,j⟩ r f N X ⟨l,i,cs,p,o,v,e,⟨B,W,Y⟩,rfl⟩;cases l with|nil=>cases v|cons y l=>injection v with v e3;injection v with e4 e5;subst e4;subst e5;have e:r.foldl (yC m) (yC m cs (x,j))=oB m ns:=e;delta Sn zo;delta yJ;simp_arith[↓Hj];by_cases c:(j:Int)<m;rw[show yC m cs (x,j)=cs++[x] from if_pos c]at e;have:=W c;simp_arith[dT c,QF];refine⟨by omega,X _ ⟨l,j+1,cs++[x],bD (.int (j:Int)),bD (.int x),e3,e,⟨?_,?_,?_⟩,?_⟩⟩;rw[QJ];show((cs.length+1:Nat):Int)<=m;omega;rw[QJ];intro z;show cs.length+1=j+1;omega;rw[QJ];intro z;show((cs.length+1:Nat):Int)=m;omega;delta Sn;rw[QR,QR];rfl;rw[show yC m cs (x,j)=cs.set ((j:Int) % m).toNat (gI cs ((j:Int) % m) 0 * 31+x) from if_neg c]at e;have C:(cs.length:Int)=m:=Y (by omega);have a:=w8 (j:Int) (show m≠0 by omega);have b:=wK (j:Int) s;rw[if_neg (λz=>c (of_decide_eq_true z))];refine⟨s,TC 0 a (by omega) ?_⟩;simp_arith[↓zA];refine⟨zL.ok (.inr ⟨by decide,by decide⟩),s,Hq a (by rw[QF];omega) (X _ ⟨l,j+1,cs.set ((j:Int) % m).toNat (gI cs ((j:Int) % m) 0 * 31+x),bD (.int (j:Int)),bD (.int x),e3,e,⟨?_,?_,?_⟩,?_⟩)⟩;rw[qa];omega;intro z;omega;intro z;rw[qa];omega;delta Sn;rw[QBA,QBA,QBA]
end
section
variable{Ψ:PEv}{E:XE}{ρ:kA}{K:TK}{a y v h b:PX}{x:D}{n:Bool}{f:Str}{w:Operator}{g:Bi}{i:Int}
def lU(x:T)(n:Bool)(Ψ:PEv)(y v:PX)(E:XE)(p:kA)(K:TK):Prop:=sq (α:=Option Int) (oA x n) p (if isNop y=true then λρ (R:Option Int->kA->Prop)=>R none ρ else λρ R=>(pe Ψ y E).e ρ λl _ m=>RF l.er λo=>R o m) λl m =>
   sq (α:=Option Int) (oA x n) m (if isNop v=true then λρ (R:Option Int->kA->Prop)=>R none ρ else λρ R=>(pe Ψ v E).e ρ λu _ j=>RF u.er λo=>R o j) λu j=>HL (oA x n).vw l u λz k=>K z k j
theorem sN:lB Ψ (.slc a y v) E ρ K=lB Ψ a E ρ λx n z=>lU x n Ψ y v E z K:=rfl
theorem Js:lU (.d x) n Ψ .nop (.call f h) E ρ K=lB Ψ (.call f h) E ρ λu _ e=>fM u λo=>VJ (.d x) n none o λz k=>K z k e:=by cases n<;>rfl
theorem Ys:lU (.d x) n Ψ .nop (.bin w a b) E ρ K=lB Ψ (.bin w a b) E ρ λu _ e=>fM u λo=>VJ (.d x) n none o λz k=>K z k e:=by cases n<;>rfl
theorem js:lU (.d x) n Ψ .nop (.bi g h) E ρ K=lB Ψ (.bi g h) E ρ λu _ e=>fM u λo=>VJ (.d x) n none o λz k=>K z k e:=by cases n<;>rfl
theorem Vs:lU (.d x) n Ψ (.call f h) .nop E ρ K=lB Ψ (.call f h) E ρ λu _ e=>fM u λo=>VJ (.d x) n o none λz k=>K z k e:=by cases n<;>rfl
theorem Ks:lU (.d x) n Ψ (.int i) (.bin w a b) E ρ K=lB Ψ (.bin w a b) E ρ λu _ e=>fM u λo=>VJ (.d x) n (some i) o λz k=>K z k e:=by cases n<;>rfl
end
section
variable{a k most:Int}{b d e c:D}{cs:LI}{K:T->LT->Prop}{E:XE}{Ψ:PEv}{n m:Bool}{Q:T->Bool->Prop}{R:T->Prop}{i:Nat}{w:Ps}{o:LS}{X:Option (Str×Str)}{p:Str×Str}{Z:PEnds}{ρ:kA}
def dQ:Str:="bcdfgjkmnpqvwxyz"
def Mc(a b f:Int)(k:Nat):Str:=CJ "zq" a++⟨#[gI dQ.cps.toList ((f+(k:Int)) % 16) 0]⟩++wo "vzb" none (some b)
def Lm(a b f:Int):LS:=(Qs 16).map (Mc a b f)
def Ej(s:Str):Bool:=decide (s.length<=3)&&s.cps.toList.all λc=>decide (c<128)
theorem X8:((Qs 2).all λ(a:Nat)=>Ej (CJ "zq" (a:Int)))=true:=by decide +kernel
theorem S7:((Qs 4).all λ(b:Nat)=>Ej (wo "vzb" none (some (b:Int))))=true:=by decide +kernel
theorem A9:(decide dQ.cps.toList.Nodup&&dQ.cps.toList.all λc=>decide (c<128))=true:=by decide +kernel
theorem E2(h:0<=a)(x:a<2):Ej (CJ "zq" a)=true:=by obtain⟨a,rfl⟩:=qd h;exact Qv.mp X8 a (qE.mpr (by omega))
theorem N0(h:0<=a)(x:a<4):Ej (wo "vzb" none (some a))=true:=by obtain⟨a,rfl⟩:=qd h;exact Qv.mp S7 a (qE.mpr (by omega))
theorem rM(a b f:Int)(k:Nat):(Mc a b f k).cps.toList=(CJ "zq" a).cps.toList++([gI dQ.cps.toList ((f+(k:Int)) % 16) 0]++(wo "vzb" none (some b)).cps.toList):=by show((CJ "zq" a).cps++#[gI dQ.cps.toList ((f+(k:Int)) % 16) 0]++(wo "vzb" none (some b)).cps).toList=_;rw[QBX,QBX,Qx]
theorem Di{l:LN}(h:l.Nodup){x y:Int}(j:0<=x)(g:x<l.length)(f:0<=y)(z:y<l.length)(e:gI l x 0=gI l y 0):x=y:=by obtain⟨v,Y,s⟩:=LQ j g;obtain⟨u,r,q⟩:=LQ f z;unfold gI at e;rw[Y,r]at e;have e:v=u:=e;subst e;have:=(List.getElem?_inj (i:=x.toNat) (by omega) h).mp (s.trans q.symm);omega
theorem aK(f:Int)(k:Nat):0<=(f+(k:Int)) % 16/\(f+(k:Int)) % 16<dQ.cps.toList.length:=⟨w8 _ (by decide),wK _ (by decide)⟩
theorem Mh{b f:Int}(q:0<=a)(l:a<2)(g:0<=b)(v:b<4)(Y:0<=f)(r:f<16):(Lm a b f).Nodup/\∀x∈Lm a b f,OkS x:=by
 have X:=A9;rw[Qa,decide_eq_true_iff]at X;have p:=E2 q l;have s:=N0 g v;unfold Ej at p s;rw[Qa]at p s;constructor;refine QBy.mpr (wb (λ{i j} u z h e=>h ?_) List.nodup_range);have e:=congrArg (λs:Str=>s.cps.toList) e;have e:(Mc a b f i).cps.toList=(Mc a b f j).cps.toList:=e;rw[rM,rM]at e;have e:=List.append_cancel_left e;injection e with e _;have:=Di X.1 (aK f i).1 (aK f i).2 (aK f j).1 (aK f j).2 e;have:=qE.mp u;have:=qE.mp z;omega;intro x y;obtain⟨k,_,rfl⟩:=QT.mp y;show(Mc a b f k).cps.all _=true;rw[<- Array.all_toList,rM,Qv];intro c hc;have:c<128:=by
  rcases Qe.mp hc with hc|hc;exact of_decide_eq_true (Qv.mp p.2 c hc);rcases Qe.mp hc with hc|hc
  ·rw[QI.mp hc]
   exact of_decide_eq_true (Qv.mp X.2 _ (xD (aK f k).1 (aK f k).2).2)
  exact of_decide_eq_true (Qv.mp s.2 c hc)
 exact dT (by omega)
def iC(cs:LI):LS:=Lm (cA cs 901 2) (cA cs 902 4) (cA cs 903 16)
theorem AF(cs:LI):(iC cs).Nodup/\(∀x∈iC cs,OkS x)/\(iC cs).length=16:=by have a:=ZA (cs:=cs) (k:=901) (m:=2) (by decide);have b:=ZA (cs:=cs) (k:=902) (m:=4) (by decide);have c:=ZA (cs:=cs) (k:=903) (m:=16) (by decide);obtain⟨y,h⟩:=Mh a.1 a.2 b.1 b.2 c.1 c.2;exact⟨y,h,by unfold iC Lm;rw[QF,qL]⟩
def FF:PSp where
 md:=[]
 run:=λx Q _=>∃cs:LI,x=[.d (.list (cs.map PyData.int))]/\Q (.lst (((iC cs).map PyData.str).map T.d)) []
 mono:=λh _ z=>by obtain⟨cs,e,q⟩:=z;exact⟨cs,e,h _ _ q⟩
theorem fY(q:K (.lst (((iC cs).map PyData.str).map T.d)) []):eB FF [.d (.list (cs.map PyData.int))] K E:=⟨cs,rfl,q⟩
theorem u4(v:Ψ.sp "_law_draw"=vC)(ds Q E)(h:FF.run ds Q E):EG Ψ IJ FF yP vM ds Q:=by
 obtain⟨cs,rfl,q⟩:=h;have a:=ZA (cs:=cs) (k:=901) (m:=2) (by decide);have b:=ZA (cs:=cs) (k:=902) (m:=4) (by decide);have c:=ZA (cs:=cs) (k:=903) (m:=16) (by decide);refine gA [bD (.list (cs.map PyData.int)),none,none,none,none] rfl rfl rfl ?_;delta IJ;simp_arith[↓sN,↓Js,↓D2,↓xA (md:=[.xy]) v rfl rfl,↓bN,↓CB];have z:(QO "zq").length=2:=rfl;have y:(QO "vzb").length=3:=rfl;have x:(QO "bcdfgjkmnpqvwxyz").length=16:=rfl;rw[z,y];refine⟨by omega,by omega,by omega,by omega,?_⟩;refine rB (λ(i:Nat)=>T.d (.int (i:Int))) (λi=>T.d (.str (Mc (cA cs 901 2) (cA cs 902 4) (cA cs 903 16) i))) _ [] _ (λi r R u=>?_) (by show 0+(Qs 16).length<=_;rw[qL];omega) ?_;simp_arith[↓zA];have W:=w8 (cA cs 903 16+(i:Int)) (show(16:Int)≠0 by decide);have Y:=wK (cA cs 903 16+(i:Int)) (show(0:Int)<16 by decide);rw[x];refine⟨by omega,?_⟩;have f:fE (QO "bcdfgjkmnpqvwxyz").cps.toList ((cA cs 903 16+(i:Int)) % 16)=some (gI dQ.cps.toList ((cA cs 903 16+(i:Int)) % 16) 0):=(xD (l:=dQ.cps.toList) (aK _ i).1 (aK _ i).2).1;refine⟨_,f,?_⟩;simp_arith[↓zA];have p:=E2 a.1 a.2;have s:=N0 b.1 b.2;unfold Ej at p s;rw[Qa,decide_eq_true_iff]at p s;have e:(CJ (QO "zq") (cA cs 901 2)++⟨#[gI dQ.cps.toList ((cA cs 903 16+(i:Int)) % 16) 0]⟩:Str).length=(CJ (QO "zq") (cA cs 901 2)).length+1:=Array.size_append;have j:(CJ (QO "zq") (cA cs 901 2)).length<=3:=p.1;have g:(wo (QO "vzb") none (some (cA cs 902 4))).length<=3:=s.1;rw[e];exact⟨by show _+1<=_;omega,by omega,u⟩;rw[Qg,lA λi=>PyData.str (Mc (cA cs 901 2) (cA cs 902 4) (cA cs 903 16) i)];have e:((Qs 16).map λi=>PyData.str (Mc (cA cs 901 2) (cA cs 902 4) (cA cs 903 16) i))=(iC cs).map PyData.str:=by unfold iC Lm;rw[QS];rfl
 exact e▸q
def Sj(b:Bool):Int:=if b then 1 else 0
theorem Rc{b:Bool}:NO .int [(.d (.bool b),n)] Q=Q (.d (.int (Sj b))) false:=by unfold NO fC;rw[pA];exact Fo b
theorem cq{f g h k:D}{t:T}:DA (.lst [.d d,.d e,.d f,.d g,.d h,.d k]) n t m R=DA (.lst ([d,e,f,g,h,k].map T.d)) n t m R:=rfl
def Eg(cs:LI)(wd:Int)(p:Str×Nat):Str×Int×Int×Int:=(p.1,cA cs (910+(p.2:Int)) wd,cA cs (920+(p.2:Int)) wd * Sj (decide (cA cs (930+(p.2:Int)) 3=0)),gI [1,1,1,2,2,3] (cA cs (940+(p.2:Int)) 6) 0)
def aL(cs:LI):Int:=gI [4,100] (cA cs 904 2) 0
def eN(cs:LI)(ns:LS):List (Str×Int×Int×Int):=ns.zipIdx.map (Eg cs (aL cs))
noncomputable def CL:PSp where
 md:=[]
 run:=λy Q _=>∃(cs:LI) (x:LS),y=[.d (.list (cs.map PyData.int)),.d (.list (x.map PyData.str))]/\x.length<=100/\Q (.lst (((eN cs x).map lH).map T.d)) []
 mono:=λh _ z=>by obtain⟨cs,x,e,a,q⟩:=z;exact⟨cs,x,e,a,h _ _ q⟩
theorem c8{ns:LS}(h:ns.length<=100)(q:K (.lst (((eN cs ns).map lH).map T.d)) []):eB CL [.d (.list (cs.map PyData.int)),.d (.list (ns.map PyData.str))] K E:=⟨cs,ns,rfl,h,q⟩
def Pp(cs:LI)(ns:LS)(w:List (Str×Int×Int×Int))(o4 o5 o6 o7:Option Sl):kA:=[bD (.list (cs.map PyData.int)),bD (.list (ns.map PyData.str)),oW (.lst ((w.map lH).map T.d)),bD (.int (aL cs)),o4,o5,o6,o7]
theorem j0(cs:LI):0<aL cs:=by have a:=ZA (cs:=cs) (k:=904) (m:=2) (by decide);have:=(xD (l:=[(4:Int),100]) (d:=0) a.1 a.2).2;show 0<gI _ _ _;rcases QL.mp this with e|e;rw[e];decide;rw[QI.mp e];decide
theorem Bk(b:Bool):-(2 ^ 64)<Sj b/\Sj b<2 ^ 64:=by cases b<;>decide
theorem O9{α:Type}{l:List α}{p:α×Nat}(h:p∈l.zipIdx i):p.1∈l/\p.2<i+l.length:=by obtain⟨z,y,x⟩:=List.mem_zipIdx h;exact⟨x▸wn _,y⟩
theorem eh(W:Ψ.sp "_law_draw"=vC)(ds Q E)(h:CL.run ds Q E):EG Ψ NH CL gN lK ds Q:=by
 obtain⟨cs,y,rfl,hl,q⟩:=h;have a:=ZA (cs:=cs) (k:=904) (m:=2) (by decide);have wp:=j0 cs;refine gA [bD (.list (cs.map PyData.int)),bD (.list (y.map PyData.str)),none,none,none,none,none,none] rfl rfl rfl ?_;delta NH;simp_arith[↓xA (md:=[.xy]) W rfl rfl,↓bN,↓CB];refine⟨by omega,by omega,TC (f:=PyData.int) (l:=[4,100]) 0 a.1 a.2 ?_⟩;rw[x6];refine MA (zo PyData.str) (λr ρ=>∃w s g v u,w++r.map (Eg cs (aL cs))=eN cs y/\(w.length+r.length<=100/\∀p∈r,p.2<100)/\ρ=Pp cs y w s g v u) ?_ ?_ _ _ ⟨[],none,none,none,none,rfl,⟨by rw[List.length_zipIdx];show 0+_<=_;omega,λp Y=>by have:=(O9 Y).2;omega⟩,rfl⟩;rintro ρ ⟨w,s,g,v,u,e,_,rfl⟩;have e:w=eN cs y:=by rw[<- e];exact(Q8 _).symm
 subst e;delta Pp;simp_arith[↓zA];exact q;rintro⟨x,j⟩ r ρ N J ⟨w,s,g,v,u,e,⟨B,A⟩,rfl⟩;have B:w.length+(r.length+1)<=100:=B;have z:j<100:=A (x,j) QE;have b:=ZA (cs:=cs) (k:=940+(j:Int)) (m:=6) (by decide);delta Pp zo;delta jJ;simp?[↓xA (md:=[.xy]) W rfl rfl,↓bN,↓CB,↓Rc,↓cq,QF];have I:=dj z 910 rfl;have G:=dj z 920 rfl;have F:=dj z 930 rfl;have C:=dj z 940 rfl;refine⟨I.1,I.2,wp,G.1,G.2,wp,F.1,F.2,zL.ok (.inr (Bk _)),by omega,C.1,C.2,TC (f:=PyData.int) (l:=[1,1,1,2,2,3]) 0 b.1 b.2 ⟨by omega,by omega,J _ ⟨w++[Eg cs (aL cs) (x,j)],bD (.int (j:Int)),bD (.str x),bD (.int (cA cs (910+(j:Int)) (aL cs))),bD (.int (cA cs (920+(j:Int)) (aL cs) * Sj (decide (cA cs (930+(j:Int)) 3=0)))),?_,⟨?_,λp Y=>A p (QD _ Y)⟩,?_⟩⟩⟩;rw[Qx];exact e;rw[QJ];show w.length+1+r.length<=100;omega;delta Pp;rw[QR,QR];rfl
theorem lO(cs:LI)(ns:LS):(eN cs ns).map (λp=>p.1)=ns:=by unfold eN;rw[QS];exact List.zipIdx_map_fst 0 ns
noncomputable abbrev Ps:=List (Str×Int×Int×Int)
def Ij:Str×Int×Int×Int:=("",0,0,0)
def NR(w:Ps)(i:Int):Str:=(gI w i Ij).1
def O3(w:Ps)(x:Str):LS:=(w.filter λp=>!decide (p.1=x)).map λp=>p.1
def jg(cs:LI)(k:Int):Int:=gI [k,2 * (k / 2),cA cs (11 * k+3) 9,100 - k] (cA cs 905 4) 0
def Sk(cs:LI)(k:Int):Str:=wo "abcdef" (some (cA cs (11 * k+2) 6)) none
def vk(cs:LI)(k:Int)(o:LS):Str:=gI o (cA cs (11 * k+1) (o.length:Int)) ""
def Os(cs:LI)(k:Int)(w:Ps):LS:=(Qs (cA cs (11 * k+7) 3).toNat).map λ(j:Nat)=>NR w (cA cs (11 * k+8+(j:Int)) (w.length:Int))
def sX(cs:LI)(k:Int)(w:Ps)(o:LS):Evt:=.see (jg cs k) (NR w (cA cs (11 * k) (w.length:Int))) (vk cs k o) (Sk cs k)
def bG(cs:LI)(k:Int)(w:Ps)(a m:Str):Evt:=.tell (jg cs k) a (gI (O3 w a) (cA cs (11 * k+6) ((O3 w a).length:Int)) "") m (Sk cs k) (Os cs k w)
noncomputable def Zd(cs:LI)(k:Int)(w:Ps)(o:LS):Option (Str×Str)->Evt
 |none=>sX cs k w o|some (a,b)=>if cA cs (11 * k+4) 4=0 then sX cs k w o else if 0<cA cs (11 * k+5) 3 then bG cs k w a b else bG cs k w (NR w (cA cs (11 * k) (w.length:Int))) (vk cs k o)
def Z7:Option (Str×Str)->D
 |none=>.none|some p=>pr p
def Lj(w:Ps)(o:LS):Option (Str×Str)->Prop
 |none=>True|some (a,b)=>(∃p∈w,p.1=a)/\b∈o
structure BdOk(w:Ps)(o:LS):Prop where
 p2:2<=w.length
 pl:w.length<=11
 nd:(w.map λp=>p.1).Nodup
 m1:1<=o.length
 ml:o.length<=10
theorem N3(h:BdOk w o)(x:Str):0<(O3 w x).length:=by
 have y:=h.p2;have nd:=h.nd;cases w with
 |nil=>simp at y|cons p r=>cases r with|nil=>simp at y|cons q r=>have z:p.1≠q.1:=λe=>(Qh.mp nd).1 (show p.1∈_ from e.symm▸QE);refine Wb (a:=if p.1=x then q.1 else p.1) ?_;unfold O3;split;rename_i c;exact QT.mpr ⟨q,QX.mpr ⟨QD _ QE,by rw[dF λe=>z (c.trans e.symm)];rfl⟩,rfl⟩;rename_i c;exact QT.mpr ⟨p,QX.mpr ⟨QE,by rw[dF c];rfl⟩,rfl⟩
noncomputable def aH:PSp where
 md:=[]
 run:=λx Q _=>∃(cs:LI) (k:Int) (w:Ps) (o:LS) (X:Option (Str×Str)),x=[.d (.list (cs.map PyData.int)),.d (.int k),.d (.list (w.map lH)),.d (.list (o.map PyData.str)),.d (Z7 X)]/\(0<=k/\k<=100)/\BdOk w o/\Q (.d (LD (Zd cs k w o X))) []
 mono:=λh _ z=>by obtain⟨cs,k,w,o,X,e,a,b,q⟩:=z;exact⟨cs,k,w,o,X,e,a,b,h _ _ q⟩
theorem m8(a:0<=k/\k<=100)(b:BdOk w o)(q:K (.d (LD (Zd cs k w o X))) []):eB aH [.d (.list (cs.map PyData.int)),.d (.int k),.d (.list (w.map lH)),.d (.list (o.map PyData.str)),.d (Z7 X)] K E:=⟨cs,k,w,o,X,rfl,a,b,q⟩
theorem cn{a:D}:YF [.d a,.d b,.d c,.d d,.d e]=.d (.tuple [a,b,c,d,e]):=rfl
theorem nr{a f g:D}:YF [.d a,.d b,.d c,.d d,.d e,.d f,.d g]=.d (.tuple [a,b,c,d,e,f,g]):=rfl
theorem Om{ds:List D}:NO .tuple [(.lst (ds.map T.d),n)] Q=Q (.d (.tuple ds)) false:=by unfold NO fC;rw[yE];show FX .tuple [.ls (ds.map T.d)] Q=_;rw[ye];exact propext ⟨λ⟨_,e,q⟩=>by rw[iA]at e;cases e;exact q,λq=>⟨_,iA _,q⟩⟩
theorem Mf:(QO "abcdef").length=6:=rfl
noncomputable def Yk(cs:LI)(k:Int)(w:Ps)(o:LS)(X:Option (Str×Str))(mt:Str)(o8:Option Sl)(o10 z y x h:Option Sl):kA:=[bD (.list (cs.map PyData.int)),bD (.int k),bD (.list (w.map lH)),bD (.list (o.map PyData.str)),bD (Z7 X),bD (.int (cA cs (11 * k) (w.length:Int))),bD (.str mt),bD (.str (Sk cs k)),o8,bD (.int (jg cs k)),o10,z,y,x,h]
theorem R9:IntMulOk 11 k:=zL.ok (.inl ⟨by decide,by decide⟩)
theorem Yd(f:Ψ.sp "_law_draw"=vC){Q:T->LT->Prop}{a mt:Str}{o8 z y x h:Option Sl}(hk:0<=k/\k<=100)(hb:BdOk w o)(q:Q (.d (LD (bG cs k w a mt))) []):pF Ψ lF (eZ Q) (Yk cs k w o X mt o8 (bD (.str a)) z y x h):=by
 have G:=N3 hb a;have C:=hb.pl;have F:=hb.p2;delta Yk;delta lF;simp_arith[↓zA];rw[<- lA lH];refine fA (λp=>T.d (lH p)) (λ(p:Str×Int×Int×Int)=>T.d (.str p.1)) (λp=>!decide (p.1=a)) w [] _ (λp v R u=>?_) (by show 0+w.length<=_;omega) ?_;simp_arith[↓GK];split at u;rename_i c;rw[if_pos c];exact u;rename_i c;rw[if_neg c];exact u;rw[Qg,lA λp:Str×Int×Int×Int=>PyData.str p.1];have e:((w.filter λp=>!decide (p.1=a)).map λp=>PyData.str p.1)=(O3 w a).map PyData.str:=by unfold O3;rw[QS];rfl
 rw[e];simp?[↓xA (md:=[.xy]) f rfl rfl,↓bN,↓CB,QF];have W:=ZA (cs:=cs) (k:=11 * k+6) (m:=((O3 w a).length:Int)) (by omega);have J:=ZA (cs:=cs) (k:=11 * k+7) (m:=3) (by decide);have s:=dk hk 7 rfl;refine⟨R9,(dk hk 6 rfl).1,(dk hk 6 rfl).2,by omega,TC (α:=Str) "" W.1 W.2 ?_⟩;refine⟨by omega,R9,s.1,s.2,by omega,by omega,?_⟩;refine MA (λ(i:Nat)=>T.d (.int (i:Int))) (λr ρ=>∃bs h,bs++r.map (λ(j:Nat)=>NR w (cA cs (11 * k+8+(j:Int)) (w.length:Int)))=Os cs k w/\(bs.length+r.length<=3/\∀j∈r,j<3)/\ρ=Yk cs k w o X mt o8 (bD (.str a)) (bD (.list ((O3 w a).map PyData.str))) (bD (.str (gI (O3 w a) (cA cs (11 * k+6) ((O3 w a).length:Int)) ""))) (oW (.lst ((bs.map PyData.str).map T.d))) h) ?_ ?_ _ _ ⟨[],h,rfl,⟨by rw[qL];show 0+_<=3;omega,λj A=>by have:=qE.mp A;omega⟩,rfl⟩;rintro ρ ⟨bs,h,e,_,rfl⟩;have e:bs=Os cs k w:=by rw[<- e];exact(Q8 _).symm
 subst e;delta Yk;simp_arith[↓Om,↓nr];exact⟨by omega,q⟩;rintro j r ρ N B ⟨bs,h,e,⟨l,g⟩,rfl⟩;have l:bs.length+(r.length+1)<=3:=l;have I:j<3:=g j QE;have Y:=ZA (cs:=cs) (k:=11 * k+8+(j:Int)) (m:=(w.length:Int)) (by omega);delta Yk;delta BK;simp?[↓xA (md:=[.xy]) f rfl rfl,↓bN,↓CB,QF];refine⟨R9,by omega,by omega,by omega,TC Ij Y.1 Y.2 ?_⟩;simp_arith[↓GK,QF];refine⟨by omega,B _ ⟨bs++[NR w (cA cs (11 * k+8+(j:Int)) (w.length:Int))],bD (.int (j:Int)),?_,⟨?_,λp v=>g p (QD _ v)⟩,?_⟩⟩;rw[Qx];exact e;rw[QJ];show bs.length+1+r.length<=3;omega;delta Yk;rw[QR,QR];rfl
theorem Ld{L:Bool->Prop}:MB .Is (.d (Z7 X)) (.d .none) L=L X.isNone:=by cases X<;>rfl
theorem Hk:DA (.d (Z7 (some p))) n (.d (.int 0)) m R=R (.d (.str p.1)):=vB (i:=0) rfl
theorem Gk:DA (.d (Z7 (some p))) n (.d (.int 1)) m R=R (.d (.str p.2)):=vB (i:=1) rfl
theorem Dt{r:PT}{a:D}:LL Ψ E r Z i (.lst [.d a,.d b,.d c,.d d]) true ρ=bB Ψ E r Z (ρ.set i (bD (.list [a,b,c,d]))):=gp (ds:=[a,b,c,d])
theorem Uh(y:Ψ.sp "_law_draw"=vC)(ds Q E)(h:aH.run ds Q E):EG Ψ jK aH zP xM ds Q:=by
 obtain⟨cs,k,w,o,X,rfl,hk,hb,q⟩:=h;have B:=hb.pl;have C:=hb.p2;have F:=hb.m1;have x:=ZA (cs:=cs) (k:=11 * k) (m:=(w.length:Int)) (by omega);have A:=ZA (cs:=cs) (k:=11 * k+1) (m:=(o.length:Int)) (by omega);have G:=ZA (cs:=cs) (k:=11 * k+2) (m:=6) (by decide);have W:=ZA (cs:=cs) (k:=905) (m:=4) (by decide);refine gA [bD (.list (cs.map PyData.int)),bD (.int k),bD (.list (w.map lH)),bD (.list (o.map PyData.str)),bD (Z7 X),none,none,none,none,none,none,none,none,none,none] rfl rfl rfl ?_;delta jK;simp?[↓sN,↓Vs,↓D2,↓xA (md:=[.xy]) y rfl rfl,↓bN,↓CB,QF,↓Fb,↓Ld];have Y:=dk hk 1 rfl;have s:=dk hk 2 rfl;have r:=dk hk 3 rfl;refine⟨R9,by omega,by omega,by omega,R9,Y.1,Y.2,by omega,TC (α:=Str) "" A.1 A.2 ?_⟩;rw[Mf];refine⟨R9,s.1,s.2,by omega,zL.ok (.inl ⟨by decide,by decide⟩),R9,r.1,r.2,by omega,?_⟩;simp_arith[↓Dt,↓xA (md:=[.xy]) y rfl rfl,↓bN,↓CB,↓Fb,↓Ld];refine TC (f:=PyData.int) (l:=[k,2 * (k / 2),cA cs (11 * k+3) 9,100 - k]) 0 W.1 W.2 ?_;cases X with|none=>simp_arith[Option.isNone_none];refine TC Ij x.1 x.2 ?_;simp_arith[↓GK,↓cn];exact⟨by omega,q⟩|some p=>simp_arith[Option.isNone_some];have j:=dk hk 4 rfl;refine⟨R9,j.1,j.2,?_⟩;have q:Q (.d (LD (if cA cs (11 * k+4) 4=0 then sX cs k w o else if 0<cA cs (11 * k+5) 3 then bG cs k w p.1 p.2 else bG cs k w (NR w (cA cs (11 * k) (w.length:Int))) (vk cs k o)))) []:=q;by_cases v:cA cs (11 * k+4) 4=0;rw[if_pos v]at q;rw[if_pos (dT v)];refine TC Ij x.1 x.2 ?_;simp_arith[↓GK,↓cn];exact⟨by omega,q⟩;rw[if_neg v]at q;rw[if_neg (λz=>v (of_decide_eq_true z))];refine TC Ij x.1 x.2 ?_;simp_arith[↓GK,↓xA (md:=[.xy]) y rfl rfl,↓bN,↓CB,↓Hk,↓Gk];have g:=dk hk 5 rfl;refine⟨R9,g.1,g.2,?_⟩;by_cases u:0<cA cs (11 * k+5) 3;rw[if_pos u]at q;rw[if_pos (dT u)];exact Yd (mt:=p.2) y hk hb q;rw[if_neg u]at q;rw[if_neg (λz=>u (of_decide_eq_true z))];exact Yd (mt:=vk cs k o) y hk hb q
theorem Hc{i:Int}(x:0<=i)(h:i<(w.length:Int)):∃p∈w,p.1=NR w i:=⟨_,(xD (d:=Ij) x h).2,rfl⟩
def Uk(w:Ps)(o:LS):Evt->Prop
 | .see _ p m h=>(∃x∈w,x.1=p)/\m∈o/\OkS h|.tell _ a b m h q=>(∃x∈w,x.1=a)/\(∃x∈w,x.1=b)/\m∈o/\a≠b/\OkS h/\∀y∈q,∃x∈w,x.1=y
theorem Nf:((Qs 6).all λ(a:Nat)=>qq (wo "abcdef" (some (a:Int)) none))=true:=by decide +kernel
theorem z0(cs:LI)(k:Int):OkS (Sk cs k):=by have h:=ZA (cs:=cs) (k:=11 * k+2) (m:=6) (by decide);unfold Sk;obtain⟨a,e⟩:=qd h.1;rw[e]at h ⊢;exact Qv.mp Nf a (qE.mpr (by omega))
def m5:Evt->Str×Str
 | .see _ p m _=>(p,m)|.tell _ _ b m _ _=>(b,m)
theorem En(hb:BdOk w o)(hl:Lj w o X):Uk w o (Zd cs k w o X):=by
 have C:=hb.p2;have G:=hb.m1;have r:=ZA (cs:=cs) (k:=11 * k) (m:=(w.length:Int)) (by omega);have q:=ZA (cs:=cs) (k:=11 * k+1) (m:=(o.length:Int)) (by omega);have u:=Hc r.1 r.2;have h:vk cs k o∈o:=(xD q.1 q.2).2;have v:∀a m,(∃x∈w,x.1=a)->m∈o->Uk w o (bG cs k w a m):=λa m A W=>by have F:=N3 hb a;have l:=ZA (cs:=cs) (k:=11 * k+6) (m:=((O3 w a).length:Int)) (by omega);obtain⟨x,Y,e⟩:=QT.mp (xD (d:=("":Str)) l.1 l.2).2;obtain⟨B,f⟩:=QX.mp Y;refine⟨A,⟨x,B,e⟩,W,λz=>?_,z0 cs k,λy s=>?_⟩;rw[dT (e.trans z.symm)]at f;cases f;obtain⟨j,_,rfl⟩:=QT.mp s;have g:=ZA (cs:=cs) (k:=11 * k+8+(j:Int)) (m:=(w.length:Int)) (by omega);exact Hc g.1 g.2
 cases X with
 |none=>exact⟨u,h,z0 cs k⟩|some p =>
  obtain⟨a,b⟩:=p;show Uk w o (if cA cs (11 * k+4) 4=0 then sX cs k w o else if 0<cA cs (11 * k+5) 3 then bG cs k w a b else bG cs k w (NR w (cA cs (11 * k) (w.length:Int))) (vk cs k o));split;exact⟨u,h,z0 cs k⟩;split
  ·exact v a b hl.1 hl.2
  exact v _ _ u h
theorem ja{e:Evt}(h:Uk w o e):Lj w o (some (m5 e)):=by
 cases e with|see t p m x=>exact⟨h.1,h.2.1⟩|tell t a b m x q=>exact⟨h.2.1,h.2.2.1⟩
theorem OI{α:Type}(xs:List α)(a b:Option Int):(xF xs a b).Sublist xs:=(QAd _ _).trans (List.drop_sublist _ _)
theorem Ea{α:Type}{xs:List α}{b:Int}(y:0<=a)(x:a<=b)(h:b<=xs.length):(xF xs (some a) (some b)).length=(b - a).toNat:=by obtain⟨a,rfl⟩:=qd y;obtain⟨b,rfl⟩:=qd (QAP y x);have x:a<=b:=QBB.mp x;have h:b<=xs.length:=QBB.mp h;unfold xF;rw[HT.sIx_nat,HT.sIx_nat,wG,Wq,WX h,WX (QY x h),WX (Nat.sub_le_sub_right h a),<- Int.ofNat_sub x];rfl
theorem RS{α:Type}{xs:List α}{b:Int}(x:0<=b)(h:b<=xs.length):(xF xs none (some b)).length=b.toNat:=by obtain⟨b,rfl⟩:=qd x;have h:b<=xs.length:=QBB.mp h;unfold xF;rw[HT.sIx_nat,HT.sIx_none,wG,Wq,WX h,QB5,QB5,WX h];rfl
theorem pV{α z:Type}{f:α->List z}{c:Nat}:∀(l:List α),(∀x∈l,(f x).length<=c)->(l.flatMap f).length<=c * l.length
 |[],_=>Qz _|x::l,h=>by have a:=h x QE;have b:=pV l λy u=>h y (QD _ u);rw[Wg,QJ,QM,Nat.mul_add];omega
def Bb(cs:LI)(o:LS)(k j:Nat):dC:=if 0<cA cs (950+3 * (k:Int)+(j:Int)) 3 then[gI [(gI o (k:Int) "",gI o (j:Int) ""),(gI o (j:Int) "",gI o (k:Int) "")] (cA cs (960+3 * (k:Int)+(j:Int)) 2) ("","")] else[]
def Cj(cs:LI)(o:LS)(k:Nat):dC:=(Qs k).flatMap (Bb cs o k)
def Zk(cs:LI)(o:LS):dC:=(Qs o.length).flatMap (Cj cs o)
theorem LX(cs:LI)(o:LS)(k j:Nat):(Bb cs o k j).length<=1:=by unfold Bb;split;exact Qb _;exact Qz _
theorem MX(cs:LI)(o:LS)(k:Nat):(Cj cs o k).length<=k:=by have:=pV (Qs k) λj _=>LX cs o k j;rw[qL]at this;show(List.flatMap _ _).length<=k;omega
theorem Cb(h:o.length<=10):(Zk cs o).length<=100:=by have:=pV (c:=10) (Qs o.length) λk hk=>QY (MX cs o k) (by have:=qE.mp hk;omega);rw[qL]at this;show(List.flatMap _ _).length<=100;omega
theorem iQ{α:Type}{l:List α}{k:Nat}{d:α}(h:k<l.length):fE l (k:Int)=some (gI l (k:Int) d)/\gI l (k:Int) d∈l:=xD (QBn k) (by omega)
theorem Dj(h:p∈Zk cs o):p.1∈o/\p.2∈o:=by obtain⟨k,hk,h⟩:=wq.mp h;obtain⟨j,x,h⟩:=wq.mp h;have hk:=qE.mp hk;have x:=qE.mp x;have a:=(iQ (d:=("":Str)) hk).2;have b:=(iQ (d:=("":Str)) (show j<o.length by omega)).2;unfold Bb at h;split at h;have d:=ZA (cs:=cs) (k:=960+3 * (k:Int)+(j:Int)) (m:=2) (by decide);have g:=(xD (l:=[(gI o (k:Int) ("":Str),gI o (j:Int) ""),(gI o (j:Int) "",gI o (k:Int) "")]) (d:=("","")) d.1 d.2).2;rw[<- QI.mp h]at g;rcases QL.mp g with g|g;rw[g];exact⟨a,b⟩;rw[QI.mp g];exact⟨b,a⟩;cases h
def MM(cs:LI)(w:Ps)(o:LS)(s:List Evt×Option (Str×Str))(k:Nat):List Evt×Option (Str×Str):=(s.1++[Zd cs (k:Int) w o s.2],some (m5 (Zd cs (k:Int) w o s.2)))
def Ds(cs:LI)(w:Ps)(o:LS):List Evt:=((Qs cs.length).foldl (MM cs w o) ([],none)).1
theorem Kd{cs:LI}{w:Ps}{o:LS}(hb:BdOk w o):∀(l:LN) (s:List Evt×Option (Str×Str)),(∀e∈s.1,Uk w o e)->Lj w o s.2->(∀e∈(l.foldl (MM cs w o) s).1,Uk w o e)/\(l.foldl (MM cs w o) s).1.length=s.1.length+l.length
 |[],s,h,_=>⟨h,rfl⟩|k::l,s,h,h2=>by have e:=En (cs:=cs) (k:=(k:Int)) hb h2;obtain⟨a,b⟩:=Kd hb l (MM cs w o s k) (λx y=>by rcases Qe.mp y with y|y;exact h x y;rw[QI.mp y];exact e) (ja e);refine⟨a,b.trans ?_⟩;show(s.1++[_]).length+l.length=s.1.length+(l.length+1);rw[QJ];show s.1.length+1+l.length=_;omega
def Gc(cs:LI)(most:Int):LS:=xF (iC cs) none (some (2+cA cs 906 (most - 1)))
def IW(cs:LI):Int:=1+cA cs 907 3+3 * Sj (decide (cA cs 911 4=0))
def SU(cs:LI):LS:=xF (iC cs) (some 6) (some (6+IW cs))
def Y7(cs:LI):LS:=if cA cs 908 3=0 then xF (iC cs) none (some ((SU cs).length:Int)) else SU cs
def aq(cs:LI)(w:Ps)(o:LS):Wd:=⟨w,o,Zk cs o,Ds cs w o⟩
def tL(ns:LI)(most:Int):Wd:=aq (oB 24 ns) (eN (oB 24 ns) (Gc (oB 24 ns) most)) (Y7 (oB 24 ns))
theorem P9(cs:LI):1<=IW cs/\IW cs<=6:=by have d:=ZA (cs:=cs) (k:=907) (m:=3) (by decide);unfold IW;cases decide (cA cs 911 4=0);show 1<=1+_+3 * (0:Int)/\1+_+3 * (0:Int)<=6;omega;show 1<=1+_+3 * (1:Int)/\1+_+3 * (1:Int)<=6;omega
theorem SW(cs:LI):1<=(SU cs).length/\(SU cs).length<=6:=by have m:=P9 cs;have n:=(AF cs).2.2;unfold SU;rw[Ea (by decide) (by omega) (by rw[n];omega)];omega
theorem Sc(cs:LI):(1<=(Y7 cs).length/\(Y7 cs).length<=6)/\(Y7 cs).Sublist (iC cs):=by have n:=(AF cs).2.2;have m:=SW cs;unfold Y7;split;rw[RS (by omega) (by rw[n];omega)];exact⟨by omega,OI _ _ _⟩;exact⟨m,OI _ _ _⟩
theorem B6(cs:LI)(h:2<=most/\most<=10):BdOk (eN cs (Gc cs most)) (Y7 cs):=by have n:=AF cs;have d:=ZA (cs:=cs) (k:=906) (m:=most - 1) (by omega);have e:=lO cs (Gc cs most);have l:=congrArg wA e;have c:(Gc cs most).length=(2+cA cs 906 (most - 1)).toNat:=RS (by omega) (by rw[n.2.2];omega);rw[QF,c]at l;have m:=(Sc cs).1;exact⟨by omega,by omega,by rw[e];exact(OI _ _ _).nodup n.1,m.1,by omega⟩
theorem A5(ns:LI):(oB 24 ns).length<=24:=CM (by decide) ns 0 [] (by decide) (Qb _) (λ_=>rfl)
theorem IZ(ns:LI)(h:2<=most/\most<=10):WOk (tL ns most):=by
 have n:=AF (oB 24 ns);have hb:=B6 (oB 24 ns) h;have m:=Sc (oB 24 ns);have f:=A5 ns;have y:∀x∈Y7 (oB 24 ns),OkS x:=λx j=>n.2.1 x (m.2.mem j);obtain⟨r,v⟩:=Kd (cs:=oB 24 ns) hb (Qs (oB 24 ns).length) ([],none) (λ_ z=>by cases z) trivial;rw[qL]at v;refine⟨λp u=>?_,Cb hb.ml,hb.pl,hb.nd,λp u=>?_,hb.ml,y,m.2.nodup n.1,?_,λe l=>?_⟩;obtain⟨a,b⟩:=Dj u;exact⟨y _ a,y _ b⟩;have:p.1∈Gc (oB 24 ns) most:=(lO (oB 24 ns) (Gc (oB 24 ns) most))▸QT.mpr ⟨p,u,rfl⟩;exact n.2.1 _ ((OI _ _ _).mem this);exact QY (wx v) (by show 0+_<=60;omega);have:=r e l;cases e with|see t p m g=>exact this|tell t a b m g q=>exact this
noncomputable def zR(cs:LI)(most:Int)(nm:LS)(w:Ps)(h:Int)(o:LS)(u o7 o8 z o10 y x:Option Sl):kA:=[bD (.list (cs.map PyData.int)),bD (.int most),bD (.list (nm.map PyData.str)),bD (.list (w.map lH)),bD (.int h),bD (.list (o.map PyData.str)),u,o7,o8,z,o10,y,x]
def L6(h:dC):Option Sl:=some (.own (.lst ((h.map pr).map T.d)))
def Jk(es:List Evt):Option Sl:=some (.own (.lst ((es.map LD).map T.d)))
theorem Vd(ds:List D):(T.lst (ds.map T.d)).er=.list ds:=by show PyData.list (ersT (ds.map T.d))=_;rw[pB]
theorem Ht{r:PT}{a:D}:LL Ψ E r Z i (.lst [.d a,.d b]) true ρ=bB Ψ E r Z (ρ.set i (bD (.list [a,b]))):=gp (ds:=[a,b])
end
section
variable{Ψ:PEv}{Z:PEnds}{cs:LI}{most y:Int}{n:LS}{w:Ps}{h:LS}{o7 o8 v o10 g u:Option Sl}
theorem nq(e:Ψ.sp "_law_draw"=vC){x:dC}{k j:Nat}(hk:k<h.length)(b:j<h.length)(p:h.length<=10)(r:x.length<=200)(q:∀v,Z.nx (zR cs most n w y h (L6 (x++Bb cs h k j)) (bD (.int (k:Int))) (bD (.int (j:Int))) v o10 g u)):pF Ψ pG Z (zR cs most n w y h (L6 x) (bD (.int (k:Int))) (bD (.int (j:Int))) v o10 g u):=by
 have i:fE (h.map PyData.str) (k:Int)=some (.str (gI h (k:Int) "")):=by rw[AG,(iQ (d:=("":Str)) hk).1];rfl
 have o:fE (h.map PyData.str) (j:Int)=some (.str (gI h (j:Int) "")):=by rw[AG,(iQ (d:=("":Str)) b).1];rfl
 have d:=ZA (cs:=cs) (k:=960+3 * (k:Int)+(j:Int)) (m:=2) (by decide);have a:IntMulOk 3 (k:Int):=zL.ok (.inl ⟨by decide,by decide⟩);delta zR L6;delta pG;simp?[i,o,↓Ht,↓xA (md:=[.xy]) e rfl rfl,↓bN,↓CB,QF];refine⟨by omega,by omega,by omega,a,by omega,by omega,?_⟩;by_cases c:0<cA cs (950+3 * (k:Int)+(j:Int)) 3;rw[show Bb cs h k j=_ from if_pos c]at q;rw[if_pos (dT c)];refine⟨a,by omega,by omega,TC (f:=pr) (l:=[(gI h (k:Int) ("":Str),gI h (j:Int) ""),(gI h (j:Int) "",gI h (k:Int) "")]) ("","") d.1 d.2 ⟨by omega,?_⟩⟩;have q:=q (bD (.list [pr (gI h (k:Int) ("":Str),gI h (j:Int) ""),pr (gI h (j:Int) ("":Str),gI h (k:Int) "")]));unfold L6 at q;rw[QR,QR]at q;exact q;rw[show Bb cs h k j=_ from if_neg c,Q8]at q;rw[if_neg (λz=>c (of_decide_eq_true z))];exact q _
theorem mq(X:Ψ.sp "_law_draw"=vC){z:dC}{k:Nat}(hk:k<h.length)(m:h.length<=10)(W:z.length<=100)(q:∀o8 v,Z.nx (zR cs most n w y h (L6 (z++Cj cs h k)) (bD (.int (k:Int))) o8 v o10 g u)):pF Ψ oG Z (zR cs most n w y h (L6 z) (bD (.int (k:Int))) o8 v o10 g u):=by
 delta zR L6;delta oG;simp_arith[qN];refine⟨by omega,by omega,?_⟩;refine MA (λ(i:Nat)=>T.d (.int (i:Int))) (λr b=>∃a o8 v,a++r.flatMap (Bb cs h k)=z++Cj cs h k/\(a.length+r.length<=200/\∀j∈r,j<h.length)/\b=zR cs most n w y h (L6 a) (bD (.int (k:Int))) o8 v o10 g u) ?_ ?_ _ _ ⟨z,o8,v,rfl,⟨by rw[qL];omega,λj p=>by have:=qE.mp p;omega⟩,rfl⟩;rintro b ⟨a,o8,v,e,_,rfl⟩;have e:a=z++Cj cs h k:=by rw[<- e];exact(Q8 _).symm
 subst e;delta zR;simp_arith[↓zA];exact q _ _;rintro j r b N s ⟨a,o8,v,e,⟨l,f⟩,rfl⟩;have l:a.length+(r.length+1)<=200:=l;have Y:=LX cs h k j;refine nq X hk (f j QE) m (by omega) λv=>s _ ⟨a++Bb cs h k j,_,v,?_,⟨by rw[QJ];omega,λx o=>f x (QD _ o)⟩,rfl⟩;rw[Qx];exact e
theorem lq(i:Ψ.sp "_law_event"=aH){z:Option Sl}{k:Nat}{es:List Evt}{x:Option (Str×Str)}(hk:k<=100)(hb:BdOk w h)(l:es.length<=100)(q:∀u,Z.nx (zR cs most n w y h z (bD (.int (k:Int))) o8 v (Jk (es++[Zd cs (k:Int) w h x])) (bD (Z7 (some (m5 (Zd cs (k:Int) w h x))))) u)):pF Ψ nG Z (zR cs most n w y h z (bD (.int (k:Int))) o8 v (Jk es) (bD (Z7 x)) u):=by
 delta zR Jk;delta nG;simp?[↓xA (md:=[]) i rfl rfl];refine m8 ⟨by omega,by omega⟩ hb ?_;generalize Zd cs (k:Int) w h x=e at *;simp_arith[↓HK,QF];refine⟨by omega,?_⟩;have q:=λo=>q o;unfold Jk at q;rw[QR,QR]at q;cases e with|see t p m f=>simp_arith[↓HK,xX,↓AZ,↓TV];refine⟨by omega,vG (show decide ((QO "see")=(QO "tell"))≠true by decide) ?_⟩;exact q _|tell t a b m f j=>simp_arith[↓HK,xX,↓TN,↓xK,↓gL];exact⟨by omega,by omega,q _⟩
theorem Sb(K:Ψ.sp "_law_draw"=vC)(W:Ψ.sp "_law_event"=aH){Q:T->LT->Prop}(A:cs.length<=100)(hb:BdOk w h)(q:Q (.d (wD (aq cs w h))) []):pF Ψ gF (eZ Q) (zR cs most n w y h none none none none none none none):=by
 have X:=hb.ml;delta zR;delta gF;simp_arith[QF,qN];refine⟨by omega,by omega,by omega,?_⟩;refine MA (λ(i:Nat)=>T.d (.int (i:Int))) (λr b=>∃a o7 o8 v,a++r.flatMap (Cj cs h)=Zk cs h/\(a.length+10 * r.length<=100/\∀j∈r,j<h.length)/\b=zR cs most n w y h (L6 a) o7 o8 v none none none) ?_ ?_ _ _ ⟨[],none,none,none,rfl,⟨by rw[qL];show 0+_<=100;omega,λj p=>qE.mp p⟩,rfl⟩;rintro b ⟨a,o7,o8,v,e,_,rfl⟩;have e:a=Zk cs h:=by rw[<- e];exact(Q8 _).symm
 subst e;delta zR;simp_arith[QF,qN];refine⟨by omega,by omega,by omega,?_⟩;refine MA (λ(i:Nat)=>T.d (.int (i:Int))) (λr b=>∃z m o7 u,(r.foldl (MM cs w h) (z,m)).1=Ds cs w h/\(z.length+r.length<=100/\∀j∈r,j<=100)/\b=zR cs most n w y h (L6 (Zk cs h)) o7 o8 v (Jk z) (bD (Z7 m)) u) ?_ ?_ _ _ ⟨[],none,_,_,rfl,⟨by rw[qL];show 0+_<=100;omega,λj p=>by have:=qE.mp p;omega⟩,rfl⟩;rintro b ⟨z,m,o7,u,e,_,rfl⟩;have e:z=Ds cs w h:=e;subst e;delta zR L6 Jk;simp_arith[↓zA];rw[Vd,Vd];exact⟨by omega,q⟩;rintro j r b N s ⟨z,m,o7,u,e,⟨l,f⟩,rfl⟩;have l:z.length+(r.length+1)<=100:=l;refine lq W (f j QE) hb (by omega) λu=>s _ ⟨_,_,_,u,e,⟨?_,λx o=>f x (QD _ o)⟩,rfl⟩;rw[QJ];show z.length+1+r.length<=100;omega;rintro k r b N s ⟨a,o7,o8,v,e,⟨l,f⟩,rfl⟩;have l:a.length+10 * (r.length+1)<=100:=l;have Y:=f k QE;have B:=MX cs h k;refine mq K Y X (by omega) λo8 v=>s _ ⟨a++Cj cs h k,_,o8,v,?_,⟨by rw[QJ];omega,λx o=>f x (QD _ o)⟩,rfl⟩;rw[Qx];exact e
end
def DF:PSp where
 md:=[.xy]
 run:=λu Q _=>∃(y:LI) (x:Int),u=[.lst ((y.map PyData.int).map T.d),.d (.int x)]/\(2<=x/\x<=10)/\Q (.d (wD (tL y x))) []
 mono:=λh _ z=>by obtain⟨y,x,e,a,q⟩:=z;exact⟨y,x,e,a,h _ _ q⟩
theorem cY{ns:LI}{most:Int}{K:T->LT->Prop}{E:XE}(h:2<=most/\most<=10)(q:K (.d (wD (tL ns most))) []):eB DF [.lst ((ns.map PyData.int).map T.d),.d (.int most)] K E:=⟨ns,most,rfl,h,q⟩
theorem v4{Ψ:PEv}(u:Ψ.sp "_law_draw"=vC)(v:Ψ.sp "_law_event"=aH)(b:Ψ.sp "_law_folded"=lE)(a:Ψ.sp "_law_names"=FF)(k:Ψ.sp "_law_people"=CL)(ds Q E)(h:DF.run ds Q E):EG Ψ EJ DF jP kM ds Q:=by obtain⟨y,x,rfl,w,q⟩:=h;have fl:=A5 y;refine gA [some (.ky (.lst ((y.map PyData.int).map T.d))),bD (.int x),none,none,none,none,none,none,none,none,none,none,none] rfl rfl rfl ?_;delta EJ;simp_arith[↓xA (md:=[.xy]) b rfl rfl];refine mU (by decide) ?_;have q:Q (.d (wD (aq (oB 24 y) (eN (oB 24 y) (Gc (oB 24 y) x)) (Y7 (oB 24 y))))) []:=q;generalize oB 24 y=cs at *;have f:=(AF cs).2.2;have hb:=B6 cs w;have g:=SW cs;simp_arith[↓xA (md:=[]) a rfl rfl];refine fY ?_;simp?[↓xA (md:=[]) k rfl rfl,↓sN,↓Ys,↓D2,↓xA (md:=[.xy]) u rfl rfl,↓bN,↓CB,XQ];refine⟨by omega,c8 (QY ((OI _ _ _).length_le) (by omega)) ?_⟩;simp_arith[↓sN,↓Ks,↓js,↓D2,↓Rc,↓xA (md:=[.xy]) u rfl rfl,↓bN,↓CB,XQ,QF];refine⟨zL.ok (.inl ⟨by decide,by decide⟩),?_⟩;by_cases c:cA cs 908 3=0;rw[if_pos (dT c)];have e:Y7 cs=xF (iC cs) none (some ((SU cs).length:Int)):=if_pos c;rw[e]at q hb;exact Sb u v (by omega) hb q;rw[if_neg (λz=>c (of_decide_eq_true z))];have e:Y7 cs=SU cs:=if_neg c;rw[e]at q hb;exact Sb u v (by omega) hb q
section
variable{Ψ:PEv}{E:XE}{ρ:kA}{K:TK}{n m:Bool}{ds es:List D}{Q:T->Bool->Prop}{L:Bool->Prop}{R:T->Prop}{x:D}{i j:Int}{z:Str}
theorem ft:hG .Add (.d (.list ds)) n (.lst (es.map T.d)) m Q=(ds.length+es.length<=sizeLine/\Q (.lst ((ds++es).map T.d)) true):=by unfold hG;rw[pA,yE];show binT .Add (.ls (ds.map T.d)) (.ls (es.map T.d)) Q=_;rw[ij,iA,iA];exact propext ⟨λ⟨_,_,y,h,k⟩=>by cases y;cases h;exact k,λk=>⟨_,_,rfl,rfl,k⟩⟩
theorem Zs:lU (.d x) n Ψ (.int i) (.int j) E ρ K=VJ (.d x) n (some i) (some j) λz k=>K z k ρ:=by cases n<;>rfl
theorem Pq{t:Int}{a b y wd:Str}{q:LS}:VJ (.d (LD (.tell t a b y wd q))) n (some 2) (some 4) Q=Q (.d (.tuple [.str a,.str b])) false:=by
 unfold VJ;rw[pA];show HL (.tp ([PyData.str "tell",.int t,.str a,.str b,.str y,.str wd,.tuple (q.map PyData.str)].map T.d)) (some 2) (some 4) Q=_;refine propext ⟨λh=>?_,λh=>.inr (.inr ⟨_,_,rfl,iA _,(by decide:¬ (HT.sIx 7 0 (some 2)=0/\HT.sIx 7 7 (some 4)=7)),h⟩)⟩;rcases h with⟨_,e,_⟩| ⟨_,_,e,_⟩| ⟨_,ds,e,u,_,h⟩
 cases e;cases e;cases e;rw[iA]at u;cases u;exact h
theorem Xo{p q:Pt}(u:OkS p.1/\OkS p.2)(y:OkS q.1/\OkS q.2):MB .Eq (.d (.tuple [.str p.1,.str p.2])) (.d (.tuple [.str q.1,.str q.2])) L=L (decide (p=q)):=by show(TF (pr p)/\TF (pr q)/\L (Qu (pr p) (pr q)))=_;rw[KQ];exact propext ⟨λh=>h.2.2,λh=>⟨jD u.1 u.2,jD y.1 y.2,h⟩⟩
end
section
variable{Ψ:PEv}{E:XE}{w:Wd}{m q p a b x:Str}{K:T->LT->Prop}{ks:LS}{L:Bool->Prop}{l:LN}{u:List Evt}
theorem Po{ρ:kA}{f:Bi}{y:PX}{L:Bool->kA->Prop}:iP Ψ (.bi f y) E ρ L=lB Ψ (.bi f y) E ρ λt _ h=>dU t λb=>L b h:=rfl
def tJ:PSp where
 md:=[]
 run:=λy Q _=>∃(w:Wd) (m:Str),y=[.d (wD w),.d (.str m)]/\w.ag.length<=100/\Q (.lst (((VB w m++KB w m).map PyData.str).map T.d)) []
 mono:=λh _ z=>by obtain⟨w,m,e,l,q⟩:=z;exact⟨w,m,e,l,h _ _ q⟩
theorem nW(l:w.ag.length<=100)(q:K (.lst (((VB w m++KB w m).map PyData.str).map T.d)) []):eB tJ [.d (wD w),.d (.str m)] K E:=⟨w,m,rfl,l,q⟩
theorem Jh(ds Q E)(h:tJ.run ds Q E):EG Ψ rG tJ FK oI ds Q:=by
 obtain⟨w,m,rfl,l,q⟩:=h;have f:=Qj (λp:Str×Str=>decide (p.1=m)) w.ag;have e:=Qj (λp:Str×Str=>decide (p.2=m)) w.ag;refine gA [bD (wD w),bD (.str m),none] rfl rfl rfl ?_;delta rG;simp_arith[↓Bf];rw[<- lA pr w.ag];refine fA (λp=>T.d (pr p)) (λ(p:Str×Str)=>T.d (.str p.2)) (λp=>decide (p.1=m)) w.ag [] _ (λp z R y=>?_) (by show 0+w.ag.length<=_;omega) ?_;simp_arith[↓lL,↓EZ];split at y;rename_i c;rw[if_pos c];exact y;rename_i c;rw[if_neg c];exact y;rw[Qg,lA λp:Str×Str=>PyData.str p.2];have k:((w.ag.filter λp=>decide (p.1=m)).map λp=>PyData.str p.2)=(VB w m).map PyData.str:=by unfold VB;rw[QS];rfl
 rw[k];simp_arith[↓Bf];rw[<- lA pr w.ag];refine fA (λp=>T.d (pr p)) (λ(p:Str×Str)=>T.d (.str p.1)) (λp=>decide (p.2=m)) w.ag [] _ (λp z R y=>?_) (by show 0+w.ag.length<=_;omega) ?_;simp_arith[↓lL,↓EZ];split at y;rename_i c;rw[if_pos c];exact y;rename_i c;rw[if_neg c];exact y;rw[Qg,lA λp:Str×Str=>PyData.str p.1];have v:((w.ag.filter λp=>decide (p.2=m)).map λp=>PyData.str p.1)=(KB w m).map PyData.str:=by unfold KB;rw[QS];rfl
 rw[v,ft,<- QR];refine⟨by rw[QF,QF];unfold VB KB;rw[QF,QF];omega,?_⟩;simp_arith[↓zA];exact q
def Ac(ks:LS):T:=.dct false (ks.map PyData.str) (ks.map λ_=>T.d (.bool true))
def PN(ks:LS)(p:Str):LS:=if p∈ks then ks else ks++[p]
theorem M6(ks:LS)(p:Str):(PN ks p).length<=ks.length+1:=by unfold PN;split;omega;simp
theorem cP:PyData.str q∈ks.map PyData.str↔q∈ks:=by rw[QT];exact⟨λ⟨a,h,e⟩=>by injection e with e;exact e▸h,λh=>⟨q,h,rfl⟩⟩
theorem zg{Q:T->Prop}(hl:ks.length<sizeLine)(q:Q (Ac (PN ks p))):T7 (Ac ks) (.d (.str p)) (.d (.bool true)) Q:=by
 refine⟨⟨p,rfl⟩,by rw[QF];exact hl,?_⟩;show Q (YH false (ks.map PyData.str) (ks.map λ_=>T.d (.bool true)) (.str p) (.d (.bool true)));unfold PN at q;unfold YH;by_cases c:p∈ks;rw[if_pos c]at q;cases e:bA (ks.map PyData.str) (.str p) with|none=>exact absurd (cP.mpr c) (XA.mp e)|some n=>show Q (.dct false (ks.map PyData.str) ((ks.map λ_=>T.d (.bool true)).set n (.d (.bool true))));rw[XJ];exact q
 rw[if_neg c]at q;rw[XA.mpr λz=>c (cP.mp z)];unfold Ac at q;rw[QR,QR]at q;exact q
theorem DS(ks:LS)(q:Str):(bA (ks.map PyData.str) (.str q)).isSome=decide (q∈ks):=by rw[Q9,HM,cP,decide_eq_true_iff]
theorem bj:MB .In (.d (.str q)) (Ac ks) L=L (decide (q∈ks)):=by unfold Ac;rw[UX,DS];exact propext ⟨λh=>h.2,λh=>⟨⟨q,rfl⟩,h⟩⟩
theorem Jb:MB .NotIn (.d (.str q)) (Ac ks) L=L (!decide (q∈ks)):=by unfold Ac;rw[RJ,DS];exact propext ⟨λh=>h.2,λh=>⟨⟨q,rfl⟩,h⟩⟩
def aC(u:List Evt)(x:Str)(ks:LS)(n:Nat):LS:=match GA u n with
 | .see _ p m _=>if p=x then PN ks m else ks|_=>ks
def BB(u:List Evt)(l:LN)(x:Str):LS:=l.foldl (aC u x) []
def Rb(w:Wd)(sn:LS)(a b:Str)(n:Nat):Bool:=match GA w.es n with
 | .tell _ x y m _ _=>decide ((x,y)=(a,b))&&(!decide (m∈sn)&&(VB w m++KB w m).any λr=>decide (r∈sn))|_=>false
def i7(w:Wd)(l:LN)(a b:Str):Bool:=l.any (Rb w (BB w.es l b) a b)
noncomputable def FL:PSp where
 md:=[.xx,.xy,.xx,.xx]
 run:=λy Q _=>∃(w:Wd) (l:LN) (a b:Str),y=[.d (wD w),.lst ((l.map nD).map T.d),.d (.str a),.d (.str b)]/\(WOk w/\OkS a/\OkS b)/\(l.length<=100/\∀n∈l,n<w.es.length)/\Q (.d (.bool (i7 w l a b))) []
 mono:=λh _ z=>by obtain⟨w,l,a,b,e,c,d,q⟩:=z;exact⟨w,l,a,b,e,c,d,h _ _ q⟩
theorem g8(h:WOk w)(z:OkS a)(hb:OkS b)(hl:l.length<=100)(y:∀n∈l,n<w.es.length)(q:K (.d (.bool (i7 w l a b))) []):eB FL [.d (wD w),.lst ((l.map nD).map T.d),.d (.str a),.d (.str b)] K E:=⟨w,l,a,b,rfl,⟨h,z,hb⟩,⟨hl,y⟩,q⟩
def Ec(w:Wd)(l:LN)(a b:Str)(ks:LS)(o5 o6:Option Sl):kA:=[bD (wD w),some (.ky (.lst ((l.map nD).map T.d))),bD (.str a),bD (.str b),oW (Ac ks),o5,o6]
theorem Zh(G:Ψ.sp "_law_opposed"=tJ)(ds Q E)(h:FL.run ds Q E):EG Ψ AJ FL EO zM ds Q:=by
 obtain⟨w,l,a,b,rfl,⟨X,M,hb⟩,⟨hl,C⟩,q⟩:=h;refine gA [bD (wD w),some (.ky (.lst ((l.map nD).map T.d))),bD (.str a),bD (.str b),none,none,none] rfl rfl rfl ?_;delta AJ;simp_arith[↓zA];rw[<- lA nD];refine MA (λn=>T.d (nD n)) (λr g=>∃ks j i,r.foldl (aC w.es b) ks=BB w.es l b/\(ks.length+r.length<=100/\∀n∈r,n<w.es.length)/\g=Ec w l a b ks j i) ?_ ?_ l _ ⟨[],none,none,rfl,⟨by simpa using hl,C⟩,by unfold Ec;rw[lA nD];rfl⟩;rintro g ⟨ks,j,i,e,_,rfl⟩;have e:ks=BB w.es l b:=e;subst e;delta Ec;simp_arith[↓zA];rw[<- lA nD];refine MA (λn=>T.d (nD n)) (λr g=>∃j i,r.any (Rb w (BB w.es l b) a b)=i7 w l a b/\(∀n∈r,n<w.es.length)/\g=Ec w l a b (BB w.es l b) j i) ?_ ?_ l _ ⟨_,_,rfl,C,by unfold Ec;rw[lA nD]⟩;rintro g ⟨j,i,e,_,rfl⟩;have e:false=i7 w l a b:=e;rw[<- e]at q;delta Ec;simp_arith[↓zA];exact q;rintro n r g N f ⟨j,i,e,k,rfl⟩;have s:=k n QE;have o:=X.ev s;have e:(Rb w (BB w.es l b) a b n||r.any (Rb w (BB w.es l b) a b))=i7 w l a b:=e;unfold Rb at e;delta Ec;delta ZK;simp_arith[↓vP,↓tN s,↓HK];cases ev:GA w.es n with
 |see t p m W=>rw[ev]at e;refine vG (show decide ((QO "see")=(QO "tell"))≠true by decide) ?_;exact f _ ⟨_,_,e,λx v=>k x (QD _ v),rfl⟩|tell t x y m W J =>
  rw[ev]at e o;have e:((decide ((x,y)=(a,b))&&(!decide (m∈BB w.es l b)&&(VB w m++KB w m).any λr=>decide (r∈BB w.es l b)))||r.any (Rb w (BB w.es l b) a b))=i7 w l a b:=e;simp_arith[xX,↓sN,↓Zs,↓Pq,↓gL,↓Xo (p:=(x,y)) (q:=(a,b)) ⟨X.nm o.1,X.nm o.2.1⟩ ⟨M,hb⟩,↓Jb,↓xA (md:=[]) G rfl rfl];refine⟨by omega,?_⟩;have P:=X.al;have A:∀x∈r,x<w.es.length:=λx v=>k x (QD _ v);by_cases Z:(x,y)=(a,b);rw[if_pos (dT Z)];rw[dT Z]at e;by_cases Y:m∈BB w.es l b;rw[if_neg (by rw[dT Y];exact λz=>by cases z)];rw[dT Y]at e;exact f _ ⟨_,_,e,A,rfl⟩;rw[if_pos (by rw[dF Y];rfl)];rw[dF Y]at e;have e:(((VB w m++KB w m).any λr=>decide (r∈BB w.es l b))||r.any (Rb w (BB w.es l b) a b))=i7 w l a b:=e;simp_arith[↓Po,↓gL,↓xA (md:=[]) G rfl rfl];refine nW P ?_;simp_arith[↓zA];rw[<- lA PyData.str];refine rB (λr=>T.d (.str r)) (λr=>T.d (.bool (decide (r∈BB w.es l b)))) (VB w m++KB w m) [] _ (λr v R O=>?_) (by show 0+(VB w m++KB w m).length<=_;rw[QJ];have:=Qj (λp:Str×Str=>decide (p.1=m)) w.ag;have:=Qj (λp:Str×Str=>decide (p.2=m)) w.ag;unfold VB KB;rw[QF,QF];omega) ?_;simp_arith[↓bj];exact O;rw[Qg,lA λr=>PyData.bool (decide (r∈BB w.es l b)),O4];refine⟨(VB w m++KB w m).map λr=>decide (r∈BB w.es l b),by rw[QS];rfl,?_⟩;rw[QAO];show dU (.d (.bool ((VB w m++KB w m).any λr=>decide (r∈BB w.es l b)))) _;cases I:((VB w m++KB w m).any λr=>decide (r∈BB w.es l b)) with|true=>rw[I]at e;have e:true=i7 w l a b:=e;rw[<- e]at q;simp_arith[↓zA];exact q|false=>rw[I]at e;simp_arith[↓zA];exact f _ ⟨_,_,e,A,rfl⟩
  rw[if_neg (λz=>Z (of_decide_eq_true z))];rw[dF Z]at e;exact f _ ⟨_,_,e,A,rfl⟩
 rintro n r g N f ⟨ks,j,i,e,⟨hk,k⟩,rfl⟩;have F:ks.length+(r.length+1)<=100:=hk;have s:=k n QE;have e:r.foldl (aC w.es b) (aC w.es b ks n)=BB w.es l b:=e;delta Ec;delta UK;simp_arith[↓vP,↓tN s,↓HK];cases ev:GA w.es n with
 |see t p m W =>
  have B:aC w.es b ks n=if p=b then PN ks m else ks:=by unfold aC;rw[ev]
  rw[B]at e;simp_arith[xX,↓AZ,↓TV];by_cases c:p=b;rw[if_pos c]at e;rw[if_pos (dT c)];exact zg (by omega) (f _ ⟨PN ks m,_,_,e,⟨by have:=M6 ks m;omega,λx v=>k x (QD _ v)⟩,rfl⟩);rw[if_neg c]at e;rw[if_neg (λz=>c (of_decide_eq_true z))];exact f _ ⟨ks,_,_,e,⟨by omega,λx v=>k x (QD _ v)⟩,rfl⟩
 |tell t x y m W J =>
  have B:aC w.es b ks n=ks:=by unfold aC;rw[ev]
  rw[B]at e;refine vG (show decide ((QO "tell")=(QO "see"))≠true by decide) ?_;exact f _ ⟨ks,_,_,e,⟨by omega,λx v=>k x (QD _ v)⟩,rfl⟩
theorem yS{ks:List Pt}{p q:Pt}:q∈jL ks p↔q∈ks∨q=p:=by unfold jL;split;rename_i c;exact⟨.inl,λh=>h.elim id λe=>e▸c⟩;rw[Qe,QI]
theorem j5:q∈PN ks p↔q∈ks∨q=p:=by unfold PN;split;rename_i c;exact⟨.inl,λh=>h.elim id λe=>e▸c⟩;rw[Qe,QI]
def CK(u:List Evt)(x m:Str)(n:Nat):Prop:=∃t h,GA u n=.see t x m h
theorem pO{u:List Evt}{x m:Str}:∀(l:LN) (ks:List Pt),(x,m)∈l.foldl (jC u) ks↔(x,m)∈ks∨∃n∈l,CK u x m n
 |[],ks=>⟨.inl,λh=>h.elim id λ⟨_,h,_⟩=>by cases h⟩|n::l,ks=>by
  show(x,m)∈l.foldl (jC u) (jC u ks n)↔_;rw[pO l];have e:(x,m)∈jC u ks n↔(x,m)∈ks∨CK u x m n:=by
   unfold jC CK;cases GA u n with|see t p y z=>show _∈jL ks (p,y)↔_;rw[yS];exact or_congr wP ⟨λe=>by cases e;exact⟨_,_,rfl⟩,λ⟨_,_,e⟩=>by cases e;rfl⟩|tell t a b y z q=>exact⟨.inl,λh=>h.elim id λ⟨_,_,e⟩=>by cases e⟩
  rw[e,or_assoc];refine or_congr wP ⟨λh=>?_,λ⟨k,hk,h⟩=>?_⟩;rcases h with h|⟨k,hk,h⟩
  ·exact⟨n,QE,h⟩
  exact⟨k,QD _ hk,h⟩;rcases QL.mp hk with rfl|hk
  ·exact .inl h
  exact .inr ⟨k,hk,h⟩
theorem EW{u:List Evt}{x m:Str}:∀(l:LN) (ks:LS),m∈l.foldl (aC u x) ks↔m∈ks∨∃n∈l,CK u x m n
 |[],ks=>⟨.inl,λh=>h.elim id λ⟨_,h,_⟩=>by cases h⟩|n::l,ks=>by
  show m∈l.foldl (aC u x) (aC u x ks n)↔_;rw[EW l];have e:m∈aC u x ks n↔m∈ks∨CK u x m n:=by
   unfold aC CK;cases GA u n with|see t p y z=>show m∈(if p=x then PN ks y else ks)↔_;split;rename_i c;rw[j5];exact or_congr wP ⟨λe=>by cases e;cases c;exact⟨_,_,rfl⟩,λ⟨_,_,e⟩=>by cases e;rfl⟩;rename_i c;exact⟨.inl,λh=>h.elim id λ⟨_,_,e⟩=>by cases e;exact absurd rfl c⟩|tell t a b y z q=>exact⟨.inl,λh=>h.elim id λ⟨_,_,e⟩=>by cases e⟩
  rw[e,or_assoc];refine or_congr wP ⟨λh=>?_,λ⟨k,hk,h⟩=>?_⟩;rcases h with h|⟨k,hk,h⟩
  ·exact⟨n,QE,h⟩
  exact⟨k,QD _ hk,h⟩;rcases QL.mp hk with rfl|hk
  ·exact .inl h
  exact .inr ⟨k,hk,h⟩
theorem C1:(x,m)∈gB u l↔∃n∈l,CK u x m n:=(pO l []).trans ⟨λh=>h.elim (λh=>by cases h) id,.inr⟩
theorem eg:m∈BB u l x↔∃n∈l,CK u x m n:=(EW l []).trans ⟨λh=>h.elim (λh=>by cases h) id,.inr⟩
def O6(w:Wd)(sn:List Pt)(a b:Str)(n:Nat):Prop:=∃t m h q,GA w.es n=.tell t a b m h q/\pJ w sn b m=true
theorem AW{w:Wd}{sn:List Pt}{a b:Str}:∀(l:LN) (ks:List Pt),(a,b)∈l.foldl (AD w sn) ks↔(a,b)∈ks∨∃n∈l,O6 w sn a b n
 |[],ks=>⟨.inl,λh=>h.elim id λ⟨_,h,_⟩=>by cases h⟩|n::l,ks=>by
  show(a,b)∈l.foldl (AD w sn) (AD w sn ks n)↔_;rw[AW l];have e:(a,b)∈AD w sn ks n↔(a,b)∈ks∨O6 w sn a b n:=by
   unfold AD O6;cases GA w.es n with|see t p v f=>exact⟨.inl,λh=>h.elim id λ⟨_,_,_,_,e,_⟩=>by cases e⟩|tell t x y v f q=>show _∈(if pJ w sn y v=true then jL ks (x,y) else ks)↔_;split;rename_i c;rw[yS];exact or_congr wP ⟨λe=>by cases e;exact⟨_,_,_,_,rfl,c⟩,λ⟨_,_,_,_,e,_⟩=>by cases e;rfl⟩;rename_i c;exact⟨.inl,λh=>h.elim id λ⟨_,_,_,_,e,z⟩=>by cases e;exact absurd z c⟩
  rw[e,or_assoc];refine or_congr wP ⟨λh=>?_,λ⟨k,hk,h⟩=>?_⟩;rcases h with h|⟨k,hk,h⟩
  ·exact⟨n,QE,h⟩
  exact⟨k,QD _ hk,h⟩;rcases QL.mp hk with rfl|hk
  ·exact .inl h
  exact .inr ⟨k,hk,h⟩
theorem Gf:(a,b)∈uK w l↔∃n∈l,O6 w (gB w.es l) a b n:=(AW l []).trans ⟨λh=>h.elim (λh=>by cases h) id,.inr⟩
theorem N7{sn:List Pt}{sh:LS}(h:∀m,(b,m)∈sn↔m∈sh)(m:Str):pJ w sn b m=(!decide (m∈sh)&&(VB w m++KB w m).any λr=>decide (r∈sh)):=by have e:∀m,decide ((b,m)∈sn)=decide (m∈sh):=λm=>decide_eq_decide.mpr (h m);unfold pJ;simp only[e]
theorem Hf(w:Wd)(l:LN)(a b:Str):i7 w l a b=decide ((a,b)∈uK w l):=by
 rw[Q9,decide_eq_true_iff,Gf];unfold i7;rw[wm];have v:=N7 (w:=w) (sn:=gB w.es l) (sh:=BB w.es l b) (b:=b) λm=>C1.trans eg.symm;refine exists_congr λn=>and_congr wP ?_;unfold Rb O6;cases GA w.es n with|see t p k z=>exact⟨λh=>(by cases h),λ⟨_,_,_,_,e,_⟩=>(by cases e)⟩|tell t x y m z q=>show(decide ((x,y)=(a,b))&&(!decide (m∈BB w.es l b)&&(VB w m++KB w m).any λr=>decide (r∈BB w.es l b)))=true↔_;rw[<- v,Qa,decide_eq_true_iff];exact⟨λ⟨e,h⟩=>by cases e;exact⟨_,_,_,_,rfl,h⟩,λ⟨_,_,_,_,e,h⟩=>by cases e;exact⟨rfl,h⟩⟩
def xo(l:List (Str×Int)):T:=.dct false (l.map λx=>.str x.1) ((l.map λx=>PyData.int x.2).map T.d)
end
section
variable{Ψ:PEv}{E:XE}{ρ:kA}{K:TK}{a b:PX}{n m:Bool}{R:T->Prop}{Q:T->Bool->Prop}
section
variable{l:List (Str×Int)}
theorem tf:lB Ψ (.dof a) E ρ K=lB Ψ a E ρ λx n h=>Ta (oA x n).vw λz k=>K z k h:=rfl
theorem Cd(h:l≠[])(nd:(l.map λx=>x.1).Nodup)(q:Q (xo l) true):Ta (oA (.lst ((l.map λx=>PyData.tuple [.str x.1,.int x.2]).map T.d)) n).vw Q:=by
 rw[yE];refine⟨_,l.map λx=>(x.1,PyData.int x.2),rfl,by rw[iA,QS];rfl,λz=>h (wg.mp z),by rw[QS];exact nd,?_⟩;have u:(l.map λx=>(x.1,PyData.int x.2)).map (λp=>PyData.str p.1)=l.map λx=>.str x.1:=by rw[QS];rfl
 have y:(l.map λx=>(x.1,PyData.int x.2)).map (λp=>p.2)=l.map λx=>PyData.int x.2:=by rw[QS];rfl
 rw[u,y];exact q
theorem Ro{y:T->kA->Prop}:bI Ψ E y (.not a) ρ=lB Ψ (.not a) E ρ λx n h=>ZC x n (y x h):=rfl
theorem Xu:A0 (xo l) false Ψ b E ρ K=lB Ψ b E (lockA ρ) λy m _=>K y m ρ:=rfl
theorem Dd{x:Str}(h:x∈l.map λy=>y.1)(q:∀v,(x,v)∈l->R (.d (.int v))):DA (xo l) false (.d (.str x)) m R:=by
 cases e:bA (l.map λy=>PyData.str y.1) (.str x) with
 |none=>obtain⟨y,w,u⟩:=QT.mp h;exact absurd (QT.mpr ⟨y,w,congrArg PyData.str u⟩) (XA.mp e)|some k =>
  have u:=nC e;rw[Qc]at u;cases z:l[k]? with|none=>rw[z]at u;cases u|some y=>rw[z]at u;have u:PyData.str y.1=.str x:=Qn u;injection u with u;obtain⟨y,v⟩:=y;cases u;exact .inr ⟨false,_,_,k,T.d (.int v),rfl,⟨_,rfl⟩,e,by rw[Qc,Qc,z];rfl,q v (Q4 z)⟩
end
end
section
variable{p:Str×Int×Int×Int}
theorem CU{α:Type}(f:α->Str):∀{l:List α},(l.map f).Nodup->∀{p q:α},p∈l->q∈l->f p=f q->p=q
 |[],_,_,_,hp,_,_=>by cases hp|x::l,h,p,q,hp,hq,e=>by
  obtain⟨y,z⟩:=Qh.mp h;rcases QL.mp hp with a|a;rcases QL.mp hq with b|b
  ·rw[a,b]
  exact absurd (show f x∈l.map f from QT.mpr ⟨q,b,by rw[<- e,a]⟩) y;rcases QL.mp hq with b|b
  ·exact absurd (show f x∈l.map f from QT.mpr ⟨p,a,by rw[e,b]⟩) y
  exact CU f z a b e
theorem Ug{w:Wd}(y:WOk w)(x:p∈w.ps):MF w p.1=p.2.1:=by have h:=aW (w:=w) ⟨p,x,rfl⟩;obtain⟨q,z,e⟩:=QT.mp (Q4 h);obtain⟨v,u⟩:=QX.mp z;rw[<- e,CU (λp:Str×Int×Int×Int=>p.1) y.pn v x (of_decide_eq_true u)]
theorem Na{w:Wd}(y:WOk w)(x:p∈w.ps):JD w p.1=p.2.2.1:=by have h:=BS (w:=w) ⟨p,x,rfl⟩;obtain⟨q,z,e⟩:=QT.mp (Q4 h);obtain⟨v,u⟩:=QX.mp z;rw[<- e,CU (λp:Str×Int×Int×Int=>p.1) y.pn v x (of_decide_eq_true u)]
def Np(w:Wd):List (Str×Int):=w.ps.map λp=>(p.1,p.2.1)
def jq(w:Wd):List (Str×Int):=w.ps.map λp=>(p.1,p.2.2.1)
end
section
variable{R:T->Prop}{m:Bool}{w:Wd}{x:Str}
theorem Il(z:WOk w)(y:Mb w x)(q:R (.d (.int (MF w x)))):DA (xo (Np w)) false (.d (.str x)) m R:=by obtain⟨p,u,rfl⟩:=y;refine Dd (QT.mpr ⟨_,QT.mpr ⟨p,u,rfl⟩,rfl⟩) λv hv=>?_;obtain⟨k,h,e⟩:=QT.mp hv;injection e with e1 e2;rw[<- e2,<- Ug z h,e1];exact q
theorem An(z:WOk w)(y:Mb w x)(q:R (.d (.int (JD w x)))):DA (xo (jq w)) false (.d (.str x)) m R:=by obtain⟨p,u,rfl⟩:=y;refine Dd (QT.mpr ⟨_,QT.mpr ⟨p,u,rfl⟩,rfl⟩) λv hv=>?_;obtain⟨k,h,e⟩:=QT.mp hv;injection e with e1 e2;rw[<- e2,<- Na z h,e1];exact q
end
def au(w:Wd)(l:LN)(h:List Pt)(e:Evt)(o4 o5:Option Sl):kA:=[bD (wD w),some (.ky (.lst ((l.map nD).map T.d))),bD (.list (h.map pr)),bD (LD e),o4,o5]
noncomputable def iJ:PSp where
 md:=[.xx,.xy,.xx,.xx]
 run:=λy Q _=>∃(w:Wd) (l:LN) (x:List Pt) (e:Evt),y=[.d (wD w),.lst ((l.map nD).map T.d),.d (.list (x.map pr)),.d (LD e)]/\(WOk w/\w.ps≠[]/\FZ w e/\DZ x)/\(l.length<=100/\∀n∈l,n<w.es.length)/\Q (.d (.bool (Ef w (uK w l) x e))) []
 mono:=λh _ z=>by obtain⟨w,l,x,e,z,a,b,q⟩:=z;exact⟨w,l,x,e,z,a,b,h _ _ q⟩
theorem r8{w:Wd}{l:LN}{h:List Pt}{e:Evt}{K:T->LT->Prop}{E:XE}(a:WOk w/\w.ps≠[]/\FZ w e/\DZ h)(b:l.length<=100/\∀n∈l,n<w.es.length)(q:K (.d (.bool (Ef w (uK w l) h e))) []):eB iJ [.d (wD w),.lst ((l.map nD).map T.d),.d (.list (h.map pr)),.d (LD e)] K E:=⟨w,l,h,e,rfl,a,b,q⟩
theorem Ch{Ψ:PEv}(K:Ψ.sp "_law_opposed"=tJ)(W:Ψ.sp "_law_wrong"=FL)(ds Q E)(h:iJ.run ds Q E):EG Ψ HQ iJ SX KR ds Q:=by
 obtain⟨w,l,u,e,rfl,⟨y,v,Z,j⟩,⟨hl,X⟩,q⟩:=h;have G:=y.pl;refine gA (au w l u e none none) rfl rfl rfl ?_;delta au;delta HQ;simp_arith[↓tf,↓IT];rw[<- lA lH];refine rB (λp=>T.d (lH p)) (λ(p:Str×Int×Int×Int)=>T.d (.tuple [.str p.1,.int p.2.1])) w.ps [] _ (λx g R k=>?_) (by show 0+w.ps.length<=_;omega) ?_;simp_arith[↓GK,↓Fk];exact⟨by omega,k⟩;rw[Qg,lA λp:Str×Int×Int×Int=>PyData.tuple [.str p.1,.int p.2.1]];have B:(w.ps.map λp=>PyData.tuple [.str p.1,.int p.2.1])=(Np w).map λx=>PyData.tuple [.str x.1,.int x.2]:=by unfold Np;rw[QS];rfl
 rw[B];refine Cd (λz=>v (wg.mp z)) (by unfold Np;rw[QS];exact y.pn) ?_;simp_arith[↓tf,↓IT];rw[<- lA lH];refine rB (λp=>T.d (lH p)) (λ(p:Str×Int×Int×Int)=>T.d (.tuple [.str p.1,.int p.2.2.1])) w.ps [] _ (λx g R k=>?_) (by show 0+w.ps.length<=_;omega) ?_;simp_arith[↓GK,↓Dk];exact⟨by omega,k⟩;rw[Qg,lA λp:Str×Int×Int×Int=>PyData.tuple [.str p.1,.int p.2.2.1]];have A:(w.ps.map λp=>PyData.tuple [.str p.1,.int p.2.2.1])=(jq w).map λx=>PyData.tuple [.str x.1,.int x.2]:=by unfold jq;rw[QS];rfl
 rw[A];refine Cd (λz=>v (wg.mp z)) (by unfold jq;rw[QS];exact y.pn) ?_;cases e with
 |see t p m s=>simp_arith[↓HK,xX];exact q|tell t a b m s F =>
  obtain⟨i,hb,Y,_⟩:=Z;have C:=y.al;have q:Q (.d (.bool (decide ((a,m)∈u)&&!decide ((a,b)∈uK w l)&&decide (JD w b<=MF w a)&&!((VB w m++KB w m).any λr=>decide ((b,r)∈u))))) []:=q;simp_arith[↓HK,xX];refine vG (show decide ((QO "tell")=(QO "see"))≠true by decide) ?_;simp_arith[↓TN,↓xK,↓gL,↓Fb];refine⟨by omega,OW j (y.nm i) (y.mo _ Y) ?_⟩;by_cases f:(a,m)∈u;simp_arith[dT f,↓Xu,↓TN,↓xK];rw[dT f]at q;refine Il y i ?_;simp_arith[↓Xu,↓xK];refine An y hb ?_;simp_arith[↓zA];by_cases o:MF w a<JD w b;rw[if_pos (dT o)];rw[dF (show ¬ JD w b<=MF w a by omega),Wi]at q;exact q;rw[if_neg (λz=>o (of_decide_eq_true z))];rw[dT (show JD w b<=MF w a by omega),Ww]at q;simp_arith[↓Po,↓gL,↓xA (md:=[]) K rfl rfl];refine nW C ?_;simp_arith[↓zA];rw[<- lA PyData.str];refine rB (λr=>T.d (.str r)) (λr=>T.d (.bool (decide ((b,r)∈u)))) (VB w m++KB w m) [] _ (λr g R k=>?_) (by show 0+(VB w m++KB w m).length<=_;rw[QJ];have:=Qj (λp:Str×Str=>decide (p.1=m)) w.ag;have:=Qj (λp:Str×Str=>decide (p.2=m)) w.ag;unfold VB KB;rw[QF,QF];omega) ?_;simp_arith[↓xK];refine⟨by omega,bV j _ _ _ (y.nm hb) ?_ k⟩;rcases Qe.mp g with h|h;obtain⟨p,v,rfl⟩:=QT.mp h;exact(y.ag p (QX.mp v).1).2;obtain⟨p,v,rfl⟩:=QT.mp h;exact(y.ag p (QX.mp v).1).1;rw[Qg,lA λr=>PyData.bool (decide ((b,r)∈u)),O4];refine⟨(VB w m++KB w m).map λr=>decide ((b,r)∈u),by rw[QS];rfl,?_⟩;rw[QAO];show dU (.d (.bool ((VB w m++KB w m).any λr=>decide ((b,r)∈u)))) _;cases n:((VB w m++KB w m).any λr=>decide ((b,r)∈u)) with|true=>rw[n,WO,Wi]at q;simp_arith[↓zA];exact q|false=>rw[n]at q;simp_arith[↓Ro,↓TN,↓xK,↓xA (md:=[.xx,.xy,.xx,.xx]) W rfl rfl,↓HB,↓E6];refine g8 y (y.nm i) (y.nm hb) hl X ?_;rw[Hf];rw[wt,Ww,w9]at q;simp_arith[↓zA];exact q
  simp_arith[dF f];rw[dF f]at q;exact q
def Mp(w:Wd):Gs->LN->List Stp
 |_,[]=>[]|g,n::r=>(n,jc w g n,Xr w g n,nk w g n)::Mp w (xE w g n) r
theorem lR(w:Wd):∀(ns:LN) (g:Gs),(ns.foldl (xE w) g).steps=g.steps++Mp w g ns
 |[],g=>(Q8 _).symm|n::r,g=>by show(r.foldl (xE w) (xE w g n)).steps=_;rw[lR w r];show(g.steps++[_])++_=g.steps++(_::_);rw[Qx];rfl
def g0:Gs:=⟨[],[],[],[]⟩
theorem Ca(w:Wd)(ns:LN):(ZS w ns).steps=Mp w g0 ns:=lR w ns g0
theorem Cp{i j k l:Nat}{x y z u:D}{ρ:kA}{P:kA->Prop}:BX (.tp [i,j,k,l]) (.d (.tuple [x,y,z,u])) ρ P=P ((((ρ.set i (bD x)).set j (bD y)).set k (bD z)).set l (bD u)):=EB
theorem Tv(w:Wd):GsOk w g0:=⟨λ_ z=>(by cases z),Qb _,λ_ z=>(by cases z),λ_ z=>(by cases z),rfl⟩
def lS(h:LI)(w:Wd)(nu:LN)(x:List Pt)(o4 o5 o6 o7:Option Sl):kA:=[some (.ky (.lst ((h.map PyData.int).map T.d))),bD (wD w),oW (DY nu),bD (.list (x.map pr)),o4,o5,o6,o7]
theorem Vr{Ψ:PEv}(k:Ψ.sp "_law_due"=iJ){Z:PEnds}{x:LI}{w:Wd}{g:Gs}{n:Nat}{o6:Option Sl}(y:WOk w)(v:w.ps≠[])(u:GsOk w g)(f:g.past.length<60)(z:n<w.es.length)(q:∀o4 o5 o6 o7,Z.nx (lS x w (g.past++[n]) (nk w g n) o4 o5 o6 o7)):pF Ψ GQ Z (lS x w g.past g.held (bD (nD n)) (bD (.bool (jc w g n))) o6 (bD (.list ((nk w g n).map pr)))):=by delta lS DY;delta GQ;simp_arith[↓vP,↓tN z,↓xA (md:=[.xx,.xy,.xx,.xx]) k rfl rfl,↓HB,↓E6];refine r8 ⟨y,v,y.ev z,u.h⟩ ⟨by omega,u.p⟩ ?_;have e:Ef w (uK w g.past) g.held (GA w.es n)=jc w g n:=rfl;rw[e];simp_arith[QF];refine⟨by omega,?_⟩;have q:=λa b c d=>q a b c d;unfold lS at q;rw[DU]at q;exact q _ _ _ _
theorem Xh{Ψ:PEv}(B:Ψ.sp "_law_due"=iJ)(A:Ψ.sp "_law_world"=DF)(K:Ψ.sp "gone"=vI)(ds Q E)(h:ZP.run ds Q E):EG Ψ C6 ZP Ee T2 ds Q:=by
 obtain⟨y,hl,hb,rfl,q⟩:=h;refine gA [some (.ky (.lst ((y.map PyData.int).map T.d))),none,none,none,none,none,none,none] rfl rfl rfl ?_;have i:=IZ y (most:=6) (by decide);have Z:(tL y 6).ps≠[]:=λz=>by have:=(B6 (oB 24 y) (most:=6) (by decide)).p2;rw[show eN (oB 24 y) (Gc (oB 24 y) 6)=[] from z]at this;exact absurd this (by decide)
 delta C6;simp_arith[↓xA (md:=[.xy]) A rfl rfl];refine cY (by decide) ?_;generalize tL y 6=w at *;have C:=i.el;simp_arith[↓bp,↓xA (md:=[]) K rfl rfl];refine⟨by omega,by omega,A1 i λm f=>?_⟩;have Y:=V4 f;have X:=Fc f;simp_arith[↓zA];rw[Ca,<- lA A7];refine MA (λs=>T.d (A7 s)) (λr j=>∃g x b a k v,r=Mp w g x/\(GsOk w g/\g.past++x=m)/\j=lS y w g.past g.held b a k v) ?_ ?_ _ _ ⟨g0,m,none,none,none,none,rfl,⟨Tv w,rfl⟩,rfl⟩;rintro j ⟨g,x,b,a,k,v,e,⟨l,u⟩,rfl⟩;have e:x=[]:=by cases x with|nil=>rfl|cons n r=>cases e
 rw[e,Q8]at u;rw[u];delta lS DY;simp_arith[↓vP,QF];rw[Y,dT rfl];exact q;rintro s r j N W ⟨g,x,b,a,k,v,e,⟨l,u⟩,rfl⟩;cases x with
 |nil=>cases e|cons n x =>
  injection e with e1 e2;subst e1;have o:n<w.es.length:=X n (u▸QZ _ QE);have p:g.past.length<60:=by have:=congrArg wA u;rw[QJ,QM]at this;omega
  delta A7 lS;rw[lj,Cp];exact Vr B i Z l p o λb a k v=>W _ ⟨xE w g n,x,b,a,k,v,e2,⟨aQ i l o,by rw[<- u];show(g.past++[n])++x=_;rw[Qx];rfl⟩,rfl⟩
end L2.L3.K31
namespace L2.L3
open PySem PySem.Spec PyProof.Rows L2.L3.Q
section
variable{K:QC}{x:Str}{st:Stmt}
theorem nV{h:Heap}:∀(y:List Addr),(Ip y h).In h
 |[],a,o,e=>nomatch e
 |b::y,a,o,e=>by
  unfold Ip at e;rw[WJ]at e;cases c:h.get? b with
  |none=>rw[c]at e;exact nV y a o e|some z =>
   rw[c]at e;have e:QCH a ((b,z)::Ip y h)=some o:=e;rw[wl]at e;cases d:a==b with|true=>rw[d]at e;cases e;rw[beq_iff_eq.mp d];exact c|false=>rw[d]at e;exact nV y a o e
theorem Fi{q:Str}{f:Addr}{y:FuncData}{w:Value}{v:Option Addr}{z:Array (Option Value)}(hl:K.lookup f=some ⟨w,v,.func y,z⟩)(h:pk y (Wj K y.code q&&wL K (.ref f))=pk (ql x q (uD st) (oC st) (LA st) .none .none .none .none none .none .none) true):∃y,Fun K x q st f y:=by obtain⟨Y,X,s,r,p,o,n,m,l,j,i,g,e,b,a⟩:=y;unfold pk at h;injection h with h1 h2;injection h2 with h2 h3;injection h1 with b1 h1;injection h1 with b2 h1;injection h1 with b3 h1;injection h1 with b4 b5;injection h2 with c1 h2;injection h2 with c2 h2;injection h2 with c3 c4;obtain⟨u,k⟩:=Wv.mp h3;simp only at b1 b2 b3 b4 b5 c1 c2 c3 c4 u;subst b1 b2 b3 b4 b5 c1 c2 c3 c4;exact⟨_,Gi hl u k⟩
theorem D1(h:oV K x=US x st)(y:(US x st).isSome=true):TX K x st:=by
 have z:US x st=some (pk (ql x x (uD st) (oC st) (LA st) .none .none .none .none none .none .none) true):=by cases st<;>first|rfl|cases y
 rw[z]at h;unfold oV at h;split at h;rename_i f hf;split at h;rename_i hl;obtain⟨u,F⟩:=Fi hl (Qn h);exact⟨f,u,hf,F⟩;cases h;cases h
theorem x8(h:UU K x=true):qk K mainGlobals x=some none:=by unfold UU at h;split at h;assumption;cases h
theorem B1{i:Int}(h:Sf K x=some i):vN K x (.int i):=by
 unfold Sf at h;split at h;rename_i u hu;cases u with|int j t=>cases h;exact⟨_,_,hu,rfl,λ_=>.int i⟩|_=>cases h
 cases h
theorem dR:∀{us:LW}{xs:LS},us.map Hl=xs.map some->us.map kN=xs.map λy=>some (.str y)
 |[],[],_=>rfl|[],_::_,h=>by cases h|_::_,[],h=>by cases h|u::us,x::xs,h=>by
  injection h with h1 h2;rw[QU,QU,dR h2];cases u with|str z t=>cases h1;rfl|_=>cases h1
theorem uY{xs:LS}(h:Af K x=some (xs.map some))(y:xs.length<=sizeLine):vN K x (.tuple (xs.map PyData.str)):=by unfold Af at h;split at h;rename_i f hf;split at h;rename_i t od its n osl hl;split at h;rename_i et;subst et;injection h with h;exact Y0 (its:=its.toList) hf (by simpa using hl) (dR h) y;cases h;cases h;cases h
theorem go_of(e:seen K=due):xG K tA=true:=(QAE (QAE (QAE (QAE e).2).2).2).2
end
section
variable{K:QC}{h:Heap}{mg:Str->Option Value}{T:Addr}
theorem KS(e:xG K T=true)(X:K.In h)(G:h.Ns mainGlobals mg):(∃f k w v z c,mg "going_order"=some (.ref f)/\K.lookup f=some ⟨k,w,.func v,z⟩/\v.code=.ref c/\QAp K c T=true)/\(∀y:Heap,K.In y->y.BuiltinsAt mg T)/\K.lookup T=none/\mainGlobals≠T:=by
 obtain⟨u,e⟩:=yA e;obtain⟨x,e⟩:=yA e;obtain⟨g,a⟩:=yA e;refine⟨?_,?_,QAa.mp g,bne_iff_ne.mp a⟩;split at u
 ·rename_i f hf
  split at u;rename_i k w v z hl;split at u;rename_i c hc;exact⟨f,k,w,v,z,c,WV X G hf,hl,hc,u⟩;cases u;cases u
 cases u;intro y Y;split at x;rename_i b hb;split at x;rename_i t d z hl;obtain⟨n,x⟩:=yA x;obtain⟨m,x⟩:=yA x;obtain⟨l,x⟩:=yA x;obtain⟨j,i⟩:=yA x;exact⟨b,_,WV X G hb,bne_iff_ne.mp l,bne_iff_ne.mp j,bne_iff_ne.mp i,Y _ _ hl,by rw[beq_iff_eq.mp n],by rw[beq_iff_eq.mp m],rfl⟩;cases x;cases x
theorem Ci(e:xG K T=true)(X:K.In h)(G:h.Ns mainGlobals mg):∃v c,(∀x:Heap,K.In x->∀P q,SO mg x P q->P=T/\q=v)/\QAp K c T=true/\K.lookup T=none:=by obtain⟨⟨f,I,F,C,w,c,p,n,m,y⟩,_,l,_⟩:=KS e X G;refine⟨C.qualname++".<locals>.<lambda>",c,λx Y P q t=>?_,y,l⟩;obtain⟨M,o,B,N,A,W,Z,s,⟨L,E,_,_,_,_,_,_,_,j,_,i,g,_⟩,r⟩:=t;cases p.symm.trans A;have z:=W.symm.trans (Y _ _ n);cases z;cases Z;cases m.symm.trans s;obtain⟨J,u,_,_,_,_,_,_,_,b,_,a,k,_⟩:=QAF Y y;cases j.symm.trans b;cases i.symm.trans a;cases g.symm.trans k;exact⟨rfl,r⟩
end
theorem walk_seen{l:PySem.W.OpenLaw}{k:Nat}{q:Program}{loose:LS}{XP:(Str->Option Value)->Heap->Prop}{YP:World->Heap->Prop}{d:DefRec}{x:Str}{Fs:QC->Prop}{T:Addr}
  (hn:l.most=some 63) (C:d.params.defaults=[]) (S:Room k callerA) (hY:∀(w:World) (h:Heap),YP w h->∃K:QC,K.In h/\Fs K/\h.get? T=some (QBP #[])) (B:∀K,Fs K->xG K T=true)
  (F:∀(w:World) (mg:Str->Option Value) (p:Addr) (h:Heap) (K:QC),K.In h->Fs K->xG K T=true->h.Ns mainGlobals mg->mg d.name=some (.ref p) ->
   ∃E:FuncData,(∀(s:Shared) (u:Value),BindsTo s E ⟨[u],[]⟩ [(x,u)]) /\
    ∀y:Heap,K.In y->y.Ns mainGlobals mg->FnOk l.prog w K mg y RZ k p E [x] (lift K ZP)) :
  PySem.W.WalkO q loose XP YP l.row.toRowW d [] (λf vs=>PySem.call f vs):=by
 intro w L J mg mb G Y p o pm cd doc dV kV ho hd hcd M A hg args I as j n R Z hlo;obtain rfl:dV=.none:=PySem.W.Dflts.none M C;obtain rfl:kV=.none:=PySem.W.Dflts.noKw M;obtain⟨a,vs,P,rfl,rfl,m,i,v⟩:=Att.script_of hn j Z;obtain⟨K,X,fs,Q⟩:=hY w _ Y;have N:=B K fs;obtain⟨tq,c,g1,g2,g3⟩:=Ci N X G.T.g;obtain⟨E,hb,hF⟩:=F w mg p _ K X fs N G.T.g A;refine PySem.W.enter_call (QB2 (u5 g1 ((QAF X g2).tab Q) g3 X G.T.g G.T.b G.T.builtins G.T.nolimit hg m i (QY v (by decide)) S hF hb (λH hO hS=>Ih _ H a P v (Vb n) hS) λH e O=>λz=>z) λr O hq=>?_);obtain⟨rfl,h2,h3,h4⟩:=hq;exact⟨.inl ⟨.bool true,.bool true,[],rfl,λ_=>rfl,.bool true,Att.post_true l _,λ_=>⟨List.Pairwise.nil,λ_ hm=>(nomatch hm)⟩⟩,h2,h3,h4⟩
end L2.L3
namespace L2.L3.K31
open PySem PySem.Spec PyProof.Rows L2 L2.L3 L2.L3.Q
def gt:Nat->(LW->Prop)->Prop
 |0,p=>p []|n+1,p=>∀u,gt n λh=>p (u::h)
theorem zu:∀{n:Nat}{p:LW->Prop},gt n p->∀us:LW,us.length=n->p us
 |0,_,h,us,e=>by rw[List.length_eq_zero_iff.mp e];exact h|_+1,_,_,[],e=>nomatch e
 |_+1,_,h,u::us,e=>zu (h u) us (Nat.succ.inj e)
def yw(x q:Str)(st:Stmt)(u:LS):Prop:=∀(kV h v:Value) (k:Option Addr) (y w:Value),gt u.length λz=>bindArgs (ql x q (uD st) (oC st) (LA st) .none kV h v k y w) ⟨z,[]⟩=pure (u.zip z)
def Tj:List (Str×D):=tT.map (λp=>(p.1,.tuple (p.2.map PyData.str)))++sT.map λp=>(p.1,.int p.2)
structure Cx(K:QC)(h:Heap)(mg:Str->Option Value):Prop where
 X:K.In h
 G:h.Ns mainGlobals mg
 V:∀p∈Tj,vN K p.1 p.2
 N:∀y∈nT,qk K mainGlobals y=some none
 D:∀p∈fT,TX K p.1 (top p.2)
theorem JE{α:Type}{d:α}:∀{l:List α}{i:Nat},QCS i l.length=true->l.getD i d∈l
 |[],_,h=>nomatch h
 |_::_,0,_=>.head _|_::_,_+1,h=>.tail _ (JE (Nat.blt_eq.mpr (wu (Nat.blt_eq.mp h))))
theorem Ic{α:Type}{l:List (Str×α)}{p:Str×α}(nd:(l.map qP).Nodup)(h:p∈l):l.lookup p.1=some p.2:=by
 induction l with|nil=>cases h|cons a l y=>obtain⟨x,s⟩:=a;rw[QU,Qh]at nd;rw[wl];rcases QL.mp h with rfl|h;rw[beq_self_eq_true];have v:p.1∈l.map qP:=QAA h;have u:(p.1==x)=false:=beq_eq_false_iff_ne.mpr λz=>nd.1 (by rw[<- z];exact v);rw[u];exact y nd.2 h
def Lc:LS:=fT.map qP
def fx(i:Nat):Str×Nat:=fT.getD i ("",0)
def tbl(r:List PSp):PEv:=kc (Lc.zip r) Tj
theorem bR{r:List PSp}(i:Nat)(h:QCS i Tj.length=true:=by rfl):(tbl r).va (Tj.getD i ("",.none)).1=some (Tj.getD i ("",.none)).2:=Ic (sE (by kernel_rfl)) (JE h)
theorem Pl{r:List PSp}(nd:FJ ((Lc.zip r).map qP)=true)(i:Nat)(h:QCS i (Lc.zip r).length=true):(tbl r).sp ((Lc.zip r).getD i ("",jk)).1=((Lc.zip r).getD i ("",jk)).2:=by show(QCH _ _).getD jk=_;rw[Ic (sE nd) (JE h)];rfl
def nB(n:Need)(fs:LS):Bool:=n.fn.all (λx=>fs.contains x)&&((n.va.all λx=>(Tj.map qP).contains x)&&n.no.all (λx=>nT.contains x))
section
variable{P:Program}{w:World}{K:QC}{h base:Heap}{mg:Str->Option Value}{r v:List PSp}{R:PSp}{u:LS}{k:Nat}{b:PT}{n:Need}{N z:LS}
theorem hv(C:Cx K h mg)(A:∀g∈u,KG P w K mg base (tbl r) k g)(i:Nat)(zC:aB n b N z (top (fx i).2)=true)
  (body:∀ts Q E,R.run ts Q E->ts.length=z.length/\bB (tbl r) (λ_=>False) b (YD R z.length Q) (fB N R.md ts)) (o:(tbl v).sp (fx i).1=R) (hc:GJ (YB 0 R.md z.length) b=true:=by kernel_rfl)
  (hb:yw (fx i).1 (fx i).1 (top (fx i).2) z:=by(repeat intro _);rfl)
  (x:nB n u=true:=by kernel_rfl) (l:QCS i fT.length=true:=by rfl):KG P w K mg base (tbl v) (k+1) (fx i).1:=by
 obtain⟨s,x⟩:=yA x;obtain⟨q,p⟩:=yA x;exact R5 C.X C.G (C.D _ (JE l)) zC hc (λa b c d e f=>zu (hb a b c d e f)) (λg m=>A g (uP s g m)) (yW C.X C.G C.V q) (λy j=>C.N y (uP p y j)) body o
theorem hc(A:∀g∈u,KG P w K mg base (tbl r) k g){x:Str}(Z:KG P w K mg base (tbl r) (k+1) x):∀g∈x::u,KG P w K mg base (tbl r) (k+1) g:=by intro g y;rcases QL.mp y with rfl|y;exact Z;exact(A g y).mono (wC _)
theorem hl(C:Cx K h mg)(A:∀g∈u,KG P w K mg base (tbl r) k g){x q:Str}{st:Stmt}{f:Addr}{e:FuncData}(F:Fun K x q st f e)(zC:aB n b N z st=true)
  (body:∀ts Q E,R.run ts Q E->ts.length=z.length/\bB (tbl r) (λ_=>False) b (YD R z.length Q) (fB N R.md ts)) (hc:GJ (YB 0 R.md z.length) b=true:=by kernel_rfl) (a:nB n u=true:=by kernel_rfl):FnOk P w K mg base RZ (k+1) f e z (lift K R):=by
 obtain⟨o,a⟩:=yA a;obtain⟨m,l⟩:=yA a;exact E5 F zC hc (λg j=>A g (uP o g j)) (yW C.X C.G C.V m) (λy i=>QAN C.X C.G (C.N y (uP l y i))) body
theorem cx_of(X:K.In h)(G:h.Ns mainGlobals mg)(e:seen K=due)(o:(fT.all λp=>(US p.1 (top p.2)).isSome)=true)(m:(tT.all λp=>decide (p.2.length<=1000))=true):Cx K h mg:=by injection e with j e;injection e with i e;injection e with g e;injection e with f _;have j:=Wh.mp j;have i:=Wh.mp i;have g:=Wh.mp g;have f:=Wh.mp f;refine⟨X,G,λp x=>?_,λy l=>x8 (f y l),λp x=>D1 (j p x) (Qv.mp o p x)⟩;rcases Qe.mp x with x|x;obtain⟨q,a,rfl⟩:=QT.mp x;have:=of_decide_eq_true (Qv.mp m q a);exact uY (i q a) (by omega);obtain⟨q,a,rfl⟩:=QT.mp x;exact B1 (g q a)
end
section
variable{P:Program}{w:World}{h:Heap}{mg:Str->Option Value}
def Aj:List PSp:=[lE,vC,FF,CL,aH,DF,Vm,JJ,kI,GF,zO,UG,oD,NE,eJ,sJ,MD,OE,gE,pD,aJ,gD,mE,xI,HF,ME,LF,DL,BG,BC,vI,tJ,FL,iJ,ZP]
theorem eA(i:Nat)(h:QCS i (Lc.zip Aj).length=true:=by rfl):(tbl Aj).sp ((Lc.zip Aj).getD i ("",jk)).1=((Lc.zip Aj).getD i ("",jk)).2:=Pl (by kernel_rfl) i h
theorem Sv{K:QC}{x:Heap}{k:Nat}(C:Cx K h mg)(q:xG K tA=true)(v:K.In x)(m:x.Ns mainGlobals mg):KG P w K mg x (tbl Aj) (k+1) "going_order":=by obtain⟨f,M,p,⟨⟨J,I,kV,B,F,R,b,Q,i,rfl,lk,a⟩,n⟩⟩:=C.D (fx 6) (JE rfl);obtain⟨⟨O,l,j,A,e,c,g,W,Z,Y⟩,s,L,r⟩:=KS q C.X C.G;cases(WV C.X C.G p).symm.trans g;cases lk.symm.trans W;cases(show b=.ref c from Z);have z:=λy (o:nT.contains y=true)=>QAN C.X C.G (C.N y (Qp.mp o));exact Ua v m g lk a n (QAF v Y) (s x v) r (z _ (by kernel_rfl)) (z _ (by kernel_rfl)) (z _ (by kernel_rfl)) (λE hl=>by obtain⟨u,rfl⟩:=QAz.mp hl;rfl) (eA 6)
theorem all{K:QC}{v:Addr}(C:Cx K h mg)(b:xG K tA=true)(y:mg "law"=some (.ref v)) :
  ∃z:FuncData,(∀(s:Shared) (u:Value),BindsTo s z ⟨[u],[]⟩ [("_law_script",u)])/\∀x:Heap,K.In x->x.Ns mainGlobals mg->FnOk P w K mg x RZ 35 v z ["_law_script"] (lift K ZP):=by
 refine ji C.X C.G (C.D (fx 34) (JE rfl)) rfl y (eA 34) (λ_ _ _ _ _ _ e hl=>by obtain⟨u,rfl⟩:=QAz.mp hl;rfl) λx a k f z F _=>?_;have A:∀g∈([]:LS),KG P w K mg x (tbl Aj) 0 g:=nofun;have A:=hc A (hv C A 0 xT XY (eA 0));have A:=hc A (hv C A 1 tZ i9 (eA 1));have A:=hc A (hv C A 2 XV (u4 (eA 1)) (eA 2));have A:=hc A (hv C A 3 vT (eh (eA 1)) (eA 3));have A:=hc A (hv C A 4 UV (Uh (eA 1)) (eA 4));have A:=hc A (hv C A 5 VV (v4 (eA 1) (eA 4) (eA 0) (eA 2) (eA 3)) (eA 5));have A:=hc A (Sv C b a k);have A:=hc A (hv C A 7 AM Dh (eA 7));have A:=hc A (hv C A 8 YV m9 (eA 8));have A:=hc A (hv C A 9 bT m4 (eA 9));have A:=hc A (hv C A 10 uT (Hm (eA 8) (eA 9) (eA 7)) (eA 10));have A:=hc A (hv C A 11 DN l9 (eA 11));have A:=hc A (hv C A 12 SM (y4 (eA 11) (eA 7)) (eA 12));have A:=hc A (hv C A 13 FN n9 (eA 13));have A:=hc A (hv C A 14 cT Bh (eA 14));have A:=hc A (hv C A 15 yT ph (eA 15));have A:=hc A (hv C A 16 BV J9 (eA 16));have A:=hc A (hv C A 17 gT (Y9 (eA 16)) (eA 17));have A:=hc A (hv C A 18 zT (VY (eA 17) (eA 16) (bR 0) (bR 1)) (eA 18));have A:=hc A (hv C A 19 SI (x4 (bR 0)) (eA 19));have A:=hc A (hv C A 20 CQ (Vh (bR 0)) (eA 20));have A:=hc A (hv C A 21 TM UY (eA 21));have A:=hc A (hv C A 22 NN (t4 (eA 21)) (eA 22));have A:=hc A (hv C A 23 MN e9 (eA 23));have A:=hc A (hv C A 24 AK (i4 (eA 18) (eA 19) (eA 20) (eA 22) (eA 23) (bR 0)) (eA 24));have A:=hc A (hv C A 25 RK (g9 (eA 24)) (eA 25));have A:=hc A (hv C A 26 SK (J4 (eA 25)) (eA 26));have A:=hc A (hv C A 27 kT Yh (eA 27));have A:=hc A (hv C A 28 GN (p9 (eA 26) (eA 27)) (eA 28));have A:=hc A (hv C A 29 HN (r9 (eA 11) (eA 15) (eA 14) (eA 28)) (eA 29));have A:=hc A (hv C A 30 ub (t9 (eA 6) (eA 10) (eA 12) (eA 13) (eA 29)) (eA 30));have A:=hc A (hv C A 31 DQ Jh (eA 31));have A:=hc A (hv C A 32 ZV (Zh (eA 31)) (eA 32));have A:=hc A (hv C A 33 Z6 (Ch (eA 31) (eA 32)) (eA 33));exact hl C A F Ei (Xh (eA 33) (eA 5) (eA 30))
def hk:PySem.W.Hook:=⟨NX×Option Obj,ob,λ_=>(due,some (QBP #[])),λ_ h=>∃K:QC,K.In h/\seen K=due/\h.get? tA=some (QBP #[]),λ_ _ e=>⟨_,nV _,(QAE e).1,(QAE e).2⟩,λ_ _ _ ⟨K,X,e,t⟩ k=>⟨K,X.keeps k,e,k _ _ t⟩⟩
end
end L2.L3.K31
open PySem PySem.W PyProof.Rows
set_option maxRecDepth 100000 in
set_option maxHeartbeats 0 in
theorem PySem.Challenge.cw_quoteweave_k31_taken_by_rules_holds : PySem.Challenge.rw_quoteweave_k31_taken_by_rules.Holds := by
 refine holds_law L2.L3.Q.ws λy=>?_;refine holds_open (q:=L2.L3.Q.qv) (loose:=[]) (Xt:=L2.L3.Q.xt) (XP:=XL L2.L3.Q.qv []) (Yf:=Hook.obs L2.L3.K31.hk) (Ya:=Hook.val L2.L3.K31.hk) (YP:=Hook.says L2.L3.K31.hk) (N:=2328) L2.L3.Q.lf (Hook.of L2.L3.K31.hk) (Hook.keeps L2.L3.K31.hk) (λs e=>xl_of s (Wv.mp e).1) XL.keeps (by rfl) (by rfl) (by rfl) (λs e=>recFacts_of (Wv.mp e).2) (by rfl) (by first|assumption|decide +kernel) (by decide +kernel) ⟨rfl,rfl,rfl,rfl,rfl,by decide +kernel⟩ ?hw ?hc
 case hw=>w_witness2
 case hc=>exact L2.L3.walk_seen (l:=Q7) (k:=35) (x:="_law_script") (Fs:=λK=>L2.L3.Q.seen K=L2.L3.Q.due) rfl rfl ⟨rfl,by decide,by decide⟩ (λw h Y=>Y) (λK e=>L2.L3.go_of e) λw u v h K X e z G m=>L2.L3.K31.all (L2.L3.K31.cx_of X G e (by kernel_rfl) (by kernel_rfl)) z m
